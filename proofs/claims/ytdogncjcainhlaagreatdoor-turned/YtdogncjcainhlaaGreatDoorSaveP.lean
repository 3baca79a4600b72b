/- The walk of byway.Save. -/
import Derived.Test.YtdogncjcainhlaaGreatDoorRecV
import Derived.Test.YtdogncjcainhlaaGreatDoorPgW
import Derived.Test.YtdogncjcainhlaaGreatDoorLabB
namespace Go.Proofs.YtdogncjcainhlaaGreatDoor
open Go.RowKit Go.Deep
open Mem

theorem Cov.hubs {n : Nat} {len D : Nat → Nat → Int} {O : List Nat} (C : Pu.Cov n len D O) : ∀ (v i r : Nat) (f : Int), v < n → (Pu.hubK D O v n)[i]? = some (r, f) → r < n ∧ Pu.nxt 0 ((Pu.hubK D O v n).take i) ≤ r ∧ 0 ≤ f ∧ f ≤ 40000 := by
  intro v i k f hv hi
  obtain ⟨hk, h, h1, h2, h3⟩ := Pu.hubK_mem2 n (List.mem_of_getElem? hi)
  have hr := (Pu.hubK_rise D O v n).2 i k f hi
  have hd := C.rng hv (C.perm.lt h (List.mem_of_getElem? h1))
  have hne := (Pu.isHub_iff.1 h3).1
  exact ⟨hk, hr, by omega, by omega⟩

set_option maxRecDepth 100000 in
set_option maxHeartbeats 1000000 in
/-- byway.Save, of any text by any order. -/
theorem save_any (x s : ByteArray) (w : World) (hx : x.size ≤ maxLen) (hm : Ml w) (hs : s.size ≤ 2000000) :
    Calls Tryz.prog 9 #[.string x, .string s] w (RSavePost w (Pu.parse x.data.toList) (Pu.orderOf s.data.toList)) := by
  have k := ral_any x s w hx hm hs
  unfold RalPost at k
  unfold RSavePost
  cases hp : Pu.parse x.data.toList with
  | err c p =>
    rw [hp] at k
    have he := Pu.parse_err hp
    have hne : (c != 0) = true := by simp; omega
    dsimp only at k ⊢
    clear hp he
    go_enter Tryz.func9, Tryz.ntmps9
    go_wp2_with fail
    refine k.mono ?_
    rintro e w1 ⟨hT, rfl⟩
    have HT : Hid (Turns (fun _ => False) w w1) := hT
    clear k hT
    go_wp2
    exact bodyPost_ret (v := .tuple #[.string ⟨#[]⟩, .int .i64 c, .int .i64 p]) (by simp [results, Tryz.results9, go_sem]) rfl ⟨HT.out, rfl⟩
  | ok n q len =>
    rw [hp] at k
    obtain ⟨hn1, hn2, _, hN⟩ := Pu.parse_ok hp
    dsimp only at k ⊢
    cases ho : Pu.orderOf s.data.toList n len with
    | none =>
      rw [ho] at k
      dsimp only at k ⊢
      clear hp ho
      go_enter Tryz.func9, Tryz.ntmps9
      go_wp2_with fail
      refine k.mono ?_
      rintro e w1 ⟨hT, rfl⟩
      have HT : Hid (Turns (fun _ => False) w w1) := hT
      clear k hT
      go_wp2
      exact bodyPost_ret (v := .tuple #[.string ⟨#[]⟩, .int .i64 4, .int .i64 0]) (by simp [results, Tryz.results9, go_sem]) rfl ⟨HT.out, rfl⟩
    | some O =>
      rw [ho] at k
      dsimp only at k ⊢
      have hP : Pu.Perm n O := Pu.orderOf_perm ho
      clear hp ho
      go_enter Tryz.func9, Tryz.ntmps9
      go_wp2_with fail
      refine k.mono ?_
      rintro e w1 ⟨hT, D, ob, ocap, v, hD, rfl, hO, hown⟩
      obtain ⟨a, c, hv, hRd⟩ := rdAt_own hown
      subst hv
      have C : Pu.Cov n len D O := ⟨hN, hD, hP⟩
      have hL := Pu.heldB_len (L := fun v => Pu.hubK D O v n) hP.len hn2 (fun v _ => Pu.hubK_len D O v n)
      have cw := recWrite_any w1 ob n ocap c a D O hn1 hn2 hO hP hRd (Cov.hubs C)
      obtain ⟨H, hH⟩ : ∃ H : ByteArray, H = ⟨(Pu.heldB O (fun v => Pu.hubK D O v n) n).toArray⟩ := ⟨_, rfl⟩
      rw [← hH] at cw
      have cp := fun w => pgwrite_any H w (by rw [hH]; show (Pu.heldB O (fun v => Pu.hubK D O v n) n).length ≤ _; omega)
      have HC : Hid (Pu.Cov n len D O ∧ Pu.paged H.data.toList = Pu.paged (Pu.heldB O (fun v => Pu.hubK D O v n) n)) := ⟨C, by rw [hH]⟩
      obtain ⟨PG, hPG⟩ : ∃ PG, PG = Pu.paged H.data.toList := ⟨_, rfl⟩
      rw [← hPG] at cp
      have HPG : Hid (PG = Pu.paged H.data.toList) := hPG
      have HT : Hid (Turns (fun _ => False) w w1) := hT
      clear k hT hown hRd hO hD C hL hH hPG
      go_wp2_with fail
      refine cw.mono ?_
      rintro e w2 ⟨rfl, hT2⟩
      have HT2 : Hid (Turns (fun _ => False) w w2) := HT.out.trans hT2
      clear cw hT2 HT
      go_wp2_with fail
      refine (cp _).mono ?_
      rintro e w3 ⟨rfl, hT3⟩
      have HT3 : Hid (Turns (fun _ => False) w w3) := HT2.out.trans hT3
      clear cp hT3 HT2
      go_wp2
      exact bodyPost_ret (v := .tuple #[.string ⟨PG.toArray⟩, .int .i64 0, .int .i64 0]) (by simp [results, Tryz.results9, go_sem]) rfl ⟨HT3.out, D, HC.out.1, by rw [HPG.out, HC.out.2]⟩
#print axioms save_any
end Go.Proofs.YtdogncjcainhlaaGreatDoor
