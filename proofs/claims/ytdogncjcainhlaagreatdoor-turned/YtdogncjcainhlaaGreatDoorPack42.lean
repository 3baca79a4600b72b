/- Pack42: texts of one proof, one behind the other. -/
import Derived.Test.YtdogncjcainhlaaGreatDoorRank
import Derived.Test.YtdogncjcainhlaaGreatDoorParse
import Derived.Test.YtdogncjcainhlaaGreatDoorPlain
import Derived.Test.YtdogncjcainhlaaGreatDoorByR
import Derived.Test.YtdogncjcainhlaaGreatDoorRLabd
import Derived.Test.YtdogncjcainhlaaGreatDoorRecV
import Derived.Test.YtdogncjcainhlaaGreatDoorPgW
/- The walks of byway.rankAndLabel and byway.Labels, where the order is not empty. -/
namespace Go.Proofs.YtdogncjcainhlaaGreatDoor
open Go.RowKit Go.Deep
open Mem

/-- What rankAndLabel hands back, o being the order that was asked for. -/
def RalPost (w : World) (r : Pu.Res) (o : Nat → (Nat → Nat → Int) → Option (List Nat)) (e : Ending) (w' : World) : Prop := Turns (fun _ => False) w w' ∧ match r with
  | .err c p => e = .returned (.tuple #[.slice none 0 0, .slice none 0 0, .int .i64 c, .int .i64 p])
  | .ok n _ len => match o n len with
    | none => e = .returned (.tuple #[.slice none 0 0, .slice none 0 0, .int .i64 4, .int .i64 0])
    | some O => ∃ (D : Nat → Nat → Int) (ob ocap : Nat) (v : Value), (∀ i, i < n → Pu.Dist n len i (D i)) ∧ e = .returned (.tuple #[.slice (some ⟨ob, 0, none⟩) n ocap, v, .int .i64 0, .int .i64 0]) ∧ Ord w' ob n O ∧ w'.ownsRow w.heap.size 120 3 v (Pu.labP D O n).length (Pu.rdVals (Pu.labP D O n))
/-- What Labels hands back, o being the order that was asked for. -/
def LabPost (w : World) (r : Pu.Res) (o : Nat → (Nat → Nat → Int) → Option (List Nat)) (e : Ending) (w' : World) : Prop := Turns (fun _ => False) w w' ∧ match r with
  | .err c p => e = .returned (.tuple #[.slice none 0 0, .int .i64 c, .int .i64 p])
  | .ok n _ len => match o n len with
    | none => e = .returned (.tuple #[.slice none 0 0, .int .i64 4, .int .i64 0])
    | some O => ∃ (D : Nat → Nat → Int) (v : Value), (∀ i, i < n → Pu.Dist n len i (D i)) ∧ e = .returned (.tuple #[v, .int .i64 0, .int .i64 0]) ∧ w'.ownsRow w.heap.size 120 3 v (Pu.labP D O n).length (Pu.rdVals (Pu.labP D O n))

set_option maxHeartbeats 400000 in
theorem ral_err (x s : ByteArray) (w : World) (o : Nat → (Nat → Nat → Int) → Option (List Nat)) (hx : x.size ≤ maxLen) (hm : Ml w) (c p : Int) (hp : Pu.parse x.data.toList = .err c p) :
    Calls Tryz.prog 23 #[.string x, .string s] w (RalPost w (.err c p) o) := by
  have k := parseMap_any x w hx hm
  rw [hp] at k
  have he := Pu.parse_err hp
  have hne : (c != 0) = true := by simp; omega
  clear hp he
  go_enter Tryz.func23, Tryz.ntmps23
  go_wp2_with (go_at_call 41; refine k.mono ?_; rintro e w1 ⟨hT, rfl⟩)
  exact bodyPost_ret (v := .tuple #[.slice none 0 0, .slice none 0 0, .int .i64 c, .int .i64 p]) (by simp [results, Tryz.results23, go_sem]) rfl ⟨‹_›, rfl⟩

/-- The order and the labels of a map by whatever order: r is what ranks.Parse makes of it. -/
theorem ral_ok (x s : ByteArray) (w : World) (o : Nat → (Nat → Nat → Int) → Option (List Nat)) (hx : x.size ≤ maxLen) (hm : Ml w) (n q : Nat) (len : Nat → Nat → Int) (hp : Pu.parse x.data.toList = .ok n q len)
    (hr : ∀ w1 b, Turns (fun _ => False) w w1 → MapAt w1 b n q len → Calls Tryz.prog 54 #[.pointer (some ⟨b, 0, none⟩), .string s] w1 (RankPost w1 n (o n len))) :
    Calls Tryz.prog 23 #[.string x, .string s] w (RalPost w (.ok n q len) o) := by
  have k := parseMap_any x w hx hm
  rw [hp] at k
  obtain ⟨hn1, hn2, _, hN⟩ := Pu.parse_ok hp
  have hDD : ∀ i, ∃ far, Pu.Dist n len i far := fun i => Pu.Dist.any hN.lens hn2
  obtain ⟨D, hD⟩ : ∃ D : Nat → Nat → Int, ∀ i, Pu.Dist n len i (D i) := ⟨fun i => Classical.choose (hDD i), fun i => Classical.choose_spec (hDD i)⟩
  clear hp
  go_enter Tryz.func23, Tryz.ntmps23
  go_wp2_with fail
  refine k.mono ?_
  rintro e w1 ⟨hT1, b, rfl, hb, hM⟩
  have c2 := hr w1 b hT1 hM
  have HO : Hid (o n len = o n len) := rfl
  cases ho : o n len with
  | none =>
    rw [ho] at c2
    clear k
    go_wp2_with fail
    refine c2.mono ?_
    rintro e w2 ⟨hT2, rfl⟩
    have HX : Hid (RalPost w (.ok n q len) o (.returned (.tuple #[.slice none 0 0, .slice none 0 0, .int .i64 4, .int .i64 0])) w2) := by
      refine ⟨hT1.trans hT2, ?_⟩
      dsimp only
      rw [ho]
    clear c2 hT1 hT2 ho hr hD hDD HO
    go_wp2
    exact bodyPost_ret (v := .tuple #[.slice none 0 0, .slice none 0 0, .int .i64 4, .int .i64 0]) (by simp [results, Tryz.results23, go_sem]) rfl HX.out
  | some O =>
    rw [ho] at c2
    clear k
    go_wp2_with fail
    refine c2.mono ?_
    rintro e w2 ⟨hT2, ob, ocap, rfl, hOr, hoc⟩
    have c3 := hubs_any w2 b n ob ocap q len D O hn1 hn2 (hM.turns hT2 (fun x => x)) hN.lens (fun i _ => hD i) hOr hoc
    have hsz := (hT1.trans hT2).size
    have HX : Hid (∀ v w3, Turns (fun _ => False) w2 w3 → w3.ownsRow w2.heap.size 120 3 v (Pu.labP D O n).length (Pu.rdVals (Pu.labP D O n)) → RalPost w (.ok n q len) o (.returned (.tuple #[.slice (some ⟨ob, 0, none⟩) n ocap, v, .int .i64 0, .int .i64 0])) w3) := by
      intro v w3 hT3 hown
      refine ⟨(hT1.trans hT2).trans hT3, ?_⟩
      dsimp only
      rw [ho]
      exact ⟨D, ob, ocap, v, fun i _ => hD i, rfl, hOr.turns hT3, owns_mono hown hsz⟩
    clear c2 hT1 hT2 ho hr hD hDD HO hOr hM
    go_wp2_with fail
    refine c3.mono ?_
    rintro e w3 ⟨hT3, v, rfl, hown⟩
    have HY : Hid (RalPost w (.ok n q len) o (.returned (.tuple #[.slice (some ⟨ob, 0, none⟩) n ocap, v, .int .i64 0, .int .i64 0])) w3) := HX.out v w3 hT3 hown
    clear c3 hT3 hown HX
    go_wp2
    exact bodyPost_ret (v := .tuple #[.slice (some ⟨ob, 0, none⟩) n ocap, v, .int .i64 0, .int .i64 0]) (by simp [results, Tryz.results23, go_sem]) rfl HY.out
end Go.Proofs.YtdogncjcainhlaaGreatDoor
/- The walk of byway.rankAndLabel, whatever the order. -/
namespace Go.Proofs.YtdogncjcainhlaaGreatDoor
open Go.RowKit Go.Deep
open Mem

set_option maxRecDepth 100000 in
set_option maxHeartbeats 1000000 in
/-- ranks.Parse of the empty text: the order by roads. -/
theorem rank_empty (s : ByteArray) (w : World) (b n : Nat) (R : Int) (len : Nat → Nat → Int) (hs : s.size = 0) (hn1 : 1 ≤ n) (hn : n ≤ 40) (hM : MapAt w b n R len) (N : Pu.Net n len) :
    Calls Tryz.prog 54 #[.pointer (some ⟨b, 0, none⟩), .string s] w (RankPost w n (some (Pu.ranked (fun v => Pu.rowCnt len v n) n))) := by
  have he := empty_of hs
  have c := byRoads_any w b n R len hn1 hn hM N
  generalize Pu.ranked (fun v => Pu.rowCnt len v n) n = O at *
  clear hM N
  go_enter Tryz.func54, Tryz.ntmps54
  go_wp2_with fail
  refine c.mono ?_
  rintro e w1 ⟨ob, rfl, hT, hO⟩
  have HX : Hid (RankPost w n (some O) (.returned (.tuple #[.slice (some ⟨ob, 0, none⟩) n n, .bool true])) w1) := ⟨hT, ob, n, rfl, hO, Nat.le_refl _⟩
  clear c hT hO
  go_wp2
  exact bodyPost_ret (v := .tuple #[.slice (some ⟨ob, 0, none⟩) n n, .bool true]) (by simp [results, Tryz.results54, go_sem]) rfl HX.out

/-- byway.rankAndLabel, of any text by any order. -/
theorem ral_any (x s : ByteArray) (w : World) (hx : x.size ≤ maxLen) (hm : Ml w) (hs : s.size ≤ 2000000) :
    Calls Tryz.prog 23 #[.string x, .string s] w (RalPost w (Pu.parse x.data.toList) (Pu.orderOf s.data.toList)) := by
  have e : s.data.toList.length = s.size := by simp
  cases hp : Pu.parse x.data.toList with
  | err c p => exact ral_err x s w _ hx hm c p hp
  | ok n q len =>
    obtain ⟨hn1, hn2, _, hN⟩ := Pu.parse_ok hp
    refine ral_ok x s w _ hx hm n q len hp (fun w1 b hT hM => ?_)
    unfold Pu.orderOf
    by_cases h : s.size = 0
    · rw [if_pos (by rw [e]; exact h)]
      exact rank_empty s w1 b n q len h hn1 hn2 hM hN
    · rw [if_neg (by rw [e]; exact h)]
      exact rank_any s w1 b n q len (by omega) hs hn1 hn2 hM (hm.turns hT (fun x => x))
end Go.Proofs.YtdogncjcainhlaaGreatDoor
/- The walk of byway.Save. -/
namespace Go.Proofs.YtdogncjcainhlaaGreatDoor
open Go.RowKit Go.Deep
open Mem

theorem Cov.hubs {n : Nat} {len D : Nat → Nat → Int} {O : List Nat} (C : Pu.Cov n len D O) : ∀ (v i r : Nat) (f : Int), v < n → (Pu.hubK D O v n)[i]? = some (r, f) → r < n ∧ Pu.nxt 0 ((Pu.hubK D O v n).take i) ≤ r ∧ 0 ≤ f ∧ f ≤ 40000 := by
  intro v i k f hv hi
  obtain ⟨hk, h, h1, h2, h3⟩ := Pu.hubK_mem2 n (List.mem_of_getElem? hi)
  have hr := (Pu.hubK_rise D O v n).2 i k f hi
  have hd := C.rng hv (C.perm.lt h (List.mem_of_getElem? h1))
  have hne := (Pu.isHub_iff.1 h3).1
  exact ⟨hk, hr, by omega, by omega⟩

set_option maxRecDepth 100000 in
set_option maxHeartbeats 1000000 in
/-- byway.Save, of any text by any order. -/
theorem save_any (x s : ByteArray) (w : World) (hx : x.size ≤ maxLen) (hm : Ml w) (hs : s.size ≤ 2000000) :
    Calls Tryz.prog 9 #[.string x, .string s] w (RSavePost w (Pu.parse x.data.toList) (Pu.orderOf s.data.toList)) := by
  have k := ral_any x s w hx hm hs
  unfold RalPost at k
  unfold RSavePost
  cases hp : Pu.parse x.data.toList with
  | err c p =>
    rw [hp] at k
    have he := Pu.parse_err hp
    have hne : (c != 0) = true := by simp; omega
    dsimp only at k ⊢
    clear hp he
    go_enter Tryz.func9, Tryz.ntmps9
    go_wp2_with fail
    refine k.mono ?_
    rintro e w1 ⟨hT, rfl⟩
    have HT : Hid (Turns (fun _ => False) w w1) := hT
    clear k hT
    go_wp2
    exact bodyPost_ret (v := .tuple #[.string ⟨#[]⟩, .int .i64 c, .int .i64 p]) (by simp [results, Tryz.results9, go_sem]) rfl ⟨HT.out, rfl⟩
  | ok n q len =>
    rw [hp] at k
    obtain ⟨hn1, hn2, _, hN⟩ := Pu.parse_ok hp
    dsimp only at k ⊢
    cases ho : Pu.orderOf s.data.toList n len with
    | none =>
      rw [ho] at k
      dsimp only at k ⊢
      clear hp ho
      go_enter Tryz.func9, Tryz.ntmps9
      go_wp2_with fail
      refine k.mono ?_
      rintro e w1 ⟨hT, rfl⟩
      have HT : Hid (Turns (fun _ => False) w w1) := hT
      clear k hT
      go_wp2
      exact bodyPost_ret (v := .tuple #[.string ⟨#[]⟩, .int .i64 4, .int .i64 0]) (by simp [results, Tryz.results9, go_sem]) rfl ⟨HT.out, rfl⟩
    | some O =>
      rw [ho] at k
      dsimp only at k ⊢
      have hP : Pu.Perm n O := Pu.orderOf_perm ho
      clear hp ho
      go_enter Tryz.func9, Tryz.ntmps9
      go_wp2_with fail
      refine k.mono ?_
      rintro e w1 ⟨hT, D, ob, ocap, v, hD, rfl, hO, hown⟩
      obtain ⟨a, c, hv, hRd⟩ := rdAt_own hown
      subst hv
      have C : Pu.Cov n len D O := ⟨hN, hD, hP⟩
      have hL := Pu.heldB_len (L := fun v => Pu.hubK D O v n) hP.len hn2 (fun v _ => Pu.hubK_len D O v n)
      have cw := recWrite_any w1 ob n ocap c a D O hn1 hn2 hO hP hRd (Cov.hubs C)
      obtain ⟨H, hH⟩ : ∃ H : ByteArray, H = ⟨(Pu.heldB O (fun v => Pu.hubK D O v n) n).toArray⟩ := ⟨_, rfl⟩
      rw [← hH] at cw
      have cp := fun w => pgwrite_any H w (by rw [hH]; show (Pu.heldB O (fun v => Pu.hubK D O v n) n).length ≤ _; omega)
      have HC : Hid (Pu.Cov n len D O ∧ Pu.paged H.data.toList = Pu.paged (Pu.heldB O (fun v => Pu.hubK D O v n) n)) := ⟨C, by rw [hH]⟩
      obtain ⟨PG, hPG⟩ : ∃ PG, PG = Pu.paged H.data.toList := ⟨_, rfl⟩
      rw [← hPG] at cp
      have HPG : Hid (PG = Pu.paged H.data.toList) := hPG
      have HT : Hid (Turns (fun _ => False) w w1) := hT
      clear k hT hown hRd hO hD C hL hH hPG
      go_wp2_with fail
      refine cw.mono ?_
      rintro e w2 ⟨rfl, hT2⟩
      have HT2 : Hid (Turns (fun _ => False) w w2) := HT.out.trans hT2
      clear cw hT2 HT
      go_wp2_with fail
      refine (cp _).mono ?_
      rintro e w3 ⟨rfl, hT3⟩
      have HT3 : Hid (Turns (fun _ => False) w w3) := HT2.out.trans hT3
      clear cp hT3 HT2
      go_wp2
      exact bodyPost_ret (v := .tuple #[.string ⟨PG.toArray⟩, .int .i64 0, .int .i64 0]) (by simp [results, Tryz.results9, go_sem]) rfl ⟨HT3.out, D, HC.out.1, by rw [HPG.out, HC.out.2]⟩
#print axioms save_any
end Go.Proofs.YtdogncjcainhlaaGreatDoor
