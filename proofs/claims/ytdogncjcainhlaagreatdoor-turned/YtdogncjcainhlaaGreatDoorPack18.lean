/- Pack18: texts of one proof, one behind the other. -/
import Derived.Test.YtdogncjcainhlaaGreatDoorSum
import Derived.Test.YtdogncjcainhlaaGreatDoorPlain
import Derived.WalkSpells
import Derived.WalkLawsBesides
import Derived.Deep.QuietTactic
import Derived.BigQuiet
import Derived.Test.YtdogncjcainhlaaGreatDoorPack2
/- The walk of pages.FirstWrong. -/
namespace Go.Proofs.YtdogncjcainhlaaGreatDoor
open Go.RowKit Go.Deep
open Mem

theorem bytes_ne {a b : ByteArray} (h : ¬ a = b) : (a.toList == b.toList) = false := by
  rw [beq_eq_false_iff_ne]
  intro c
  rw [ByteArray.toList_eq, ByteArray.toList_eq] at c
  exact h (of_list c)

set_option maxRecDepth 100000 in
set_option maxHeartbeats 2000000 in
/-- pages.FirstWrong. -/
theorem fw_any (d : ByteArray) (w : World) (hd : d.size ≤ 60000) (hm : d.size % 32 = 0) :
    Calls Tryz.prog 26 #[.string d] w fun e w' => (∃ r : Int, e = .returned (.int .i64 r) ∧ Pu.FW d.data.toList r) ∧ Turns (fun _ => False) w w' := by
  obtain ⟨K, hK⟩ : ∃ K, d.size = 32 * K := ⟨d.size / 32, by omega⟩
  have hq : ((d.size : Int) / 32) = (K : Int) := by omega
  have HK : Hid (d.size = 32 * K ∧ d.data.toList.length = 32 * K) := ⟨hK, by rw [← size_list, hK]⟩
  have hKb : K ≤ 1875 := by omega
  clear hK hm hd
  go_enter Tryz.func26, Tryz.ntmps26
  go_wp2
  go_loopw [10] (fun iv wr => ∃ (k : Nat) (wy : World), iv = .int .i64 (k : Int) ∧ k ≤ K ∧ wy = wr ∧ Hid ((∀ q, q < k → Pu.okPg q (Pu.pgAt d.data.toList q)) ∧ Turns (fun _ => False) w wy)) (fun iv _ => K - (intOf iv).toNat)
  case atStart => exact ⟨0, w, rfl, Nat.zero_le _, rfl, fun q hq => by omega, Turns.refl _ _⟩
  case round =>
    obtain ⟨k, wr, rfl, hk, hwy, HI⟩ := hrel
    subst hwy
    by_cases hlt : k < K
    · have hki : (k : Int) < (K : Int) := by omega
      obtain ⟨st, hst⟩ : ∃ st : Nat, st = 32 * k := ⟨_, rfl⟩
      have hst2 : (k : Int) * 32 = (st : Int) := by omega
      have hs1 : st + 32 ≤ d.size := by have := HK.out; omega
      have hs2 : (st : Int) + 28 ≤ (d.size : Int) := by omega
      have hs3 : (st : Int) + 32 ≤ (d.size : Int) := by omega
      obtain ⟨A, hA⟩ : ∃ A, A = d.extract st (st + 28) := ⟨_, rfl⟩
      obtain ⟨B, hB⟩ : ∃ B, B = d.extract (st + 28) (st + 32) := ⟨_, rfl⟩
      have hA2 : d.extract st (st + 28) = A := hA.symm
      have hB2 : d.extract (st + 28) (st + 32) = B := hB.symm
      have hAs : A.size = 28 := by rw [hA, ByteArray.size_extract]; omega
      have hAl : A.data.toList = (Pu.pgAt d.data.toList k).take 28 := by
        rw [hA, extract_list, Pu.pgAt, List.take_take, ← hst, List.drop_take]; congr 1; omega
      have hBl : B.data.toList = (Pu.pgAt d.data.toList k).drop 28 := by
        rw [hB, extract_list, Pu.pgAt, ← hst, List.drop_take, List.drop_take, List.drop_drop]; congr 1; omega
      have cq := fun w => sumOf_any k A w (by omega) (by omega)
      obtain ⟨N, hN⟩ : ∃ N, N = Pu.sumN (UInt8.ofNat (k / 256) :: UInt8.ofNat (k % 256) :: A.data.toList) := ⟨_, rfl⟩
      have hNl : N < 4294967296 := by rw [hN]; exact Pu.sumN_lt _
      rw [← hN] at cq
      have ct := fun w => sumText_any N w hNl
      obtain ⟨S4, hS4⟩ : ∃ S4 : ByteArray, S4 = ⟨(Pu.sumB N).toArray⟩ := ⟨_, rfl⟩
      rw [← hS4] at ct
      have HOK : Hid (B = S4 ↔ Pu.okPg k (Pu.pgAt d.data.toList k)) := by
        show _ ↔ _
        unfold Pu.okPg
        rw [← hAl, ← hBl, ← hN]
        constructor
        · intro e; rw [e, hS4]
        · intro e; rw [hS4]; exact of_list e
      clear hA hB hAl hBl hN hS4 hst
      have hn1 : ¬ (st : Int) < 0 := by omega
      go_wp2
      have hn2 : ¬ (st : Int) < 0 := by omega
      have hn3 : ¬ (st : Int) + 28 < 0 := by omega
      have hn4 : ¬ (d.size : Int) < (st : Int) + 28 := by omega
      have hn5 : ¬ (d.size : Int) < (st : Int) + 32 := by omega
      have hn6 : ¬ (st : Int) + 28 < (st : Int) := by omega
      have hn7 : ¬ (st : Int) + 32 < (st : Int) + 28 := by omega
      go_quiet (fail)
      go_wp2_with fail
      refine (cq _).mono ?_
      rintro e w2 ⟨rfl, hT2⟩
      go_wp2_with fail
      refine (ct _).mono ?_
      rintro e w3 ⟨rfl, hT3⟩
      have HT3 : Hid (Turns (fun _ => False) w w3) := ((HI.out.2.drewN _).trans hT2).trans hT3
      have HI3 : Hid (∀ q, q < k → Pu.okPg q (Pu.pgAt d.data.toList q)) := HI.out.1
      clear hT2 hT3 HI
      by_cases hBS : B = S4
      · subst hBS
        have HN : Hid (∀ q, q < k + 1 → Pu.okPg q (Pu.pgAt d.data.toList q)) := by
          intro q hq
          by_cases e : q = k
          · subst e; exact HOK.out.1 rfl
          · exact HI3.out q (by omega)
        clear HI3 HOK
        go_wp2
        go_roundw
        case rel => exact ⟨k + 1, w3, by go_num, by omega, rfl, HN.out, HT3.out⟩
        case measure => simp [intOf]; omega
      · have hbs := bytes_ne hBS
        have HX : Hid (Pu.FW d.data.toList (k : Int)) := Or.inr ⟨k, rfl, by have := HK.out; omega, fun c => hBS (HOK.out.2 c), HI3.out⟩
        clear HI3 HOK
        go_wp2
        exact bodyPost_ret (v := .int .i64 (k : Int)) (by simp [results, Tryz.results26, go_sem]) rfl ⟨⟨k, rfl, HX.out⟩, HT3.out⟩
    · have hki : ¬ (k : Int) < (K : Int) := by omega
      have HX : Hid (Pu.FW d.data.toList (-1) ∧ Turns (fun _ => False) w wr) := by
        refine ⟨Or.inl ⟨rfl, fun q hq => HI.out.1 q ?_⟩, HI.out.2⟩
        have := HK.out
        omega
      clear HI
      go_wp2
      exact bodyPost_ret (v := .int .i64 (-1)) (by simp [results, Tryz.results26, go_sem]) rfl ⟨⟨-1, rfl, HX.out.1⟩, HX.out.2⟩
#print axioms fw_any
end Go.Proofs.YtdogncjcainhlaaGreatDoor
/- The walk of byway.Open, where it refuses before what the pages hold is read. -/
namespace Go.Proofs.YtdogncjcainhlaaGreatDoor
open Go.RowKit Go.Deep
open Mem

theorem not_empty {s : ByteArray} (h : s.size ≠ 0) : s.toList.isEmpty = false := by
  rw [ByteArray.toList_eq]
  cases e : s.data.toList with
  | nil => exact absurd (by rw [size_list, e]; rfl) h
  | cons a l => rfl
set_option maxRecDepth 100000 in
set_option maxHeartbeats 1000000 in
/-- Numbers that may not be. -/
theorem open_conf (d : ByteArray) (c : Int) (w : World) (hc : c < 1 ∨ 8 < c) :
    Calls Tryz.prog 11 #[.string d, .int .i64 c] w fun e w' => e = .returned (.tuple #[.pointer none, .int .i64 7, .int .i64 0]) ∧ w' = w := by
  by_cases h : c < 1
  · go_enter Tryz.func11, Tryz.ntmps11
    go_wp2
    exact bodyPost_ret (v := .tuple #[.pointer none, .int .i64 7, .int .i64 0]) (by simp [results, Tryz.results11, go_sem]) rfl ⟨rfl, rfl⟩
  · have h2 : c > 8 := by omega
    have h3 : (8 : Int) < c := by omega
    go_enter Tryz.func11, Tryz.ntmps11
    go_wp2
    exact bodyPost_ret (v := .tuple #[.pointer none, .int .i64 7, .int .i64 0]) (by simp [results, Tryz.results11, go_sem]) rfl ⟨rfl, rfl⟩
set_option maxRecDepth 100000 in
set_option maxHeartbeats 1000000 in
/-- Too long. -/
theorem open_long (d : ByteArray) (c : Int) (w : World) (h1 : 1 ≤ c) (h2 : c ≤ 8) (hd : 60000 < d.size) :
    Calls Tryz.prog 11 #[.string d, .int .i64 c] w fun e w' => e = .returned (.tuple #[.pointer none, .int .i64 1, .int .i64 0]) ∧ w' = w := by
  have h3 : ¬ c < 1 := by omega
  have h4 : ¬ c > 8 := by omega
  have h5 : ¬ (8 : Int) < c := by omega
  have h6 : (d.size : Int) > 60000 := by omega
  have h7 : (60000 : Int) < (d.size : Int) := by omega
  go_enter Tryz.func11, Tryz.ntmps11
  go_wp2
  exact bodyPost_ret (v := .tuple #[.pointer none, .int .i64 1, .int .i64 0]) (by simp [results, Tryz.results11, go_sem]) rfl ⟨rfl, rfl⟩
set_option maxRecDepth 100000 in
set_option maxHeartbeats 1000000 in
/-- Not of whole pages. -/
theorem open_part (d : ByteArray) (c : Int) (w : World) (h1 : 1 ≤ c) (h2 : c ≤ 8) (hd : d.size ≤ 60000) (hp : d.size = 0 ∨ d.size % 32 ≠ 0) :
    Calls Tryz.prog 11 #[.string d, .int .i64 c] w fun e w' => e = .returned (.tuple #[.pointer none, .int .i64 9, .int .i64 0]) ∧ w' = w := by
  have h3 : ¬ c < 1 := by omega
  have h4 : ¬ c > 8 := by omega
  have h5 : ¬ (8 : Int) < c := by omega
  have h6 : ¬ (d.size : Int) > 60000 := by omega
  have h7 : ¬ (60000 : Int) < (d.size : Int) := by omega
  by_cases hz : d.size = 0
  · have he := empty_of hz
    go_enter Tryz.func11, Tryz.ntmps11
    go_wp2
    exact bodyPost_ret (v := .tuple #[.pointer none, .int .i64 9, .int .i64 0]) (by simp [results, Tryz.results11, go_sem]) rfl ⟨rfl, rfl⟩
  · have hne2 := not_empty hz
    have hr : ((d.size : Int) % 32 != 0) = true := by simp; omega
    go_enter Tryz.func11, Tryz.ntmps11
    go_wp2
    exact bodyPost_ret (v := .tuple #[.pointer none, .int .i64 9, .int .i64 0]) (by simp [results, Tryz.results11, go_sem]) rfl ⟨rfl, rfl⟩
set_option maxRecDepth 100000 in
set_option maxHeartbeats 1000000 in
/-- A page whose sum is wrong. -/
theorem open_sum (d : ByteArray) (c : Int) (w : World) (p : Nat) (h1 : 1 ≤ c) (h2 : c ≤ 8) (hd : d.size ≤ 60000) (hz : d.size ≠ 0) (hm : d.size % 32 = 0) (hp : Pu.FW d.data.toList (p : Int)) :
    Calls Tryz.prog 11 #[.string d, .int .i64 c] w fun e w' => e = .returned (.tuple #[.pointer none, .int .i64 8, .int .i64 (p : Int)]) ∧ Turns (fun _ => False) w w' := by
  have h3 : ¬ c < 1 := by omega
  have h4 : ¬ c > 8 := by omega
  have h5 : ¬ (8 : Int) < c := by omega
  have h6 : ¬ (d.size : Int) > 60000 := by omega
  have h7 : ¬ (60000 : Int) < (d.size : Int) := by omega
  have hne2 := not_empty hz
  have hr : ((d.size : Int) % 32 != 0) = false := by simp; omega
  have cf : Calls Tryz.prog 26 #[.string d] w fun e w' => e = .returned (.int .i64 (p : Int)) ∧ Turns (fun _ => False) w w' := by
    refine (fw_any d w hd hm).mono ?_
    rintro e w' ⟨⟨r, rfl, hr⟩, hT⟩
    exact ⟨by rw [hr.one hp], hT⟩
  have hp1 : ((p : Int) != -1) = true := by simp
  clear hp hm
  go_enter Tryz.func11, Tryz.ntmps11
  go_wp2_with fail
  refine cf.mono ?_
  rintro e w1 ⟨rfl, hT⟩
  have HT : Hid (Turns (fun _ => False) w w1) := hT
  clear cf hT
  go_wp2
  exact bodyPost_ret (v := .tuple #[.pointer none, .int .i64 8, .int .i64 (p : Int)]) (by simp [results, Tryz.results11, go_sem]) rfl ⟨rfl, HT.out⟩
#print axioms open_sum
end Go.Proofs.YtdogncjcainhlaaGreatDoor
