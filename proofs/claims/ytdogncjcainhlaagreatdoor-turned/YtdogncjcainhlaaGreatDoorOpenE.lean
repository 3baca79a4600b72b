/- The walk of byway.Open, where it refuses before what the pages hold is read. -/
import Derived.Test.YtdogncjcainhlaaGreatDoorFw
import Derived.Test.YtdogncjcainhlaaGreatDoorNum
namespace Go.Proofs.YtdogncjcainhlaaGreatDoor
open Go.RowKit Go.Deep
open Mem

theorem not_empty {s : ByteArray} (h : s.size ≠ 0) : s.toList.isEmpty = false := by
  rw [ByteArray.toList_eq]
  cases e : s.data.toList with
  | nil => exact absurd (by rw [size_list, e]; rfl) h
  | cons a l => rfl
set_option maxRecDepth 100000 in
set_option maxHeartbeats 1000000 in
/-- Numbers that may not be. -/
theorem open_conf (d : ByteArray) (c : Int) (w : World) (hc : c < 1 ∨ 8 < c) :
    Calls Tryz.prog 11 #[.string d, .int .i64 c] w fun e w' => e = .returned (.tuple #[.pointer none, .int .i64 7, .int .i64 0]) ∧ w' = w := by
  by_cases h : c < 1
  · go_enter Tryz.func11, Tryz.ntmps11
    go_wp2
    exact bodyPost_ret (v := .tuple #[.pointer none, .int .i64 7, .int .i64 0]) (by simp [results, Tryz.results11, go_sem]) rfl ⟨rfl, rfl⟩
  · have h2 : c > 8 := by omega
    have h3 : (8 : Int) < c := by omega
    go_enter Tryz.func11, Tryz.ntmps11
    go_wp2
    exact bodyPost_ret (v := .tuple #[.pointer none, .int .i64 7, .int .i64 0]) (by simp [results, Tryz.results11, go_sem]) rfl ⟨rfl, rfl⟩
set_option maxRecDepth 100000 in
set_option maxHeartbeats 1000000 in
/-- Too long. -/
theorem open_long (d : ByteArray) (c : Int) (w : World) (h1 : 1 ≤ c) (h2 : c ≤ 8) (hd : 60000 < d.size) :
    Calls Tryz.prog 11 #[.string d, .int .i64 c] w fun e w' => e = .returned (.tuple #[.pointer none, .int .i64 1, .int .i64 0]) ∧ w' = w := by
  have h3 : ¬ c < 1 := by omega
  have h4 : ¬ c > 8 := by omega
  have h5 : ¬ (8 : Int) < c := by omega
  have h6 : (d.size : Int) > 60000 := by omega
  have h7 : (60000 : Int) < (d.size : Int) := by omega
  go_enter Tryz.func11, Tryz.ntmps11
  go_wp2
  exact bodyPost_ret (v := .tuple #[.pointer none, .int .i64 1, .int .i64 0]) (by simp [results, Tryz.results11, go_sem]) rfl ⟨rfl, rfl⟩
set_option maxRecDepth 100000 in
set_option maxHeartbeats 1000000 in
/-- Not of whole pages. -/
theorem open_part (d : ByteArray) (c : Int) (w : World) (h1 : 1 ≤ c) (h2 : c ≤ 8) (hd : d.size ≤ 60000) (hp : d.size = 0 ∨ d.size % 32 ≠ 0) :
    Calls Tryz.prog 11 #[.string d, .int .i64 c] w fun e w' => e = .returned (.tuple #[.pointer none, .int .i64 9, .int .i64 0]) ∧ w' = w := by
  have h3 : ¬ c < 1 := by omega
  have h4 : ¬ c > 8 := by omega
  have h5 : ¬ (8 : Int) < c := by omega
  have h6 : ¬ (d.size : Int) > 60000 := by omega
  have h7 : ¬ (60000 : Int) < (d.size : Int) := by omega
  by_cases hz : d.size = 0
  · have he := empty_of hz
    go_enter Tryz.func11, Tryz.ntmps11
    go_wp2
    exact bodyPost_ret (v := .tuple #[.pointer none, .int .i64 9, .int .i64 0]) (by simp [results, Tryz.results11, go_sem]) rfl ⟨rfl, rfl⟩
  · have hne2 := not_empty hz
    have hr : ((d.size : Int) % 32 != 0) = true := by simp; omega
    go_enter Tryz.func11, Tryz.ntmps11
    go_wp2
    exact bodyPost_ret (v := .tuple #[.pointer none, .int .i64 9, .int .i64 0]) (by simp [results, Tryz.results11, go_sem]) rfl ⟨rfl, rfl⟩
set_option maxRecDepth 100000 in
set_option maxHeartbeats 1000000 in
/-- A page whose sum is wrong. -/
theorem open_sum (d : ByteArray) (c : Int) (w : World) (p : Nat) (h1 : 1 ≤ c) (h2 : c ≤ 8) (hd : d.size ≤ 60000) (hz : d.size ≠ 0) (hm : d.size % 32 = 0) (hp : Pu.FW d.data.toList (p : Int)) :
    Calls Tryz.prog 11 #[.string d, .int .i64 c] w fun e w' => e = .returned (.tuple #[.pointer none, .int .i64 8, .int .i64 (p : Int)]) ∧ Turns (fun _ => False) w w' := by
  have h3 : ¬ c < 1 := by omega
  have h4 : ¬ c > 8 := by omega
  have h5 : ¬ (8 : Int) < c := by omega
  have h6 : ¬ (d.size : Int) > 60000 := by omega
  have h7 : ¬ (60000 : Int) < (d.size : Int) := by omega
  have hne2 := not_empty hz
  have hr : ((d.size : Int) % 32 != 0) = false := by simp; omega
  have cf : Calls Tryz.prog 26 #[.string d] w fun e w' => e = .returned (.int .i64 (p : Int)) ∧ Turns (fun _ => False) w w' := by
    refine (fw_any d w hd hm).mono ?_
    rintro e w' ⟨⟨r, rfl, hr⟩, hT⟩
    exact ⟨by rw [hr.one hp], hT⟩
  have hp1 : ((p : Int) != -1) = true := by simp
  clear hp hm
  go_enter Tryz.func11, Tryz.ntmps11
  go_wp2_with fail
  refine cf.mono ?_
  rintro e w1 ⟨rfl, hT⟩
  have HT : Hid (Turns (fun _ => False) w w1) := hT
  clear cf hT
  go_wp2
  exact bodyPost_ret (v := .tuple #[.pointer none, .int .i64 8, .int .i64 (p : Int)]) (by simp [results, Tryz.results11, go_sem]) rfl ⟨rfl, HT.out⟩
#print axioms open_sum
end Go.Proofs.YtdogncjcainhlaaGreatDoor
