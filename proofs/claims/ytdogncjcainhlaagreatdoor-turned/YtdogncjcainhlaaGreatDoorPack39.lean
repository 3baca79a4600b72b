/- Pack39: texts of one proof, one behind the other. -/
import Derived.Test.YtdogncjcainhlaaGreatDoorShelfS
import Derived.Test.YtdogncjcainhlaaGreatDoorPack8
import Derived.Test.YtdogncjcainhlaaGreatDoorPlain
import Derived.Deep.MidRow
import Derived.Test.YtdogncjcainhlaaGreatDoorRank
import Derived.Deep.RegionHeld3
/- The walks of cmp.Compare and cmp.Or at int. -/
namespace Go.Proofs.YtdogncjcainhlaaGreatDoor
open Go.RowKit
open Mem

namespace Pu
/-- The sign by which two numbers stand to each other. -/
def sgn (x y : Int) : Int := if x < y then -1 else if y < x then 1 else 0
/-- The first that is not 0. -/
def or2 (a b : Int) : Int := if a = 0 then b else a
end Pu

theorem isNaN_any (x : Int) (w : World) : Calls Tryz.prog 88 #[.int .i64 x] w fun e w' => e = .returned (.bool false) ∧ w' = w := by
  have h : (x != x) = false := by simp
  go_enter Tryz.func88, Tryz.ntmps88
  go_wp2
  go_ret
  exact ⟨by simp, rfl⟩
set_option maxRecDepth 100000 in
set_option maxHeartbeats 400000 in
theorem compare_any (x y : Int) (w : World) : Calls Tryz.prog 52 #[.int .i64 x, .int .i64 y] w fun e w' => e = .returned (.int .i64 (Pu.sgn x y)) ∧ w' = w := by
  have k1 := fun w => isNaN_any x w
  have k2 := fun w => isNaN_any y w
  by_cases h1 : x < y
  · have e : Pu.sgn x y = -1 := by unfold Pu.sgn; rw [if_pos h1]
    rw [e]
    clear e
    go_enter Tryz.func52, Tryz.ntmps52
    go_wp2_with (go_at_call 88; first | (refine (k1 _).mono ?_; rintro e w1 ⟨rfl, rfl⟩) | (refine (k2 _).mono ?_; rintro e w2 ⟨rfl, rfl⟩))
    go_ret
    exact ⟨rfl, rfl⟩
  · by_cases h2 : y < x
    · have e : Pu.sgn x y = 1 := by unfold Pu.sgn; rw [if_neg h1, if_pos h2]
      rw [e]
      clear e
      go_enter Tryz.func52, Tryz.ntmps52
      go_wp2_with (go_at_call 88; first | (refine (k1 _).mono ?_; rintro e w1 ⟨rfl, rfl⟩) | (refine (k2 _).mono ?_; rintro e w2 ⟨rfl, rfl⟩))
      go_ret
      exact ⟨rfl, rfl⟩
    · have e : Pu.sgn x y = 0 := by unfold Pu.sgn; rw [if_neg h1, if_neg h2]
      rw [e]
      clear e
      go_enter Tryz.func52, Tryz.ntmps52
      go_wp2_with (go_at_call 88; first | (refine (k1 _).mono ?_; rintro e w1 ⟨rfl, rfl⟩) | (refine (k2 _).mono ?_; rintro e w2 ⟨rfl, rfl⟩))
      go_ret
      exact ⟨rfl, rfl⟩
set_option maxHeartbeats 400000 in
theorem or_any (a b : Int) (g : Nat) (w : World) (c0 : w.cell? ⟨g, 0, none⟩ = some (.int .i64 a)) (c1 : w.cell? ⟨g, 1, none⟩ = some (.int .i64 b)) : Calls Tryz.prog 51 #[.slice (some ⟨g, 0, none⟩) 2 2] w fun e w' => e = .returned (.int .i64 (Pu.or2 a b)) ∧ w' = w := by
  obtain ⟨r, hr⟩ : ∃ r, Pu.or2 a b = r := ⟨_, rfl⟩
  have HR : Hid (Pu.or2 a b = r) := hr
  rw [hr]
  clear hr
  go_enter Tryz.func51, Tryz.ntmps51
  go_wp2
  go_loopw [8] (fun iv wr => wr = w ∧ (iv = .int .i64 0 ∨ (iv = .int .i64 1 ∧ a = 0) ∨ (iv = .int .i64 2 ∧ a = 0 ∧ b = 0))) (fun iv _ => 2 - (intOf iv).toNat)
  case atStart => exact ⟨rfl, Or.inl rfl⟩
  case round =>
    obtain ⟨hw, h⟩ := hrel
    subst hw
    rcases h with rfl | ⟨rfl, ha⟩ | ⟨rfl, ha, hb⟩
    · by_cases h : a = 0
      · have hb : (a != 0) = false := by simp [h]
        go_wp2
        go_roundw
        case measure => simp [intOf]
        case rel => exact ⟨by first | rfl | trivial, Or.inr (Or.inl ⟨rfl, h⟩)⟩
      · have hb : (a != 0) = true := by simp [h]
        have e : r = a := by rw [← HR.out]; unfold Pu.or2; rw [if_neg h]
        subst e
        clear HR
        go_wp2
        go_ret
        exact ⟨rfl, rfl⟩
    · by_cases h : b = 0
      · have hb : (b != 0) = false := by simp [h]
        go_wp2
        go_roundw
        case measure => simp [intOf]
        case rel => exact ⟨by first | rfl | trivial, Or.inr (Or.inr ⟨rfl, ha, h⟩)⟩
      · have hb : (b != 0) = true := by simp [h]
        have e : r = b := by rw [← HR.out]; unfold Pu.or2; rw [if_pos ha]
        subst e
        clear HR
        go_wp2
        go_ret
        exact ⟨rfl, rfl⟩
    · have e : r = 0 := by rw [← HR.out]; unfold Pu.or2; rw [if_pos ha]; exact hb
      subst e
      clear HR
      go_wp2
      go_ret
      exact ⟨rfl, rfl⟩
theorem run_index81 (cs : List Value) (k : Nat) (x : Int) (hk : k < 40) (hx : cs[k]? = some (.int .i64 x)) (W : World) : (Instr.index 182 (.agg cs.toArray) (.int .i64 (k : Int))).run Tryz.prog W = .ok (.int .i64 x) W := by
  have hu : Tryz.prog.underlying 182 = some (.array 40 3) := Tryz.underlying182
  simp [Instr.index, run_underlying hu, asIntOf, go_sem, part, Tryz.sizeOf3, Tryz.isAgg3, hx]
  omega
theorem info81 : (Tryz.prog.info? 182).map (·.size) = some 40 := by kernel_rfl
set_option maxHeartbeats 400000 in
set_option maxRecDepth 100000 in
theorem count_any (w : World) (b n v : Nat) (R : Int) (len : Nat → Nat → Int) (hn : n ≤ 40) (hv : v < n) (hM : MapAt w b n R len) (N : Pu.Net n len) : Calls Tryz.prog 140 #[.pointer (some ⟨b, 0, none⟩), .int .i64 v] w fun e w' => e = .returned (.int .i64 (Pu.rowCnt len v n : Nat)) ∧ w' = w := by
  obtain ⟨cs, hcs, hcl, hcg⟩ : ∃ cs : List Value, w.rangeAt b (2 + v * 40) cs ∧ cs.length = 40 ∧ ∀ j, j < 40 → cs[j]? = some (.int .i64 (len v j)) := by
    refine ⟨(List.range 40).map fun j => .int .i64 (len v j), fun j x hx => ?_, by simp, fun j hj => by simp [hj]⟩
    have hj : j < 40 := by have := (List.getElem?_eq_some_iff.1 hx).1; simpa using this
    have := hM.cell v j (by omega) hj
    simp [hj] at hx
    rw [← hx]; exact this
  have hi81 : (Tryz.prog.info? 182).map (·.size) = some cs.length := by rw [hcl]; exact info81
  have HG : Hid (∀ j, j < 40 → cs[j]? = some (.int .i64 (len v j))) := hcg
  have HN : Hid (∀ k, n ≤ k → Pu.rowCnt len v k = Pu.rowCnt len v n) := by
    intro k hk
    induction k with
    | zero => have : n = 0 := by omega
              rw [this]
    | succ k ih =>
      by_cases e : n = k + 1
      · rw [e]
      · have h0 : len v k = 0 := by
          by_cases c : len v k = 0
          · exact c
          · have := N.out v k c; omega
        rw [Pu.rowCnt, if_neg (by omega), ih (by omega)]; rfl
  have hR := fun j => N.lens.rng v j
  obtain ⟨tot, htot⟩ : ∃ tot, Pu.rowCnt len v n = tot := ⟨_, rfl⟩
  have HTOT : Hid (Pu.rowCnt len v n = tot) := htot
  rw [htot]
  clear htot hcg hM N
  go_enter Tryz.func140, Tryz.ntmps140
  go_wp2_with (refine wpList_load_mid rfl 182 _ rfl b (2 + v * 40) rfl cs _ hcs Tryz.underlying182 rfl hi81 ?_)
  clear hi81 hcs
  go_loopw [5, 14] (fun cv iv wr => ∃ k : Nat, k ≤ 40 ∧ iv = .int .i64 k ∧ cv = .int .i64 (Pu.rowCnt len v k : Nat) ∧ wr = w) (fun _ iv _ => 40 - (intOf iv).toNat)
  case atStart => exact ⟨0, by omega, rfl, rfl, rfl⟩
  case round =>
    obtain ⟨k, hk, rfl, rfl, hw⟩ := hrel
    subst hw
    have hcb : Pu.rowCnt len v k ≤ k := by
      have aux : ∀ k, Pu.rowCnt len v k ≤ k := fun k => by
        induction k with
        | zero => exact Nat.le_refl _
        | succ k ih => rw [Pu.rowCnt]; split <;> omega
      exact aux k
    by_cases hk4 : k < 40
    · have hki : (k : Int) < 40 := by omega
      have hck0 := HG.out k hk4
      have hrk := hR k
      have HC : Hid (Pu.rowCnt len v (k + 1) = Pu.rowCnt len v k + if 0 < len v k then 1 else 0) := rfl
      obtain ⟨c, hc⟩ : ∃ c, Pu.rowCnt len v k = c := ⟨_, rfl⟩
      obtain ⟨x, hx⟩ : ∃ x, len v k = x := ⟨_, rfl⟩
      rw [hc, hx] at HC
      rw [hc] at hcb ⊢
      rw [hx] at hck0 hrk
      have hck := fun W => run_index81 cs k x hk4 hck0 W
      clear hc hx hR hck0
      by_cases h0 : x = 0
      · have hb : (x != 0) = false := by simp [h0]
        go_wp2
        go_roundw
        case measure => simp [intOf]; omega
        case rel => exact ⟨k + 1, by omega, by go_num, by rw [HC.out, if_neg (by omega)]; rfl, by first | rfl | trivial⟩
      · have hb : (x != 0) = true := by simp [h0]
        go_wp2
        go_roundw
        case measure => simp [intOf]; omega
        case rel => exact ⟨k + 1, by omega, by go_num, by rw [HC.out, if_pos (by omega)]; go_num, by first | rfl | trivial⟩
    · have hke : k = 40 := by omega
      subst hke
      rw [HN.out 40 hn, HTOT.out] at hcb ⊢
      clear hR
      go_wp2
      go_ret
      exact ⟨rfl, rfl⟩
#print axioms count_any
end Go.Proofs.YtdogncjcainhlaaGreatDoor
/- The walk of ranks.byRoads. -/
namespace Go.Proofs.YtdogncjcainhlaaGreatDoor
open Go.RowKit Go.Deep
open Mem

namespace Pu
/-- What the closure makes of two places. -/
def byCmp (d : Nat → Nat) (a b : Nat) : Int := or2 (sgn (d b) (d a)) (sgn a b)
theorem byCmp_lt (d : Nat → Nat) (a b : Nat) : byCmp d a b < 0 ↔ Above d a b := by
  unfold byCmp or2 sgn Above
  repeat' split
  all_goals omega
end Pu

theorem alloc_drew_grow (W : World) (o : Obj) : (W.alloc o).drew = Sort.grow (W.drewN 1) #[o] := by
  unfold Sort.grow
  show (W.alloc o).drew = { W.drewN 1 with heap := W.heap ++ #[o] }
  rw [← Array.push_eq_append]
  rfl
set_option maxRecDepth 100000 in
set_option maxHeartbeats 400000 in
theorem closure_any (W : World) (rb rg n a b : Nat) (da db : Int) (ha : a < n) (hb : b < n) (c0 : W.cell? ⟨rb, 0, none⟩ = some (.slice (some ⟨rg, 0, none⟩) n n)) (ca : W.cell? ⟨rg, a, none⟩ = some (.int .i64 da)) (cb : W.cell? ⟨rg, b, none⟩ = some (.int .i64 db)) :
    Calls Tryz.prog 142 #[.int .i64 a, .int .i64 b, .pointer (some ⟨rb, 0, none⟩)] W fun e w' => e = .returned (.int .i64 (Pu.or2 (Pu.sgn db da) (Pu.sgn a b))) ∧ ∃ q os', w' = Sort.grow (W.drewN q) os' := by
  have hai : (a : Int) < (n : Int) := by omega
  have hbi : (b : Int) < (n : Int) := by omega
  have K3 : Calls Tryz.prog 51 #[.slice (some ⟨W.heap.size, 0, none⟩) 2 2] (W.alloc (.cells #[.int .i64 (Pu.sgn db da), .int .i64 (Pu.sgn a b)] 3)).drew fun e w' => e = .returned (.int .i64 (Pu.or2 (Pu.sgn db da) (Pu.sgn a b))) ∧ w' = (W.alloc (.cells #[.int .i64 (Pu.sgn db da), .int .i64 (Pu.sgn a b)] 3)).drew :=
    or_any _ _ _ _ (by show (W.alloc _).cell? _ = _; rw [World.cell?_alloc_new]; rfl) (by show (W.alloc _).cell? _ = _; rw [World.cell?_alloc_new]; rfl)
  go_enter Tryz.func142, Tryz.ntmps142
  go_wp2_with fail
  go_region_held3 (fun w' => w'.cell? ⟨rb, 0, none⟩ = some (.slice (some ⟨rg, 0, none⟩) n n) ∧ w'.cell? ⟨rg, a, none⟩ = some (.int .i64 da) ∧ w'.cell? ⟨rg, b, none⟩ = some (.int .i64 db)) (go_keep)
    (first
      | (go_at_call 52; refine (compare_any _ _ _).mono ?_; rintro e1 w1 ⟨rfl, hw1⟩; subst hw1)
      | (go_at_call 51; refine K3.mono ?_; rintro e1 w1 ⟨rfl, hw1⟩; subst hw1))
  all_goals clear K3
  all_goals go_wp2
  all_goals go_ret
  all_goals exact ⟨rfl, 1, #[.cells #[.int .i64 (Pu.sgn db da), .int .i64 (Pu.sgn a b)] 3], alloc_drew_grow W _⟩
#print axioms closure_any
end Go.Proofs.YtdogncjcainhlaaGreatDoor
