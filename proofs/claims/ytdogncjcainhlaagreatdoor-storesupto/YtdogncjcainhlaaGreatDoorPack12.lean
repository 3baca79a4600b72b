/- Pack12: texts of one proof, one behind the other. -/
import Derived.Shelf.SlSortCmp.Whole1
import Derived.Test.YtdogncjcainhlaaGreatDoorProg
import Derived.Test.YtdogncjcainhlaaGreatDoorPack3
import Derived.Test.YtdogncjcainhlaaGreatDoorPlain
import Derived.Deep.MidRow
import Derived.Test.YtdogncjcainhlaaGreatDoorPack9
import Derived.Deep.RegionHeld3
import Derived.Test.YtdogncjcainhlaaGreatDoorPack5
import Derived.Test.YtdogncjcainhlaaGreatDoorPack11
import Derived.Test.YtdogncjcainhlaaGreatDoorPack7
import Derived.Shelf.SlicesE.Clone
import Derived.Deep.QuietTactic
import Derived.BigQuiet
import Derived.Test.YtdogncjcainhlaaGreatDoorPack10
/- The library's contract of slices.SortFunc, laid at this translation. -/
namespace Go.Proofs.YtdogncjcainhlaaGreatDoor
open Go.Shelf Go.Lib Go.RowKit Go.Sort
def sortInt_ren : Go.Shelf.Ren := ⟨fun | 6 => 141 | 15 => 87 | 14 => 169 | 28 => 138 | 29 => 139 | 20 => 187 | 21 => 188 | 22 => 189 | 23 => 190 | 24 => 191 | 25 => 192 | 26 => 193 | 27 => 194 | 46 => 201 | 47 => 165 | 48 => 166 | 49 => 202 | 50 => 203 | 57 => 206 | n => n, fun | 22 => 55 | 24 => 3 | 25 => 32 | 3 => 3 | 39 => 194 | 0 => 0 | 53 => 88 | 55 => 244 | 4 => 4 | 46 => 237 | 45 => 236 | 50 => 174 | 5 => 5 | 9 => 9 | 66 => 265 | 70 => 269 | 76 => 285 | 77 => 167 | n => n, fun | n => n⟩
theorem sortInt : Go.Proofs.SlLaysF.n6 Tryz.prog sortInt_ren := {
  mixed := by kernel_rfl
  f6 := ⟨Tryz.f141.name, by decide, Tryz.func141.trans (congrArg some (by kernel_rfl))⟩
  f14 := ⟨Tryz.f169.name, by decide, Tryz.func169.trans (congrArg some (by kernel_rfl))⟩
  f15 := Tryz.func87.trans (congrArg some (by kernel_rfl))
  f20 := ⟨Tryz.f187.name, by decide, Tryz.func187.trans (congrArg some (by kernel_rfl))⟩
  f21 := ⟨Tryz.f188.name, by decide, Tryz.func188.trans (congrArg some (by kernel_rfl))⟩
  f22 := ⟨Tryz.f189.name, by decide, Tryz.func189.trans (congrArg some (by kernel_rfl))⟩
  f23 := ⟨Tryz.f190.name, by decide, Tryz.func190.trans (congrArg some (by kernel_rfl))⟩
  f24 := ⟨Tryz.f191.name, by decide, Tryz.func191.trans (congrArg some (by kernel_rfl))⟩
  f25 := ⟨Tryz.f192.name, by decide, Tryz.func192.trans (congrArg some (by kernel_rfl))⟩
  f26 := ⟨Tryz.f193.name, by decide, Tryz.func193.trans (congrArg some (by kernel_rfl))⟩
  f27 := ⟨Tryz.f194.name, by decide, Tryz.func194.trans (congrArg some (by kernel_rfl))⟩
  f28 := Tryz.func138.trans (congrArg some (by kernel_rfl))
  f29 := Tryz.func139.trans (congrArg some (by kernel_rfl))
  f46 := ⟨Tryz.f201.name, by decide, Tryz.func201.trans (congrArg some (by kernel_rfl))⟩
  f47 := Tryz.func165.trans (congrArg some (by kernel_rfl))
  f48 := Tryz.func166.trans (congrArg some (by kernel_rfl))
  f49 := ⟨Tryz.f202.name, by decide, Tryz.func202.trans (congrArg some (by kernel_rfl))⟩
  f50 := ⟨Tryz.f203.name, by decide, Tryz.func203.trans (congrArg some (by kernel_rfl))⟩
  f57 := ⟨Tryz.f206.name, by decide, Tryz.func206.trans (congrArg some (by kernel_rfl))⟩
  t0 := Tryz.underlying0
  a0 := Tryz.isAgg0
  z0 := Tryz.sizeOf0
  v0 := Tryz.zeroValue0
  t3 := Tryz.underlying3
  a3 := Tryz.isAgg3
  z3 := Tryz.sizeOf3
  v3 := Tryz.zeroValue3
  t4 := Tryz.underlying4
  a4 := Tryz.isAgg4
  z4 := Tryz.sizeOf4
  v4 := Tryz.zeroValue4
  t5 := Tryz.underlying5
  a5 := Tryz.isAgg5
  z5 := Tryz.sizeOf5
  v5 := Tryz.zeroValue5
  t9 := Tryz.underlying9
  a9 := Tryz.isAgg9
  z9 := Tryz.sizeOf9
  v9 := Tryz.zeroValue9
  t22 := Tryz.underlying55
  a22 := Tryz.isAgg55
  z22 := Tryz.sizeOf55
  v22 := Tryz.zeroValue55
  a24 := Tryz.isAgg3
  z24 := Tryz.sizeOf3
  t25 := Tryz.underlying32
  a25 := Tryz.isAgg32
  z25 := Tryz.sizeOf32
  v25 := Tryz.zeroValue32
  t39 := Tryz.underlying194
  a39 := Tryz.isAgg194
  z39 := Tryz.sizeOf194
  v39 := Tryz.zeroValue194
  t45 := Tryz.underlying236
  a45 := Tryz.isAgg236
  z45 := Tryz.sizeOf236
  v45 := Tryz.zeroValue236
  t46 := Tryz.underlying237
  a46 := Tryz.isAgg237
  z46 := Tryz.sizeOf237
  v46 := Tryz.zeroValue237
  t50 := Tryz.underlying174
  a50 := Tryz.isAgg174
  z50 := Tryz.sizeOf174
  v50 := Tryz.zeroValue174
  t53 := Tryz.underlying88
  a53 := Tryz.isAgg88
  z53 := Tryz.sizeOf88
  v53 := Tryz.zeroValue88
  t55 := Tryz.underlying244
  a55 := Tryz.isAgg244
  z55 := Tryz.sizeOf244
  v55 := Tryz.zeroValue244
  t66 := Tryz.underlying265
  a66 := Tryz.isAgg265
  z66 := Tryz.sizeOf265
  v66 := Tryz.zeroValue265
  t70 := Tryz.underlying269
  a70 := Tryz.isAgg269
  z70 := Tryz.sizeOf269
  v70 := Tryz.zeroValue269
  t76 := Tryz.underlying285
  a76 := Tryz.isAgg285
  z76 := Tryz.sizeOf285
  v76 := Tryz.zeroValue285
  t77 := Tryz.underlying167
  a77 := Tryz.isAgg167
  z77 := Tryz.sizeOf167
  v77 := Tryz.zeroValue167 }
theorem slices_SortFunc_int {α : Type} [Inhabited α] (enc : α → Value) (h1 : OneCell enc) (cf : α → α → Int) (hO : SWO (ltOf cf)) (g : Nat) (cb : Array Value) (blk off cap : Nat) (d : Array α) (w : World)
    (eg : ∀ args w, (callFunc g args).run Tryz.prog w = .ok (.enter g args) w) (hcmp : CmpLays1 Tryz.prog g cb enc cf blk off d.size w) (hH : Holds enc w blk off d) (hblk : blk < w.heap.size) (hsz : d.size < 4611686018427387904) :
    Calls Tryz.prog 141 #[.slice (some ⟨blk, off, none⟩) d.size cap, .func (.func g) #[] cb] w fun e w' =>
      e = .returned (.tuple #[]) ∧ ∃ d' n os, PermIn 0 d.size d d' ∧ SortedIn (ltOf cf) 0 d.size d' ∧ w' = sortWorld enc w blk off n d' os := Any.slices_SortFunc sortInt enc h1 cf hO g cb blk off cap d w eg hcmp hH hblk hsz
#print axioms slices_SortFunc_int
end Go.Proofs.YtdogncjcainhlaaGreatDoor
/- The walks of cmp.Compare and cmp.Or at int. -/
namespace Go.Proofs.YtdogncjcainhlaaGreatDoor
open Go.RowKit
open Mem

namespace Pu
/-- The sign by which two numbers stand to each other. -/
def sgn (x y : Int) : Int := if x < y then -1 else if y < x then 1 else 0
/-- The first that is not 0. -/
def or2 (a b : Int) : Int := if a = 0 then b else a
end Pu

theorem isNaN_any (x : Int) (w : World) : Calls Tryz.prog 88 #[.int .i64 x] w fun e w' => e = .returned (.bool false) ∧ w' = w := by
  have h : (x != x) = false := by simp
  go_enter Tryz.func88, Tryz.ntmps88
  go_wp2
  go_ret
  exact ⟨by simp, rfl⟩
set_option maxRecDepth 100000 in
set_option maxHeartbeats 400000 in
theorem compare_any (x y : Int) (w : World) : Calls Tryz.prog 52 #[.int .i64 x, .int .i64 y] w fun e w' => e = .returned (.int .i64 (Pu.sgn x y)) ∧ w' = w := by
  have k1 := fun w => isNaN_any x w
  have k2 := fun w => isNaN_any y w
  by_cases h1 : x < y
  · have e : Pu.sgn x y = -1 := by unfold Pu.sgn; rw [if_pos h1]
    rw [e]
    clear e
    go_enter Tryz.func52, Tryz.ntmps52
    go_wp2_with (go_at_call 88; first | (refine (k1 _).mono ?_; rintro e w1 ⟨rfl, rfl⟩) | (refine (k2 _).mono ?_; rintro e w2 ⟨rfl, rfl⟩))
    go_ret
    exact ⟨rfl, rfl⟩
  · by_cases h2 : y < x
    · have e : Pu.sgn x y = 1 := by unfold Pu.sgn; rw [if_neg h1, if_pos h2]
      rw [e]
      clear e
      go_enter Tryz.func52, Tryz.ntmps52
      go_wp2_with (go_at_call 88; first | (refine (k1 _).mono ?_; rintro e w1 ⟨rfl, rfl⟩) | (refine (k2 _).mono ?_; rintro e w2 ⟨rfl, rfl⟩))
      go_ret
      exact ⟨rfl, rfl⟩
    · have e : Pu.sgn x y = 0 := by unfold Pu.sgn; rw [if_neg h1, if_neg h2]
      rw [e]
      clear e
      go_enter Tryz.func52, Tryz.ntmps52
      go_wp2_with (go_at_call 88; first | (refine (k1 _).mono ?_; rintro e w1 ⟨rfl, rfl⟩) | (refine (k2 _).mono ?_; rintro e w2 ⟨rfl, rfl⟩))
      go_ret
      exact ⟨rfl, rfl⟩
set_option maxHeartbeats 400000 in
theorem or_any (a b : Int) (g : Nat) (w : World) (c0 : w.cell? ⟨g, 0, none⟩ = some (.int .i64 a)) (c1 : w.cell? ⟨g, 1, none⟩ = some (.int .i64 b)) : Calls Tryz.prog 51 #[.slice (some ⟨g, 0, none⟩) 2 2] w fun e w' => e = .returned (.int .i64 (Pu.or2 a b)) ∧ w' = w := by
  obtain ⟨r, hr⟩ : ∃ r, Pu.or2 a b = r := ⟨_, rfl⟩
  have HR : Hid (Pu.or2 a b = r) := hr
  rw [hr]
  clear hr
  go_enter Tryz.func51, Tryz.ntmps51
  go_wp2
  go_loopw [8] (fun iv wr => wr = w ∧ (iv = .int .i64 0 ∨ (iv = .int .i64 1 ∧ a = 0) ∨ (iv = .int .i64 2 ∧ a = 0 ∧ b = 0))) (fun iv _ => 2 - (intOf iv).toNat)
  case atStart => exact ⟨rfl, Or.inl rfl⟩
  case round =>
    obtain ⟨hw, h⟩ := hrel
    subst hw
    rcases h with rfl | ⟨rfl, ha⟩ | ⟨rfl, ha, hb⟩
    · by_cases h : a = 0
      · have hb : (a != 0) = false := by simp [h]
        go_wp2
        go_roundw
        case measure => simp [intOf]
        case rel => exact ⟨by first | rfl | trivial, Or.inr (Or.inl ⟨rfl, h⟩)⟩
      · have hb : (a != 0) = true := by simp [h]
        have e : r = a := by rw [← HR.out]; unfold Pu.or2; rw [if_neg h]
        subst e
        clear HR
        go_wp2
        go_ret
        exact ⟨rfl, rfl⟩
    · by_cases h : b = 0
      · have hb : (b != 0) = false := by simp [h]
        go_wp2
        go_roundw
        case measure => simp [intOf]
        case rel => exact ⟨by first | rfl | trivial, Or.inr (Or.inr ⟨rfl, ha, h⟩)⟩
      · have hb : (b != 0) = true := by simp [h]
        have e : r = b := by rw [← HR.out]; unfold Pu.or2; rw [if_pos ha]
        subst e
        clear HR
        go_wp2
        go_ret
        exact ⟨rfl, rfl⟩
    · have e : r = 0 := by rw [← HR.out]; unfold Pu.or2; rw [if_pos ha]; exact hb
      subst e
      clear HR
      go_wp2
      go_ret
      exact ⟨rfl, rfl⟩
theorem run_index81 (cs : List Value) (k : Nat) (x : Int) (hk : k < 40) (hx : cs[k]? = some (.int .i64 x)) (W : World) : (Instr.index 182 (.agg cs.toArray) (.int .i64 (k : Int))).run Tryz.prog W = .ok (.int .i64 x) W := by
  have hu : Tryz.prog.underlying 182 = some (.array 40 3) := Tryz.underlying182
  simp [Instr.index, run_underlying hu, asIntOf, go_sem, part, Tryz.sizeOf3, Tryz.isAgg3, hx]
  omega
theorem info81 : (Tryz.prog.info? 182).map (·.size) = some 40 := by kernel_rfl
set_option maxHeartbeats 400000 in
set_option maxRecDepth 100000 in
theorem count_any (w : World) (b n v : Nat) (R : Int) (len : Nat → Nat → Int) (hn : n ≤ 40) (hv : v < n) (hM : MapAt w b n R len) (N : Pu.Net n len) : Calls Tryz.prog 140 #[.pointer (some ⟨b, 0, none⟩), .int .i64 v] w fun e w' => e = .returned (.int .i64 (Pu.rowCnt len v n : Nat)) ∧ w' = w := by
  obtain ⟨cs, hcs, hcl, hcg⟩ : ∃ cs : List Value, w.rangeAt b (2 + v * 40) cs ∧ cs.length = 40 ∧ ∀ j, j < 40 → cs[j]? = some (.int .i64 (len v j)) := by
    refine ⟨(List.range 40).map fun j => .int .i64 (len v j), fun j x hx => ?_, by simp, fun j hj => by simp [hj]⟩
    have hj : j < 40 := by have := (List.getElem?_eq_some_iff.1 hx).1; simpa using this
    have := hM.cell v j (by omega) hj
    simp [hj] at hx
    rw [← hx]; exact this
  have hi81 : (Tryz.prog.info? 182).map (·.size) = some cs.length := by rw [hcl]; exact info81
  have HG : Hid (∀ j, j < 40 → cs[j]? = some (.int .i64 (len v j))) := hcg
  have HN : Hid (∀ k, n ≤ k → Pu.rowCnt len v k = Pu.rowCnt len v n) := by
    intro k hk
    induction k with
    | zero => have : n = 0 := by omega
              rw [this]
    | succ k ih =>
      by_cases e : n = k + 1
      · rw [e]
      · have h0 : len v k = 0 := by
          by_cases c : len v k = 0
          · exact c
          · have := N.out v k c; omega
        rw [Pu.rowCnt, if_neg (by omega), ih (by omega)]; rfl
  have hR := fun j => N.lens.rng v j
  obtain ⟨tot, htot⟩ : ∃ tot, Pu.rowCnt len v n = tot := ⟨_, rfl⟩
  have HTOT : Hid (Pu.rowCnt len v n = tot) := htot
  rw [htot]
  clear htot hcg hM N
  go_enter Tryz.func140, Tryz.ntmps140
  go_wp2_with (refine wpList_load_mid rfl 182 _ rfl b (2 + v * 40) rfl cs _ hcs Tryz.underlying182 rfl hi81 ?_)
  clear hi81 hcs
  go_loopw [5, 14] (fun cv iv wr => ∃ k : Nat, k ≤ 40 ∧ iv = .int .i64 k ∧ cv = .int .i64 (Pu.rowCnt len v k : Nat) ∧ wr = w) (fun _ iv _ => 40 - (intOf iv).toNat)
  case atStart => exact ⟨0, by omega, rfl, rfl, rfl⟩
  case round =>
    obtain ⟨k, hk, rfl, rfl, hw⟩ := hrel
    subst hw
    have hcb : Pu.rowCnt len v k ≤ k := by
      have aux : ∀ k, Pu.rowCnt len v k ≤ k := fun k => by
        induction k with
        | zero => exact Nat.le_refl _
        | succ k ih => rw [Pu.rowCnt]; split <;> omega
      exact aux k
    by_cases hk4 : k < 40
    · have hki : (k : Int) < 40 := by omega
      have hck0 := HG.out k hk4
      have hrk := hR k
      have HC : Hid (Pu.rowCnt len v (k + 1) = Pu.rowCnt len v k + if 0 < len v k then 1 else 0) := rfl
      obtain ⟨c, hc⟩ : ∃ c, Pu.rowCnt len v k = c := ⟨_, rfl⟩
      obtain ⟨x, hx⟩ : ∃ x, len v k = x := ⟨_, rfl⟩
      rw [hc, hx] at HC
      rw [hc] at hcb ⊢
      rw [hx] at hck0 hrk
      have hck := fun W => run_index81 cs k x hk4 hck0 W
      clear hc hx hR hck0
      by_cases h0 : x = 0
      · have hb : (x != 0) = false := by simp [h0]
        go_wp2
        go_roundw
        case measure => simp [intOf]; omega
        case rel => exact ⟨k + 1, by omega, by go_num, by rw [HC.out, if_neg (by omega)]; rfl, by first | rfl | trivial⟩
      · have hb : (x != 0) = true := by simp [h0]
        go_wp2
        go_roundw
        case measure => simp [intOf]; omega
        case rel => exact ⟨k + 1, by omega, by go_num, by rw [HC.out, if_pos (by omega)]; go_num, by first | rfl | trivial⟩
    · have hke : k = 40 := by omega
      subst hke
      rw [HN.out 40 hn, HTOT.out] at hcb ⊢
      clear hR
      go_wp2
      go_ret
      exact ⟨rfl, rfl⟩
#print axioms count_any
end Go.Proofs.YtdogncjcainhlaaGreatDoor
/- The walk of ranks.byRoads. -/
namespace Go.Proofs.YtdogncjcainhlaaGreatDoor
open Go.RowKit Go.Deep
open Mem

namespace Pu
/-- What the closure makes of two places. -/
def byCmp (d : Nat → Nat) (a b : Nat) : Int := or2 (sgn (d b) (d a)) (sgn a b)
theorem byCmp_lt (d : Nat → Nat) (a b : Nat) : byCmp d a b < 0 ↔ Above d a b := by
  unfold byCmp or2 sgn Above
  repeat' split
  all_goals omega
end Pu

theorem alloc_drew_grow (W : World) (o : Obj) : (W.alloc o).drew = Sort.grow (W.drewN 1) #[o] := by
  unfold Sort.grow
  show (W.alloc o).drew = { W.drewN 1 with heap := W.heap ++ #[o] }
  rw [← Array.push_eq_append]
  rfl
set_option maxRecDepth 100000 in
set_option maxHeartbeats 400000 in
theorem closure_any (W : World) (rb rg n a b : Nat) (da db : Int) (ha : a < n) (hb : b < n) (c0 : W.cell? ⟨rb, 0, none⟩ = some (.slice (some ⟨rg, 0, none⟩) n n)) (ca : W.cell? ⟨rg, a, none⟩ = some (.int .i64 da)) (cb : W.cell? ⟨rg, b, none⟩ = some (.int .i64 db)) :
    Calls Tryz.prog 142 #[.int .i64 a, .int .i64 b, .pointer (some ⟨rb, 0, none⟩)] W fun e w' => e = .returned (.int .i64 (Pu.or2 (Pu.sgn db da) (Pu.sgn a b))) ∧ ∃ q os', w' = Sort.grow (W.drewN q) os' := by
  have hai : (a : Int) < (n : Int) := by omega
  have hbi : (b : Int) < (n : Int) := by omega
  have K3 : Calls Tryz.prog 51 #[.slice (some ⟨W.heap.size, 0, none⟩) 2 2] (W.alloc (.cells #[.int .i64 (Pu.sgn db da), .int .i64 (Pu.sgn a b)] 3)).drew fun e w' => e = .returned (.int .i64 (Pu.or2 (Pu.sgn db da) (Pu.sgn a b))) ∧ w' = (W.alloc (.cells #[.int .i64 (Pu.sgn db da), .int .i64 (Pu.sgn a b)] 3)).drew :=
    or_any _ _ _ _ (by show (W.alloc _).cell? _ = _; rw [World.cell?_alloc_new]; rfl) (by show (W.alloc _).cell? _ = _; rw [World.cell?_alloc_new]; rfl)
  go_enter Tryz.func142, Tryz.ntmps142
  go_wp2_with fail
  go_region_held3 (fun w' => w'.cell? ⟨rb, 0, none⟩ = some (.slice (some ⟨rg, 0, none⟩) n n) ∧ w'.cell? ⟨rg, a, none⟩ = some (.int .i64 da) ∧ w'.cell? ⟨rg, b, none⟩ = some (.int .i64 db)) (go_keep)
    (first
      | (go_at_call 52; refine (compare_any _ _ _).mono ?_; rintro e1 w1 ⟨rfl, hw1⟩; subst hw1)
      | (go_at_call 51; refine K3.mono ?_; rintro e1 w1 ⟨rfl, hw1⟩; subst hw1))
  all_goals clear K3
  all_goals go_wp2
  all_goals go_ret
  all_goals exact ⟨rfl, 1, #[.cells #[.int .i64 (Pu.sgn db da), .int .i64 (Pu.sgn a b)] 3], alloc_drew_grow W _⟩
#print axioms closure_any
end Go.Proofs.YtdogncjcainhlaaGreatDoor
/- The places, sorted by their roads: slices.SortFunc with byRoads' closure. -/
namespace Go.Proofs.YtdogncjcainhlaaGreatDoor
open Go.RowKit Go.Deep
open Mem

theorem grow_turns (w : World) (os : Array Obj) : Turns (fun _ => False) w (Sort.grow w os) :=
  ⟨rfl, rfl, rfl, by simp [Sort.grow], fun k hk _ => by
    show (w.heap ++ os)[k]? = w.heap[k]?
    rw [Array.getElem?_append_left hk]⟩
theorem putRow_turns {α : Type} [Inhabited α] (enc : α → Value) (w : World) (blk off : Nat) (d : Array α) : Turns (fun k => k = blk) w (Sort.putRow enc w blk off d) :=
  ⟨rfl, rfl, rfl, by simp, fun k _ hp => by
    show (w.heap.modify blk _)[k]? = w.heap[k]?
    rw [Array.getElem?_modify, if_neg (fun c => hp c.symm)]⟩
theorem sortWorld_turns {α : Type} [Inhabited α] (enc : α → Value) (w : World) (blk off m : Nat) (d : Array α) (os : Array Obj) : Turns (fun k => k = blk) w (sortWorld enc w blk off m d os) := by
  have h0 : Turns (fun k => k = blk) w (Sort.ahead w m) := ⟨rfl, rfl, rfl, Nat.le_refl _, fun _ _ _ => rfl⟩
  exact (h0.trans (putRow_turns enc _ blk off d)).trans ((grow_turns _ os).mono (fun _ _ h => h.elim))

namespace Pu
/-- The closure's order, on the places. -/
def finCmp (d : Nat → Nat) (n : Nat) (a b : Fin n) : Int := byCmp d a.val b.val
theorem finCmp_lt (d : Nat → Nat) (n : Nat) (a b : Fin n) : ltOf (finCmp d n) a b = true ↔ Above d a.val b.val := by
  unfold ltOf finCmp
  rw [decide_eq_true_iff]
  exact byCmp_lt d a.val b.val
theorem finCmp_no (d : Nat → Nat) (n : Nat) (a b : Fin n) : ltOf (finCmp d n) a b = false ↔ ¬ Above d a.val b.val := by
  rw [← finCmp_lt, Bool.not_eq_true]
theorem finCmp_swo (d : Nat → Nat) (n : Nat) : Sort.SWO (ltOf (finCmp d n)) := {
  irrefl := fun x => by rw [finCmp_no]; unfold Above; omega
  trans := fun x y z h1 h2 => by rw [finCmp_lt] at *; unfold Above at *; omega
  ntrans := fun x y z h1 h2 => by rw [finCmp_no] at *; unfold Above at *; omega }
/-- A permutation of the places, none later above an earlier: the order by roads. -/
theorem sorted_ranked {n : Nat} [Inhabited (Fin n)] {d : Nat → Nat} (hd : ∀ x, x < n → d x ≤ n) {D' : Array (Fin n)} (hp : Sort.PermIn 0 n (Array.ofFn (n := n) id) D') (hs : Sort.SortedIn (ltOf (finCmp d n)) 0 n D') : D'.size = n ∧ D'.toList.map Fin.val = ranked d n := by
  obtain ⟨h1, _, h3⟩ := hp
  have hsz : D'.size = n := by rw [h1]; simp
  have e1 : D'.extract 0 n = D' := by
    have := Array.extract_size (xs := D')
    rwa [hsz] at this
  have e2 : (Array.ofFn (n := n) id).extract 0 n = Array.ofFn (n := n) id := by
    simp
  rw [e1, e2] at h3
  have hnd : D'.toList.Nodup := h3.symm.nodup (List.pairwise_iff_getElem.2 (fun i j hi hj hij c => by simp at c; omega))
  refine ⟨hsz, ranked_one hd ?_ ?_⟩
  · rw [List.pairwise_map, List.pairwise_iff_getElem]
    intro i j hi hj hij
    have hi' : i < D'.size := by simpa using hi
    have hj' : j < D'.size := by simpa using hj
    have := hs i j (Nat.zero_le _) hij (by omega)
    rw [finCmp_no, getElem!_pos D' i hi', getElem!_pos D' j hj'] at this
    have hne : D'.toList[i] ≠ D'.toList[j] := List.pairwise_iff_getElem.1 hnd i j hi hj hij
    have hne' : (D'.toList[i]).val ≠ (D'.toList[j]).val := fun c => hne (Fin.ext c)
    simp only [Above, Array.getElem_toList] at this hne' ⊢
    omega
  · intro x
    constructor
    · intro hx
      obtain ⟨y, _, rfl⟩ := List.mem_map.1 hx
      exact y.2
    · intro hx
      refine List.mem_map.2 ⟨⟨x, hx⟩, h3.symm.mem_iff.1 ?_, rfl⟩
      simp
end Pu

theorem sort_any (w : World) (ob cap rb rg n : Nat) (d : Nat → Nat) (hn1 : 1 ≤ n) (hn : n ≤ 40) (hd : ∀ x, x < n → d x ≤ n) (hO : ∀ j, j < n → w.cell? ⟨ob, j, none⟩ = some (.int .i64 (j : Int)) ∧ w.frozen? ⟨ob, j, none⟩ = false)
    (hrb : w.cell? ⟨rb, 0, none⟩ = some (.slice (some ⟨rg, 0, none⟩) n n)) (hR : ∀ j, j < n → w.cell? ⟨rg, j, none⟩ = some (.int .i64 (d j : Nat))) (h1 : rb ≠ ob) (h2 : rg ≠ ob) :
    Calls Tryz.prog 141 #[.slice (some ⟨ob, 0, none⟩) n cap, .func (.func 142) #[] #[.pointer (some ⟨rb, 0, none⟩)]] w fun e w' => e = .returned (.tuple #[]) ∧ Turns (fun k => k = ob) w w' ∧ Ord w' ob n (Pu.ranked d n) := by
  haveI : Inhabited (Fin n) := ⟨⟨0, hn1⟩⟩
  obtain ⟨A, hA⟩ : ∃ A : Array (Fin n), A = Array.ofFn (n := n) id := ⟨_, rfl⟩
  have hAs : A.size = n := by rw [hA]; simp
  have hAg : ∀ j (hj : j < n), A[j]! = ⟨j, hj⟩ := fun j hj => by
    rw [getElem!_pos A j (by omega)]; simp [hA]
  have eg : ∀ args w, (callFunc 142 args).run Tryz.prog w = .ok (.enter 142 args) w := enters_of Tryz.func142 (by kernel_rfl) rfl
  have hbl : ob < w.heap.size := World.block_lt_of_cell? _ _ (hO 0 (by omega)).1
  have hrl : rg < w.heap.size := World.block_lt_of_cell? _ _ (hR 0 (by omega))
  have hcmp : CmpLays1 Tryz.prog 142 #[.pointer (some ⟨rb, 0, none⟩)] (fun i : Fin n => Value.int .i64 (i.val : Int)) (Pu.finCmp d n) ob 0 A.size w := by
    intro m os dk _ x y
    have t := sortWorld_turns (fun i : Fin n => Value.int .i64 (i.val : Int)) w ob 0 m dk os
    refine closure_any _ rb rg n x.val y.val (d x.val) (d y.val) x.2 y.2 ?_ ?_ ?_
    · exact (t.cell (a := ⟨rb, 0, none⟩) (World.block_lt_of_cell? _ _ hrb) h1).trans hrb
    · exact (t.cell (a := ⟨rg, x.val, none⟩) hrl h2).trans (hR _ x.2)
    · exact (t.cell (a := ⟨rg, y.val, none⟩) hrl h2).trans (hR _ y.2)
  have hH : Sort.Holds (fun i : Fin n => Value.int .i64 (i.val : Int)) w ob 0 A := by
    intro j hj
    have hj' : j < n := by omega
    rw [hAg j hj']
    simpa using hO j hj'
  have k := slices_SortFunc_int (fun i : Fin n => Value.int .i64 (i.val : Int)) (fun _ => rfl) (Pu.finCmp d n) (Pu.finCmp_swo d n) 142 #[.pointer (some ⟨rb, 0, none⟩)] ob 0 cap A w eg hcmp hH hbl (by omega)
  rw [hAs] at k
  refine k.mono ?_
  rintro e w' ⟨rfl, D', m, os, hp, hs, rfl⟩
  rw [hA] at hp
  obtain ⟨hsz, hl⟩ := Pu.sorted_ranked hd hp hs
  refine ⟨rfl, sortWorld_turns _ _ _ _ _ _ _, ?_, fun j x hx => ?_⟩
  · rw [← hl]; simp [hsz]
  · rw [← hl] at hx
    have hjl : j < D'.size := by have := (List.getElem?_eq_some_iff.1 hx).1; simpa using this
    have hxv : (D'[j]).val = x := by simpa [hjl] using hx
    refine ⟨by rw [← hxv]; exact (D'[j]).2, ?_⟩
    have hH' : Sort.Holds (fun i : Fin n => Value.int .i64 (i.val : Int)) (Sort.ahead w m) ob 0 A := hH
    have c := Sort.cell?_putRow (fun i : Fin n => Value.int .i64 (i.val : Int)) (Sort.ahead w m) ob 0 A D' hH' (by omega) j hjl
    rw [getElem!_pos D' j hjl, hxv, Nat.zero_add] at c
    exact ((grow_turns _ os).cell (World.block_lt_of_cell? _ _ c) (fun x => x)).trans c
#print axioms sort_any
end Go.Proofs.YtdogncjcainhlaaGreatDoor
/- Places by how far they are: put in one by one, or sorted: no program in it. -/
namespace Go.Proofs.YtdogncjcainhlaaGreatDoor
namespace Pu

/-- Nearer; of those as far the one with the lower number. A place, and how far it is. -/
def Nearer (a b : Nat × Int) : Prop := a.2 < b.2 ∨ (a.2 = b.2 ∧ a.1 < b.1)
theorem Nearer.irrefl (a : Nat × Int) : ¬ Nearer a a := by unfold Nearer; omega
theorem Nearer.trans {a b c : Nat × Int} (h : Nearer a b) (k : Nearer b c) : Nearer a c := by unfold Nearer at *; omega
theorem Nearer.total {a b : Nat × Int} (h : ¬ Nearer a b) (k : ¬ Nearer b a) : a = b := by
  unfold Nearer at *
  have h1 : a.1 = b.1 := by omega
  have h2 : a.2 = b.2 := by omega
  exact Prod.ext h1 h2
/-- How many stand ahead of one that is so far, looked for from the end of the first k. -/
def backN (f : Int) (l : List (Nat × Int)) : Nat → Nat
  | 0 => 0
  | k + 1 => match l[k]? with
    | none => k + 1
    | some x => if x.2 > f then backN f l k else k + 1
def insN (v : Nat) (f : Int) (l : List (Nat × Int)) : List (Nat × Int) := l.take (backN f l l.length) ++ (v, f) :: l.drop (backN f l l.length)
theorem backN_le (f : Int) (l : List (Nat × Int)) : ∀ k, backN f l k ≤ k
  | 0 => Nat.le_refl _
  | k + 1 => by
    unfold backN
    split
    · exact Nat.le_refl _
    · split
      · have := backN_le f l k; omega
      · exact Nat.le_refl _
theorem backN_after (f : Int) (l : List (Nat × Int)) : ∀ k j x, backN f l k ≤ j → j < k → l[j]? = some x → f < x.2
  | 0, j, x, _, h, _ => by omega
  | k + 1, j, x, h1, h2, h3 => by
    unfold backN at h1
    split at h1
    · omega
    · rename_i y hy
      split at h1
      · rename_i hf
        by_cases e : j = k
        · subst e
          rw [hy] at h3
          injection h3 with h3
          subst h3
          exact hf
        · exact backN_after f l k j x h1 (by omega) h3
      · omega
theorem backN_last (f : Int) (l : List (Nat × Int)) : ∀ k x, k ≤ l.length → 0 < backN f l k → l[backN f l k - 1]? = some x → x.2 ≤ f
  | 0, x, _, h, _ => by simp [backN] at h
  | k + 1, x, hl, h, hx => by
    unfold backN at h hx
    split at h
    · rename_i hn
      have := List.getElem?_eq_none_iff.1 hn
      omega
    · rename_i y hy
      rw [hy] at hx
      simp only at hx
      by_cases hf : y.2 > f
      · rw [if_pos hf] at h hx
        exact backN_last f l k x (by omega) h hx
      · rw [if_neg hf] at hx
        rw [show k + 1 - 1 = k by omega, hy] at hx
        injection hx with hx
        subst hx
        omega
theorem insN_perm (v : Nat) (f : Int) (l : List (Nat × Int)) : (insN v f l).Perm (l ++ [(v, f)]) := by
  unfold insN
  refine List.perm_middle.trans ?_
  rw [List.take_append_drop]
  exact (List.perm_append_singleton _ _).symm
theorem insN_sorted {v : Nat} {f : Int} {l : List (Nat × Int)} (hs : l.Pairwise Nearer) (hv : ∀ x ∈ l, x.1 < v) : (insN v f l).Pairwise Nearer := by
  unfold insN
  obtain ⟨k, hk⟩ : ∃ k, k = backN f l l.length := ⟨_, rfl⟩
  rw [← hk]
  have hkl : k ≤ l.length := by rw [hk]; exact backN_le f l _
  have hsp := hs
  rw [← List.take_append_drop k l] at hsp
  rw [List.pairwise_append] at hsp
  obtain ⟨p1, p2, p3⟩ := hsp
  have before : ∀ x ∈ l.take k, Nearer x (v, f) := by
    intro x hx
    obtain ⟨i, hi, hxi⟩ := List.getElem_of_mem hx
    have hik : i < k := by rw [List.length_take] at hi; omega
    have hlast : ∃ y, l[k - 1]? = some y := ⟨_, List.getElem?_eq_getElem (by omega)⟩
    obtain ⟨y, hy⟩ := hlast
    have hyf := backN_last f l l.length y (Nat.le_refl _) (by omega) (by rw [← hk]; exact hy)
    have hxe : l[i]? = some x := by
      rw [← hxi, List.getElem_take]
      exact List.getElem?_eq_getElem _
    have hxv := hv x (List.mem_of_getElem? hxe)
    have hxf : x.2 ≤ f := by
      by_cases e : i = k - 1
      · subst e
        rw [hy] at hxe
        injection hxe with hxe
        subst hxe
        exact hyf
      · have hi' : i < l.length := (List.getElem?_eq_some_iff.1 hxe).1
        have hj' : k - 1 < l.length := by omega
        have := List.pairwise_iff_getElem.1 hs i (k - 1) hi' hj' (by omega)
        rw [(List.getElem?_eq_some_iff.1 hxe).2, (List.getElem?_eq_some_iff.1 hy).2] at this
        unfold Nearer at this
        omega
    unfold Nearer
    simp only
    omega
  have after : ∀ x ∈ l.drop k, Nearer (v, f) x := by
    intro x hx
    obtain ⟨i, hi, hxi⟩ := List.getElem_of_mem hx
    rw [List.length_drop] at hi
    have hxe : l[k + i]? = some x := by
      rw [← hxi, List.getElem_drop]
      exact List.getElem?_eq_getElem _
    have := backN_after f l l.length (k + i) x (by rw [← hk]; omega) (by omega) hxe
    exact Or.inl this
  rw [List.pairwise_append]
  refine ⟨p1, List.pairwise_cons.2 ⟨after, p2⟩, ?_⟩
  intro a ha b hb
  rcases List.mem_cons.1 hb with rfl | hb
  · exact before a ha
  · exact p3 a ha b hb
/-- Two sorted lists of the same places are one. -/
theorem nears_one : ∀ {a b : List (Nat × Int)}, a.Pairwise Nearer → b.Pairwise Nearer → a.Perm b → a = b
  | [], b, _, _, h => (List.Perm.nil_eq h)
  | x :: a, [], _, _, h => by have := h.length_eq; simp at this
  | x :: a, y :: b, ha, hb, h => by
    rw [List.pairwise_cons] at ha hb
    have e : x = y := by
      have h1 : x ∈ y :: b := h.mem_iff.1 (by simp)
      have h2 : y ∈ x :: a := h.mem_iff.2 (by simp)
      rcases List.mem_cons.1 h1 with e | h1
      · exact e
      · rcases List.mem_cons.1 h2 with e | h2
        · exact e.symm
        · exact (Nearer.irrefl _ ((hb.1 x h1).trans (ha.1 y h2))).elim
    subst e
    rw [nears_one ha.2 hb.2 (List.Perm.cons_inv h)]
end Pu
end Go.Proofs.YtdogncjcainhlaaGreatDoor
/- Places by how far they are: slices.SortFunc with Around's closure; slices.Clone of places. -/
namespace Go.Proofs.YtdogncjcainhlaaGreatDoor
open Go.RowKit Go.Deep
open Mem

namespace Pu
/-- What Around's closure makes of two places. -/
def nearCmp (a b : Nat × Int) : Int := or2 (sgn a.2 b.2) (sgn a.1 b.1)
theorem nearCmp_lt (a b : Nat × Int) : ltOf nearCmp a b = true ↔ Nearer a b := by
  unfold ltOf nearCmp or2 sgn Nearer
  rw [decide_eq_true_iff]
  repeat' split
  all_goals omega
theorem nearCmp_no (a b : Nat × Int) : ltOf nearCmp a b = false ↔ ¬ Nearer a b := by rw [← nearCmp_lt, Bool.not_eq_true]
theorem nearCmp_swo : Sort.SWO (ltOf nearCmp) := {
  irrefl := fun x => by rw [nearCmp_no]; exact Nearer.irrefl x
  trans := fun x y z h1 h2 => by rw [nearCmp_lt] at *; exact h1.trans h2
  ntrans := fun x y z h1 h2 => by rw [nearCmp_no] at *; unfold Nearer at *; omega }
theorem nearCmp_one (x y : Nat × Int) (h : ltOf nearCmp x y = false) (k : ltOf nearCmp y x = false) : x = y := by
  rw [nearCmp_no] at h k
  exact Nearer.total h k
/-- Places sorted by how far they are. -/
def srt (l : List (Nat × Int)) : List (Nat × Int) := l.mergeSort fun x y => !(ltOf nearCmp) y x
theorem srt_perm (l : List (Nat × Int)) : (srt l).Perm l := List.mergeSort_perm _ _
theorem srt_len (l : List (Nat × Int)) : (srt l).length = l.length := (srt_perm l).length_eq
theorem srt_sorted {l : List (Nat × Int)} (h : l.Nodup) : (srt l).Pairwise Nearer := by
  have h1 : (srt l).Pairwise fun x y => (!(ltOf nearCmp) y x) = true := List.pairwise_mergeSort (le := fun x y => !(ltOf nearCmp) y x)
    (fun a b c h1 h2 => by
      simp only [Bool.not_eq_true', nearCmp_no] at *
      unfold Nearer at *; omega)
    (fun a b => by
      cases e : ltOf nearCmp b a with
      | false => simp
      | true =>
        have h2 : ltOf nearCmp a b = false := by
          rw [nearCmp_lt] at e; rw [nearCmp_no]; unfold Nearer at *; omega
        simp [h2]) l
  have h2 : (srt l).Nodup := (srt_perm l).symm.nodup h
  exact (List.pairwise_and_iff.2 ⟨h1, h2⟩).imp (fun {a b} ⟨c1, c2⟩ => by
    have c1 : ltOf nearCmp b a = false := by simpa using c1
    rw [nearCmp_no] at c1
    by_cases e : Nearer a b
    · exact e
    · exact absurd (Nearer.total e c1) c2)
theorem nearL_below (lab : Nat → List (Nat × Int)) (f : Nat) : ∀ n, ∀ y ∈ nearL lab f n, y.1 < n ∧ y.1 ≠ f
  | 0 => fun y hy => by simp [nearL] at hy
  | v + 1 => fun y hy => by
    rw [nearL, List.mem_append] at hy
    rcases hy with hy | hy
    · have := nearL_below lab f v y hy; exact ⟨by omega, this.2⟩
    · split at hy
      · simp at hy
      · rename_i hv
        split at hy
        · simp at hy
        · rw [List.mem_singleton.1 hy]; exact ⟨by simp, hv⟩
theorem nearL_nodup (lab : Nat → List (Nat × Int)) (f : Nat) : ∀ n, (nearL lab f n).Nodup
  | 0 => List.nodup_nil
  | v + 1 => by
    have h1 := nearL_nodup lab f v
    have h2 := nearL_below lab f v
    rw [nearL]
    split
    · rw [List.append_nil]; exact h1
    · split
      · rw [List.append_nil]; exact h1
      · rw [List.nodup_append]
        refine ⟨h1, by simp, fun a ha b hb => ?_⟩
        rw [List.mem_singleton.1 hb]
        intro e
        have := (h2 a ha).1
        rw [e] at this
        exact Nat.lt_irrefl _ this
end Pu
/-- The cells of a place. -/
def nearE (p : Nat × Int) : List Value := [.int .i64 (p.1 : Int), .int .i64 p.2]
theorem flat_near (d : Array (Nat × Int)) : (Sort.flatK nearE 2 d).toList = hubV d.toList := by
  refine List.ext_getElem? fun t => ?_
  by_cases ht : t < d.size * 2
  · have hq : t / 2 < d.toList.length := by simp; omega
    obtain ⟨r, f⟩ : ∃ p : Nat × Int, d.toList[t / 2]? = some p := ⟨_, List.getElem?_eq_getElem hq⟩
    have h1 := hubV_get d.toList (t / 2) r.1 r.2 f
    have h2 : d[t / 2]! = r := by
      have : d[t / 2]? = some r := by rw [← Array.getElem?_toList]; exact f
      rw [getElem!_def, this]
    have h3 := Sort.get_flatK nearE 2 d t ht
    rw [h2] at h3
    have h4 : (Sort.flatK nearE 2 d).toList[t]? = some ((Sort.flatK nearE 2 d)[t]!) := by
      rw [Array.getElem?_toList, Array.getElem?_eq_getElem (by simpa using ht), getElem!_pos _ _ (by simpa using ht)]
    rw [h4, h3]
    rcases Nat.mod_two_eq_zero_or_one t with c | c
    · have e : t / 2 * 2 = t := by omega
      rw [c]
      have := h1.1
      rw [e] at this
      rw [this]; rfl
    · have e : t = t / 2 * 2 + 1 := by omega
      rw [c]
      have := h1.2
      rw [← e] at this
      rw [this]; rfl
  · rw [List.getElem?_eq_none (by simp; omega), List.getElem?_eq_none (by rw [hubV_len]; simp; omega)]
theorem alloc3_grow (W : World) (o1 o2 o3 : Obj) : (((W.alloc o1).alloc o2).alloc o3).drew = Sort.grow (W.drewN 1) #[o1, o2, o3] := by
  unfold Sort.grow
  show (((W.alloc o1).alloc o2).alloc o3).drew = { W.drewN 1 with heap := W.heap ++ #[o1, o2, o3] }
  have e : W.heap ++ #[o1, o2, o3] = ((W.heap.push o1).push o2).push o3 := by
    apply Array.ext'
    simp
  rw [e]
  rfl
set_option maxRecDepth 100000 in
set_option maxHeartbeats 400000 in
theorem nearClo_any (W : World) (pa pb : Nat) (fa fb : Int) :
    Calls Tryz.prog 50 #[.agg #[.int .i64 (pa : Int), .int .i64 fa], .agg #[.int .i64 (pb : Int), .int .i64 fb]] W fun e w' => e = .returned (.int .i64 (Pu.or2 (Pu.sgn fa fb) (Pu.sgn pa pb))) ∧ ∃ q os', w' = Sort.grow (W.drewN q) os' := by
  obtain ⟨W2, hW2⟩ : ∃ W2, W2 = (W.alloc (.cells #[.int .i64 (pa : Int), .int .i64 fa] 66)).alloc (.cells #[.int .i64 (pb : Int), .int .i64 fb] 66) := ⟨_, rfl⟩
  have a0 : W2.cell? ⟨W.heap.size, 0, none⟩ = some (.int .i64 (pa : Int)) := by rw [hW2]; simp
  have a1 : W2.cell? ⟨W.heap.size, 1, none⟩ = some (.int .i64 fa) := by rw [hW2]; simp
  have b0 : W2.cell? ⟨W.heap.size + 1, 0, none⟩ = some (.int .i64 (pb : Int)) := by rw [hW2]; simp
  have b1 : W2.cell? ⟨W.heap.size + 1, 1, none⟩ = some (.int .i64 fb) := by rw [hW2]; simp
  have HW2 : Hid ((W.alloc (.cells #[.int .i64 (pa : Int), .int .i64 fa] 66)).alloc (.cells #[.int .i64 (pb : Int), .int .i64 fb] 66) = W2) := hW2.symm
  have HE : Hid ((W2.alloc (.cells #[.int .i64 (Pu.sgn fa fb), .int .i64 (Pu.sgn pa pb)] 3)).drew = Sort.grow (W.drewN 1) #[.cells #[.int .i64 (pa : Int), .int .i64 fa] 66, .cells #[.int .i64 (pb : Int), .int .i64 fb] 66, .cells #[.int .i64 (Pu.sgn fa fb), .int .i64 (Pu.sgn pa pb)] 3]) := by show _ = _; rw [hW2]; exact alloc3_grow W _ _ _
  have K3 : Calls Tryz.prog 51 #[.slice (some ⟨W2.heap.size, 0, none⟩) 2 2] (W2.alloc (.cells #[.int .i64 (Pu.sgn fa fb), .int .i64 (Pu.sgn pa pb)] 3)).drew fun e w' => e = .returned (.int .i64 (Pu.or2 (Pu.sgn fa fb) (Pu.sgn pa pb))) ∧ w' = (W2.alloc (.cells #[.int .i64 (Pu.sgn fa fb), .int .i64 (Pu.sgn pa pb)] 3)).drew :=
    or_any _ _ _ _ (by show (W2.alloc _).cell? _ = _; rw [World.cell?_alloc_new]; rfl) (by show (W2.alloc _).cell? _ = _; rw [World.cell?_alloc_new]; rfl)
  clear hW2
  go_enter Tryz.func50, Tryz.ntmps50
  go_wp2_with fail
  rw [HW2.out]
  go_region_held3 (fun w' => w'.cell? ⟨W.heap.size, 0, none⟩ = some (.int .i64 (pa : Int)) ∧ w'.cell? ⟨W.heap.size, 1, none⟩ = some (.int .i64 fa) ∧ w'.cell? ⟨W.heap.size + 1, 0, none⟩ = some (.int .i64 (pb : Int)) ∧ w'.cell? ⟨W.heap.size + 1, 1, none⟩ = some (.int .i64 fb)) (go_keep)
    (first
      | (go_at_call 52; refine (compare_any _ _ _).mono ?_; rintro e1 w1 ⟨rfl, hw1⟩; subst hw1)
      | (go_at_call 51; refine K3.mono ?_; rintro e1 w1 ⟨rfl, hw1⟩; subst hw1))
  all_goals clear K3
  all_goals go_wp2
  all_goals go_ret
  all_goals exact ⟨rfl, 1, _, HE.out⟩
def cloneRen : Go.Shelf.Ren := ⟨fun | 41 => 53 | n => n, fun | 22 => 62 | 23 => 66 | 4 => 4 | n => n, fun | n => n⟩
theorem cloneLays : Go.Proofs.SlLaysE0.n41 Tryz.prog cloneRen := {
  mixed := by kernel_rfl
  f41 := ⟨Tryz.f53.name, by decide, Tryz.func53.trans (congrArg some (by kernel_rfl))⟩
  t4 := Tryz.underlying4
  a4 := Tryz.isAgg4
  z4 := Tryz.sizeOf4
  v4 := Tryz.zeroValue4
  t22 := Tryz.underlying62
  a22 := Tryz.isAgg62
  z22 := Tryz.sizeOf62
  v22 := Tryz.zeroValue62 }
/-- slices.Clone of places. -/
theorem clone_nil (m c : Nat) (w : World) : Calls Tryz.prog 53 #[.slice none m c] w fun e w' => e = .returned (.slice none 0 0) ∧ w' = w := AnyE.slices_Clone_nil cloneLays m c w
theorem clone_row {w : World} {g m c : Nat} {N : List (Nat × Int)} (hN : N.length = m) (hm : m ≤ 1000) (hc : ∀ (j : Nat) (u : Value), (hubV N)[j]? = some u → w.cell? ⟨g, j, none⟩ = some u) :
    Calls Tryz.prog 53 #[.slice (some ⟨g, 0, none⟩) m c] w fun e w' => ∃ v', e = .returned v' ∧ w'.ownsRow w.heap.size 66 2 v' m (hubV N) ∧ Turns (fun _ => False) w w' := by
  obtain ⟨i0, hi, hz0, hz1, hz2⟩ := info_parts infoNear
  refine (AnyE.slices_Clone cloneLays i0 _ 2 16 hi hz0 hz1 hz2 rfl (by decide) Tryz.sizeOf66 g 0 m c (hubV N) w (by rw [hubV_len, hN]) (by unfold maxLen; omega) (by omega) (fun j u hj => ?_) (fun u hu => ?_)).mono ?_
  · rw [Nat.zero_add]; exact hc j u hj
  · obtain ⟨y, _, hy⟩ := List.mem_flatMap.1 hu
    simp at hy
    rcases hy with rfl | rfl <;> rfl
  · rintro e w' ⟨v', rfl, h1, _, h2⟩
    exact ⟨v', rfl, h1, Turns.of_below h2 _ (fun k h3 h4 => by omega)⟩
theorem sortWorldK_turns (w : World) (blk off m : Nat) (d : Array (Nat × Int)) (os : Array Obj) : Turns (fun k => k = blk) w (sortWorldK nearE 2 w blk off m d os) := by
  have h0 : Turns (fun k => k = blk) w (Sort.ahead w m) := ⟨rfl, rfl, rfl, Nat.le_refl _, fun _ _ _ => rfl⟩
  exact (h0.trans (putRow_turns id _ blk off (Sort.flatK nearE 2 d))).trans ((grow_turns _ os).mono (fun _ _ h => h.elim))
/-- slices.SortFunc of places with Around's closure. -/
theorem nearSort_any {w : World} {base : Nat} {x : Value} {N : List (Nat × Int)} (h : w.ownsRow base 66 2 x N.length (hubV N)) (hN : N.length ≤ 1000) :
    Calls Tryz.prog 49 #[x, .func (.func 50) #[] #[]] w fun e w' => e = .returned (.tuple #[]) ∧ Turns (fun k => x.ownBlock = some k) w w' ∧ ∀ g, x.ownBlock = some g → ∀ (j : Nat) (u : Value), (hubV (Pu.srt N))[j]? = some u → w'.cell? ⟨g, j, none⟩ = some u := by
  rcases h.2 with ⟨hx, hn⟩ | ⟨g, cap, cur, hx, _⟩
  · subst hx
    refine (slices_SortFunc_near0 none 0 _ w).mono ?_
    rintro e w' ⟨rfl, rfl⟩
    exact ⟨rfl, Turns.refl _ _, fun g hg => by cases hg⟩
  · subst hx
    by_cases hz : N.length = 0
    · rw [hz]
      refine (slices_SortFunc_near0 _ cap _ w).mono ?_
      rintro e w' ⟨rfl, rfl⟩
      refine ⟨rfl, Turns.refl _ _, fun g _ j u hj => ?_⟩
      have : N = [] := List.eq_nil_of_length_eq_zero hz
      subst this
      simp [Pu.srt, hubV] at hj
    · have hgl := (World.ownsRow.lt h g rfl).2
      have eg : ∀ args w, (callFunc 50 args).run Tryz.prog w = .ok (.enter 50 args) w := enters_of Tryz.func50 (by kernel_rfl) rfl
      have hcmp : CmpLays Tryz.prog 50 #[] nearE 2 Pu.nearCmp g 0 N.toArray.size w := by
        intro m os dk _ x y
        exact nearClo_any _ x.1 y.1 x.2 y.2
      have hH : Sort.HoldsK nearE 2 w g 0 N.toArray := by
        intro j hj
        have hj' : j < N.length * 2 := by simpa using hj
        have e1 : (Sort.flatK nearE 2 N.toArray)[j]! = ((hubV N)[j]?).getD default := by
          have ef : (Sort.flatK nearE 2 N.toArray).toList = hubV N := flat_near N.toArray
          rw [← ef, Array.getElem?_toList, getElem!_def]
          cases (Sort.flatK nearE 2 N.toArray)[j]? <;> rfl
        obtain ⟨u, hu⟩ : ∃ u, (hubV N)[j]? = some u := ⟨_, List.getElem?_eq_getElem (by rw [hubV_len]; exact hj')⟩
        rw [e1, hu, Nat.zero_add]
        exact ⟨(World.ownsRow.cellAt h j hj').trans hu, World.ownsRow.frozenAt h j⟩
      have k := slices_SortFunc_near nearE (fun _ => rfl) (fun x v hv => by simp [nearE] at hv; rcases hv with rfl | rfl <;> rfl) Pu.nearCmp Pu.nearCmp_swo 50 #[] g 0 cap N.toArray w eg hcmp hH hgl (by simp; omega) Pu.nearCmp_one
      have hs : N.toArray.size = N.length := by simp
      rw [hs] at k
      refine k.mono ?_
      rintro e w' ⟨rfl, m, os, rfl⟩
      refine ⟨rfl, (sortWorldK_turns _ _ _ _ _ _).mono (fun q _ hq => by rw [hq]; rfl), fun g' hg' j u hj => ?_⟩
      have hg' : some g = some g' := hg'
      injection hg' with hg'
      subst hg'
      have e3 : (N.toArray.toList.mergeSort fun x y => !(ltOf Pu.nearCmp) y x) = Pu.srt N := rfl
      rw [e3]
      have h4 := holdsK_sortWorldK_c nearE 2 w g 0 N.toArray (Pu.srt N).toArray m os hH hgl (by simp [Pu.srt_len])
      have hjl : j < (Pu.srt N).length * 2 := by have := (List.getElem?_eq_some_iff.1 hj).1; rwa [hubV_len] at this
      have h5 := (h4 j (by simpa using hjl)).1
      rw [Nat.zero_add] at h5
      rw [h5]
      have e1 : (Sort.flatK nearE 2 (Pu.srt N).toArray)[j]! = ((hubV (Pu.srt N))[j]?).getD default := by
        have ef : (Sort.flatK nearE 2 (Pu.srt N).toArray).toList = hubV (Pu.srt N) := flat_near (Pu.srt N).toArray
        rw [← ef, Array.getElem?_toList, getElem!_def]
        cases (Sort.flatK nearE 2 (Pu.srt N).toArray)[j]? <;> rfl
      rw [id, e1, hj]; rfl
end Go.Proofs.YtdogncjcainhlaaGreatDoor
/- The walk of the reference's Around. -/
namespace Go.Proofs.YtdogncjcainhlaaGreatDoor
open Go.RowKit Go.Deep
open Mem

theorem infoRNear : (Tryz.prog.info? 110).map (fun i => (i.zero, i.size, i.bytes)) = some (some (.agg #[.int .i64 0, .int .i64 0]), 2, 16) := by kernel_rfl
theorem run_append_none {P : Program} (w : World) (t ty e : TypeId) (i : TypeInfo) (ht : P.underlying t = some (.slice e)) (hi : P.info? e = some i) (base ax : Option Addr) (n cap c : Nat) (hle : n ≤ cap) :
    (Builtin.append_ #[t, t] ty #[.slice base n cap, .slice ax 0 c]).run P w = .ok (.slice base n cap) w := by
  cases base <;> cases ax <;> simp [Builtin.append_, run_underlying ht, sizeOf, typeInfo, hi, hle, storeCells, Builtin.firstCells, Builtin.lenOf, loadCells, loadCellsFrom]
/-- append of a row, at the operation. -/
theorem wpList_append_row {P : Program} {ops : Array Oper} {rest : List Oper} {o : Oper} {a : Act} {Q : Exit → Act → World → Prop} (hgd : o.guard = none) (s x : Operand) (t : TypeId) (ho : o.op = .call { callee := .builtin .append, args := #[s, x], argTypes := #[t, t] })
    (e : TypeId) (size bytes : Nat) (z : Value) (ht : P.underlying t = some (.slice e)) (hinfo : (P.info? e).map (fun i => (i.zero, i.size, i.bytes)) = some (some z, size, bytes)) (hzs : z.cells.size = size) (hsz : 0 < size)
    (w0 w : World) (v0 v : Value) (base n : Nat) (xs : List Value) (ax : Option Addr) (m c : Nat) (news : List Value) (hnl : news.length = m * size) (hcell : ∀ j u, news[j]? = some u → ∃ ad, ax = some ad ∧ w.cell? (ad.add j) = some u) (h1 : ∀ u ∈ news, u.oneCell' = true) (h : OwnG w0 v0 base e size v n xs w) (hb : base ≤ w.heap.size) (hl : (n + m) * bytes ≤ 140737488355328) (hl2 : n + m ≤ 140737488355328)
    (hs : a.eval s = v) (hx : a.eval x = .slice ax m c)
    (hk : ∀ v' w3, OwnG w0 v0 base e size v' (n + m) (xs ++ news) w3 → wpList P ops Q rest (a.put o.dst v') w3) : wpList P ops Q (o :: rest) a w := by
  obtain ⟨i0, hi, hz0, hz1, hz2⟩ := info_parts hinfo
  by_cases hm : m = 0
  · subst hm
    have hn0 : news = [] := List.eq_nil_of_length_eq_zero (by omega)
    subst hn0
    obtain ⟨base', cap, hv, hle⟩ : ∃ base' cap, v = .slice base' n cap ∧ n ≤ cap := by
      rcases h.own.2 with ⟨h2, h3⟩ | ⟨g, cap, cur, h2, _, _, h3, _⟩
      · exact ⟨none, 0, by rw [h2, h3], by omega⟩
      · exact ⟨_, cap, h2, h3⟩
    have hr := run_append_none (P := P) w t o.type e i0 ht hi base' ax n cap c hle
    refine wpList_plain hgd fun K hK => ?_
    unfold Oper.wp execOp
    simp only [ho, resolve, invoke, builtin, Sem.run_bind, Sem.run_pure, Result.andThen_ok, List.map_toArray, List.map_cons, List.map_nil, hs, hx, hv, hr]
    refine hK _ _ ?_
    rw [← hv]
    have := hk v w (by simpa using h)
    exact this
  · obtain ⟨u0, hu0⟩ : ∃ u, news[0]? = some u := ⟨_, List.getElem?_eq_getElem (by rw [hnl]; exact Nat.mul_pos (by omega) hsz)⟩
    obtain ⟨ad, had, _⟩ := hcell 0 u0 hu0
    subst had
    refine wpList_append_own_at (w := w) hgd s x t ho base e i0 z size bytes ht hi hz0 hz1 hz2 hzs hsz v n xs hs h.own ad m c news hx hnl ?_ h1 ?_ hl hb ?_
    · intro j u hj
      obtain ⟨ad', e1, e2⟩ := hcell j u hj
      injection e1 with e1
      rw [e1]
      exact e2
    · unfold maxLen; omega
    · intro v' w3 hown3 hgrow _ hat
      refine hk v' w3 ⟨hown3, h.turns.grown hgrow ?_, ?_⟩
      · intro q hq
        rcases h.block q hq with h | h
        · exact Or.inr h
        · exact Or.inl h
      · intro b hb
        rcases hat with e | e
        · exact h.block b (by rw [← e]; exact hb)
        · rw [e] at hb
          injection hb with hb
          have := h.turns.size
          exact Or.inr (by omega)
namespace Pu
/-- The first places, put in one by one. -/
def insL (lab : Nat → List (Nat × Int)) (f : Nat) : Nat → List (Nat × Int)
  | 0 => []
  | v + 1 => if v = f then insL lab f v else match best none (lab f) (lab v) with
    | none => insL lab f v
    | some (_, x) => insN v x (insL lab f v)
theorem insL_perm (lab : Nat → List (Nat × Int)) (f : Nat) : ∀ n, (insL lab f n).Perm (nearL lab f n)
  | 0 => List.Perm.refl _
  | v + 1 => by
    have ih := insL_perm lab f v
    rw [insL, nearL]
    by_cases c : v = f
    · rw [if_pos c, if_pos c, List.append_nil]; exact ih
    · rw [if_neg c, if_neg c]
      cases best none (lab f) (lab v) with
      | none => simp only [List.append_nil]; exact ih
      | some z => exact (insN_perm _ _ _).trans (List.Perm.append_right _ ih)
theorem insL_sorted (lab : Nat → List (Nat × Int)) (f : Nat) : ∀ n, (insL lab f n).Pairwise Nearer
  | 0 => List.Pairwise.nil
  | v + 1 => by
    have ih := insL_sorted lab f v
    rw [insL]
    split
    · exact ih
    · split
      · exact ih
      · exact insN_sorted ih (fun x hx => (nearL_below lab f v x ((insL_perm lab f v).mem_iff.1 hx)).1)
theorem insL_srt (lab : Nat → List (Nat × Int)) (f n : Nat) : insL lab f n = srt (nearL lab f n) :=
  nears_one (insL_sorted lab f n) (srt_sorted (nearL_nodup lab f n)) ((insL_perm lab f n).trans (srt_perm _).symm)
theorem insL_len (lab : Nat → List (Nat × Int)) (f n : Nat) : (insL lab f n).length ≤ n := by
  rw [(insL_perm lab f n).length_eq]; exact nearL_len lab f n
end Pu
set_option maxRecDepth 100000 in
set_option maxHeartbeats 2000000 in
theorem raround_node {w : World} {s0 s1 b og oc lg lc fg fc hg hc : Nat} {O : List Nat} {lab : Nat → List (Nat × Int)} {st : Nat → Nat} {c : Nat} {kv : Value} {K : List Nat} {r : Nat} (p q : Int) (h : RSt w s0 s1 b og oc lg lc fg fc hg hc O lab st c kv K r) (hp : ¬ (0 ≤ p ∧ p < (O.length : Int))) :
    Calls Tryz.prog 36 #[.pointer (some ⟨b, 0, none⟩), .int .i64 p, .int .i64 q] w fun e w' => e = .returned (.tuple #[.slice none 0 0, .int .i64 5]) ∧ w' = w := by
  have c0 := h.box.c0
  have d0 := h.box.lt
  clear h
  have hq : p < 0 ∨ (¬ p < 0 ∧ (O.length : Int) ≤ p) := by omega
  clear hp
  rcases hq with q1 | ⟨q1, q2⟩
  all_goals
    go_enter Tryz.func36, Tryz.ntmps36
    go_wp2
    exact bodyPost_ret (v := .tuple #[.slice none 0 0, .int .i64 5]) (by simp [results, Tryz.results36, go_sem]) rfl ⟨rfl, rfl⟩
set_option maxRecDepth 100000 in
set_option maxHeartbeats 2000000 in
theorem raround_conf {w : World} {s0 s1 b og oc lg lc fg fc hg hc : Nat} {O : List Nat} {lab : Nat → List (Nat × Int)} {st : Nat → Nat} {c : Nat} {kv : Value} {K : List Nat} {r : Nat} (p q : Int) (h : RSt w s0 s1 b og oc lg lc fg fc hg hc O lab st c kv K r) (hp : 0 ≤ p ∧ p < (O.length : Int)) (hq : q < 0 ∨ 40 < q) :
    Calls Tryz.prog 36 #[.pointer (some ⟨b, 0, none⟩), .int .i64 p, .int .i64 q] w fun e w' => e = .returned (.tuple #[.slice none 0 0, .int .i64 7]) ∧ w' = w := by
  have c0 := h.box.c0
  have d0 := h.box.lt
  clear h
  have q1 : ¬ p < 0 := by omega
  have q2 : ¬ (O.length : Int) ≤ p := by omega
  have hq2 : q < 0 ∨ (¬ q < 0 ∧ q > 40) := by omega
  clear hp hq
  rcases hq2 with q3 | ⟨q3, q4⟩
  all_goals
    go_enter Tryz.func36, Tryz.ntmps36
    go_wp2
    exact bodyPost_ret (v := .tuple #[.slice none 0 0, .int .i64 7]) (by simp [results, Tryz.results36, go_sem]) rfl ⟨rfl, rfl⟩
end Go.Proofs.YtdogncjcainhlaaGreatDoor
/- The walk of a store's others. -/
namespace Go.Proofs.YtdogncjcainhlaaGreatDoor
open Go.RowKit Go.Deep
open Mem

/-- What a place adds. -/
def Pu.nearO (i : Nat) : Option (Nat × Int) → List (Nat × Int)
  | none => []
  | some (_, y) => [(i, y)]
theorem hubs_some {w : World} {a : Option Addr} {L : List (Nat × Int)} (h : HubAt w a L) (hn : L ≠ []) : ∃ g, a = some ⟨g, 0, none⟩ ∧ g < w.heap.size := by
  cases L with
  | nil => exact absurd rfl hn
  | cons y t =>
    obtain ⟨r, f⟩ := y
    obtain ⟨g, h1, h2, _⟩ := h 0 r f rfl
    exact ⟨g, h1, World.block_lt_of_cell? _ _ h2⟩
set_option maxRecDepth 100000 in
set_option maxHeartbeats 2000000 in
theorem others_any {w : World} {b og oc sg sc : Nat} {O : List Nat} {st : Nat → Nat} {S : ByteArray} {c : Nat} {kv : Value} {K : List Nat} {r f : Nat} {lab : Nat → List (Nat × Int)} (L : Labs S O st lab) (h : StoreAt w b og oc sg sc O st S c 1 kv K r) (hf : f < O.length) (hc1 : 1 ≤ c) (hc8 : c ≤ 8) (hK : Pu.Keeps c K) (hr : r ≤ 8000000000000000) :
    Calls Tryz.prog 48 #[.pointer (some ⟨b, 0, none⟩), .int .i64 (f : Int)] w fun e w' => ∃ x kv' g1, e = .returned x ∧ OthAt w b og oc sg sc O st S c kv lab f g1 (Pu.lookA c st f (Pu.lookP c st (K, r) f) O.length) (Pu.nearL lab f O.length) x kv' w' := by
  have HL : Hid (Labs S O st lab) := L
  have HC : Hid (∀ (i : Nat) (LK : List Nat × Nat) (w2 : World) (kv2 : Value), i < O.length → Pu.Keeps c LK.1 → LK.2 ≤ 9000000000000000 → StoreAt w2 b og oc sg sc O st S c 1 kv2 LK.1 LK.2 → Calls Tryz.prog 45 #[.pointer (some ⟨b, 0, none⟩), .int .i64 (i : Int)] w2 fun e w' => ∃ a hc kv', e = .returned (.slice a (lab i).length hc) ∧ HubAt w' a (lab i) ∧ (lab i).length ≤ hc ∧ (∀ x, (Value.slice a (lab i).length hc).ownBlock = some x → w2.heap.size ≤ x ∧ kv'.ownBlock ≠ some x) ∧ StoreAt w' b og oc sg sc O st S c 1 kv' (Pu.lookP c st LK i).1 (Pu.lookP c st LK i).2 ∧ (∀ x, kv'.ownBlock = some x → kv2.ownBlock = some x ∨ w2.heap.size ≤ x) ∧ Turns (fun x => x = b ∨ kv2.ownBlock = some x) w2 w') := fun i LK w2 kv2 hi hk hl h2 => label_any h2 L.n1 L.n40 hi hc1 hc8 hk (by omega) (L.lt i hi) (L.le i hi) L.size L.s28 (L.of i hi)
  have HK1 : Hid (Pu.Keeps c (Pu.lookP c st (K, r) f).1 ∧ (Pu.lookP c st (K, r) f).2 ≤ r + 2200) := L.looks hf hc1 hK
  have HK2 : Hid (∀ (i : Nat) (LK : List Nat × Nat), i < O.length → Pu.Keeps c LK.1 → Pu.Keeps c (Pu.lookP c st LK i).1 ∧ (Pu.lookP c st LK i).2 ≤ LK.2 + 2200) := fun i LK hi hk => L.looks (K := LK.1) (r := LK.2) hi hc1 hk
  have HST : Hid (StoreAt w b og oc sg sc O st S c 1 kv K r) := h
  have hn40 := L.n40
  have CF := HC.out f (K, r) w kv hf hK (by omega) h
  obtain ⟨LP, hLP⟩ : ∃ LP, LP = Pu.lookP c st (K, r) f := ⟨_, rfl⟩
  rw [← hLP] at HK1 CF ⊢
  obtain ⟨n, hn⟩ : ∃ n, n = O.length := ⟨_, rfl⟩
  have HN : Hid (n = O.length) := hn
  have hfn : f < n := by omega
  have hn40' : n ≤ 40 := by omega
  obtain ⟨l1, hl1⟩ : ∃ l, l = (lab f).length := ⟨_, rfl⟩
  have HL1 : Hid (l1 = (lab f).length) := hl1
  rw [← hl1] at CF
  rw [← hn]
  clear h L hK hLP hl1 hn hf hn40
  go_enter Tryz.func48, Tryz.ntmps48
  go_wp2_with fail
  refine CF.mono ?_
  rintro e w1 ⟨a1, hc1', kv1, rfl, hA1, hlc1, ho1, hS1, hq1, hT1⟩
  obtain ⟨g1, ha1, hg1⟩ := hubs_some hA1 (HL.out.ne f (by rw [← HN.out]; exact hfn))
  subst ha1
  have HA1 : Hid (HubAt w1 (some ⟨g1, 0, none⟩) (lab f) ∧ l1 ≤ hc1' ∧ w.heap.size ≤ g1 ∧ kv1.ownBlock ≠ some g1) := ⟨hA1, hlc1, ho1 g1 rfl⟩
  have HS1 : Hid (StoreAt w1 b og oc sg sc O st S c 1 kv1 LP.1 LP.2) := hS1
  have HQ1 : Hid (∀ x, kv1.ownBlock = some x → kv.ownBlock = some x ∨ w.heap.size ≤ x) := hq1
  have HT1 : Hid (Turns (fun x => x = b ∨ kv.ownBlock = some x) w w1) := hT1
  have e2 := HS1.out.box.c2
  have e3 := HS1.out.box.c3
  have hbl := HS1.out.box.lt
  rw [← HN.out] at e2 e3
  clear hA1 hlc1 ho1 hS1 hq1 hT1 hg1 CF
  go_wp2_with fail
  refine (places_any w1 og oc n (some ⟨sg, 0, none⟩) (n + 1) sc).mono ?_
  rintro e w2 ⟨rfl, hT2⟩
  have H2 : Hid (OthAt w b og oc sg sc O st S c kv lab f g1 (Pu.lookA c st f LP 0) (Pu.nearL lab f 0) (.slice none 0 0) kv1 w2 ∧ (Pu.lookA c st f LP 0).2 ≤ r + 2200 * (0 + 1)) := by
    refine ⟨⟨HS1.out.turns0 hT2, HK1.out.1, World.ownsRow_nil _ _ _ _, HA1.out.1.turns hT2, ?_, HA1.out.2.2.2, (by intro c; cases c), HQ1.out, HT1.out.trans (hT2.mono (fun _ _ x => x.elim))⟩, by have := HK1.out.2; rw [Pu.lookA]; omega⟩
    obtain ⟨g, hg, hgl⟩ := hubs_some HA1.out.1 (HL.out.ne f (by rw [← HN.out]; exact hfn))
    injection hg with hg
    injection hg with hg
    subst hg
    exact Nat.lt_of_lt_of_le hgl hT2.size
  have HH : Hid (l1 ≤ hc1' ∧ w.heap.size ≤ g1) := ⟨HA1.out.2.1, HA1.out.2.2.1⟩
  clear hT2 HS1 HA1 HT1 HQ1 HK1 e2 e3 hbl
  go_wp2_with fail
  go_loopw [6, 18] (fun xv iv wr => ∃ (i : Nat) (x kv' : Value) (wy : World), x = xv ∧ iv = .int .i64 (i : Int) ∧ i ≤ n ∧ wy = wr ∧ Hid (OthAt w b og oc sg sc O st S c kv lab f g1 (Pu.lookA c st f LP i) (Pu.nearL lab f i) x kv' wy ∧ (Pu.lookA c st f LP i).2 ≤ r + 2200 * (i + 1))) (fun _ iv _ => n - (intOf iv).toNat)
  case atStart => exact ⟨0, _, kv1, w2, rfl, rfl, by omega, rfl, H2.out⟩
  case round =>
    clear H2
    obtain ⟨i, x, kv2, wr, hx, rfl, hin, hwy, HI⟩ := hrel
    subst hwy hx
    by_cases hlt : i < n
    · have hii : (i : Int) < (n : Int) := by omega
      by_cases hif : i = f
      · have hie : ((i : Int) == (f : Int)) = true := by simp; omega
        have HI' : Hid (OthAt w b og oc sg sc O st S c kv lab f g1 (Pu.lookA c st f LP (i + 1)) (Pu.nearL lab f (i + 1)) x kv2 wr ∧ (Pu.lookA c st f LP (i + 1)).2 ≤ r + 2200 * (i + 1 + 1)) := by
          have h1 : Pu.lookA c st f LP (i + 1) = Pu.lookA c st f LP i := by rw [Pu.lookA, if_pos hif]
          have h2 : Pu.nearL lab f (i + 1) = Pu.nearL lab f i := by rw [Pu.nearL, if_pos hif, List.append_nil]
          rw [h1, h2]
          exact ⟨HI.out.1, by have := HI.out.2; omega⟩
        clear HI
        go_wp2
        go_roundw
        case rel => exact ⟨i + 1, x, kv2, wr, rfl, by go_num, by omega, rfl, HI'.out⟩
        case measure => simp [intOf]; omega
      · have hie : ((i : Int) == (f : Int)) = false := by simp; omega
        have CI := HC.out i (Pu.lookA c st f LP i) wr kv2 (by rw [← HN.out]; exact hlt) HI.out.1.k (by have := HI.out.2; omega) HI.out.1.s
        obtain ⟨l2, hl2⟩ : ∃ l, l = (lab i).length := ⟨_, rfl⟩
        have HL2 : Hid (l2 = (lab i).length) := hl2
        rw [← hl2] at CI
        clear hl2
        go_wp2_with fail
        refine CI.mono ?_
        rintro e w3 ⟨a2, hc2, kv3, rfl, hA2, hlc2, ho2, hS3, hq3, hT3⟩
        have hbw : b < w.heap.size := HST.out.box.lt
        have hg1b : ¬ (g1 = b ∨ kv2.ownBlock = some g1) := by
          rintro (e | e)
          · have := HH.out.2; omega
          · exact HI.out.1.gk e
        have HU1 : Hid (HubsAt w3 (.slice (some ⟨g1, 0, none⟩) l1 hc1') (lab f)) := by
          have h1 := HI.out.1.h.turns_p (n := l1) (c := hc1') hT3 (fun q hq => by
            have hq : some g1 = some q := hq
            injection hq with hq
            subst hq
            exact hg1b)
          have := HubsAt.of h1 (by rw [← HL1.out]; exact HH.out.1)
          rwa [← HL1.out] at this
        have HU2 : Hid (HubsAt w3 (.slice a2 l2 hc2) (lab i)) := by
          have := HubsAt.of hA2 (by rw [← HL2.out]; exact hlc2)
          rwa [← HL2.out] at this
        have hxw : ∀ q, x.ownBlock = some q → w.heap.size ≤ q := fun q hq => (World.ownsRow.lt HI.out.1.row q hq).1
        have HX3 : Hid (∀ w5, Turns (fun _ => False) w3 w5 → OthAt w b og oc sg sc O st S c kv lab f g1 (Pu.lookA c st f LP (i + 1)) (Pu.nearL lab f i) x kv3 w5) := by
          intro w5 t5
          have h1 : Pu.lookA c st f LP (i + 1) = Pu.lookP c st (Pu.lookA c st f LP i) i := by rw [Pu.lookA, if_neg hif]
          rw [h1]
          have hap := owns_apart HI.out.1.row HI.out.1.s.kept (by decide)
          refine ⟨hS3.turns0 t5, (HK2.out i _ (by rw [← HN.out]; exact hlt) HI.out.1.k).1, owns_turns (owns_turns_p HI.out.1.row hT3 (fun q hq => ?_)) t5, (HI.out.1.h.turns_p (n := l1) (c := hc1') hT3 (fun q hq => ?_)).turns t5, ?_, ?_, HI.out.1.gx, fun q hq => ?_, (HI.out.1.t.join hT3 (fun q hq hp => ?_)).trans (t5.mono (fun _ _ x => x.elim))⟩
          · rintro (e | e)
            · have := hxw q hq; omega
            · exact hap q hq e
          · have hq : some g1 = some q := hq
            injection hq with hq
            subst hq
            exact hg1b
          · exact Nat.lt_of_lt_of_le HI.out.1.g (Nat.le_trans hT3.size t5.size)
          · intro e
            rcases hq3 g1 e with e | e
            · exact HI.out.1.gk e
            · have := HI.out.1.g; omega
          · rcases hq3 q hq with e | e
            · exact HI.out.1.q q e
            · exact Or.inr (Nat.le_trans HI.out.1.t.size e)
          · rintro (e | e)
            · exact hp (Or.inl e)
            · rcases HI.out.1.q q e with e | e
              · exact hp (Or.inr e)
              · omega
        have HR3 : Hid ((Pu.lookA c st f LP (i + 1)).2 ≤ r + 2200 * (i + 1 + 1)) := by
          have h1 : Pu.lookA c st f LP (i + 1) = Pu.lookP c st (Pu.lookA c st f LP i) i := by rw [Pu.lookA, if_neg hif]
          have h2 := (HK2.out i (Pu.lookA c st f LP i) (by rw [← HN.out]; exact hlt) HI.out.1.k).2
          have h3 := HI.out.2
          show (Pu.lookA c st f LP (i + 1)).2 ≤ r + 2200 * (i + 1 + 1)
          rw [h1]; omega
        have cb := best_any w3 _ _ (lab f) (lab i) 0 0 HU1.out HU2.out (HL.out.rise (by rw [← HN.out]; exact hfn)) (HL.out.rise (by rw [← HN.out]; exact hlt))
        have HNL : Hid (Pu.nearL lab f (i + 1) = Pu.nearL lab f i ++ Pu.nearO i (Pu.best none (lab f) (lab i))) := by
          show _ = _
          rw [Pu.nearL, if_neg hif]
          cases Pu.best none (lab f) (lab i) <;> rfl
        generalize Pu.best none (lab f) (lab i) = BB at *
        clear CI HI hA2 hlc2 ho2 hS3 hq3 hT3 HU1 HU2 hxw hg1b
        go_wp2_with fail
        refine cb.mono ?_
        rintro e w4 ⟨rfl, hT4⟩
        cases BB with
        | none =>
          have HX4 : Hid (∀ o q, OthAt w b og oc sg sc O st S c kv lab f g1 (Pu.lookA c st f LP (i + 1)) (Pu.nearL lab f (i + 1)) x kv3 ((w4.alloc o).drewN q)) := fun o q => by
            have h1 := HNL.out
            rw [Pu.nearO, List.append_nil] at h1
            rw [h1]
            exact HX3.out _ ((hT4.alloc o).drewN q)
          simp only [hubO]
          clear cb hT4 HX3 HNL
          go_wp2
          go_roundw
          case rel => exact ⟨i + 1, x, kv3, _, rfl, by go_num, by omega, rfl, HX4.out _ 0, HR3.out⟩
          case measure => simp [intOf]; omega
        | some z =>
          obtain ⟨rk, y⟩ := z
          simp only [hubO]
          have H5 : Hid (OthAt w b og oc sg sc O st S c kv lab f g1 (Pu.lookA c st f LP (i + 1)) (Pu.nearL lab f i) x kv3 (w4.alloc (.cells #[.int .i64 (rk : Int), .int .i64 y] 131))) := HX3.out _ (hT4.alloc _)
          obtain ⟨xs, hxs⟩ : ∃ xs, xs = hubV (Pu.nearL lab f i) := ⟨_, rfl⟩
          obtain ⟨nn, hnn⟩ : ∃ nn, nn = (Pu.nearL lab f i).length := ⟨_, rfl⟩
          have hnl : nn ≤ 40 := by rw [hnn]; have := Pu.nearL_len lab f i; omega
          have HO : Hid (OwnG (w4.alloc (.cells #[.int .i64 (rk : Int), .int .i64 y] 131)) x w.heap.size 66 2 x nn xs (w4.alloc (.cells #[.int .i64 (rk : Int), .int .i64 y] 131))) := by rw [hxs, hnn]; exact OwnG.refl H5.out.row
          have hsz : w.heap.size ≤ (w4.alloc (.cells #[.int .i64 (rk : Int), .int .i64 y] 131)).heap.size := H5.out.t.size
          have HY : Hid (∀ v' w6, OwnG (w4.alloc (.cells #[.int .i64 (rk : Int), .int .i64 y] 131)) x w.heap.size 66 2 v' (nn + 1) (xs ++ (#[Value.int .i64 (i : Int), .int .i64 y] : Array Value).toList) w6 → OthAt w b og oc sg sc O st S c kv lab f g1 (Pu.lookA c st f LP (i + 1)) (Pu.nearL lab f (i + 1)) v' kv3 w6) := by
            intro v' w6 hB
            have h5 := H5.out
            have hxw : ∀ q, x.ownBlock = some q → w.heap.size ≤ q := fun q hq => (World.ownsRow.lt h5.row q hq).1
            have hn1 := HL.out.n1
            have hft : ∀ q, Foot b og sg kv q → q < w.heap.size := fun q hq => HST.out.foot_lt hn1 hq
            have hap := owns_apart h5.row h5.s.kept (by decide)
            have hnl2 := HNL.out
            rw [Pu.nearO] at hnl2
            rw [hnl2]
            refine ⟨h5.s.turns hB.turns (fun c => ?_) (fun c => ?_) (fun c => ?_) (fun q hq c => hap q c hq), h5.k, ?_, h5.h.turns_p (n := l1) (c := hc1') hB.turns (fun q hq => ?_), Nat.lt_of_lt_of_le h5.g hB.turns.size, h5.gk, fun c => ?_, h5.q, h5.t.join hB.turns (fun q hq _ c => ?_)⟩
            · have := hxw b c; have := hft b (Or.inl rfl); omega
            · have := hxw og c; have := hft og (Or.inr (Or.inl rfl)); omega
            · have := hxw sg c; have := hft sg (Or.inr (Or.inr (Or.inl rfl))); omega
            · have h6 := hB.own
              rw [hubV_append, List.length_append, ← hxs, ← hnn]
              exact h6
            · have hq : some g1 = some q := hq
              injection hq with hq
              subst hq
              exact h5.gx
            · rcases hB.block g1 c with c | c
              · exact h5.gx c
              · have := h5.g; omega
            · have := hxw q c; omega
          clear cb hxs hnn hT4 HX3 HNL H5
          go_wp2_with (at_builtin; refine wpList_append_one rfl _ _ 62 rfl 66 2 16 _ Tryz.underlying62 infoNear rfl (by decide) (w4.alloc (.cells #[.int .i64 (rk : Int), .int .i64 y] 131)) (w4.alloc (.cells #[.int .i64 (rk : Int), .int .i64 y] 131)) x x w.heap.size nn xs _ rfl (by intro u hu; simp at hu; rcases hu with rfl | rfl <;> rfl) HO.out hsz (by omega) (by omega) rfl _ rfl (by simp) ?_)
          intro v' w6 hB
          have HZ : Hid (OthAt w b og oc sg sc O st S c kv lab f g1 (Pu.lookA c st f LP (i + 1)) (Pu.nearL lab f (i + 1)) v' kv3 w6) := HY.out v' w6 hB
          clear HY hB HO
          go_wp2
          go_roundw
          case rel => exact ⟨i + 1, v', kv3, w6, rfl, by go_num, by omega, rfl, HZ.out, HR3.out⟩
          case measure => simp [intOf]; omega
    · have hii : ¬ (i : Int) < (n : Int) := by omega
      have hie : i = n := by omega
      subst hie
      have HX : Hid (OthAt w b og oc sg sc O st S c kv lab f g1 (Pu.lookA c st f LP i) (Pu.nearL lab f i) x kv2 wr) := HI.out.1
      clear HI
      go_wp2
      go_ret
      exact ⟨x, rfl, kv2, g1, HX.out⟩
end Go.Proofs.YtdogncjcainhlaaGreatDoor
/- The walk of a store's Around. -/
namespace Go.Proofs.YtdogncjcainhlaaGreatDoor
open Go.RowKit Go.Deep Go.MuLone
open Mem

set_option maxRecDepth 100000 in
set_option maxHeartbeats 2000000 in
theorem around_node {w : World} {b og oc sg sc : Nat} {O : List Nat} {st : Nat → Nat} {S : ByteArray} {c : Nat} {kv : Value} {K : List Nat} {r : Nat} (p q : Int) (h : StoreAt w b og oc sg sc O st S c 0 kv K r) (hp : ¬ (0 ≤ p ∧ p < (O.length : Int))) :
    Calls Tryz.prog 21 #[.pointer (some ⟨b, 0, none⟩), .int .i64 p, .int .i64 q] w fun e w' => e = .returned (.tuple #[.slice none 0 0, .int .i64 5]) ∧ StoreAt w' b og oc sg sc O st S c 0 kv K r ∧ Turns (fun x => x = b) w w' := by
  have c0 := h.box.c0
  have f0 := h.box.free 0
  obtain ⟨w1, hw1⟩ : ∃ w1, w1 = w.setCell ⟨b, 0, none⟩ (.int .i32 1) := ⟨_, rfl⟩
  have H1 : Hid (StoreAt w1 b og oc sg sc O st S c 1 kv K r) := by show StoreAt _ _ _ _ _ _ _ _ _ _ _ _ _ _; rw [hw1]; exact h.locked 1
  have HT1 : Hid (Turns (fun x => x = b) w w1) := by show Turns _ _ _; rw [hw1]; exact (Turns.refl (fun x => x = b) w).setCell (x := ⟨b, 0, none⟩) (Or.inr rfl) _
  have HW1 : Hid (w.setCell ⟨b, 0, none⟩ (.int .i32 1) = w1) := hw1.symm
  have e2 := H1.out.box.c2
  have e3 := H1.out.box.c3
  have hbl := H1.out.box.lt
  clear h hw1
  have HPp := has_any w1 og oc O.length (some ⟨sg, 0, none⟩) (O.length + 1) sc p
  rw [decide_eq_false hp] at HPp
  clear hp
  go_enter_defers Tryz.func21, Tryz.ntmps21
  go_wp2_with (go_at_call 38; refine (lock_free muLib ⟨b, 0, none⟩ _ c0 f0).mono ?_; rintro e w' ⟨rfl, rfl⟩; rw [HW1.out])
  refine HPp.mono ?_
  rintro e w2 ⟨rfl, hT2⟩
  have H2 : Hid (StoreAt w2 b og oc sg sc O st S c 1 kv K r) := H1.out.turns0 hT2
  have HT2 : Hid (Turns (fun x => x = b) w w2) := HT1.out.trans (hT2.mono (fun _ _ x => x.elim))
  have k2 := H2.out.box.c2
  have k3 := H2.out.box.c3
  have hbl2 := H2.out.box.lt
  clear hT2 HPp e2 e3
  go_wp2
  refine leaves_cons (f := 39) (args := #[.pointer (some ⟨b, 0, none⟩)]) (by simp) (by simp [go_sem]) ?_
  refine (unlock_deferred muLib ⟨b, 0, none⟩ .returning _ H2.out.box.c0 (H2.out.box.free 0)).mono ?_
  rintro e u' w'' ⟨rfl, rfl, rfl⟩
  exact ⟨.tuple #[.slice none 0 0, .int .i64 5], by simp [results, Tryz.results21, go_sem], rfl, H2.out.locked 0, HT2.out.setCell (x := ⟨b, 0, none⟩) (Or.inr rfl) _⟩
set_option maxRecDepth 100000 in
set_option maxHeartbeats 2000000 in
theorem around_conf {w : World} {b og oc sg sc : Nat} {O : List Nat} {st : Nat → Nat} {S : ByteArray} {c : Nat} {kv : Value} {K : List Nat} {r : Nat} (p q : Int) (h : StoreAt w b og oc sg sc O st S c 0 kv K r) (hp : 0 ≤ p ∧ p < (O.length : Int)) (hq : q < 0 ∨ 40 < q) :
    Calls Tryz.prog 21 #[.pointer (some ⟨b, 0, none⟩), .int .i64 p, .int .i64 q] w fun e w' => e = .returned (.tuple #[.slice none 0 0, .int .i64 7]) ∧ StoreAt w' b og oc sg sc O st S c 0 kv K r ∧ Turns (fun x => x = b) w w' := by
  have c0 := h.box.c0
  have f0 := h.box.free 0
  obtain ⟨w1, hw1⟩ : ∃ w1, w1 = w.setCell ⟨b, 0, none⟩ (.int .i32 1) := ⟨_, rfl⟩
  have H1 : Hid (StoreAt w1 b og oc sg sc O st S c 1 kv K r) := by show StoreAt _ _ _ _ _ _ _ _ _ _ _ _ _ _; rw [hw1]; exact h.locked 1
  have HT1 : Hid (Turns (fun x => x = b) w w1) := by show Turns _ _ _; rw [hw1]; exact (Turns.refl (fun x => x = b) w).setCell (x := ⟨b, 0, none⟩) (Or.inr rfl) _
  have HW1 : Hid (w.setCell ⟨b, 0, none⟩ (.int .i32 1) = w1) := hw1.symm
  have e2 := H1.out.box.c2
  have e3 := H1.out.box.c3
  have hbl := H1.out.box.lt
  clear h hw1
  have HPp := has_any w1 og oc O.length (some ⟨sg, 0, none⟩) (O.length + 1) sc p
  rw [decide_eq_true hp] at HPp
  clear hp
  have hq2 : q < 0 ∨ (¬ q < 0 ∧ q > 40) := by omega
  rcases hq2 with hq2 | ⟨hq2, hq3⟩
  all_goals
    clear hq
    go_enter_defers Tryz.func21, Tryz.ntmps21
    go_wp2_with (go_at_call 38; refine (lock_free muLib ⟨b, 0, none⟩ _ c0 f0).mono ?_; rintro e w' ⟨rfl, rfl⟩; rw [HW1.out])
    refine HPp.mono ?_
    rintro e w2 ⟨rfl, hT2⟩
    have H2 : Hid (StoreAt w2 b og oc sg sc O st S c 1 kv K r) := H1.out.turns0 hT2
    have HT2 : Hid (Turns (fun x => x = b) w w2) := HT1.out.trans (hT2.mono (fun _ _ x => x.elim))
    have k2 := H2.out.box.c2
    have k3 := H2.out.box.c3
    have hbl2 := H2.out.box.lt
    clear hT2 HPp e2 e3
    go_wp2
    refine leaves_cons (f := 39) (args := #[.pointer (some ⟨b, 0, none⟩)]) (by simp) (by simp [go_sem]) ?_
    refine (unlock_deferred muLib ⟨b, 0, none⟩ .returning _ H2.out.box.c0 (H2.out.box.free 0)).mono ?_
    rintro e u' w'' ⟨rfl, rfl, rfl⟩
    exact ⟨.tuple #[.slice none 0 0, .int .i64 7], by simp [results, Tryz.results21, go_sem], rfl, H2.out.locked 0, HT2.out.setCell (x := ⟨b, 0, none⟩) (Or.inr rfl) _⟩
/-- The places that Around tells. -/
def Pu.arN (lab : Nat → List (Nat × Int)) (n f k : Nat) : List (Nat × Int) := (Pu.srt (Pu.nearL lab f n)).take k
set_option maxRecDepth 100000 in
set_option maxHeartbeats 2000000 in
theorem around_any {w : World} {b og oc sg sc : Nat} {O : List Nat} {st : Nat → Nat} {S : ByteArray} {c : Nat} {kv : Value} {K : List Nat} {r f k : Nat} {lab : Nat → List (Nat × Int)} (L : Labs S O st lab) (h : StoreAt w b og oc sg sc O st S c 0 kv K r) (hf : f < O.length) (hk : k ≤ 40) (hc1 : 1 ≤ c) (hc8 : c ≤ 8) (hK : Pu.Keeps c K) (hr : r ≤ 8000000000000000) :
    Calls Tryz.prog 21 #[.pointer (some ⟨b, 0, none⟩), .int .i64 (f : Int), .int .i64 (k : Int)] w fun e w' => ∃ x kv', e = .returned (.tuple #[x, .int .i64 0]) ∧ w'.ownsRow w.heap.size 66 2 x (Pu.arN lab O.length f k).length (hubV (Pu.arN lab O.length f k)) ∧ StoreAt w' b og oc sg sc O st S c 0 kv' (Pu.lookA c st f (Pu.lookP c st (K, r) f) O.length).1 (Pu.lookA c st f (Pu.lookP c st (K, r) f) O.length).2 ∧ (∀ q, kv'.ownBlock = some q → kv.ownBlock = some q ∨ w.heap.size ≤ q) ∧ Turns (fun q => q = b ∨ kv.ownBlock = some q) w w' := by
  have c0 := h.box.c0
  have f0 := h.box.free 0
  obtain ⟨w1, hw1⟩ : ∃ w1, w1 = w.setCell ⟨b, 0, none⟩ (.int .i32 1) := ⟨_, rfl⟩
  have H1 : Hid (StoreAt w1 b og oc sg sc O st S c 1 kv K r) := by show StoreAt _ _ _ _ _ _ _ _ _ _ _ _ _ _; rw [hw1]; exact h.locked 1
  have HT1 : Hid (Turns (fun x => x = b ∨ kv.ownBlock = some x) w w1) := by show Turns _ _ _; rw [hw1]; exact (Turns.refl _ w).setCell (x := ⟨b, 0, none⟩) (Or.inr (Or.inl rfl)) _
  have HW1 : Hid (w.setCell ⟨b, 0, none⟩ (.int .i32 1) = w1) := hw1.symm
  have HFT : Hid (∀ q, Foot b og sg kv q → q < w.heap.size) := fun q hq => h.foot_lt L.n1 hq
  have e2 := H1.out.box.c2
  have e3 := H1.out.box.c3
  have hbl := H1.out.box.lt
  have HPp := has_any w1 og oc O.length (some ⟨sg, 0, none⟩) (O.length + 1) sc (f : Int)
  rw [decide_eq_true (by omega)] at HPp
  have HC : Hid (∀ w2, StoreAt w2 b og oc sg sc O st S c 1 kv K r → Calls Tryz.prog 48 #[.pointer (some ⟨b, 0, none⟩), .int .i64 (f : Int)] w2 fun e w' => ∃ x kv' g1, e = .returned x ∧ OthAt w2 b og oc sg sc O st S c kv lab f g1 (Pu.lookA c st f (Pu.lookP c st (K, r) f) O.length) (Pu.nearL lab f O.length) x kv' w') := fun w2 h2 => others_any L h2 hf hc1 hc8 hK hr
  have hnl := Pu.nearL_len lab f O.length
  have hn40 := L.n40
  unfold Pu.arN
  generalize Pu.lookA c st f (Pu.lookP c st (K, r) f) O.length = LA at *
  generalize Pu.nearL lab f O.length = N at *
  have hN40 : N.length ≤ 40 := by omega
  have hk1 : ¬ (k : Int) < 0 := by omega
  have hk2 : ¬ (k : Int) > 40 := by omega
  clear h hw1 hK hnl
  go_enter_defers Tryz.func21, Tryz.ntmps21
  go_wp2_with (go_at_call 38; refine (lock_free muLib ⟨b, 0, none⟩ _ c0 f0).mono ?_; rintro e w' ⟨rfl, rfl⟩; rw [HW1.out])
  refine HPp.mono ?_
  rintro e w2 ⟨rfl, hT2⟩
  have H2 : Hid (StoreAt w2 b og oc sg sc O st S c 1 kv K r) := H1.out.turns0 hT2
  have HT2 : Hid (Turns (fun x => x = b ∨ kv.ownBlock = some x) w w2) := HT1.out.trans (hT2.mono (fun _ _ x => x.elim))
  clear hT2 HPp e2 e3
  go_wp2_with fail
  refine (HC.out w2 H2.out).mono ?_
  rintro e w3 ⟨x, kv3, g1, rfl, hO3⟩
  have H3 : Hid (OthAt w2 b og oc sg sc O st S c kv lab f g1 LA N x kv3 w3) := hO3
  have CS := nearSort_any hO3.row (by omega)
  obtain ⟨a, ac, hxa, hac, hag⟩ : ∃ a ac, x = .slice a N.length ac ∧ N.length ≤ ac ∧ ((a = none ∧ N.length = 0) ∨ ∃ g, a = some ⟨g, 0, none⟩) := by
    rcases hO3.row.2 with ⟨h1, h2⟩ | ⟨g, cap, cur, h1, _, _, h2, _⟩
    · have hn0 : N.length = 0 := h2
      exact ⟨none, 0, by rw [h1, hn0], by omega, Or.inl ⟨rfl, hn0⟩⟩
    · exact ⟨_, cap, h1, h2, Or.inr ⟨g, rfl⟩⟩
  subst hxa
  clear hO3 HC
  go_wp2_with fail
  refine CS.mono ?_
  rintro e w4 ⟨rfl, hT4, hC4⟩
  have H4 : Hid (StoreAt w4 b og oc sg sc O st S c 1 kv3 LA.1 LA.2 ∧ Turns (fun x => x = b ∨ kv.ownBlock = some x) w w4 ∧ ∀ q, kv3.ownBlock = some q → kv.ownBlock = some q ∨ w.heap.size ≤ q) := by
    have h3 := H3.out
    have hxw : ∀ q, (Value.slice a N.length ac).ownBlock = some q → w2.heap.size ≤ q := fun q hq => (World.ownsRow.lt h3.row q hq).1
    have hap := owns_apart h3.row h3.s.kept (by decide)
    have hs2 := HT2.out.size
    refine ⟨h3.s.turns hT4 (fun c => ?_) (fun c => ?_) (fun c => ?_) (fun q hq c => hap q c hq), ?_, fun q hq => ?_⟩
    · have := hxw b c; have := HFT.out b (Or.inl rfl); omega
    · have := hxw og c; have := HFT.out og (Or.inr (Or.inl rfl)); omega
    · have := hxw sg c; have := HFT.out sg (Or.inr (Or.inr (Or.inl rfl))); omega
    · exact (HT2.out.join h3.t (fun q _ hp c => hp c)).join hT4 (fun q hq _ c => by have := hxw q c; omega)
    · rcases h3.q q hq with c | c
      · exact Or.inl c
      · exact Or.inr (Nat.le_trans hs2 c)
  have HC4 : Hid (∀ g, (Value.slice a N.length ac).ownBlock = some g → ∀ (j : Nat) (u : Value), (hubV (Pu.srt N))[j]? = some u → w4.cell? ⟨g, j, none⟩ = some u) := hC4
  clear hT4 hC4 CS H3 HT2 H2 HT1 H1
  obtain ⟨m, hm⟩ : ∃ m, m = min k N.length := ⟨_, rfl⟩
  have hmk : m ≤ 40 := by omega
  have HCL : Hid (Calls Tryz.prog 53 #[.slice a m ac] w4 fun e w' => ∃ v', e = .returned v' ∧ w'.ownsRow w4.heap.size 66 2 v' ((Pu.srt N).take k).length (hubV ((Pu.srt N).take k)) ∧ Turns (fun _ => False) w4 w') := by
    have hlen : ((Pu.srt N).take k).length = m := by rw [List.length_take, Pu.srt_len, hm]
    rcases hag with ⟨rfl, hn0⟩ | ⟨g, rfl⟩
    · refine (clone_nil m ac w4).mono ?_
      rintro e w' ⟨rfl, rfl⟩
      have h0 : (Pu.srt N).take k = [] := List.eq_nil_of_length_eq_zero (by omega)
      rw [h0]
      exact ⟨_, rfl, World.ownsRow_nil _ _ _ _, Turns.refl _ _⟩
    · rw [hlen]
      refine clone_row hlen (by omega) (fun j u hj => ?_)
      refine HC4.out g rfl j u ?_
      have e : hubV (Pu.srt N) = hubV ((Pu.srt N).take k) ++ hubV ((Pu.srt N).drop k) := by rw [← hubV_append, List.take_append_drop]
      rw [e, List.getElem?_append_left (List.getElem?_eq_some_iff.1 hj).1]
      exact hj
  have HMM : Hid ((min (k : Int) (N.length : Int)).toNat = m) := by show _ = _; omega
  clear hag HC4
  go_wp2_with fail
  rw [HMM.out]
  refine HCL.out.mono ?_
  rintro e w5 ⟨v', rfl, hv5, hT5⟩
  have H5 : Hid (StoreAt w5 b og oc sg sc O st S c 1 kv3 LA.1 LA.2 ∧ Turns (fun x => x = b ∨ kv.ownBlock = some x) w w5 ∧ w5.ownsRow w.heap.size 66 2 v' ((Pu.srt N).take k).length (hubV ((Pu.srt N).take k)) ∧ ∀ q, v'.ownBlock = some q → w4.heap.size ≤ q) := ⟨H4.out.1.turns0 hT5, H4.out.2.1.trans (hT5.mono (fun _ _ x => x.elim)), owns_low hv5 H4.out.2.1.size, fun q hq => (World.ownsRow.lt hv5 q hq).1⟩
  have hbl5 := H5.out.1.box.lt
  clear hT5 hv5 HCL
  go_wp2
  refine leaves_cons (f := 39) (args := #[.pointer (some ⟨b, 0, none⟩)]) (by simp) (by simp [go_sem]) ?_
  refine (unlock_deferred muLib ⟨b, 0, none⟩ .returning _ H5.out.1.box.c0 (H5.out.1.box.free 0)).mono ?_
  rintro e u' w'' ⟨rfl, rfl, rfl⟩
  refine ⟨.tuple #[v', .int .i64 0], by simp [results, Tryz.results21, go_sem], v', kv3, rfl, ?_, H5.out.1.locked 0, H4.out.2.2, H5.out.2.1.setCell (x := ⟨b, 0, none⟩) (Or.inr (Or.inl rfl)) _⟩
  refine owns_turns_p H5.out.2.2.1 ((Turns.refl (fun q => q = b) w5).setCell (x := ⟨b, 0, none⟩) (Or.inr rfl) _) (fun q hq c => ?_)
  have h1 := H5.out.2.2.2 q hq
  have h2 := H4.out.1.box.lt
  rw [c] at h1
  omega
end Go.Proofs.YtdogncjcainhlaaGreatDoor
