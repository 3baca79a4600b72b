/- Pack7: texts of one proof, one behind the other. -/
import Derived.Shelf.SlSortCmp.Whole1
import Derived.Test.YtdogncjcainhlaaDoorProg
import Derived.Test.YtdogncjcainhlaaDoorPack3
import Derived.Test.YtdogncjcainhlaaDoorPlain
import Derived.Deep.MidRow
import Derived.Test.YtdogncjcainhlaaDoorPack5
import Derived.Deep.RegionHeld3
import Derived.WalkKit
import Derived.WalkSpells
import Derived.WalkLawsBesides
import Derived.Deep.QuietTactic
import Derived.BigQuiet
import Derived.BigRegion
import Derived.Deep.LoopGhost
import Derived.Test.YtdogncjcainhlaaDoorPack2
import Derived.Test.YtdogncjcainhlaaDoorPack6
/- The library's contract of slices.SortFunc, laid at this translation. -/
namespace Go.Proofs.YtdogncjcainhlaaDoor
open Go.Shelf Go.Lib Go.RowKit Go.Sort
def sortInt_ren : Go.Shelf.Ren := ⟨fun | 6 => 78 | 15 => 98 | 14 => 97 | 28 => 116 | 29 => 117 | 20 => 108 | 21 => 109 | 22 => 110 | 23 => 111 | 24 => 112 | 25 => 113 | 26 => 114 | 27 => 115 | 46 => 119 | 47 => 120 | 48 => 121 | 49 => 122 | 50 => 123 | 57 => 124 | n => n, fun | 22 => 41 | 24 => 3 | 25 => 40 | 3 => 3 | 39 => 162 | 0 => 0 | 53 => 148 | 55 => 178 | 4 => 4 | 46 => 186 | 45 => 185 | 50 => 105 | 5 => 5 | 9 => 9 | 66 => 198 | 70 => 202 | 76 => 204 | 77 => 205 | n => n, fun | n => n⟩
theorem sortInt : Go.Proofs.SlLaysF.n6 Tryd.prog sortInt_ren := {
  mixed := by kernel_rfl
  f6 := ⟨Tryd.f78.name, by decide, Tryd.func78.trans (congrArg some (by kernel_rfl))⟩
  f14 := ⟨Tryd.f97.name, by decide, Tryd.func97.trans (congrArg some (by kernel_rfl))⟩
  f15 := Tryd.func98.trans (congrArg some (by kernel_rfl))
  f20 := ⟨Tryd.f108.name, by decide, Tryd.func108.trans (congrArg some (by kernel_rfl))⟩
  f21 := ⟨Tryd.f109.name, by decide, Tryd.func109.trans (congrArg some (by kernel_rfl))⟩
  f22 := ⟨Tryd.f110.name, by decide, Tryd.func110.trans (congrArg some (by kernel_rfl))⟩
  f23 := ⟨Tryd.f111.name, by decide, Tryd.func111.trans (congrArg some (by kernel_rfl))⟩
  f24 := ⟨Tryd.f112.name, by decide, Tryd.func112.trans (congrArg some (by kernel_rfl))⟩
  f25 := ⟨Tryd.f113.name, by decide, Tryd.func113.trans (congrArg some (by kernel_rfl))⟩
  f26 := ⟨Tryd.f114.name, by decide, Tryd.func114.trans (congrArg some (by kernel_rfl))⟩
  f27 := ⟨Tryd.f115.name, by decide, Tryd.func115.trans (congrArg some (by kernel_rfl))⟩
  f28 := Tryd.func116.trans (congrArg some (by kernel_rfl))
  f29 := Tryd.func117.trans (congrArg some (by kernel_rfl))
  f46 := ⟨Tryd.f119.name, by decide, Tryd.func119.trans (congrArg some (by kernel_rfl))⟩
  f47 := Tryd.func120.trans (congrArg some (by kernel_rfl))
  f48 := Tryd.func121.trans (congrArg some (by kernel_rfl))
  f49 := ⟨Tryd.f122.name, by decide, Tryd.func122.trans (congrArg some (by kernel_rfl))⟩
  f50 := ⟨Tryd.f123.name, by decide, Tryd.func123.trans (congrArg some (by kernel_rfl))⟩
  f57 := ⟨Tryd.f124.name, by decide, Tryd.func124.trans (congrArg some (by kernel_rfl))⟩
  t0 := Tryd.underlying0
  a0 := Tryd.isAgg0
  z0 := Tryd.sizeOf0
  v0 := Tryd.zeroValue0
  t3 := Tryd.underlying3
  a3 := Tryd.isAgg3
  z3 := Tryd.sizeOf3
  v3 := Tryd.zeroValue3
  t4 := Tryd.underlying4
  a4 := Tryd.isAgg4
  z4 := Tryd.sizeOf4
  v4 := Tryd.zeroValue4
  t5 := Tryd.underlying5
  a5 := Tryd.isAgg5
  z5 := Tryd.sizeOf5
  v5 := Tryd.zeroValue5
  t9 := Tryd.underlying9
  a9 := Tryd.isAgg9
  z9 := Tryd.sizeOf9
  v9 := Tryd.zeroValue9
  t22 := Tryd.underlying41
  a22 := Tryd.isAgg41
  z22 := Tryd.sizeOf41
  v22 := Tryd.zeroValue41
  a24 := Tryd.isAgg3
  z24 := Tryd.sizeOf3
  t25 := Tryd.underlying40
  a25 := Tryd.isAgg40
  z25 := Tryd.sizeOf40
  v25 := Tryd.zeroValue40
  t39 := Tryd.underlying162
  a39 := Tryd.isAgg162
  z39 := Tryd.sizeOf162
  v39 := Tryd.zeroValue162
  t45 := Tryd.underlying185
  a45 := Tryd.isAgg185
  z45 := Tryd.sizeOf185
  v45 := Tryd.zeroValue185
  t46 := Tryd.underlying186
  a46 := Tryd.isAgg186
  z46 := Tryd.sizeOf186
  v46 := Tryd.zeroValue186
  t50 := Tryd.underlying105
  a50 := Tryd.isAgg105
  z50 := Tryd.sizeOf105
  v50 := Tryd.zeroValue105
  t53 := Tryd.underlying148
  a53 := Tryd.isAgg148
  z53 := Tryd.sizeOf148
  v53 := Tryd.zeroValue148
  t55 := Tryd.underlying178
  a55 := Tryd.isAgg178
  z55 := Tryd.sizeOf178
  v55 := Tryd.zeroValue178
  t66 := Tryd.underlying198
  a66 := Tryd.isAgg198
  z66 := Tryd.sizeOf198
  v66 := Tryd.zeroValue198
  t70 := Tryd.underlying202
  a70 := Tryd.isAgg202
  z70 := Tryd.sizeOf202
  v70 := Tryd.zeroValue202
  t76 := Tryd.underlying204
  a76 := Tryd.isAgg204
  z76 := Tryd.sizeOf204
  v76 := Tryd.zeroValue204
  t77 := Tryd.underlying205
  a77 := Tryd.isAgg205
  z77 := Tryd.sizeOf205
  v77 := Tryd.zeroValue205 }
theorem slices_SortFunc_int {α : Type} [Inhabited α] (enc : α → Value) (h1 : OneCell enc) (cf : α → α → Int) (hO : SWO (ltOf cf)) (g : Nat) (cb : Array Value) (blk off cap : Nat) (d : Array α) (w : World)
    (eg : ∀ args w, (callFunc g args).run Tryd.prog w = .ok (.enter g args) w) (hcmp : CmpLays1 Tryd.prog g cb enc cf blk off d.size w) (hH : Holds enc w blk off d) (hblk : blk < w.heap.size) (hsz : d.size < 4611686018427387904) :
    Calls Tryd.prog 78 #[.slice (some ⟨blk, off, none⟩) d.size cap, .func (.func g) #[] cb] w fun e w' =>
      e = .returned (.tuple #[]) ∧ ∃ d' n os, PermIn 0 d.size d d' ∧ SortedIn (ltOf cf) 0 d.size d' ∧ w' = sortWorld enc w blk off n d' os := Any.slices_SortFunc sortInt enc h1 cf hO g cb blk off cap d w eg hcmp hH hblk hsz
#print axioms slices_SortFunc_int
end Go.Proofs.YtdogncjcainhlaaDoor
/- The walks of cmp.Compare and cmp.Or at int. -/
namespace Go.Proofs.YtdogncjcainhlaaDoor
open Go.RowKit
open Mem

namespace Pu
/-- The sign by which two numbers stand to each other. -/
def sgn (x y : Int) : Int := if x < y then -1 else if y < x then 1 else 0
/-- The first that is not 0. -/
def or2 (a b : Int) : Int := if a = 0 then b else a
end Pu

theorem isNaN_any (x : Int) (w : World) : Calls Tryd.prog 99 #[.int .i64 x] w fun e w' => e = .returned (.bool false) ∧ w' = w := by
  have h : (x != x) = false := by simp
  go_enter Tryd.func99, Tryd.ntmps99
  go_wp2
  go_ret
  exact ⟨by simp, rfl⟩
set_option maxRecDepth 100000 in
set_option maxHeartbeats 400000 in
theorem compare_any (x y : Int) (w : World) : Calls Tryd.prog 81 #[.int .i64 x, .int .i64 y] w fun e w' => e = .returned (.int .i64 (Pu.sgn x y)) ∧ w' = w := by
  have k1 := fun w => isNaN_any x w
  have k2 := fun w => isNaN_any y w
  by_cases h1 : x < y
  · have e : Pu.sgn x y = -1 := by unfold Pu.sgn; rw [if_pos h1]
    rw [e]
    clear e
    go_enter Tryd.func81, Tryd.ntmps81
    go_wp2_with (go_at_call 99; first | (refine (k1 _).mono ?_; rintro e w1 ⟨rfl, rfl⟩) | (refine (k2 _).mono ?_; rintro e w2 ⟨rfl, rfl⟩))
    go_ret
    exact ⟨rfl, rfl⟩
  · by_cases h2 : y < x
    · have e : Pu.sgn x y = 1 := by unfold Pu.sgn; rw [if_neg h1, if_pos h2]
      rw [e]
      clear e
      go_enter Tryd.func81, Tryd.ntmps81
      go_wp2_with (go_at_call 99; first | (refine (k1 _).mono ?_; rintro e w1 ⟨rfl, rfl⟩) | (refine (k2 _).mono ?_; rintro e w2 ⟨rfl, rfl⟩))
      go_ret
      exact ⟨rfl, rfl⟩
    · have e : Pu.sgn x y = 0 := by unfold Pu.sgn; rw [if_neg h1, if_neg h2]
      rw [e]
      clear e
      go_enter Tryd.func81, Tryd.ntmps81
      go_wp2_with (go_at_call 99; first | (refine (k1 _).mono ?_; rintro e w1 ⟨rfl, rfl⟩) | (refine (k2 _).mono ?_; rintro e w2 ⟨rfl, rfl⟩))
      go_ret
      exact ⟨rfl, rfl⟩
set_option maxHeartbeats 400000 in
theorem or_any (a b : Int) (g : Nat) (w : World) (c0 : w.cell? ⟨g, 0, none⟩ = some (.int .i64 a)) (c1 : w.cell? ⟨g, 1, none⟩ = some (.int .i64 b)) : Calls Tryd.prog 80 #[.slice (some ⟨g, 0, none⟩) 2 2] w fun e w' => e = .returned (.int .i64 (Pu.or2 a b)) ∧ w' = w := by
  obtain ⟨r, hr⟩ : ∃ r, Pu.or2 a b = r := ⟨_, rfl⟩
  have HR : Hid (Pu.or2 a b = r) := hr
  rw [hr]
  clear hr
  go_enter Tryd.func80, Tryd.ntmps80
  go_wp2
  go_loopw [8] (fun iv wr => wr = w ∧ (iv = .int .i64 0 ∨ (iv = .int .i64 1 ∧ a = 0) ∨ (iv = .int .i64 2 ∧ a = 0 ∧ b = 0))) (fun iv _ => 2 - (intOf iv).toNat)
  case atStart => exact ⟨rfl, Or.inl rfl⟩
  case round =>
    obtain ⟨hw, h⟩ := hrel
    subst hw
    rcases h with rfl | ⟨rfl, ha⟩ | ⟨rfl, ha, hb⟩
    · by_cases h : a = 0
      · have hb : (a != 0) = false := by simp [h]
        go_wp2
        go_roundw
        case measure => simp [intOf]
        case rel => exact ⟨by first | rfl | trivial, Or.inr (Or.inl ⟨rfl, h⟩)⟩
      · have hb : (a != 0) = true := by simp [h]
        have e : r = a := by rw [← HR.out]; unfold Pu.or2; rw [if_neg h]
        subst e
        clear HR
        go_wp2
        go_ret
        exact ⟨rfl, rfl⟩
    · by_cases h : b = 0
      · have hb : (b != 0) = false := by simp [h]
        go_wp2
        go_roundw
        case measure => simp [intOf]
        case rel => exact ⟨by first | rfl | trivial, Or.inr (Or.inr ⟨rfl, ha, h⟩)⟩
      · have hb : (b != 0) = true := by simp [h]
        have e : r = b := by rw [← HR.out]; unfold Pu.or2; rw [if_pos ha]
        subst e
        clear HR
        go_wp2
        go_ret
        exact ⟨rfl, rfl⟩
    · have e : r = 0 := by rw [← HR.out]; unfold Pu.or2; rw [if_pos ha]; exact hb
      subst e
      clear HR
      go_wp2
      go_ret
      exact ⟨rfl, rfl⟩
theorem run_index81 (cs : List Value) (k : Nat) (x : Int) (hk : k < 40) (hx : cs[k]? = some (.int .i64 x)) (W : World) : (Instr.index 81 (.agg cs.toArray) (.int .i64 (k : Int))).run Tryd.prog W = .ok (.int .i64 x) W := by
  have hu : Tryd.prog.underlying 81 = some (.array 40 3) := Tryd.underlying81
  simp [Instr.index, run_underlying hu, asIntOf, go_sem, part, Tryd.sizeOf3, Tryd.isAgg3, hx]
  omega
theorem info81 : (Tryd.prog.info? 81).map (·.size) = some 40 := by kernel_rfl
set_option maxHeartbeats 400000 in
set_option maxRecDepth 100000 in
theorem count_any (w : World) (b n v : Nat) (R : Int) (len : Nat → Nat → Int) (hn : n ≤ 40) (hv : v < n) (hM : MapAt w b n R len) (N : Pu.Net n len) : Calls Tryd.prog 77 #[.pointer (some ⟨b, 0, none⟩), .int .i64 v] w fun e w' => e = .returned (.int .i64 (Pu.rowCnt len v n : Nat)) ∧ w' = w := by
  obtain ⟨cs, hcs, hcl, hcg⟩ : ∃ cs : List Value, w.rangeAt b (2 + v * 40) cs ∧ cs.length = 40 ∧ ∀ j, j < 40 → cs[j]? = some (.int .i64 (len v j)) := by
    refine ⟨(List.range 40).map fun j => .int .i64 (len v j), fun j x hx => ?_, by simp, fun j hj => by simp [hj]⟩
    have hj : j < 40 := by have := (List.getElem?_eq_some_iff.1 hx).1; simpa using this
    have := hM.cell v j (by omega) hj
    simp [hj] at hx
    rw [← hx]; exact this
  have hi81 : (Tryd.prog.info? 81).map (·.size) = some cs.length := by rw [hcl]; exact info81
  have HG : Hid (∀ j, j < 40 → cs[j]? = some (.int .i64 (len v j))) := hcg
  have HN : Hid (∀ k, n ≤ k → Pu.rowCnt len v k = Pu.rowCnt len v n) := by
    intro k hk
    induction k with
    | zero => have : n = 0 := by omega
              rw [this]
    | succ k ih =>
      by_cases e : n = k + 1
      · rw [e]
      · have h0 : len v k = 0 := by
          by_cases c : len v k = 0
          · exact c
          · have := N.out v k c; omega
        rw [Pu.rowCnt, if_neg (by omega), ih (by omega)]; rfl
  have hR := fun j => N.lens.rng v j
  obtain ⟨tot, htot⟩ : ∃ tot, Pu.rowCnt len v n = tot := ⟨_, rfl⟩
  have HTOT : Hid (Pu.rowCnt len v n = tot) := htot
  rw [htot]
  clear htot hcg hM N
  go_enter Tryd.func77, Tryd.ntmps77
  go_wp2_with (refine wpList_load_mid rfl 81 _ rfl b (2 + v * 40) rfl cs _ hcs Tryd.underlying81 rfl hi81 ?_)
  clear hi81 hcs
  go_loopw [5, 14] (fun cv iv wr => ∃ k : Nat, k ≤ 40 ∧ iv = .int .i64 k ∧ cv = .int .i64 (Pu.rowCnt len v k : Nat) ∧ wr = w) (fun _ iv _ => 40 - (intOf iv).toNat)
  case atStart => exact ⟨0, by omega, rfl, rfl, rfl⟩
  case round =>
    obtain ⟨k, hk, rfl, rfl, hw⟩ := hrel
    subst hw
    have hcb : Pu.rowCnt len v k ≤ k := by
      have aux : ∀ k, Pu.rowCnt len v k ≤ k := fun k => by
        induction k with
        | zero => exact Nat.le_refl _
        | succ k ih => rw [Pu.rowCnt]; split <;> omega
      exact aux k
    by_cases hk4 : k < 40
    · have hki : (k : Int) < 40 := by omega
      have hck0 := HG.out k hk4
      have hrk := hR k
      have HC : Hid (Pu.rowCnt len v (k + 1) = Pu.rowCnt len v k + if 0 < len v k then 1 else 0) := rfl
      obtain ⟨c, hc⟩ : ∃ c, Pu.rowCnt len v k = c := ⟨_, rfl⟩
      obtain ⟨x, hx⟩ : ∃ x, len v k = x := ⟨_, rfl⟩
      rw [hc, hx] at HC
      rw [hc] at hcb ⊢
      rw [hx] at hck0 hrk
      have hck := fun W => run_index81 cs k x hk4 hck0 W
      clear hc hx hR hck0
      by_cases h0 : x = 0
      · have hb : (x != 0) = false := by simp [h0]
        go_wp2
        go_roundw
        case measure => simp [intOf]; omega
        case rel => exact ⟨k + 1, by omega, by go_num, by rw [HC.out, if_neg (by omega)]; rfl, by first | rfl | trivial⟩
      · have hb : (x != 0) = true := by simp [h0]
        go_wp2
        go_roundw
        case measure => simp [intOf]; omega
        case rel => exact ⟨k + 1, by omega, by go_num, by rw [HC.out, if_pos (by omega)]; go_num, by first | rfl | trivial⟩
    · have hke : k = 40 := by omega
      subst hke
      rw [HN.out 40 hn, HTOT.out] at hcb ⊢
      clear hR
      go_wp2
      go_ret
      exact ⟨rfl, rfl⟩
#print axioms count_any
end Go.Proofs.YtdogncjcainhlaaDoor
/- The walk of ranks.byRoads. -/
namespace Go.Proofs.YtdogncjcainhlaaDoor
open Go.RowKit Go.Deep
open Mem

namespace Pu
/-- What the closure makes of two places. -/
def byCmp (d : Nat → Nat) (a b : Nat) : Int := or2 (sgn (d b) (d a)) (sgn a b)
theorem byCmp_lt (d : Nat → Nat) (a b : Nat) : byCmp d a b < 0 ↔ Above d a b := by
  unfold byCmp or2 sgn Above
  repeat' split
  all_goals omega
end Pu

theorem alloc_drew_grow (W : World) (o : Obj) : (W.alloc o).drew = Sort.grow (W.drewN 1) #[o] := by
  unfold Sort.grow
  show (W.alloc o).drew = { W.drewN 1 with heap := W.heap ++ #[o] }
  rw [← Array.push_eq_append]
  rfl
set_option maxRecDepth 100000 in
set_option maxHeartbeats 400000 in
theorem closure_any (W : World) (rb rg n a b : Nat) (da db : Int) (ha : a < n) (hb : b < n) (c0 : W.cell? ⟨rb, 0, none⟩ = some (.slice (some ⟨rg, 0, none⟩) n n)) (ca : W.cell? ⟨rg, a, none⟩ = some (.int .i64 da)) (cb : W.cell? ⟨rg, b, none⟩ = some (.int .i64 db)) :
    Calls Tryd.prog 79 #[.int .i64 a, .int .i64 b, .pointer (some ⟨rb, 0, none⟩)] W fun e w' => e = .returned (.int .i64 (Pu.or2 (Pu.sgn db da) (Pu.sgn a b))) ∧ ∃ q os', w' = Sort.grow (W.drewN q) os' := by
  have hai : (a : Int) < (n : Int) := by omega
  have hbi : (b : Int) < (n : Int) := by omega
  have K3 : Calls Tryd.prog 80 #[.slice (some ⟨W.heap.size, 0, none⟩) 2 2] (W.alloc (.cells #[.int .i64 (Pu.sgn db da), .int .i64 (Pu.sgn a b)] 3)).drew fun e w' => e = .returned (.int .i64 (Pu.or2 (Pu.sgn db da) (Pu.sgn a b))) ∧ w' = (W.alloc (.cells #[.int .i64 (Pu.sgn db da), .int .i64 (Pu.sgn a b)] 3)).drew :=
    or_any _ _ _ _ (by show (W.alloc _).cell? _ = _; rw [World.cell?_alloc_new]; rfl) (by show (W.alloc _).cell? _ = _; rw [World.cell?_alloc_new]; rfl)
  go_enter Tryd.func79, Tryd.ntmps79
  go_wp2_with fail
  go_region_held3 (fun w' => w'.cell? ⟨rb, 0, none⟩ = some (.slice (some ⟨rg, 0, none⟩) n n) ∧ w'.cell? ⟨rg, a, none⟩ = some (.int .i64 da) ∧ w'.cell? ⟨rg, b, none⟩ = some (.int .i64 db)) (go_keep)
    (first
      | (go_at_call 81; refine (compare_any _ _ _).mono ?_; rintro e1 w1 ⟨rfl, hw1⟩; subst hw1)
      | (go_at_call 80; refine K3.mono ?_; rintro e1 w1 ⟨rfl, hw1⟩; subst hw1))
  all_goals clear K3
  all_goals go_wp2
  all_goals go_ret
  all_goals exact ⟨rfl, 1, #[.cells #[.int .i64 (Pu.sgn db da), .int .i64 (Pu.sgn a b)] 3], alloc_drew_grow W _⟩
#print axioms closure_any
end Go.Proofs.YtdogncjcainhlaaDoor
/- The places, sorted by their roads: slices.SortFunc with byRoads' closure. -/
namespace Go.Proofs.YtdogncjcainhlaaDoor
open Go.RowKit Go.Deep
open Mem

theorem grow_turns (w : World) (os : Array Obj) : Turns (fun _ => False) w (Sort.grow w os) :=
  ⟨rfl, rfl, rfl, by simp [Sort.grow], fun k hk _ => by
    show (w.heap ++ os)[k]? = w.heap[k]?
    rw [Array.getElem?_append_left hk]⟩
theorem putRow_turns {α : Type} [Inhabited α] (enc : α → Value) (w : World) (blk off : Nat) (d : Array α) : Turns (fun k => k = blk) w (Sort.putRow enc w blk off d) :=
  ⟨rfl, rfl, rfl, by simp, fun k _ hp => by
    show (w.heap.modify blk _)[k]? = w.heap[k]?
    rw [Array.getElem?_modify, if_neg (fun c => hp c.symm)]⟩
theorem sortWorld_turns {α : Type} [Inhabited α] (enc : α → Value) (w : World) (blk off m : Nat) (d : Array α) (os : Array Obj) : Turns (fun k => k = blk) w (sortWorld enc w blk off m d os) := by
  have h0 : Turns (fun k => k = blk) w (Sort.ahead w m) := ⟨rfl, rfl, rfl, Nat.le_refl _, fun _ _ _ => rfl⟩
  exact (h0.trans (putRow_turns enc _ blk off d)).trans ((grow_turns _ os).mono (fun _ _ h => h.elim))

namespace Pu
/-- The closure's order, on the places. -/
def finCmp (d : Nat → Nat) (n : Nat) (a b : Fin n) : Int := byCmp d a.val b.val
theorem finCmp_lt (d : Nat → Nat) (n : Nat) (a b : Fin n) : ltOf (finCmp d n) a b = true ↔ Above d a.val b.val := by
  unfold ltOf finCmp
  rw [decide_eq_true_iff]
  exact byCmp_lt d a.val b.val
theorem finCmp_no (d : Nat → Nat) (n : Nat) (a b : Fin n) : ltOf (finCmp d n) a b = false ↔ ¬ Above d a.val b.val := by
  rw [← finCmp_lt, Bool.not_eq_true]
theorem finCmp_swo (d : Nat → Nat) (n : Nat) : Sort.SWO (ltOf (finCmp d n)) := {
  irrefl := fun x => by rw [finCmp_no]; unfold Above; omega
  trans := fun x y z h1 h2 => by rw [finCmp_lt] at *; unfold Above at *; omega
  ntrans := fun x y z h1 h2 => by rw [finCmp_no] at *; unfold Above at *; omega }
/-- A permutation of the places, none later above an earlier: the order by roads. -/
theorem sorted_ranked {n : Nat} [Inhabited (Fin n)] {d : Nat → Nat} (hd : ∀ x, x < n → d x ≤ n) {D' : Array (Fin n)} (hp : Sort.PermIn 0 n (Array.ofFn (n := n) id) D') (hs : Sort.SortedIn (ltOf (finCmp d n)) 0 n D') : D'.size = n ∧ D'.toList.map Fin.val = ranked d n := by
  obtain ⟨h1, _, h3⟩ := hp
  have hsz : D'.size = n := by rw [h1]; simp
  have e1 : D'.extract 0 n = D' := by
    have := Array.extract_size (xs := D')
    rwa [hsz] at this
  have e2 : (Array.ofFn (n := n) id).extract 0 n = Array.ofFn (n := n) id := by
    simp
  rw [e1, e2] at h3
  have hnd : D'.toList.Nodup := h3.symm.nodup (List.pairwise_iff_getElem.2 (fun i j hi hj hij c => by simp at c; omega))
  refine ⟨hsz, ranked_one hd ?_ ?_⟩
  · rw [List.pairwise_map, List.pairwise_iff_getElem]
    intro i j hi hj hij
    have hi' : i < D'.size := by simpa using hi
    have hj' : j < D'.size := by simpa using hj
    have := hs i j (Nat.zero_le _) hij (by omega)
    rw [finCmp_no, getElem!_pos D' i hi', getElem!_pos D' j hj'] at this
    have hne : D'.toList[i] ≠ D'.toList[j] := List.pairwise_iff_getElem.1 hnd i j hi hj hij
    have hne' : (D'.toList[i]).val ≠ (D'.toList[j]).val := fun c => hne (Fin.ext c)
    simp only [Above, Array.getElem_toList] at this hne' ⊢
    omega
  · intro x
    constructor
    · intro hx
      obtain ⟨y, _, rfl⟩ := List.mem_map.1 hx
      exact y.2
    · intro hx
      refine List.mem_map.2 ⟨⟨x, hx⟩, h3.symm.mem_iff.1 ?_, rfl⟩
      simp
end Pu

theorem sort_any (w : World) (ob cap rb rg n : Nat) (d : Nat → Nat) (hn1 : 1 ≤ n) (hn : n ≤ 40) (hd : ∀ x, x < n → d x ≤ n) (hO : ∀ j, j < n → w.cell? ⟨ob, j, none⟩ = some (.int .i64 (j : Int)) ∧ w.frozen? ⟨ob, j, none⟩ = false)
    (hrb : w.cell? ⟨rb, 0, none⟩ = some (.slice (some ⟨rg, 0, none⟩) n n)) (hR : ∀ j, j < n → w.cell? ⟨rg, j, none⟩ = some (.int .i64 (d j : Nat))) (h1 : rb ≠ ob) (h2 : rg ≠ ob) :
    Calls Tryd.prog 78 #[.slice (some ⟨ob, 0, none⟩) n cap, .func (.func 79) #[] #[.pointer (some ⟨rb, 0, none⟩)]] w fun e w' => e = .returned (.tuple #[]) ∧ Turns (fun k => k = ob) w w' ∧ Ord w' ob n (Pu.ranked d n) := by
  haveI : Inhabited (Fin n) := ⟨⟨0, hn1⟩⟩
  obtain ⟨A, hA⟩ : ∃ A : Array (Fin n), A = Array.ofFn (n := n) id := ⟨_, rfl⟩
  have hAs : A.size = n := by rw [hA]; simp
  have hAg : ∀ j (hj : j < n), A[j]! = ⟨j, hj⟩ := fun j hj => by
    rw [getElem!_pos A j (by omega)]; simp [hA]
  have eg : ∀ args w, (callFunc 79 args).run Tryd.prog w = .ok (.enter 79 args) w := enters_of Tryd.func79 (by kernel_rfl) rfl
  have hbl : ob < w.heap.size := World.block_lt_of_cell? _ _ (hO 0 (by omega)).1
  have hrl : rg < w.heap.size := World.block_lt_of_cell? _ _ (hR 0 (by omega))
  have hcmp : CmpLays1 Tryd.prog 79 #[.pointer (some ⟨rb, 0, none⟩)] (fun i : Fin n => Value.int .i64 (i.val : Int)) (Pu.finCmp d n) ob 0 A.size w := by
    intro m os dk _ x y
    have t := sortWorld_turns (fun i : Fin n => Value.int .i64 (i.val : Int)) w ob 0 m dk os
    refine closure_any _ rb rg n x.val y.val (d x.val) (d y.val) x.2 y.2 ?_ ?_ ?_
    · exact (t.cell (a := ⟨rb, 0, none⟩) (World.block_lt_of_cell? _ _ hrb) h1).trans hrb
    · exact (t.cell (a := ⟨rg, x.val, none⟩) hrl h2).trans (hR _ x.2)
    · exact (t.cell (a := ⟨rg, y.val, none⟩) hrl h2).trans (hR _ y.2)
  have hH : Sort.Holds (fun i : Fin n => Value.int .i64 (i.val : Int)) w ob 0 A := by
    intro j hj
    have hj' : j < n := by omega
    rw [hAg j hj']
    simpa using hO j hj'
  have k := slices_SortFunc_int (fun i : Fin n => Value.int .i64 (i.val : Int)) (fun _ => rfl) (Pu.finCmp d n) (Pu.finCmp_swo d n) 79 #[.pointer (some ⟨rb, 0, none⟩)] ob 0 cap A w eg hcmp hH hbl (by omega)
  rw [hAs] at k
  refine k.mono ?_
  rintro e w' ⟨rfl, D', m, os, hp, hs, rfl⟩
  rw [hA] at hp
  obtain ⟨hsz, hl⟩ := Pu.sorted_ranked hd hp hs
  refine ⟨rfl, sortWorld_turns _ _ _ _ _ _ _, ?_, fun j x hx => ?_⟩
  · rw [← hl]; simp [hsz]
  · rw [← hl] at hx
    have hjl : j < D'.size := by have := (List.getElem?_eq_some_iff.1 hx).1; simpa using this
    have hxv : (D'[j]).val = x := by simpa [hjl] using hx
    refine ⟨by rw [← hxv]; exact (D'[j]).2, ?_⟩
    have hH' : Sort.Holds (fun i : Fin n => Value.int .i64 (i.val : Int)) (Sort.ahead w m) ob 0 A := hH
    have c := Sort.cell?_putRow (fun i : Fin n => Value.int .i64 (i.val : Int)) (Sort.ahead w m) ob 0 A D' hH' (by omega) j hjl
    rw [getElem!_pos D' j hjl, hxv, Nat.zero_add] at c
    exact ((grow_turns _ os).cell (World.block_lt_of_cell? _ _ c) (fun x => x)).trans c
#print axioms sort_any
end Go.Proofs.YtdogncjcainhlaaDoor
/- The walk of ranks.byRoads. -/
namespace Go.Proofs.YtdogncjcainhlaaDoor
open Go.RowKit Go.Deep
open Mem

/-- What holds ahead of each round: the first k places stand in the order, with their roads. -/
structure ByK (w : World) (n : Nat) (d : Nat → Nat) (k : Nat) (wr : World) : Prop where
  ord : Ints wr w.heap.size n (fun j => if j < k then (j : Int) else 0)
  rds : Ints wr (w.heap.size + 1) n (fun j => if j < k then (d j : Int) else 0)
  box : wr.cell? ⟨w.heap.size + 1 + 1, 0, none⟩ = some (.slice (some ⟨w.heap.size + 1, 0, none⟩) n n)
  turns : Turns (fun _ => False) w wr
theorem ByK.next {w wr wb : World} {n k : Nat} {d : Nat → Nat} (h : ByK w n d k wr) (hk : k < n) (t : Turns (fun _ => False) (wr.setCell ⟨w.heap.size, k, none⟩ (.int .i64 (k : Int))) wb) : ByK w n d (k + 1) (wb.setCell ⟨w.heap.size + 1, k, none⟩ (.int .i64 (d k : Int))) := by
  have t0 : Turns (fun x => x = w.heap.size) wr (wr.setCell ⟨w.heap.size, k, none⟩ (.int .i64 (k : Int))) := Turns.setCell (p := fun x => x = w.heap.size) (Turns.refl _ wr) (Or.inr rfl) _
  have t1 : Turns (fun x => x = w.heap.size + 1) wb (wb.setCell ⟨w.heap.size + 1, k, none⟩ (.int .i64 (d k : Int))) := Turns.setCell (p := fun x => x = w.heap.size + 1) (Turns.refl _ wb) (Or.inr rfl) _
  have o1 := ((h.ord.set hk (k : Int)).turns t (fun x => x)).turns t1 (by omega)
  have r1 := (((h.rds.turns t0 (by omega)).turns t (fun x => x)).set hk (d k : Int))
  refine ⟨o1.congr (fun j hj => ?_), r1.congr (fun j hj => ?_), ?_, ?_⟩
  · unfold upd; by_cases e : j = k
    · rw [if_pos e, if_pos (by omega), e]
    · rw [if_neg e]; dsimp only; by_cases c : j < k
      · rw [if_pos c, if_pos (by omega)]
      · rw [if_neg c, if_neg (by omega)]
  · unfold upd; by_cases e : j = k
    · rw [if_pos e, if_pos (by omega), e]
    · rw [if_neg e]; dsimp only; by_cases c : j < k
      · rw [if_pos c, if_pos (by omega)]
      · rw [if_neg c, if_neg (by omega)]
  · have hb := World.block_lt_of_cell? _ _ h.box
    have c1 := (t0.cell (a := ⟨w.heap.size + 1 + 1, 0, none⟩) hb (fun c => by have c' : w.heap.size + 1 + 1 = w.heap.size := c; omega)).trans h.box
    have c2 := (t.cell (World.block_lt_of_cell? _ _ c1) (fun x => x)).trans c1
    exact (t1.cell (a := ⟨w.heap.size + 1 + 1, 0, none⟩) (World.block_lt_of_cell? _ _ c2) (fun c => by have c' : w.heap.size + 1 + 1 = w.heap.size + 1 := c; omega)).trans c2
  · exact ((h.turns.setCell (Or.inl (Nat.le_refl _)) _).trans t).setCell (Or.inl (Nat.le_succ _)) _

theorem ByK.drew {w wr : World} {n k : Nat} {d : Nat → Nat} (h : ByK w n d k wr) : ByK w n d k wr.drew :=
  ⟨h.ord.turns (Turns.refl (fun _ => False) wr).drew (fun x => x), h.rds.turns (Turns.refl (fun _ => False) wr).drew (fun x => x), h.box, h.turns.drew⟩
set_option maxRecDepth 100000 in
set_option maxHeartbeats 1000000 in
theorem byRoads_any (w : World) (b n : Nat) (R : Int) (len : Nat → Nat → Int) (hn1 : 1 ≤ n) (hn : n ≤ 40) (hM : MapAt w b n R len) (N : Pu.Net n len) :
    Calls Tryd.prog 62 #[.pointer (some ⟨b, 0, none⟩)] w fun e w' => ∃ ob, e = .returned (.slice (some ⟨ob, 0, none⟩) n n) ∧ Turns (fun _ => False) w w' ∧ Ord w' ob n (Pu.ranked (fun v => Pu.rowCnt len v n) n) := by
  have hmk := run_make_row' (P := Tryd.prog) 41 3 (.int .i64 0) 8 Tryd.underlying41 info3 rfl .i64 .i64 n (by omega) (by omega)
  have hp := hM.places
  have hbl := hM.lt
  have HM : Hid (∀ wx, Turns (fun _ => False) w wx → MapAt wx b n R len) := fun wx hx => hM.turns hx (fun x => x)
  have HC : Hid (∀ wx (k : Nat), k < n → Turns (fun _ => False) w wx → Calls Tryd.prog 77 #[.pointer (some ⟨b, 0, none⟩), .int .i64 k] wx fun e w' => e = .returned (.int .i64 (Pu.rowCnt len k n : Nat)) ∧ w' = wx) := fun wx k hk hx => count_any wx b n k R len hn hk (hM.turns hx (fun x => x)) N
  have HL : Hid (∀ k, Pu.rowCnt len k n ≤ n) := fun k => Pu.rowCnt_le' len k n
  generalize hdd : (fun v => Pu.rowCnt len v n) = d at *
  have HD : Hid (∀ k, Pu.rowCnt len k n = d k) := fun k => by rw [← hdd]
  clear hM N hdd
  go_enter Tryd.func62, Tryd.ntmps62
  go_wp2
  go_loopw [18] (fun iv wr => ∃ k : Nat, k ≤ n ∧ iv = .int .i64 k ∧ ByK w n d k wr) (fun iv _ => n - (intOf iv).toNat)
  case atStart =>
    refine ⟨0, Nat.zero_le _, rfl, ?_, ?_, ?_, ?_⟩
    · exact ((((Ints.made w n 3 0).turns ((Turns.refl (fun _ => False) _).alloc _) (fun x => x)).turns ((Turns.refl (fun _ => False) _).alloc _) (fun x => x))).congr (fun j _ => by simp)
    · have := (Ints.made (w.alloc (.cells (madeCells #[.int .i64 0] n) 3)) n 3 0).turns ((Turns.refl (fun _ => False) _).alloc (.cells #[.slice (some ⟨w.heap.size + 1, 0, none⟩) n n] 41)) (fun x => x)
      exact (by simpa using this : Ints _ (w.heap.size + 1) n (fun _ => 0)).congr (fun j _ => by simp)
    · have := World.cell?_alloc_new (w := (w.alloc (.cells (madeCells #[.int .i64 0] n) 3)).alloc (.cells (madeCells #[.int .i64 0] n) 3)) #[.slice (some ⟨w.heap.size + 1, 0, none⟩) n n] 41 0
      simpa using this
    · exact (((Turns.refl _ w).alloc _).alloc _).alloc _
  case round =>
    obtain ⟨k, hk, rfl, hK⟩ := hrel
    by_cases hkn : k < n
    · have hki : (k : Int) < (n : Int) := by omega
      have hca := hK.ord.cell k hkn
      have hfa := hK.ord.free k hkn
      have HK : Hid (ByK w n d k wr) := hK
      have t0 : Turns (fun x => x = w.heap.size) wr (wr.setCell ⟨w.heap.size, k, none⟩ (.int .i64 (k : Int))) := Turns.setCell (p := fun x => x = w.heap.size) (Turns.refl _ wr) (Or.inr rfl) _
      have hI2 := hK.rds.turns t0 (by omega)
      have e1 := (t0.cell (a := ⟨w.heap.size + 1 + 1, 0, none⟩) (World.block_lt_of_cell? _ _ hK.box) (fun c => by have c' : w.heap.size + 1 + 1 = w.heap.size := c; omega)).trans hK.box
      have e2 := hI2.cell k hkn
      have e3 := hI2.free k hkn
      have HTT : Hid (Turns (fun _ => False) w (wr.setCell ⟨w.heap.size, k, none⟩ (.int .i64 (k : Int)))) := hK.turns.setCell (Or.inl (Nat.le_refl _)) _
      have hlk : ¬ k < k := by omega
      simp only [if_neg hlk] at hca e2
      clear hK t0 hI2
      go_wp2_with fail
      go_region_held3 (fun w' => w'.cell? ⟨w.heap.size + 1 + 1, 0, none⟩ = some (.slice (some ⟨w.heap.size + 1, 0, none⟩) n n)) (go_keep)
        (first | (go_at_call 77; refine (HC.out _ k hkn (by first | exact HTT.out | exact HTT.out.drew | exact HTT.out.drewN _)).mono ?_; rintro e9 w9 ⟨rfl, hw9⟩; subst hw9))
      all_goals
        have HX : Hid (ByK w n d (k + 1) (((wr.setCell ⟨w.heap.size, k, none⟩ (.int .i64 (k : Int))).setCell ⟨w.heap.size + 1, k, none⟩ (.int .i64 (Pu.rowCnt len k n : Nat))).drew)) := by
          rw [HD.out k]
          exact (HK.out.next hkn (Turns.refl _ _)).drew
        clear HK HTT e1 e2 e3 hca hfa
        go_wp2
        go_roundw
        case measure => simp [intOf]; omega
        case rel => exact ⟨k + 1, by omega, by go_num, HX.out⟩
    · have hke : k = n := by omega
      subst hke
      have hki : ¬ (k : Int) < (k : Int) := by omega
      have c := sort_any wr w.heap.size k (w.heap.size + 1 + 1) (w.heap.size + 1) k d hn1 hn (fun x _ => by rw [← HD.out x]; exact HL.out x)
        (fun j hj => ⟨by have := hK.ord.cell j hj; simpa [hj] using this, hK.ord.free j hj⟩) hK.box (fun j hj => by have := hK.rds.cell j hj; simpa [hj] using this) (by omega) (by omega)
      have HT : Hid (Turns (fun _ => False) w wr) := hK.turns
      have hbx := hK.box
      clear hK
      go_wp2_with fail
      refine c.mono ?_
      rintro e9 w9 ⟨rfl, hT9, hO9⟩
      have HX : Hid (Turns (fun _ => False) w w9 ∧ Ord w9 w.heap.size k (Pu.ranked d k)) := ⟨HT.out.join hT9 (fun q hq _ c => by omega), hO9⟩
      clear c hT9 hO9 hbx
      go_wp2
      go_ret
      exact ⟨w.heap.size, rfl, HX.out.1, HX.out.2⟩
#print axioms byRoads_any
end Go.Proofs.YtdogncjcainhlaaDoor
/- A new map's block. -/
namespace Go.Proofs.YtdogncjcainhlaaDoor
open Go.RowKit
open Mem

def isZero : Value → Bool
  | .int .i64 0 => true
  | _ => false
theorem isZero_eq {v : Value} (h : isZero v = true) : v = .int .i64 0 := by
  unfold isZero at h
  split at h
  · rfl
  · cases h
def zeroOk : Option Value → Bool
  | some (.agg cs) => cs.toList.all isZero && cs.toList.length == 1602
  | _ => false
theorem zeroOk_some {o : Option Value} (h : zeroOk o = true) : ∃ Z : Array Value, o = some (.agg Z) ∧ Z.size = 1602 ∧ ∀ j, j < 1602 → Z[j]? = some (.int .i64 0) := by
  unfold zeroOk at h
  split at h
  · rename_i cs
    rw [Bool.and_eq_true] at h
    obtain ⟨h1, h2⟩ := h
    have h3 : cs.toList.length = 1602 := by simpa using h2
    refine ⟨cs, rfl, by rw [← h3]; simp, fun j hj => ?_⟩
    rw [← Array.getElem?_toList, List.getElem?_eq_getElem (by rw [h3]; exact hj)]
    exact congrArg some (isZero_eq (List.all_eq_true.1 h1 _ (List.getElem_mem _)))
  · cases h
theorem zero76 : zeroOk Tryd.t84.zero = true := by kernel_rfl
/-- The cells of a new map: how many places, how many roads, no road yet. -/
structure IsMap (C : Array Value) (n k : Int) : Prop where
  size : C.size = 1602
  get0 : C[0]? = some (.int .i64 n)
  get1 : C[1]? = some (.int .i64 k)
  get : ∀ j, 2 ≤ j → j < 1602 → C[j]? = some (.int .i64 0)
theorem run_map (n k : Int) : ∃ Z : Array Value, (∀ w, (zeroValue 84).run Tryd.prog w = .ok (.agg Z) w) ∧ Z.size = 1602 ∧ ¬ Z = #[] ∧ IsMap ((Z.setIfInBounds 0 (.int .i64 n)).setIfInBounds 1 (.int .i64 k)) n k := by
  obtain ⟨Z, hz, hs, hg⟩ := zeroOk_some zero76
  refine ⟨Z, fun w => ?_, hs, ?_, ⟨by simp [hs], ?_, ?_, fun j h2 hj => ?_⟩⟩
  · have := Tryd.typeInfo84 w
    unfold zeroValue
    simp [this, hz]
  · rintro rfl; simp at hs
  · simp [hs]
  · simp [hs]
  · rw [Array.getElem?_setIfInBounds_ne (by omega), Array.getElem?_setIfInBounds_ne (by omega)]; exact hg j hj
/-- A map's block whose cells may be written. -/
structure MapFree (w : World) (b : Nat) (N R : Int) (len : Nat → Nat → Int) : Prop where
  at' : MapAt w b N R len
  free : ∀ j, w.frozen? ⟨b, j, none⟩ = false
theorem MapFree.made (w : World) {C : Array Value} {n k : Int} (h : IsMap C n k) : MapFree (w.alloc (.cells C 84)) w.heap.size n k (fun _ _ => 0) := by
  refine ⟨⟨by simp, ?_, ?_, fun i j hi hj => ?_⟩, fun j => World.frozen?_alloc_new _ _ _ _⟩
  · rw [World.cell?_alloc_new]; exact h.get0
  · rw [World.cell?_alloc_new]; exact h.get1
  · rw [World.cell?_alloc_new]; exact h.get _ (by omega) (by omega)
theorem run_mapBox (C : Array Value) (w : World) : (Instr.box 84 (.agg C)).run Tryd.prog w = .ok (.pointer (some ⟨w.heap.size, 0, none⟩)) (w.alloc (.cells C 84)) := by
  simp [Instr.box, newVar, newRow, Value.cells]
end Go.Proofs.YtdogncjcainhlaaDoor
/- The walk of atlas.lay. -/
namespace Go.Proofs.YtdogncjcainhlaaDoor
open Go.RowKit
open Mem

/-- The cells of block rb hold the roads. -/
structure RoadsAt (w : World) (rb : Nat) (rs : List Pu.Rd) : Prop where
  lt : rb < w.heap.size
  c0 : ∀ (k u v : Nat) (x : Int), rs[k]? = some (u, v, x) → w.cell? ⟨rb, k * 3, none⟩ = some (.int .i64 (u : Int))
  c1 : ∀ (k u v : Nat) (x : Int), rs[k]? = some (u, v, x) → w.cell? ⟨rb, k * 3 + 1, none⟩ = some (.int .i64 (v : Int))
  c2 : ∀ (k u v : Nat) (x : Int), rs[k]? = some (u, v, x) → w.cell? ⟨rb, k * 3 + 2, none⟩ = some (.int .i64 x)

theorem MapFree.turns {p : Nat → Prop} {w w' : World} {b : Nat} {N R : Int} {len : Nat → Nat → Int} (h : MapFree w b N R len) (t : Turns p w w') (hb : ¬ p b) : MapFree w' b N R len :=
  ⟨h.at'.turns t hb, fun j => (t.frozen (a := ⟨b, j, none⟩) h.at'.lt hb).trans (h.free j)⟩
theorem MapFree.drewN {w : World} {b : Nat} {N R : Int} {len : Nat → Nat → Int} (h : MapFree w b N R len) (q : Nat) : MapFree (w.drewN q) b N R len := ⟨⟨h.at'.lt, h.at'.places, h.at'.roads, h.at'.cell⟩, h.free⟩
theorem MapFree.set1 {w : World} {b : Nat} {N R : Int} {len : Nat → Nat → Int} {u v : Nat} (x : Int) (h : MapFree w b N R len) (hu : u < 40) (hv : v < 40) :
    MapFree (w.setCell ⟨b, 2 + u * 40 + v, none⟩ (.int .i64 x)) b N R (fun i j => if i = u ∧ j = v then x else len i j) := by
  refine ⟨⟨by simpa using h.at'.lt, ?_, ?_, fun i j hi hj => ?_⟩, fun j => by simpa using h.free j⟩
  · rw [World.cell?_setCell_other _ _ _ _ (by intro c; injection c with _ c; omega)]; exact h.at'.places
  · rw [World.cell?_setCell_other _ _ _ _ (by intro c; injection c with _ c; omega)]; exact h.at'.roads
  · by_cases e : i = u ∧ j = v
    · obtain ⟨rfl, rfl⟩ := e
      rw [if_pos ⟨rfl, rfl⟩]; exact World.cell?_setCell_same _ _ _ (h.at'.cell i j hi hj)
    · rw [if_neg e, World.cell?_setCell_other _ _ _ _ (by intro c; injection c with _ c; omega)]; exact h.at'.cell i j hi hj
theorem MapFree.set2 {w : World} {b : Nat} {N R : Int} {len : Nat → Nat → Int} {u v : Nat} {x : Int} (q q' : Nat) (h : MapFree w b N R len) (hu : u < 40) (hv : v < 40) :
    MapFree ((((w.drewN q).setCell ⟨b, 2 + u * 40 + v, none⟩ (.int .i64 x)).setCell ⟨b, 2 + v * 40 + u, none⟩ (.int .i64 x)).drewN q') b N R (Pu.layLen len u v x) := by
  have e : Pu.layLen len u v x = fun i j => if i = v ∧ j = u then x else (if i = u ∧ j = v then x else len i j) := by
    funext i j
    unfold Pu.layLen
    by_cases c1 : i = v ∧ j = u
    · rw [if_pos (Or.inr c1), if_pos c1]
    · by_cases c2 : i = u ∧ j = v
      · rw [if_pos (Or.inl c2), if_neg c1, if_pos c2]
      · rw [if_neg (fun c => c.elim c2 c1), if_neg c1, if_neg c2]
  rw [e]
  exact (((h.drewN q).set1 x hu hv).set1 x hv hu).drewN q'

/-- What lay hands back. -/
def LayPost (w : World) (n : Nat) (rs : List Pu.Rd) (e : Ending) (w' : World) : Prop :=
  Turns (fun _ => False) w w' ∧ match Pu.lay (fun _ _ => 0) rs 0 with
    | .inl i => e = .returned (.tuple #[.pointer none, .int .i64 3, .int .i64 ((i : Int) + 1)])
    | .inr len => e = .returned (.tuple #[.pointer (some ⟨w.heap.size, 0, none⟩), .int .i64 0, .int .i64 0]) ∧ MapAt w' w.heap.size n rs.length len

/-- What holds ahead of each round. -/
def LayInv (w : World) (n : Nat) (rs : List Pu.Rd) (v : Value) (wr : World) : Prop :=
  ∃ (k : Nat) (len : Nat → Nat → Int), v = .int .i64 k ∧ k ≤ rs.length ∧ Pu.lay len (rs.drop k) k = Pu.lay (fun _ _ => 0) rs 0 ∧ MapFree wr w.heap.size n rs.length len ∧ Turns (fun _ => False) w wr

set_option maxRecDepth 1000000 in
set_option maxHeartbeats 1000000 in
theorem lay_any (w : World) (n rb cap : Nat) (rs : List Pu.Rd) (hn : n ≤ 40) (hR : RoadsAt w rb rs) (hok : ∀ r ∈ rs, Pu.RdOk n r) (hl : rs.length ≤ 200) :
    Calls Tryd.prog 43 #[.int .i64 n, .slice (some ⟨rb, 0, none⟩) rs.length cap] w (LayPost w n rs) := by
  obtain ⟨Z, hzv, hzs, hzn, hC⟩ := run_map n rs.length
  have hzs2 : 2 ≤ Z.size := by omega
  have hF := MapFree.made w hC
  clear hC hzs
  go_enter Tryd.func43, Tryd.ntmps43
  go_wp2
  go_loopw [17] (fun v wr => LayInv w n rs v wr) (fun i _ => rs.length - (intOf i).toNat)
  case atStart => exact ⟨0, _, rfl, Nat.zero_le _, rfl, hF, (Turns.refl _ _).alloc _⟩
  case round =>
    obtain ⟨k, len, rfl, hk, hlay, hM, hT⟩ := hrel
    clear hF hzv hzs2 hzn
    by_cases hlt : k < rs.length
    · obtain ⟨u, v, x, he⟩ : ∃ (u v : Nat) (x : Int), rs[k]? = some (u, v, x) := ⟨_, _, _, List.getElem?_eq_getElem hlt⟩
      have ho := hok _ (List.mem_of_getElem? he)
      obtain ⟨ho1, ho2, ho3, ho4⟩ := ho
      simp only at ho1 ho2 ho3 ho4
      have c0 : wr.cell? ⟨rb, k * 3, none⟩ = some (.int .i64 (u : Int)) := (hT.cell (a := ⟨rb, k * 3, none⟩) hR.lt (fun x => x)).trans (hR.c0 k u v x he)
      have c1 : wr.cell? ⟨rb, k * 3 + 1, none⟩ = some (.int .i64 (v : Int)) := (hT.cell (a := ⟨rb, k * 3 + 1, none⟩) hR.lt (fun x => x)).trans (hR.c1 k u v x he)
      have c2 : wr.cell? ⟨rb, k * 3 + 2, none⟩ = some (.int .i64 x) := (hT.cell (a := ⟨rb, k * 3 + 2, none⟩) hR.lt (fun x => x)).trans (hR.c2 k u v x he)
      have hml := hM.at'.lt
      have m1 := hM.at'.cell u v (by omega) (by omega)
      have m2 := hM.at'.cell v u (by omega) (by omega)
      have f1 := hM.free (2 + u * 40 + v)
      have f2 := hM.free (2 + v * 40 + u)
      have e2 : rs.drop k = (u, v, x) :: rs.drop (k + 1) := by rw [List.drop_eq_getElem_cons hlt]; rw [List.getElem?_eq_getElem hlt] at he; simp at he; rw [he]
      by_cases hL : len u v = 0
      · have hb : (len u v != 0) = false := by simpa using hL
        rw [e2, Pu.lay_go hL] at hlay
        have HL : Hid (Pu.lay (Pu.layLen len u v x) (rs.drop (k + 1)) (k + 1) = Pu.lay (fun _ _ => 0) rs 0) := hlay
        clear hL hlay he hok hR e2
        go_wp2
        go_quiet (fail)
        go_wp2
        go_region
        go_wp2
        go_region
        go_wp2
        go_roundw
        case measure => simp [intOf]; omega
        case rel => exact ⟨k + 1, _, by go_num, by omega, HL.out, (hM.turns ((Turns.refl (fun _ => False) wr).alloc _) (fun x => x)).set2 (nq + 1) 1 (by omega) (by omega), ((((hT.alloc _).drewN (nq + 1)).setCell (Or.inl (Nat.le_refl _)) _).setCell (Or.inl (Nat.le_refl _)) _).drew⟩
      · have hb : (len u v != 0) = true := by simpa using hL
        have HP : Hid (Pu.lay (fun _ _ => 0) rs 0 = .inl k) := by
          rw [e2, Pu.lay_twice hL] at hlay; exact hlay.symm
        have hT2 := hT.size
        clear hL hlay hM he hok hR e2
        go_wp2
        go_quiet (fail)
        go_wp2
        go_ret3
        refine ⟨(hT.alloc _).drewN _, ?_⟩
        rw [HP.out]
        rfl
    · have ek : k = rs.length := by omega
      subst ek
      have HP : Hid (Pu.lay (fun _ _ => 0) rs 0 = .inr len) := by rw [List.drop_length] at hlay; exact hlay.symm
      have hA := hM.at'
      clear hM hlay hR hok
      go_wp2
      go_ret3
      refine ⟨hT, ?_⟩
      rw [HP.out]
      exact ⟨rfl, hA⟩
end Go.Proofs.YtdogncjcainhlaaDoor
/- The walk of atlas.Parse. -/
namespace Go.Proofs.YtdogncjcainhlaaDoor
open Go.RowKit
open Mem

/-- What Parse hands back. -/
def ParsePost (w : World) (r : Pu.Res) (e : Ending) (w' : World) : Prop :=
  Turns (fun _ => False) w w' ∧ match r with
    | .err c p => e = .returned (.tuple #[.pointer none, .int .i64 c, .int .i64 p])
    | .ok n k len => ∃ b, e = .returned (.tuple #[.pointer (some ⟨b, 0, none⟩), .int .i64 0, .int .i64 0]) ∧ w.heap.size ≤ b ∧ MapAt w' b n k len

set_option maxHeartbeats 400000 in
theorem parse_long (s : ByteArray) (w : World) (hs : s.size ≤ maxLen) (h : 4000 < s.size) : Calls Tryd.prog 28 #[.string s] w (ParsePost w (.err 1 0)) := by
  unfold maxLen at hs
  go_enter Tryd.func28, Tryd.ntmps28
  go_wp2
  go_ret3
  exact ⟨Turns.refl _ _, rfl⟩
set_option maxHeartbeats 400000 in
theorem parse_many (s : ByteArray) (w : World) (h : s.size ≤ 4000) (h2 : 200 < s.data.toList.count 10) : Calls Tryd.prog 28 #[.string s] w (ParsePost w (.err 1 0)) := by
  have hc := strings_Count_one s 10 w
  have hl : s.data.toList.count 10 ≤ 4000 := Nat.le_trans List.count_le_length (by simpa using h)
  unfold Lib.countByte at hc
  generalize List.count 10 s.data.toList = c at *
  go_enter Tryd.func28, Tryd.ntmps28
  go_wp2_with (go_at_call 39; refine hc.mono ?_; rintro e w' ⟨rfl, rfl⟩)
  go_ret3
  exact ⟨Turns.refl _ _, rfl⟩
set_option maxHeartbeats 400000 in
theorem parse_first (s P0 : ByteArray) (T : List ByteArray) (w : World) (h : s.size ≤ 4000) (hm : Ml w) (h2 : s.data.toList.count 10 ≤ 200) (hp : Pu.pieces 10 s = P0 :: T) (hw : Pu.within P0.data.toList 1 40 = none) :
    Calls Tryd.prog 28 #[.string s] w (ParsePost w (.err 2 0)) := by
  have hc := strings_Count_one s 10 w
  have hsp := split_any s 10 w h hm
  rw [hp] at hsp
  have hpl := Pu.pieces_count 10 s
  have hP0 : P0.size ≤ maxLen := by have := Pu.pieces_size (c := 10) (s := s) (p := P0) (by rw [hp]; simp); unfold maxLen; omega
  rw [hp] at hpl
  unfold Lib.countByte at hc
  generalize List.count 10 s.data.toList = c at *
  simp only [List.length_cons] at hpl hsp
  have hT : T.length ≤ 200 := by omega
  clear hpl hp
  go_enter Tryd.func28, Tryd.ntmps28
  go_wp2_with (go_at_call 39; refine hc.mono ?_; rintro e w' ⟨rfl, rfl⟩)
  refine hsp.mono ?_
  rintro e w1 ⟨rfl, rfl⟩
  clear hsp hc
  go_wp2_with fail
  refine (within_none P0 1 40 _ hP0 hw).mono ?_
  rintro e w1 ⟨rfl, hw1⟩
  subst hw1
  clear hw
  go_wp2
  go_ret3
  exact ⟨(Turns.refl _ _).alloc _, rfl⟩

theorem info106 : (Tryd.prog.info? 109).map (fun i => (i.zero, i.size, i.bytes)) = some (some (.agg #[.int .i64 0, .int .i64 0, .int .i64 0]), 3, 24) := by kernel_rfl

/-- What holds ahead of each round of Parse: the roads acc of the first k lines lie in the row v. -/
def ParseInv (w1 : World) (n : Nat) (T : List (List UInt8)) (v i : Value) (wr : World) : Prop :=
  ∃ (k g cap : Nat) (acc : List Pu.Rd), i = .int .i64 k ∧ k ≤ T.length ∧ acc.length = k ∧ v = .slice (some ⟨g, 0, none⟩) k cap ∧ wr.ownsRow w1.heap.size 109 3 (.slice (some ⟨g, 0, none⟩) k cap) k (Pu.rdVals acc) ∧
    (∀ r ∈ acc, Pu.RdOk n r) ∧ Pu.join acc (Pu.roads n (T.drop k) k) = Pu.roads n T 0 ∧ Turns (fun _ => False) w1 wr

set_option maxRecDepth 1000000 in
set_option maxHeartbeats 1000000 in
theorem parse_main (s P0 : ByteArray) (T : List ByteArray) (n : Nat) (w : World) (h : s.size ≤ 4000) (hm : Ml w) (h2 : s.data.toList.count 10 ≤ 200) (hp : Pu.pieces 10 s = P0 :: T) (hw : Pu.within P0.data.toList 1 40 = some (n : Int)) (hTn : ¬ T = []) :
    Calls Tryd.prog 28 #[.string s] w (ParsePost w (Pu.parseRows P0.data.toList (T.map (·.data.toList)))) := by
  have hc := strings_Count_one s 10 w
  have hsp := split_any s 10 w h hm
  rw [hp] at hsp
  have hpl := Pu.pieces_count 10 s
  have hP0 : P0.size ≤ maxLen := by have := Pu.pieces_size (c := 10) (s := s) (p := P0) (by rw [hp]; simp); unfold maxLen; omega
  have hTs : ∀ p ∈ T, p.size ≤ 4000 := fun p hp' => Nat.le_trans (Pu.pieces_size (c := 10) (s := s) (p := p) (by rw [hp]; simp [hp'])) h
  rw [hp] at hpl
  unfold Lib.countByte at hc
  generalize List.count 10 s.data.toList = c at *
  simp only [List.length_cons] at hpl hsp
  have hT : T.length ≤ 200 := by omega
  have hn := Pu.within_some hw
  have hn1 := hn.2.1
  have hn2 := hn.2.2
  have HP : Hid (Pu.parseRows P0.data.toList (T.map (·.data.toList)) = match Pu.roads n (T.map (·.data.toList)) 0 with
    | .inl i => .err 2 ((i : Int) + 1)
    | .inr rs => match Pu.lay (fun _ _ => 0) rs 0 with
      | .inl i => .err 3 ((i : Int) + 1)
      | .inr len => .ok n rs.length len) := by unfold Pu.parseRows; rw [hw]; simp only [Int.toNat_natCast]; rfl
  clear hpl hp hn
  go_enter Tryd.func28, Tryd.ntmps28
  go_wp2_with (go_at_call 39; refine hc.mono ?_; rintro e w' ⟨rfl, hw'⟩; subst w')
  refine hsp.mono ?_
  rintro e w1 ⟨rfl, hw1⟩
  have hT1 : Turns (fun _ => False) w w1 := by rw [hw1]; exact (Turns.refl _ _).alloc _
  have hs1 : w.heap.size < w1.heap.size := by rw [hw1]; simp
  have hc0 : w1.cell? ⟨w.heap.size, 0, none⟩ = some (.string P0) := by rw [hw1]; simp
  have hck : ∀ k p, T[k]? = some p → w1.cell? ⟨w.heap.size, 1 + k, none⟩ = some (.string p) := by
    intro k p hk; rw [hw1, World.cell?_alloc_new, Nat.add_comm]; simp [hk]
  have hm1 : Ml w1 := hm.turns hT1 (fun x => x)
  clear hsp hc hw1 hm
  go_wp2_with fail
  refine (within_some P0 1 40 (n : Int) _ hP0 hw).mono ?_
  rintro e w1' ⟨rfl, hw1⟩
  subst w1'
  clear hw
  obtain ⟨i0, hi, hz0, hz1, hz2⟩ := info_parts info106
  go_wp2_with (at_make; refine wpList_make_own _ rfl _ _ 107 rfl w1.heap.size 109 i0 _ 3 Tryd.underlying107 hi hz0 hz1 .i64 .i64 200 200 rfl rfl rfl (by rw [hz2]; decide) (by decide) (Nat.le_refl _) ?_)
  intro w2 hown hgrow
  have hT2 : Turns (fun _ => False) w1 w2 := (Turns.refl _ _).grown hgrow (fun k hk => by cases hk)
  clear hgrow
  go_wp2
  go_loopw [8, 36] (fun v i wr => ParseInv w1 n (T.map (·.data.toList)) v i wr) (fun _ i _ => T.length - (intOf i).toNat)
  case atStart => exact ⟨0, w1.heap.size, 200, [], rfl, Nat.zero_le _, rfl, rfl, hown, (fun r hr => by cases hr), Pu.join_nil _, hT2⟩
  case round =>
    clear hown hT2
    obtain ⟨k, g, cap, acc, rfl, hk, hak, rfl, hown, hok, hjoin, hTr⟩ := hrel
    have hk' : k ≤ T.length := by simpa using hk
    clear hk
    have hTs1 := hTr.size
    by_cases hlt : k < T.length
    · obtain ⟨q, hq⟩ : ∃ q, T[k]? = some q := ⟨_, List.getElem?_eq_getElem hlt⟩
      have hcq : wr.cell? ⟨w.heap.size, 1 + k, none⟩ = some (.string q) := (hTr.cell (a := ⟨w.heap.size, 1 + k, none⟩) hs1 (fun x => x)).trans (hck k q hq)
      have hqs := hTs q (List.mem_of_getElem? hq)
      have hdr : (T.map (·.data.toList)).drop k = q.data.toList :: (T.map (·.data.toList)).drop (k + 1) := by
        rw [List.drop_eq_getElem_cons (by simpa using hlt)]
        rw [List.getElem?_eq_getElem hlt] at hq
        simp at hq ⊢; rw [hq]
      rw [hdr] at hjoin
      have hmr : Ml wr := hm1.turns hTr (fun x => x)
      clear hdr hq
      go_wp2_with fail
      refine (road_any q (n : Int) _ hqs hmr hn1 hn2).mono ?_
      rintro e w3 ⟨rfl, hT3⟩
      have hs3 := hT3.size
      have hown3 : w3.ownsRow w1.heap.size 109 3 (.slice (some ⟨g, 0, none⟩) k cap) k (Pu.rdVals acc) := owns_turns hown hT3
      have hTw : Turns (fun _ => False) w1 w3 := hTr.trans ⟨hT3.os, hT3.tape, hT3.output, hT3.size, fun i hi _ => hT3.block i (by omega) (fun x => x)⟩
      cases hr : Pu.road q.data.toList (n : Int) with
      | none =>
        rw [Pu.roads_bad acc hr] at hjoin
        have HE : Hid (Pu.parseRows P0.data.toList (T.map (·.data.toList)) = .err 2 ((k : Int) + 1)) := by rw [HP.out, ← hjoin]; rfl
        clear hjoin hr hcq hown hown3 hok hTr hm1 hmr HP hck hT3
        simp only [roadV]
        go_wp2
        go_ret3
        refine ⟨hT1.trans (hTw.alloc _), ?_⟩
        rw [HE.out]
        rfl
      | some r =>
        obtain ⟨u, v, x⟩ := r
        have hrd := Pu.road_some hr
        have hu : ((u.toNat : Nat) : Int) = u := by omega
        have hv : ((v.toNat : Nat) : Int) = v := by omega
        rw [Pu.roads_good acc hr] at hjoin
        have hok2 : ∀ r ∈ acc ++ [(u.toNat, v.toNat, x)], Pu.RdOk n r := by
          intro r hr'
          rcases List.mem_append.1 hr' with h' | h'
          · exact hok r h'
          · rw [List.mem_singleton] at h'; subst h'; exact ⟨by simp only; omega, by simp only; omega, by simp only; omega, by simp only; omega⟩
        have hvals : Pu.rdVals acc ++ [.int .i64 u, .int .i64 v, .int .i64 x] = Pu.rdVals (acc ++ [(u.toNat, v.toNat, x)]) := by rw [Pu.rdVals_append]; simp only [Pu.rdVals, hu, hv]
        have HJ : Hid (Pu.join (acc ++ [(u.toNat, v.toNat, x)]) (Pu.roads n ((T.map (·.data.toList)).drop (k + 1)) (k + 1)) = Pu.roads n (T.map (·.data.toList)) 0) := hjoin
        have HV : Hid (Pu.rdVals acc ++ [.int .i64 u, .int .i64 v, .int .i64 x] = Pu.rdVals (acc ++ [(u.toNat, v.toNat, x)])) := hvals
        have HA : Hid (acc.length = k) := hak
        clear hjoin hr hcq hown hok hTr hmr hT3 hvals hu hv hak hrd
        simp only [roadV]
        go_wp2_with (at_builtin; refine wpList_append_own _ rfl _ _ 107 rfl w1.heap.size 109 i0 _ 3 24 Tryd.underlying107 hi hz0 hz1 hz2 rfl (by decide) _ _ _ rfl ((hown3.alloc _).alloc _) ⟨w3.heap.size + 1, 0, none⟩ 1 1 [.int .i64 u, .int .i64 v, .int .i64 x] rfl rfl ?c1 ?c2 ?c3 ?c4 ?c5 ?_)
        case c2 => exact ⟨rfl, rfl, rfl⟩
        case c3 => unfold maxLen; omega
        case c4 => omega
        case c5 => omega
        intro v' w4 hown4 hgrow _
        have hT4 : Turns (fun _ => False) w1 w4 := ((hTw.alloc _).alloc _).grown hgrow (fun k hk => Or.inl (hown3.lt k hk).1)
        obtain ⟨g', cap', hv'⟩ := owns_form hown4
        rw [hv'] at hown4 ⊢
        rw [HV.out] at hown4
        have HR : Hid (ParseInv w1 n (T.map (·.data.toList)) (.slice (some ⟨g', 0, none⟩) (k + 1) cap') (.int .i64 ((k : Int) + 1)) w4) :=
          ⟨k + 1, g', cap', acc ++ [(u.toNat, v.toNat, x)], by go_num, by simp; omega, by simp [HA.out], rfl, hown4, hok2, HJ.out, hT4⟩
        clear hown4 hgrow hT4 hown3 hTw hok2 HJ HV HA hv'
        go_wp2
        go_roundw
        case measure => simp [intOf]; omega
        case rel => exact HR.out
    · have ek : k = T.length := by omega
      have hjoin2 : Pu.roads n (T.map (·.data.toList)) 0 = .inr acc := by
        rw [← hjoin, List.drop_of_length_le (by simp; omega)]; simp [Pu.roads, Pu.join]
      have hg := hown.lt g rfl
      have hR : RoadsAt wr g acc := ⟨hg.2, fun j u v x e => by
          have := hown.cellAt (j * 3) (by have := (List.getElem?_eq_some_iff.1 e).1; omega)
          rw [this]; exact (Pu.rdVals_get acc j u v x e).1, fun j u v x e => by
          have := hown.cellAt (j * 3 + 1) (by have := (List.getElem?_eq_some_iff.1 e).1; omega)
          rw [this]; exact (Pu.rdVals_get acc j u v x e).2.1, fun j u v x e => by
          have := hown.cellAt (j * 3 + 2) (by have := (List.getElem?_eq_some_iff.1 e).1; omega)
          rw [this]; exact (Pu.rdVals_get acc j u v x e).2.2⟩
      have hlay := lay_any wr n g cap acc (by omega) hR hok (by omega)
      rw [hak] at hlay
      have hP2 := HP.out
      rw [hjoin2] at hP2
      have HE : Hid (Pu.parseRows P0.data.toList (T.map (·.data.toList)) = match Pu.lay (fun _ _ => 0) acc 0 with
        | .inl i => .err 3 ((i : Int) + 1)
        | .inr len => .ok n acc.length len) := hP2
      clear hjoin hjoin2 hR hown hok HP hck hP2 hc0 hm1 ek
      go_wp2_with fail
      refine hlay.mono ?_
      rintro e w5 ⟨hT5, h5⟩
      have hTw : Turns (fun _ => False) w w5 := hT1.trans ⟨(hT5.os).trans hTr.os, hT5.tape.trans hTr.tape, hT5.output.trans hTr.output, Nat.le_trans hTr.size hT5.size, fun i hi _ => (hT5.block i (by omega) (fun x => x)).trans (hTr.block i hi (fun x => x))⟩
      cases hl : Pu.lay (fun _ _ => 0) acc 0 with
      | inl i =>
        rw [hl] at h5
        simp only at h5
        subst h5
        have HE2 : Hid (Pu.parseRows P0.data.toList (T.map (·.data.toList)) = .err 3 ((i : Int) + 1)) := by rw [HE.out, hl]; rfl
        clear HE hl hlay hT5 hTr
        go_wp2
        go_ret3
        refine ⟨hTw, ?_⟩
        rw [HE2.out]
        rfl
      | inr len =>
        rw [hl] at h5
        simp only at h5
        obtain ⟨h5, hM⟩ := h5
        subst h5
        have HE2 : Hid (Pu.parseRows P0.data.toList (T.map (·.data.toList)) = .ok n acc.length len) := by rw [HE.out, hl]; rfl
        clear HE hl hlay hT5 hTr
        go_wp2
        go_ret3
        refine ⟨hTw, ?_⟩
        rw [HE2.out]
        exact ⟨wr.heap.size, rfl, by omega, hM⟩

set_option maxRecDepth 1000000 in
set_option maxHeartbeats 1000000 in
theorem parse_none (s P0 : ByteArray) (n : Nat) (w : World) (h : s.size ≤ 4000) (hm : Ml w) (h2 : s.data.toList.count 10 ≤ 200) (hp : Pu.pieces 10 s = [P0]) (hw : Pu.within P0.data.toList 1 40 = some (n : Int)) :
    Calls Tryd.prog 28 #[.string s] w (ParsePost w (.ok n 0 (fun _ _ => 0))) := by
  have hc := strings_Count_one s 10 w
  have hsp := split_any s 10 w h hm
  rw [hp] at hsp
  have hP0 : P0.size ≤ maxLen := by have := Pu.pieces_size (c := 10) (s := s) (p := P0) (by rw [hp]; simp); unfold maxLen; omega
  unfold Lib.countByte at hc
  generalize List.count 10 s.data.toList = c at *
  simp only [List.length_cons, List.length_nil, Nat.zero_add] at hsp
  have hn := Pu.within_some hw
  have hn1 := hn.2.1
  have hn2 := hn.2.2
  clear hp hn
  go_enter Tryd.func28, Tryd.ntmps28
  go_wp2_with (go_at_call 39; refine hc.mono ?_; rintro e w' ⟨rfl, hw'⟩; subst w')
  refine hsp.mono ?_
  rintro e w1 ⟨rfl, hw1⟩
  have hT1 : Turns (fun _ => False) w w1 := by rw [hw1]; exact (Turns.refl _ _).alloc _
  have hs1 : w.heap.size < w1.heap.size := by rw [hw1]; simp
  have hc0 : w1.cell? ⟨w.heap.size, 0, none⟩ = some (.string P0) := by rw [hw1]; simp
  clear hsp hc hw1 hm
  go_wp2_with fail
  refine (within_some P0 1 40 (n : Int) _ hP0 hw).mono ?_
  rintro e w1' ⟨rfl, hw1⟩
  subst w1'
  clear hw
  obtain ⟨i0, hi, hz0, hz1, hz2⟩ := info_parts info106
  go_wp2_with (at_make; refine wpList_make_own _ rfl _ _ 107 rfl w1.heap.size 109 i0 _ 3 Tryd.underlying107 hi hz0 hz1 .i64 .i64 200 200 rfl rfl rfl (by rw [hz2]; decide) (by decide) (Nat.le_refl _) ?_)
  intro w2 hown hgrow
  have hT2 : Turns (fun _ => False) w1 w2 := (Turns.refl _ _).grown hgrow (fun k hk => by cases hk)
  have hg := hown.lt w1.heap.size rfl
  have hR : RoadsAt w2 w1.heap.size [] := ⟨hg.2, fun j u v x e => by simp at e, fun j u v x e => by simp at e, fun j u v x e => by simp at e⟩
  have hlay := lay_any w2 n w1.heap.size 200 [] (by omega) hR (fun r hr => by cases hr) (by simp)
  clear hgrow hown hR
  go_wp2
  refine wp_loop_rounds 1 ?_
  rw [rounds_succ]
  go_wp2_with fail
  refine hlay.mono ?_
  rintro e w5 ⟨hT5, h5⟩
  have hTw : Turns (fun _ => False) w w5 := hT1.trans ⟨(hT5.os).trans hT2.os, hT5.tape.trans hT2.tape, hT5.output.trans hT2.output, Nat.le_trans hT2.size hT5.size, fun i hi _ => (hT5.block i (by omega) (fun x => x)).trans (hT2.block i hi (fun x => x))⟩
  simp only [Pu.lay] at h5
  obtain ⟨h5, hM⟩ := h5
  subst h5
  clear hlay hT5 hT2
  go_wp2
  go_ret3
  exact ⟨hTw, w2.heap.size, rfl, by omega, hM⟩

/-- Parse reads a map as the document has it. -/
theorem parseMap_any (s : ByteArray) (w : World) (hs : s.size ≤ maxLen) (hm : Ml w) : Calls Tryd.prog 28 #[.string s] w (ParsePost w (Pu.parse s.data.toList)) := by
  have hsz : s.data.toList.length = s.size := by simp
  unfold Pu.parse
  by_cases h : 4000 < s.size
  · rw [if_pos (Or.inl (by rw [hsz]; exact h))]; exact parse_long s w hs h
  · by_cases h2 : 200 < s.data.toList.count 10
    · rw [if_pos (Or.inr h2)]; exact parse_many s w (by omega) h2
    · rw [if_neg (by rw [hsz]; omega)]
      have hd := Pu.pieces_data 10 s
      have hl := Pu.pieces_length 10 s
      cases hp : Pu.pieces 10 s with
      | nil => rw [hp] at hl; simp at hl
      | cons P0 T =>
        rw [hp] at hd
        rw [← hd]
        simp only [List.map_cons]
        cases hw : Pu.within P0.data.toList 1 40 with
        | none =>
          have e : Pu.parseRows P0.data.toList (T.map (·.data.toList)) = .err 2 0 := by unfold Pu.parseRows; rw [hw]
          rw [e]; exact parse_first s P0 T w (by omega) hm (by omega) hp hw
        | some n' =>
          have hn := Pu.within_some hw
          obtain ⟨n, rfl⟩ : ∃ n : Nat, n' = n := ⟨n'.toNat, by omega⟩
          by_cases hT : T = []
          · subst hT
            have e : Pu.parseRows P0.data.toList (([] : List ByteArray).map (·.data.toList)) = .ok n 0 (fun _ _ => 0) := by unfold Pu.parseRows; rw [hw]; simp [Pu.roads, Pu.lay]
            rw [e]; exact parse_none s P0 n w (by omega) hm (by omega) hp hw
          · exact parse_main s P0 T n w (by omega) hm (by omega) hp hw hT
#print axioms parseMap_any
end Go.Proofs.YtdogncjcainhlaaDoor
/- The walks of byway.rankAndLabel and byway.Labels, where the order is not empty. -/
namespace Go.Proofs.YtdogncjcainhlaaDoor
open Go.RowKit Go.Deep
open Mem

/-- What rankAndLabel hands back, o being the order that was asked for. -/
def RalPost (w : World) (r : Pu.Res) (o : Nat → (Nat → Nat → Int) → Option (List Nat)) (e : Ending) (w' : World) : Prop := Turns (fun _ => False) w w' ∧ match r with
  | .err c p => e = .returned (.tuple #[.slice none 0 0, .slice none 0 0, .int .i64 c, .int .i64 p])
  | .ok n _ len => match o n len with
    | none => e = .returned (.tuple #[.slice none 0 0, .slice none 0 0, .int .i64 4, .int .i64 0])
    | some O => ∃ (D : Nat → Nat → Int) (ob ocap : Nat) (v : Value), (∀ i, i < n → Pu.Dist n len i (D i)) ∧ e = .returned (.tuple #[.slice (some ⟨ob, 0, none⟩) n ocap, v, .int .i64 0, .int .i64 0]) ∧ Ord w' ob n O ∧ w'.ownsRow w.heap.size 54 3 v (Pu.labP D O n).length (Pu.rdVals (Pu.labP D O n))
/-- What Labels hands back, o being the order that was asked for. -/
def LabPost (w : World) (r : Pu.Res) (o : Nat → (Nat → Nat → Int) → Option (List Nat)) (e : Ending) (w' : World) : Prop := Turns (fun _ => False) w w' ∧ match r with
  | .err c p => e = .returned (.tuple #[.slice none 0 0, .int .i64 c, .int .i64 p])
  | .ok n _ len => match o n len with
    | none => e = .returned (.tuple #[.slice none 0 0, .int .i64 4, .int .i64 0])
    | some O => ∃ (D : Nat → Nat → Int) (v : Value), (∀ i, i < n → Pu.Dist n len i (D i)) ∧ e = .returned (.tuple #[v, .int .i64 0, .int .i64 0]) ∧ w'.ownsRow w.heap.size 54 3 v (Pu.labP D O n).length (Pu.rdVals (Pu.labP D O n))

set_option maxHeartbeats 400000 in
theorem ral_err (x s : ByteArray) (w : World) (o : Nat → (Nat → Nat → Int) → Option (List Nat)) (hx : x.size ≤ maxLen) (hm : Ml w) (c p : Int) (hp : Pu.parse x.data.toList = .err c p) :
    Calls Tryd.prog 33 #[.string x, .string s] w (RalPost w (.err c p) o) := by
  have k := parseMap_any x w hx hm
  rw [hp] at k
  have he := Pu.parse_err hp
  have hne : (c != 0) = true := by simp; omega
  clear hp he
  go_enter Tryd.func33, Tryd.ntmps33
  go_wp2_with (go_at_call 28; refine k.mono ?_; rintro e w1 ⟨hT, rfl⟩)
  exact bodyPost_ret (v := .tuple #[.slice none 0 0, .slice none 0 0, .int .i64 c, .int .i64 p]) (by simp [results, Tryd.results33, go_sem]) rfl ⟨‹_›, rfl⟩

/-- The order and the labels of a map by whatever order: r is what ranks.Parse makes of it. -/
theorem ral_ok (x s : ByteArray) (w : World) (o : Nat → (Nat → Nat → Int) → Option (List Nat)) (hx : x.size ≤ maxLen) (hm : Ml w) (n q : Nat) (len : Nat → Nat → Int) (hp : Pu.parse x.data.toList = .ok n q len)
    (hr : ∀ w1 b, Turns (fun _ => False) w w1 → MapAt w1 b n q len → Calls Tryd.prog 47 #[.pointer (some ⟨b, 0, none⟩), .string s] w1 (RankPost w1 n (o n len))) :
    Calls Tryd.prog 33 #[.string x, .string s] w (RalPost w (.ok n q len) o) := by
  have k := parseMap_any x w hx hm
  rw [hp] at k
  obtain ⟨hn1, hn2, _, hN⟩ := Pu.parse_ok hp
  have hDD : ∀ i, ∃ far, Pu.Dist n len i far := fun i => Pu.Dist.any hN.lens hn2
  obtain ⟨D, hD⟩ : ∃ D : Nat → Nat → Int, ∀ i, Pu.Dist n len i (D i) := ⟨fun i => Classical.choose (hDD i), fun i => Classical.choose_spec (hDD i)⟩
  clear hp
  go_enter Tryd.func33, Tryd.ntmps33
  go_wp2_with fail
  refine k.mono ?_
  rintro e w1 ⟨hT1, b, rfl, hb, hM⟩
  have c2 := hr w1 b hT1 hM
  have HO : Hid (o n len = o n len) := rfl
  cases ho : o n len with
  | none =>
    rw [ho] at c2
    clear k
    go_wp2_with fail
    refine c2.mono ?_
    rintro e w2 ⟨hT2, rfl⟩
    have HX : Hid (RalPost w (.ok n q len) o (.returned (.tuple #[.slice none 0 0, .slice none 0 0, .int .i64 4, .int .i64 0])) w2) := by
      refine ⟨hT1.trans hT2, ?_⟩
      dsimp only
      rw [ho]
    clear c2 hT1 hT2 ho hr hD hDD HO
    go_wp2
    exact bodyPost_ret (v := .tuple #[.slice none 0 0, .slice none 0 0, .int .i64 4, .int .i64 0]) (by simp [results, Tryd.results33, go_sem]) rfl HX.out
  | some O =>
    rw [ho] at c2
    clear k
    go_wp2_with fail
    refine c2.mono ?_
    rintro e w2 ⟨hT2, ob, ocap, rfl, hOr, hoc⟩
    have c3 := hubs_any w2 b n ob ocap q len D O hn1 hn2 (hM.turns hT2 (fun x => x)) hN.lens (fun i _ => hD i) hOr hoc
    have hsz := (hT1.trans hT2).size
    have HX : Hid (∀ v w3, Turns (fun _ => False) w2 w3 → w3.ownsRow w2.heap.size 54 3 v (Pu.labP D O n).length (Pu.rdVals (Pu.labP D O n)) → RalPost w (.ok n q len) o (.returned (.tuple #[.slice (some ⟨ob, 0, none⟩) n ocap, v, .int .i64 0, .int .i64 0])) w3) := by
      intro v w3 hT3 hown
      refine ⟨(hT1.trans hT2).trans hT3, ?_⟩
      dsimp only
      rw [ho]
      exact ⟨D, ob, ocap, v, fun i _ => hD i, rfl, hOr.turns hT3, owns_mono hown hsz⟩
    clear c2 hT1 hT2 ho hr hD hDD HO hOr hM
    go_wp2_with fail
    refine c3.mono ?_
    rintro e w3 ⟨hT3, v, rfl, hown⟩
    have HY : Hid (RalPost w (.ok n q len) o (.returned (.tuple #[.slice (some ⟨ob, 0, none⟩) n ocap, v, .int .i64 0, .int .i64 0])) w3) := HX.out v w3 hT3 hown
    clear c3 hT3 hown HX
    go_wp2
    exact bodyPost_ret (v := .tuple #[.slice (some ⟨ob, 0, none⟩) n ocap, v, .int .i64 0, .int .i64 0]) (by simp [results, Tryd.results33, go_sem]) rfl HY.out
end Go.Proofs.YtdogncjcainhlaaDoor
/- The walk of byway.rankAndLabel, whatever the order. -/
namespace Go.Proofs.YtdogncjcainhlaaDoor
open Go.RowKit Go.Deep
open Mem

set_option maxRecDepth 100000 in
set_option maxHeartbeats 1000000 in
/-- ranks.Parse of the empty text: the order by roads. -/
theorem rank_empty (s : ByteArray) (w : World) (b n : Nat) (R : Int) (len : Nat → Nat → Int) (hs : s.size = 0) (hn1 : 1 ≤ n) (hn : n ≤ 40) (hM : MapAt w b n R len) (N : Pu.Net n len) :
    Calls Tryd.prog 47 #[.pointer (some ⟨b, 0, none⟩), .string s] w (RankPost w n (some (Pu.ranked (fun v => Pu.rowCnt len v n) n))) := by
  have he := empty_of hs
  have c := byRoads_any w b n R len hn1 hn hM N
  generalize Pu.ranked (fun v => Pu.rowCnt len v n) n = O at *
  clear hM N
  go_enter Tryd.func47, Tryd.ntmps47
  go_wp2_with fail
  refine c.mono ?_
  rintro e w1 ⟨ob, rfl, hT, hO⟩
  have HX : Hid (RankPost w n (some O) (.returned (.tuple #[.slice (some ⟨ob, 0, none⟩) n n, .bool true])) w1) := ⟨hT, ob, n, rfl, hO, Nat.le_refl _⟩
  clear c hT hO
  go_wp2
  exact bodyPost_ret (v := .tuple #[.slice (some ⟨ob, 0, none⟩) n n, .bool true]) (by simp [results, Tryd.results47, go_sem]) rfl HX.out

/-- byway.rankAndLabel, of any text by any order. -/
theorem ral_any (x s : ByteArray) (w : World) (hx : x.size ≤ maxLen) (hm : Ml w) (hs : s.size ≤ 2000000) :
    Calls Tryd.prog 33 #[.string x, .string s] w (RalPost w (Pu.parse x.data.toList) (Pu.orderOf s.data.toList)) := by
  have e : s.data.toList.length = s.size := by simp
  cases hp : Pu.parse x.data.toList with
  | err c p => exact ral_err x s w _ hx hm c p hp
  | ok n q len =>
    obtain ⟨hn1, hn2, _, hN⟩ := Pu.parse_ok hp
    refine ral_ok x s w _ hx hm n q len hp (fun w1 b hT hM => ?_)
    unfold Pu.orderOf
    by_cases h : s.size = 0
    · rw [if_pos (by rw [e]; exact h)]
      exact rank_empty s w1 b n q len h hn1 hn2 hM hN
    · rw [if_neg (by rw [e]; exact h)]
      exact rank_any s w1 b n q len (by omega) hs hn1 hn2 hM (hm.turns hT (fun x => x))
end Go.Proofs.YtdogncjcainhlaaDoor
/- The walk of byway.Save. -/
namespace Go.Proofs.YtdogncjcainhlaaDoor
open Go.RowKit Go.Deep
open Mem

theorem Cov.hubs {n : Nat} {len D : Nat → Nat → Int} {O : List Nat} (C : Pu.Cov n len D O) : ∀ (v i r : Nat) (f : Int), v < n → (Pu.hubK D O v n)[i]? = some (r, f) → r < n ∧ Pu.nxt 0 ((Pu.hubK D O v n).take i) ≤ r ∧ 0 ≤ f ∧ f ≤ 40000 := by
  intro v i k f hv hi
  obtain ⟨hk, h, h1, h2, h3⟩ := Pu.hubK_mem2 n (List.mem_of_getElem? hi)
  have hr := (Pu.hubK_rise D O v n).2 i k f hi
  have hd := C.rng hv (C.perm.lt h (List.mem_of_getElem? h1))
  have hne := (Pu.isHub_iff.1 h3).1
  exact ⟨hk, hr, by omega, by omega⟩

set_option maxRecDepth 100000 in
set_option maxHeartbeats 1000000 in
/-- byway.Save, of any text by any order. -/
theorem save_any (x s : ByteArray) (w : World) (hx : x.size ≤ maxLen) (hm : Ml w) (hs : s.size ≤ 2000000) :
    Calls Tryd.prog 34 #[.string x, .string s] w (RSavePost w (Pu.parse x.data.toList) (Pu.orderOf s.data.toList)) := by
  have k := ral_any x s w hx hm hs
  unfold RalPost at k
  unfold RSavePost
  cases hp : Pu.parse x.data.toList with
  | err c p =>
    rw [hp] at k
    have he := Pu.parse_err hp
    have hne : (c != 0) = true := by simp; omega
    dsimp only at k ⊢
    clear hp he
    go_enter Tryd.func34, Tryd.ntmps34
    go_wp2_with fail
    refine k.mono ?_
    rintro e w1 ⟨hT, rfl⟩
    have HT : Hid (Turns (fun _ => False) w w1) := hT
    clear k hT
    go_wp2
    exact bodyPost_ret (v := .tuple #[.string ⟨#[]⟩, .int .i64 c, .int .i64 p]) (by simp [results, Tryd.results34, go_sem]) rfl ⟨HT.out, rfl⟩
  | ok n q len =>
    rw [hp] at k
    obtain ⟨hn1, hn2, _, hN⟩ := Pu.parse_ok hp
    dsimp only at k ⊢
    cases ho : Pu.orderOf s.data.toList n len with
    | none =>
      rw [ho] at k
      dsimp only at k ⊢
      clear hp ho
      go_enter Tryd.func34, Tryd.ntmps34
      go_wp2_with fail
      refine k.mono ?_
      rintro e w1 ⟨hT, rfl⟩
      have HT : Hid (Turns (fun _ => False) w w1) := hT
      clear k hT
      go_wp2
      exact bodyPost_ret (v := .tuple #[.string ⟨#[]⟩, .int .i64 4, .int .i64 0]) (by simp [results, Tryd.results34, go_sem]) rfl ⟨HT.out, rfl⟩
    | some O =>
      rw [ho] at k
      dsimp only at k ⊢
      have hP : Pu.Perm n O := Pu.orderOf_perm ho
      clear hp ho
      go_enter Tryd.func34, Tryd.ntmps34
      go_wp2_with fail
      refine k.mono ?_
      rintro e w1 ⟨hT, D, ob, ocap, v, hD, rfl, hO, hown⟩
      obtain ⟨a, c, hv, hRd⟩ := rdAt_own hown
      subst hv
      have C : Pu.Cov n len D O := ⟨hN, hD, hP⟩
      have hL := Pu.heldB_len (L := fun v => Pu.hubK D O v n) hP.len hn2 (fun v _ => Pu.hubK_len D O v n)
      have cw := recWrite_any w1 ob n ocap c a D O hn1 hn2 hO hP hRd (Cov.hubs C)
      obtain ⟨H, hH⟩ : ∃ H : ByteArray, H = ⟨(Pu.heldB O (fun v => Pu.hubK D O v n) n).toArray⟩ := ⟨_, rfl⟩
      rw [← hH] at cw
      have cp := fun w => pgwrite_any H w (by rw [hH]; show (Pu.heldB O (fun v => Pu.hubK D O v n) n).length ≤ _; omega)
      have HC : Hid (Pu.Cov n len D O ∧ Pu.paged H.data.toList = Pu.paged (Pu.heldB O (fun v => Pu.hubK D O v n) n)) := ⟨C, by rw [hH]⟩
      obtain ⟨PG, hPG⟩ : ∃ PG, PG = Pu.paged H.data.toList := ⟨_, rfl⟩
      rw [← hPG] at cp
      have HPG : Hid (PG = Pu.paged H.data.toList) := hPG
      have HT : Hid (Turns (fun _ => False) w w1) := hT
      clear k hT hown hRd hO hD C hL hH hPG
      go_wp2_with fail
      refine cw.mono ?_
      rintro e w2 ⟨rfl, hT2⟩
      have HT2 : Hid (Turns (fun _ => False) w w2) := HT.out.trans hT2
      clear cw hT2 HT
      go_wp2_with fail
      refine (cp _).mono ?_
      rintro e w3 ⟨rfl, hT3⟩
      have HT3 : Hid (Turns (fun _ => False) w w3) := HT2.out.trans hT3
      clear cp hT3 HT2
      go_wp2
      exact bodyPost_ret (v := .tuple #[.string ⟨PG.toArray⟩, .int .i64 0, .int .i64 0]) (by simp [results, Tryd.results34, go_sem]) rfl ⟨HT3.out, D, HC.out.1, by rw [HPG.out, HC.out.2]⟩
#print axioms save_any
end Go.Proofs.YtdogncjcainhlaaDoor
/- The walk of the law's own num. -/
namespace Go.Proofs.YtdogncjcainhlaaDoor
open Go.RowKit
open Mem

set_option maxHeartbeats 400000 in
theorem num_any (c : Int) (w : World) : Calls Tryd.prog 24 #[.int .i64 c] w fun e w' => e = .returned (.int .i64 c) ∧ w' = w := by
  go_enter Tryd.func24, Tryd.ntmps24
  go_wp2
  go_ret
  exact ⟨rfl, rfl⟩
end Go.Proofs.YtdogncjcainhlaaDoor
/- The walks of the law's own save, and of Saved. -/
namespace Go.Proofs.YtdogncjcainhlaaDoor
open Go.RowKit Go.Deep
open Mem

namespace Pu
/-- How far it is settles the hubs. -/
theorem hubK_congr {D D' : Nat → Nat → Int} {O : List Nat} {n v : Nat} (hv : v < n) (hO : ∀ m ∈ O, m < n) (h : ∀ i j, i < n → j < n → D i j = D' i j) : ∀ k, hubK D O v k = hubK D' O v k
  | 0 => rfl
  | k + 1 => by
    rw [hubK, hubK, hubK_congr hv hO h k]
    congr 1
    cases e : O[k]? with
    | none => rfl
    | some m =>
      have hm := hO m (List.mem_of_getElem? e)
      have hh : isHub D v m (O.take k) = isHub D' v m (O.take k) := by
        unfold isHub
        rw [h v m hv hm]
        congr 1
        refine Bool.eq_iff_iff.2 ?_
        simp only [List.all_eq_true]
        refine forall_congr' fun x => forall_congr' fun hx => ?_
        have hx2 := hO x (List.mem_of_mem_take hx)
        unfold lies
        rw [h v x hv hx2, h x m hx2 hm, h v m hv hm]
      simp only [hh, h v m hv hm]
/-- The bytes are the map's and the order's alone. -/
theorem Cov.bytes {n : Nat} {len D D' : Nat → Nat → Int} {O : List Nat} (C : Cov n len D O) (C' : Cov n len D' O) : heldB O (fun v => hubK D O v n) n = heldB O (fun v => hubK D' O v n) n :=
  heldB_congr fun _ hv => hubK_congr hv C.perm.lt (fun i j hi hj => Dist.unique C.net.lens (C.dist i hi) (C'.dist i hi) j hj) n
end Pu

theorem save_bytes {w w' w2 w2' : World} {r : Pu.Res} {o : Nat → (Nat → Nat → Int) → Option (List Nat)} {e e2 : Ending} (h : RSavePost w r o e w') (h2 : RSavePost w2 r o e2 w2') : ∃ (b : ByteArray) (c p : Int), e = .returned (.tuple #[.string b, .int .i64 c, .int .i64 p]) ∧ e2 = .returned (.tuple #[.string b, .int .i64 c, .int .i64 p]) := by
  obtain ⟨_, h⟩ := h
  obtain ⟨_, h2⟩ := h2
  cases r with
  | err c p => exact ⟨_, _, _, h, h2⟩
  | ok n q len =>
    dsimp only at h h2
    cases ho : o n len with
    | none =>
      rw [ho] at h h2
      exact ⟨_, _, _, h, h2⟩
    | some O =>
      rw [ho] at h h2
      obtain ⟨D, C, h⟩ := h
      obtain ⟨D', C', h2⟩ := h2
      refine ⟨_, _, _, h, ?_⟩
      rw [h2, C.bytes C']

set_option maxRecDepth 100000 in
set_option maxHeartbeats 1000000 in
/-- The law's own save: both answer the same. -/
theorem lsave_any (x s : ByteArray) (w : World) (hx : x.size ≤ 2000000) (hs : s.size ≤ 2000000) (hm : Ml w) :
    Calls Tryd.prog 22 #[.string x, .string s] w fun e w' => e = .returned (.bool true) ∧ Turns (fun _ => False) w w' := by
  have c1 := save_any x s w (by unfold maxLen; omega) hm hs
  have c2 := fun w => rsave_any x s w hx hs
  go_enter Tryd.func22, Tryd.ntmps22
  go_wp2_with fail
  refine c1.mono ?_
  intro e1 w1 h1
  obtain ⟨b0, c0, p0, he1, _⟩ := save_bytes h1 h1
  have H1 : Hid (RSavePost w (Pu.parse x.data.toList) (Pu.orderOf s.data.toList) e1 w1) := h1
  clear h1 c1
  subst he1
  go_wp2_with fail
  refine (c2 _).mono ?_
  intro e2 w2 h2
  obtain ⟨b, c, p, he, he2⟩ := save_bytes H1.out h2
  injection he with he
  simp only [Value.tuple.injEq, Array.mk.injEq, List.cons.injEq, Value.string.injEq, Value.int.injEq, true_and, and_true] at he
  obtain ⟨rfl, rfl, rfl⟩ := he
  subst he2
  have HT : Hid (Turns (fun _ => False) w w2) := H1.out.1.trans h2.1
  clear H1 h2 c2
  go_wp2_with (go_at_call 24; refine (num_any _ _).mono ?_; rintro e w3 ⟨rfl, hw3⟩; subst w3)
  go_ret
  exact ⟨by simp, HT.out⟩

set_option maxRecDepth 100000 in
set_option maxHeartbeats 1000000 in
/-- The law Saved. -/
theorem saved_any (x s y t : ByteArray) (w : World) (hx : x.size ≤ 2000000) (hs : s.size ≤ 2000000) (hy : y.size ≤ 2000000) (ht : t.size ≤ 2000000) (hm : Ml w) :
    Calls Tryd.prog 8 #[.string x, .string s, .string y, .string t] w fun e w' => e = .returned (.bool true) ∧ Turns (fun _ => False) w w' := by
  go_enter Tryd.func8, Tryd.ntmps8
  go_wp2_with fail
  refine (lsave_any _ _ _ hx hs hm).mono ?_
  rintro e w1 ⟨rfl, hT1⟩
  have hm1 := hm.turns hT1 (fun x => x)
  go_wp2_with fail
  refine (lsave_any _ _ _ hy hs hm1).mono ?_
  rintro e w2 ⟨rfl, hT2⟩
  have hm2 := hm1.turns hT2 (fun x => x)
  go_wp2_with fail
  refine (lsave_any _ _ _ hx ht hm2).mono ?_
  rintro e w3 ⟨rfl, hT3⟩
  have hm3 := hm2.turns hT3 (fun x => x)
  go_wp2_with fail
  refine (lsave_any _ _ _ hx hs hm3).mono ?_
  rintro e w4 ⟨rfl, hT4⟩
  have hm4 := hm3.turns hT4 (fun x => x)
  go_wp2_with fail
  refine (lsave_any _ _ _ (by decide) (by decide) hm4).mono ?_
  rintro e w5 ⟨rfl, hT5⟩
  have hm5 := hm4.turns hT5 (fun x => x)
  go_wp2_with fail
  refine (lsave_any _ _ _ (by decide) (by decide) hm5).mono ?_
  rintro e w6 ⟨rfl, hT6⟩
  have hT := ((((hT1.trans hT2).trans hT3).trans hT4).trans hT5).trans hT6
  clear hT1 hT2 hT3 hT4 hT5 hT6 hm hm1 hm2 hm3 hm4 hm5
  go_wp2
  go_ret
  exact ⟨rfl, hT⟩
#print axioms saved_any
end Go.Proofs.YtdogncjcainhlaaDoor
