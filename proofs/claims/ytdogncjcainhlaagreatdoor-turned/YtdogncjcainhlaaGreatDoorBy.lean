/- The walk of ranks.byRoads. -/
import Derived.Test.YtdogncjcainhlaaGreatDoorCmp
import Derived.Test.YtdogncjcainhlaaGreatDoorPlain
import Derived.Test.YtdogncjcainhlaaGreatDoorRank
import Derived.Deep.RegionHeld3
namespace Go.Proofs.YtdogncjcainhlaaGreatDoor
open Go.RowKit Go.Deep
open Mem

namespace Pu
/-- What the closure makes of two places. -/
def byCmp (d : Nat → Nat) (a b : Nat) : Int := or2 (sgn (d b) (d a)) (sgn a b)
theorem byCmp_lt (d : Nat → Nat) (a b : Nat) : byCmp d a b < 0 ↔ Above d a b := by
  unfold byCmp or2 sgn Above
  repeat' split
  all_goals omega
end Pu

theorem alloc_drew_grow (W : World) (o : Obj) : (W.alloc o).drew = Sort.grow (W.drewN 1) #[o] := by
  unfold Sort.grow
  show (W.alloc o).drew = { W.drewN 1 with heap := W.heap ++ #[o] }
  rw [← Array.push_eq_append]
  rfl
set_option maxRecDepth 100000 in
set_option maxHeartbeats 400000 in
theorem closure_any (W : World) (rb rg n a b : Nat) (da db : Int) (ha : a < n) (hb : b < n) (c0 : W.cell? ⟨rb, 0, none⟩ = some (.slice (some ⟨rg, 0, none⟩) n n)) (ca : W.cell? ⟨rg, a, none⟩ = some (.int .i64 da)) (cb : W.cell? ⟨rg, b, none⟩ = some (.int .i64 db)) :
    Calls Tryz.prog 142 #[.int .i64 a, .int .i64 b, .pointer (some ⟨rb, 0, none⟩)] W fun e w' => e = .returned (.int .i64 (Pu.or2 (Pu.sgn db da) (Pu.sgn a b))) ∧ ∃ q os', w' = Sort.grow (W.drewN q) os' := by
  have hai : (a : Int) < (n : Int) := by omega
  have hbi : (b : Int) < (n : Int) := by omega
  have K3 : Calls Tryz.prog 51 #[.slice (some ⟨W.heap.size, 0, none⟩) 2 2] (W.alloc (.cells #[.int .i64 (Pu.sgn db da), .int .i64 (Pu.sgn a b)] 3)).drew fun e w' => e = .returned (.int .i64 (Pu.or2 (Pu.sgn db da) (Pu.sgn a b))) ∧ w' = (W.alloc (.cells #[.int .i64 (Pu.sgn db da), .int .i64 (Pu.sgn a b)] 3)).drew :=
    or_any _ _ _ _ (by show (W.alloc _).cell? _ = _; rw [World.cell?_alloc_new]; rfl) (by show (W.alloc _).cell? _ = _; rw [World.cell?_alloc_new]; rfl)
  go_enter Tryz.func142, Tryz.ntmps142
  go_wp2_with fail
  go_region_held3 (fun w' => w'.cell? ⟨rb, 0, none⟩ = some (.slice (some ⟨rg, 0, none⟩) n n) ∧ w'.cell? ⟨rg, a, none⟩ = some (.int .i64 da) ∧ w'.cell? ⟨rg, b, none⟩ = some (.int .i64 db)) (go_keep)
    (first
      | (go_at_call 52; refine (compare_any _ _ _).mono ?_; rintro e1 w1 ⟨rfl, hw1⟩; subst hw1)
      | (go_at_call 51; refine K3.mono ?_; rintro e1 w1 ⟨rfl, hw1⟩; subst hw1))
  all_goals clear K3
  all_goals go_wp2
  all_goals go_ret
  all_goals exact ⟨rfl, 1, #[.cells #[.int .i64 (Pu.sgn db da), .int .i64 (Pu.sgn a b)] 3], alloc_drew_grow W _⟩
#print axioms closure_any
end Go.Proofs.YtdogncjcainhlaaGreatDoor
