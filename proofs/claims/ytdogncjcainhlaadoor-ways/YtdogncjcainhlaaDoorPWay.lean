/- Plain functions that scan as package ways does: no program in it. -/
import Derived.Test.YtdogncjcainhlaaDoorMem
namespace Go.Proofs.YtdogncjcainhlaaDoor
namespace Pu
open Mem

/-- The nearest place of the first k that is not done and can be reached; -1: none. -/
def near (far : Nat → Int) (done : Nat → Bool) : Nat → Int
  | 0 => -1
  | k + 1 => if done k = true ∨ far k = -1 then near far done k else if near far done k = -1 ∨ far k < far (near far done k).toNat then k else near far done k
theorem near_bd (far : Nat → Int) (done : Nat → Bool) : ∀ k, near far done k = -1 ∨ (0 ≤ near far done k ∧ near far done k < k)
  | 0 => Or.inl rfl
  | k + 1 => by
    have := near_bd far done k
    rw [near]
    split
    · omega
    · split
      · omega
      · omega
theorem near_skip {far : Nat → Int} {done : Nat → Bool} {k : Nat} (h : done k = true ∨ far k = -1) : near far done (k + 1) = near far done k := by rw [near, if_pos h]
theorem near_take {far : Nat → Int} {done : Nat → Bool} {k : Nat} (h : ¬ (done k = true ∨ far k = -1)) (g : near far done k = -1 ∨ far k < far (near far done k).toNat) : near far done (k + 1) = k := by rw [near, if_neg h, if_pos g]
theorem near_keep {far : Nat → Int} {done : Nat → Bool} {k : Nat} (h : ¬ (done k = true ∨ far k = -1)) (g : ¬ (near far done k = -1 ∨ far k < far (near far done k).toNat)) : near far done (k + 1) = near far done k := by rw [near, if_neg h, if_neg g]

/-- What becomes of place j's number when one goes on from a place that is a far. -/
def rel1 (len : Nat → Int) (a : Int) (far : Nat → Int) (j : Nat) : Int := if len j ≠ 0 ∧ (far j = -1 ∨ a + len j < far j) then a + len j else far j
/-- The same after k places. -/
def relK (len : Nat → Int) (a : Int) (far : Nat → Int) (k : Nat) (j : Nat) : Int := if j < k then rel1 len a far j else far j
theorem relK_zero (len : Nat → Int) (a : Int) (far : Nat → Int) : relK len a far 0 = far := by funext j; simp [relK]
theorem relK_keep {len : Nat → Int} {a : Int} {far : Nat → Int} {k : Nat} (h : ¬ (len k ≠ 0 ∧ (far k = -1 ∨ a + len k < far k))) : relK len a far (k + 1) = relK len a far k := by
  funext j; unfold relK
  by_cases e : j = k
  · subst e; rw [if_pos (by omega), if_neg (by omega), rel1, if_neg h]
  · by_cases g : j < k
    · rw [if_pos (by omega), if_pos g]
    · rw [if_neg (by omega), if_neg g]
theorem relK_take {len : Nat → Int} {a : Int} {far : Nat → Int} {k : Nat} (h : len k ≠ 0 ∧ (far k = -1 ∨ a + len k < far k)) : relK len a far (k + 1) = upd (relK len a far k) k (a + len k) := by
  funext j; unfold relK upd
  by_cases e : j = k
  · subst e; rw [if_pos (by omega), if_pos rfl, rel1, if_pos h]
  · rw [if_neg e]
    show _ = if j < k then rel1 len a far j else far j
    by_cases g : j < k
    · rw [if_pos (by omega), if_pos g]
    · rw [if_neg (by omega), if_neg g]
theorem relK_self (len : Nat → Int) (a : Int) (far : Nat → Int) (k : Nat) : relK len a far k k = far k := by simp [relK]
theorem relK_at {len : Nat → Int} {a : Int} {far : Nat → Int} {k j : Nat} (h : len j = 0) : relK len a far k j = far j := by simp [relK, rel1, h]

end Pu
end Go.Proofs.YtdogncjcainhlaaDoor
