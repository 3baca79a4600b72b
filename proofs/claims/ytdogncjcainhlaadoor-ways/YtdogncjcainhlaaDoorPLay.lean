/- Roads laid one behind the other. Plain: no program in it. -/
import Derived.Test.YtdogncjcainhlaaDoorPDij
namespace Go.Proofs.YtdogncjcainhlaaDoor
namespace Pu
open Mem

abbrev Rd := Nat × Nat × Int
/-- A road more. -/
def layLen (len : Nat → Nat → Int) (u v : Nat) (x : Int) : Nat → Nat → Int := fun i j => if (i = u ∧ j = v) ∨ (i = v ∧ j = u) then x else len i j
/-- All roads laid, or the number of the first that is there already. -/
def lay (len : Nat → Nat → Int) : List Rd → Nat → Nat ⊕ (Nat → Nat → Int)
  | [], _ => .inr len
  | (u, v, x) :: rs, i => if len u v ≠ 0 then .inl i else lay (layLen len u v x) rs (i + 1)
theorem lay_twice {len : Nat → Nat → Int} {u v : Nat} {x : Int} {rs : List Rd} {i : Nat} (h : len u v ≠ 0) : lay len ((u, v, x) :: rs) i = .inl i := by rw [lay, if_pos h]
theorem lay_go {len : Nat → Nat → Int} {u v : Nat} {x : Int} {rs : List Rd} {i : Nat} (h : len u v = 0) : lay len ((u, v, x) :: rs) i = lay (layLen len u v x) rs (i + 1) := by rw [lay, if_neg (by simpa using h)]
/-- A road that may be. -/
def RdOk (n : Nat) (r : Rd) : Prop := r.1 < r.2.1 ∧ r.2.1 < n ∧ 1 ≤ r.2.2 ∧ r.2.2 ≤ 1000

/-- Lengths of roads, both ways, between n places. -/
structure Net (n : Nat) (len : Nat → Nat → Int) : Prop where
  lens : Lens len
  sym : ∀ i j, len i j = len j i
  out : ∀ i j, len i j ≠ 0 → i < n ∧ j < n
theorem Net.zero (n : Nat) : Net n (fun _ _ => 0) := ⟨⟨fun _ _ => by omega, fun _ => rfl⟩, fun _ _ => rfl, fun _ _ h => absurd rfl h⟩
theorem Net.lay {n : Nat} {len : Nat → Nat → Int} {u v : Nat} {x : Int} (h : Net n len) (hr : RdOk n (u, v, x)) : Net n (layLen len u v x) := by
  obtain ⟨h1, h2, h3, h4⟩ := hr
  simp only at h1 h2 h3 h4
  refine ⟨⟨fun i j => ?_, fun i => ?_⟩, fun i j => ?_, fun i j hl => ?_⟩
  · unfold layLen; split
    · omega
    · exact h.lens.rng i j
  · unfold layLen; rw [if_neg (by omega)]; exact h.lens.self i
  · unfold layLen
    by_cases c : (i = u ∧ j = v) ∨ (i = v ∧ j = u)
    · rw [if_pos c, if_pos (by omega)]
    · rw [if_neg c, if_neg (by omega)]; exact h.sym i j
  · unfold layLen at hl
    by_cases c : (i = u ∧ j = v) ∨ (i = v ∧ j = u)
    · omega
    · rw [if_neg c] at hl; exact h.out i j hl
theorem Net.lay_all {n : Nat} : ∀ (rs : List Rd) (len len' : Nat → Nat → Int) (i : Nat), Net n len → (∀ r ∈ rs, RdOk n r) → Pu.lay len rs i = .inr len' → Net n len'
  | [], len, len', i, h, _, e => by
    rw [Pu.lay] at e; cases e; exact h
  | (u, v, x) :: rs, len, len', i, h, hr, e => by
    by_cases c : len u v = 0
    · rw [lay_go c] at e
      exact Net.lay_all rs _ len' (i + 1) (h.lay (hr _ (by simp))) (fun r hm => hr r (by simp [hm])) e
    · rw [lay_twice c] at e; cases e
end Pu
end Go.Proofs.YtdogncjcainhlaaDoor
