/- The reference's map in memory: no program in it. -/
import Derived.Test.YtdogncjcainhlaaDoorTMem
namespace Go.Proofs.YtdogncjcainhlaaDoor
open Go.RowKit
namespace Mem

/-- Block b holds the reference's map: how many places, how many roads, the rows of lengths, the rows of how far it is. -/
def RB (w : World) (b : Nat) (n R : Int) (v f : Value) : Prop := w.heap[b]? = some (.cells #[.int .i64 n, .int .i64 R, v, f] 62 (0, 0))
theorem RB.lt {w : World} {b : Nat} {n R : Int} {v f : Value} (h : RB w b n R v f) : b < w.heap.size := lt_of_block h
theorem RB.c0 {w : World} {b : Nat} {n R : Int} {v f : Value} (h : RB w b n R v f) : w.cell? ⟨b, 0, none⟩ = some (.int .i64 n) := by unfold RB at h; simp [World.cell?, h]
theorem RB.c1 {w : World} {b : Nat} {n R : Int} {v f : Value} (h : RB w b n R v f) : w.cell? ⟨b, 1, none⟩ = some (.int .i64 R) := by unfold RB at h; simp [World.cell?, h]
theorem RB.c2 {w : World} {b : Nat} {n R : Int} {v f : Value} (h : RB w b n R v f) : w.cell? ⟨b, 2, none⟩ = some v := by unfold RB at h; simp [World.cell?, h]
theorem RB.c3 {w : World} {b : Nat} {n R : Int} {v f : Value} (h : RB w b n R v f) : w.cell? ⟨b, 3, none⟩ = some f := by unfold RB at h; simp [World.cell?, h]
theorem RB.free {w : World} {b : Nat} {n R : Int} {v f : Value} (h : RB w b n R v f) (j : Nat) : w.frozen? ⟨b, j, none⟩ = false := by unfold RB at h; simp [World.frozen?, h]
theorem RB.turns {p : Nat → Prop} {w w' : World} {b : Nat} {n R : Int} {v f : Value} (h : RB w b n R v f) (t : Turns p w w') (hp : ¬ p b) : RB w' b n R v f := (t.block b h.lt hp).trans h
theorem RB.set1 {w : World} {b : Nat} {n R : Int} {v f : Value} (h : RB w b n R v f) (u : Int) : RB (w.setCell ⟨b, 1, none⟩ (.int .i64 u)) b n u v f := heap_setCell_same h _
theorem RB.set2 {w : World} {b : Nat} {n R : Int} {v f : Value} (h : RB w b n R v f) (u : Value) : RB (w.setCell ⟨b, 2, none⟩ u) b n R u f := heap_setCell_same h _
theorem RB.set3 {w : World} {b : Nat} {n R : Int} {v f : Value} (h : RB w b n R v f) (u : Value) : RB (w.setCell ⟨b, 3, none⟩ u) b n R v u := heap_setCell_same h _
theorem RB.new (w : World) (n R : Int) (v f : Value) : RB (w.alloc (.cells #[.int .i64 n, .int .i64 R, v, f] 62)) w.heap.size n R v f := by
  show (w.heap.push _)[w.heap.size]? = _
  simp

/-- One row more, that lies in memory already. -/
theorem Grid.snoc {w w4 : World} {B n g cap r : Nat} {v : Value} {rb : List Nat} {len : Nat → Nat → Int} (h : Grid w B n v rb len) (hr : Ints w r n (len rb.length)) (hB : B ≤ r) (hno : ∀ i : Nat, rb[i]? ≠ some r) (hv : v.ownBlock ≠ some r)
    (hown : w4.ownsRow B 41 1 (.slice (some ⟨g, 0, none⟩) (rb.length + 1) cap) (rb.length + 1) (rowVals n rb ++ [.slice (some ⟨r, 0, none⟩) n n]))
    (hT : Turns (fun k => v.ownBlock = some k) w w4) (hat : v.ownBlock = some g ∨ w.heap.size ≤ g) :
    Grid w4 B n (.slice (some ⟨g, 0, none⟩) (rb.length + 1) cap) (rb ++ [r]) len := by
  refine ⟨by simpa [rowVals] using hown, ?_, ?_⟩
  · intro i s hi
    by_cases e : i < rb.length
    · rw [List.getElem?_append_left e] at hi
      have hs := h.row i s hi
      have hsl := hs.1.lt
      refine ⟨hs.1.turns hT hs.2.2, hs.2.1, ?_⟩
      intro c
      simp only [Value.ownBlock, Option.some.injEq] at c
      subst c
      rcases hat with hat | hat
      · exact hs.2.2 hat
      · omega
    · rw [List.getElem?_append_right (by omega)] at hi
      have hi0 : i = rb.length := by
        have := (List.getElem?_eq_some_iff.1 hi).1
        simp at this; omega
      subst hi0
      simp at hi
      subst hi
      refine ⟨hr.turns hT hv, hB, ?_⟩
      intro c
      simp only [Value.ownBlock, Option.some.injEq] at c
      subst c
      have := hr.lt
      rcases hat with hat | hat
      · exact hv hat
      · omega
  · intro i j s hi hj
    by_cases e : i < rb.length
    · rw [List.getElem?_append_left e] at hi
      by_cases e' : j < rb.length
      · rw [List.getElem?_append_left e'] at hj; exact h.inj i j s hi hj
      · rw [List.getElem?_append_right (by omega)] at hj
        have hj0 := (List.getElem?_eq_some_iff.1 hj).1
        simp at hj0
        have : j = rb.length := by omega
        subst this; simp at hj; subst hj
        exact absurd hi (hno i)
    · rw [List.getElem?_append_right (by omega)] at hi
      have hi0 := (List.getElem?_eq_some_iff.1 hi).1
      simp at hi0
      have hi1 : i = rb.length := by omega
      subst hi1; simp at hi; subst hi
      by_cases e' : j < rb.length
      · rw [List.getElem?_append_left e'] at hj
        exact absurd hj (hno j)
      · rw [List.getElem?_append_right (by omega)] at hj
        have hj0 := (List.getElem?_eq_some_iff.1 hj).1
        simp at hj0; omega
theorem Grid.congr {w : World} {B n : Nat} {v : Value} {rb : List Nat} {len len' : Nat → Nat → Int} (h : Grid w B n v rb len) (e : ∀ i j, i < rb.length → j < n → len i j = len' i j) : Grid w B n v rb len' :=
  ⟨h.own, fun i r hi => ⟨(h.row i r hi).1.congr (fun j hj => e i j (List.getElem?_eq_some_iff.1 hi).1 hj), (h.row i r hi).2⟩, h.inj⟩
end Mem
end Go.Proofs.YtdogncjcainhlaaDoor
