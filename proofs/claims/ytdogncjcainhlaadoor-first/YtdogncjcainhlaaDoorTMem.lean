/- A town's block and the rows of its lengths: no program in it. -/
import Derived.Test.YtdogncjcainhlaaDoorMem
import Derived.Deep.AppendLies
namespace Go.Proofs.YtdogncjcainhlaaDoor
open Go.RowKit
namespace Mem

theorem Turns.join {p q : Nat → Prop} {a b c : World} (h : Turns p a b) (k : Turns q b c) (hq : ∀ i, i < a.heap.size → ¬ p i → ¬ q i) : Turns p a c :=
  ⟨k.os.trans h.os, k.tape.trans h.tape, k.output.trans h.output, Nat.le_trans h.size k.size, fun i hi hp => (k.block i (Nat.lt_of_lt_of_le hi h.size) (hq i hi hp)).trans (h.block i hi hp)⟩
/-- Block b holds a town: the text, how many places, the slice of the rows. -/
def TB (w : World) (b : Nat) (txt : ByteArray) (n : Int) (v : Value) : Prop := w.heap[b]? = some (.cells #[.string txt, .int .i64 n, v] 35 (0, 0))
theorem TB.lt {w : World} {b : Nat} {txt : ByteArray} {n : Int} {v : Value} (h : TB w b txt n v) : b < w.heap.size := lt_of_block h
theorem TB.c0 {w : World} {b : Nat} {txt : ByteArray} {n : Int} {v : Value} (h : TB w b txt n v) : w.cell? ⟨b, 0, none⟩ = some (.string txt) := by unfold TB at h; simp [World.cell?, h]
theorem TB.c1 {w : World} {b : Nat} {txt : ByteArray} {n : Int} {v : Value} (h : TB w b txt n v) : w.cell? ⟨b, 1, none⟩ = some (.int .i64 n) := by unfold TB at h; simp [World.cell?, h]
theorem TB.c2 {w : World} {b : Nat} {txt : ByteArray} {n : Int} {v : Value} (h : TB w b txt n v) : w.cell? ⟨b, 2, none⟩ = some v := by unfold TB at h; simp [World.cell?, h]
theorem TB.free {w : World} {b : Nat} {txt : ByteArray} {n : Int} {v : Value} (h : TB w b txt n v) (j : Nat) : w.frozen? ⟨b, j, none⟩ = false := by unfold TB at h; simp [World.frozen?, h]
theorem TB.turns {p : Nat → Prop} {w w' : World} {b : Nat} {txt : ByteArray} {n : Int} {v : Value} (h : TB w b txt n v) (t : Turns p w w') (hp : ¬ p b) : TB w' b txt n v := (t.block b h.lt hp).trans h
theorem heap_setCell_same {w : World} {b j : Nat} {cs : Array Value} {t : TypeId} (h : w.heap[b]? = some (.cells cs t (0, 0))) (u : Value) : (w.setCell ⟨b, j, none⟩ u).heap[b]? = some (.cells (cs.setIfInBounds j u) t (0, 0)) := by
  have hlt := lt_of_block h
  have h' : w.heap[b] = .cells cs t (0, 0) := by simpa [Array.getElem?_eq_getElem hlt] using h
  show (w.heap.modify b _)[b]? = _
  rw [Array.getElem?_eq_getElem (by simpa using hlt), Array.getElem_modify_self, h']
  rfl
theorem TB.set0 {w : World} {b : Nat} {txt : ByteArray} {n : Int} {v : Value} (h : TB w b txt n v) (u : ByteArray) : TB (w.setCell ⟨b, 0, none⟩ (.string u)) b u n v := heap_setCell_same h _
theorem TB.set2 {w : World} {b : Nat} {txt : ByteArray} {n : Int} {v : Value} (h : TB w b txt n v) (u : Value) : TB (w.setCell ⟨b, 2, none⟩ u) b txt n u := heap_setCell_same h _

theorem TB.setAll {w : World} {b : Nat} {txt : ByteArray} {n : Int} {v : Value} (h : TB w b txt n v) (txt' : ByteArray) (n' : Int) (v' : Value) : TB (((w.setCell ⟨b, 0, none⟩ (.string txt')).setCell ⟨b, 1, none⟩ (.int .i64 n')).setCell ⟨b, 2, none⟩ v') b txt' n' v' :=
  heap_setCell_same (heap_setCell_same (heap_setCell_same h _) _) _
theorem TB.new (w : World) (txt : ByteArray) (n : Int) (v : Value) : TB (w.alloc (.cells #[.string txt, .int .i64 n, v] 35)) w.heap.size txt n v := by
  show (w.heap.push _)[w.heap.size]? = _
  simp
/-- The values of rows. -/
def rowVals (n : Nat) (rb : List Nat) : List Value := rb.map fun r => .slice (some ⟨r, 0, none⟩) n n
theorem rowVals_get {n i r : Nat} {rb : List Nat} (h : rb[i]? = some r) : (rowVals n rb)[i]? = some (.slice (some ⟨r, 0, none⟩) n n) := by simp [rowVals, h]
/-- The slice v has the rows rb, each of n lengths. -/
structure Grid (w : World) (B n : Nat) (v : Value) (rb : List Nat) (len : Nat → Nat → Int) : Prop where
  own : w.ownsRow B 41 1 v rb.length (rowVals n rb)
  row : ∀ (i r : Nat), rb[i]? = some r → Ints w r n (len i) ∧ B ≤ r ∧ v.ownBlock ≠ some r
  inj : ∀ (i j r : Nat), rb[i]? = some r → rb[j]? = some r → i = j
theorem Grid.turns {p : Nat → Prop} {w w' : World} {B n : Nat} {v : Value} {rb : List Nat} {len : Nat → Nat → Int} (h : Grid w B n v rb len) (t : Turns p w w') (hp : ∀ k, B ≤ k → ¬ p k) : Grid w' B n v rb len := by
  refine ⟨?_, fun i r hi => ⟨(h.row i r hi).1.turns t (hp r (h.row i r hi).2.1), (h.row i r hi).2⟩, h.inj⟩
  obtain ⟨h1, h2⟩ := h.own
  refine ⟨h1, ?_⟩
  rcases h2 with h2 | ⟨g, cap, cur, hv, hg, hb, r⟩
  · exact Or.inl h2
  · exact Or.inr ⟨g, cap, cur, hv, hg, (t.block g (lt_of_block hb) (hp g hg)).trans hb, r⟩
theorem Grid.mono {w : World} {B B' n : Nat} {v : Value} {rb : List Nat} {len : Nat → Nat → Int} (h : Grid w B n v rb len) (hB : B' ≤ B) : Grid w B' n v rb len :=
  ⟨owns_mono h.own hB, fun i r hi => ⟨(h.row i r hi).1, Nat.le_trans hB (h.row i r hi).2.1, (h.row i r hi).2.2⟩, h.inj⟩
theorem Grid.nil (w : World) (B n : Nat) (len : Nat → Nat → Int) : Grid w B n (.slice none 0 0) [] len :=
  ⟨World.ownsRow_nil _ _ _ _, fun i r h => by simp at h, fun i j r h => by simp at h⟩
/-- One row more. -/
theorem Grid.push {w w4 : World} {B n g cap : Nat} {v : Value} {rb : List Nat} {len : Nat → Nat → Int} (h : Grid w B n v rb len) (hB : B ≤ w.heap.size) {o2 : Obj} {q : Nat}
    (hown : w4.ownsRow B 41 1 (.slice (some ⟨g, 0, none⟩) (rb.length + 1) cap) (rb.length + 1) (rowVals n rb ++ [.slice (some ⟨w.heap.size, 0, none⟩) n n]))
    (hgrow : (((w.alloc (.cells (madeCells #[.int .i64 0] n) 3)).alloc o2).drewN q).grownBy w4 v.ownBlock) (hat : v.ownBlock = some g ∨ g = w.heap.size + 2) (hlen : ∀ j, len rb.length j = 0) :
    Grid w4 B n (.slice (some ⟨g, 0, none⟩) (rb.length + 1) cap) (rb ++ [w.heap.size]) len ∧ Turns (fun k => v.ownBlock = some k) w w4 := by
  have hT : Turns (fun k => v.ownBlock = some k) w w4 := ((((Turns.refl _ w).alloc _).alloc _).drewN q).grown hgrow (fun k hk => Or.inr hk)
  have hvl : ∀ k, v.ownBlock = some k → k < w.heap.size := fun k hk => (h.own.lt k hk).2
  have hnew : Ints w4 w.heap.size n (len rb.length) := by
    have h1 := (Ints.made w n 3 0).turns ((Turns.refl (fun _ => False) _).alloc o2) (fun x => x)
    have h2 : Ints w4 w.heap.size n (fun _ => 0) := h1.turns ((Turns.refl (fun k => v.ownBlock = some k) _).grown (row := v.ownBlock) ⟨hgrow.os, hgrow.tape, hgrow.output, hgrow.size, hgrow.block⟩ (fun k hk => Or.inr hk)) (fun hk => by have := hvl _ hk; omega)
    exact h2.congr (fun j _ => (hlen j).symm)
  refine ⟨⟨by simpa [rowVals] using hown, ?_, ?_⟩, hT⟩
  · intro i r hi
    by_cases e : i < rb.length
    · rw [List.getElem?_append_left e] at hi
      have hr := h.row i r hi
      have hrl := hr.1.lt
      refine ⟨hr.1.turns hT hr.2.2, hr.2.1, ?_⟩
      intro c
      simp only [Value.ownBlock, Option.some.injEq] at c
      subst c
      rcases hat with hat | hat
      · exact hr.2.2 hat
      · omega
    · rw [List.getElem?_append_right (by omega)] at hi
      have hi0 : i = rb.length := by
        have := (List.getElem?_eq_some_iff.1 hi).1
        simp at this; omega
      subst hi0
      simp at hi
      subst hi
      refine ⟨hnew, hB, ?_⟩
      intro c
      simp only [Value.ownBlock, Option.some.injEq] at c
      rcases hat with hat | hat
      · have := hvl _ hat; omega
      · omega
  · intro i j r hi hj
    by_cases e : i < rb.length
    · rw [List.getElem?_append_left e] at hi
      by_cases e' : j < rb.length
      · rw [List.getElem?_append_left e'] at hj; exact h.inj i j r hi hj
      · rw [List.getElem?_append_right (by omega)] at hj
        have hj0 := (List.getElem?_eq_some_iff.1 hj).1
        simp at hj0
        have : j = rb.length := by omega
        subst this; simp at hj; subst hj
        have := (h.row i _ hi).1.lt; omega
    · rw [List.getElem?_append_right (by omega)] at hi
      have hi0 := (List.getElem?_eq_some_iff.1 hi).1
      simp at hi0
      have hi1 : i = rb.length := by omega
      subst hi1; simp at hi; subst hi
      by_cases e' : j < rb.length
      · rw [List.getElem?_append_left e'] at hj
        have := (h.row j _ hj).1.lt; omega
      · rw [List.getElem?_append_right (by omega)] at hj
        have hj0 := (List.getElem?_eq_some_iff.1 hj).1
        simp at hj0; omega
theorem Grid.form {w : World} {B n : Nat} {v : Value} {rb : List Nat} {len : Nat → Nat → Int} (h : Grid w B n v rb len) (hn : 0 < rb.length) : ∃ lb cap, v = .slice (some ⟨lb, 0, none⟩) rb.length cap ∧ B ≤ lb ∧ lb < w.heap.size := by
  obtain ⟨m, hm⟩ : ∃ m, rb.length = m + 1 := ⟨rb.length - 1, by omega⟩
  have h1 := h.own
  rw [hm] at h1
  obtain ⟨g, cap, hv⟩ := owns_form h1
  have := h.own.lt g (by rw [hv]; rfl)
  exact ⟨g, cap, by rw [hm]; exact hv, this⟩
theorem Grid.cell {w : World} {B n lb cap : Nat} {rb : List Nat} {len : Nat → Nat → Int} (h : Grid w B n (.slice (some ⟨lb, 0, none⟩) rb.length cap) rb len) {i r : Nat} (hi : rb[i]? = some r) : w.cell? ⟨lb, i, none⟩ = some (.slice (some ⟨r, 0, none⟩) n n) := by
  have hl := (List.getElem?_eq_some_iff.1 hi).1
  rw [h.own.cellAt i (by omega)]
  exact rowVals_get hi
/-- A length written into a row. -/
theorem Grid.set {w : World} {B n : Nat} {v : Value} {rb : List Nat} {len : Nat → Nat → Int} (h : Grid w B n v rb len) {i r j : Nat} (hi : rb[i]? = some r) (hj : j < n) (x : Int) :
    Grid (w.setCell ⟨r, j, none⟩ (.int .i64 x)) B n v rb (fun a b => if a = i ∧ b = j then x else len a b) := by
  have hr := h.row i r hi
  have hT : Turns (· = r) w (w.setCell ⟨r, j, none⟩ (.int .i64 x)) := (Turns.refl (· = r) w).setCell (Or.inr rfl) _
  refine ⟨ownsRow_setCell_other h.own hr.2.2 _, ?_, h.inj⟩
  intro a s ha
  have hs := h.row a s ha
  by_cases e : s = r
  · subst e
    have := h.inj a i s ha hi
    subst this
    exact ⟨(hr.1.set hj x).congr (fun b _ => by unfold upd; simp), hs.2⟩
  · refine ⟨(hs.1.turns hT e).congr (fun b _ => ?_), hs.2⟩
    rw [if_neg]
    rintro ⟨rfl, _⟩
    rw [ha] at hi; cases hi; exact e rfl
end Mem
end Go.Proofs.YtdogncjcainhlaaDoor
