/- What the walks share that reaches no program. -/
import Derived.WalkKit
import Derived.Deep.Draws
import Derived.Deep.AppendLies
import Derived.Lib.Split
import Derived.Shelf.Strings.Split
/- What blocks of memory hold, and which of them a call may have turned: no program in it. -/
namespace Go.Proofs.YtdogncjcainhlaaDoor
open Go.RowKit
namespace Mem

/-- Of what was there only the blocks p may have turned. -/
structure Turns (p : Nat → Prop) (w w' : World) : Prop where
  os : w'.os = w.os
  tape : w'.tape = w.tape
  output : w'.output = w.output
  size : w.heap.size ≤ w'.heap.size
  block : ∀ k, k < w.heap.size → ¬ p k → w'.heap[k]? = w.heap[k]?

theorem Turns.refl (p : Nat → Prop) (w : World) : Turns p w w := ⟨rfl, rfl, rfl, Nat.le_refl _, fun _ _ _ => rfl⟩
theorem Turns.trans {p : Nat → Prop} {a b c : World} (h : Turns p a b) (k : Turns p b c) : Turns p a c :=
  ⟨k.os.trans h.os, k.tape.trans h.tape, k.output.trans h.output, Nat.le_trans h.size k.size, fun i hi hp => (k.block i (Nat.lt_of_lt_of_le hi h.size) hp).trans (h.block i hi hp)⟩
theorem Turns.mono {p q : Nat → Prop} {a b : World} (h : Turns p a b) (hpq : ∀ k, k < a.heap.size → p k → q k) : Turns q a b :=
  ⟨h.os, h.tape, h.output, h.size, fun k hk hq => h.block k hk (fun hp => hq (hpq k hk hp))⟩
theorem Turns.cell {p : Nat → Prop} {w w' : World} (h : Turns p w w') {a : Addr} (ha : a.block < w.heap.size) (hp : ¬ p a.block) : w'.cell? a = w.cell? a := World.cell?_of_block (w := w) (h.block a.block ha hp)
theorem Turns.frozen {p : Nat → Prop} {w w' : World} (h : Turns p w w') {a : Addr} (ha : a.block < w.heap.size) (hp : ¬ p a.block) : w'.frozen? a = w.frozen? a := World.frozen?_of_block (w := w) (h.block a.block ha hp)
theorem Turns.drew {p : Nat → Prop} {a w : World} (h : Turns p a w) : Turns p a w.drew := ⟨h.os, h.tape, h.output, h.size, h.block⟩
theorem Turns.drewN {p : Nat → Prop} {a w : World} (h : Turns p a w) (n : Nat) : Turns p a (w.drewN n) := ⟨h.os, h.tape, h.output, h.size, h.block⟩
theorem Turns.alloc {p : Nat → Prop} {a w : World} (h : Turns p a w) (o : Obj) : Turns p a (w.alloc o) :=
  ⟨h.os, h.tape, h.output, Nat.le_trans h.size (by simp), fun k hk hp => (Below.heap_alloc w o k (Nat.lt_of_lt_of_le hk h.size)).trans (h.block k hk hp)⟩
theorem Turns.setCell {p : Nat → Prop} {a w : World} (h : Turns p a w) {x : Addr} (hx : a.heap.size ≤ x.block ∨ p x.block) (u : Value) : Turns p a (w.setCell x u) := by
  refine ⟨h.os, h.tape, h.output, Nat.le_trans h.size (by simp), fun k hk hp => (Below.heap_setCell w x u k ?_).trans (h.block k hk hp)⟩
  rintro rfl
  rcases hx with hx | hx
  · omega
  · exact hp hx
theorem Turns.grown {p : Nat → Prop} {a w w' : World} {row : Option Nat} (h : Turns p a w) (hg : w.grownBy w' row) (hr : ∀ k, row = some k → a.heap.size ≤ k ∨ p k) : Turns p a w' := by
  refine ⟨hg.os.trans h.os, hg.tape.trans h.tape, hg.output.trans h.output, Nat.le_trans h.size hg.size, fun k hk hp => (hg.block k (Nat.lt_of_lt_of_le hk h.size) ?_).trans (h.block k hk hp)⟩
  intro e
  rcases hr k e.symm with h' | h'
  · omega
  · exact hp h'
theorem Turns.below {w w' : World} (h : Turns (fun _ => False) w w') : Below w.heap.size w w' := ⟨h.os, h.tape, h.output, h.size, fun k hk => h.block k hk (fun x => x)⟩
theorem Turns.of_below {B : Nat} {w w' : World} (h : Below B w w') (p : Nat → Prop) (hp : ∀ k, B ≤ k → k < w.heap.size → p k) : Turns p w w' :=
  ⟨h.os, h.tape, h.output, h.size, fun k hk hn => h.block k (Nat.lt_of_not_le fun hB => hn (hp k hB hk))⟩

/-- The first n cells of block b hold the numbers g, and may be written. -/
structure Ints (w : World) (b n : Nat) (g : Nat → Int) : Prop where
  lt : b < w.heap.size
  cell : ∀ j, j < n → w.cell? ⟨b, j, none⟩ = some (.int .i64 (g j))
  free : ∀ j, j < n → w.frozen? ⟨b, j, none⟩ = false
/-- The same of bools. -/
structure Bools (w : World) (b n : Nat) (g : Nat → Bool) : Prop where
  lt : b < w.heap.size
  cell : ∀ j, j < n → w.cell? ⟨b, j, none⟩ = some (.bool (g j))
  free : ∀ j, j < n → w.frozen? ⟨b, j, none⟩ = false
/-- A map's block: how many places, how many roads, the lengths in rows of 40. -/
structure MapAt (w : World) (b : Nat) (N R : Int) (len : Nat → Nat → Int) : Prop where
  lt : b < w.heap.size
  places : w.cell? ⟨b, 0, none⟩ = some (.int .i64 N)
  roads : w.cell? ⟨b, 1, none⟩ = some (.int .i64 R)
  cell : ∀ i j, i < 40 → j < 40 → w.cell? ⟨b, 2 + i * 40 + j, none⟩ = some (.int .i64 (len i j))

def upd {α : Type} (g : Nat → α) (i : Nat) (x : α) : Nat → α := fun j => if j = i then x else g j
theorem upd_same {α : Type} (g : Nat → α) (i : Nat) (x : α) : upd g i x i = x := by simp [upd]
theorem upd_other {α : Type} (g : Nat → α) (i j : Nat) (x : α) (h : j ≠ i) : upd g i x j = g j := by simp [upd, h]

theorem Ints.turns {p : Nat → Prop} {w w' : World} {b n : Nat} {g : Nat → Int} (h : Ints w b n g) (t : Turns p w w') (hb : ¬ p b) : Ints w' b n g :=
  ⟨Nat.lt_of_lt_of_le h.lt t.size, fun j hj => (t.cell (a := ⟨b, j, none⟩) h.lt hb).trans (h.cell j hj), fun j hj => (t.frozen (a := ⟨b, j, none⟩) h.lt hb).trans (h.free j hj)⟩
theorem Bools.turns {p : Nat → Prop} {w w' : World} {b n : Nat} {g : Nat → Bool} (h : Bools w b n g) (t : Turns p w w') (hb : ¬ p b) : Bools w' b n g :=
  ⟨Nat.lt_of_lt_of_le h.lt t.size, fun j hj => (t.cell (a := ⟨b, j, none⟩) h.lt hb).trans (h.cell j hj), fun j hj => (t.frozen (a := ⟨b, j, none⟩) h.lt hb).trans (h.free j hj)⟩
theorem MapAt.turns {p : Nat → Prop} {w w' : World} {b : Nat} {N R : Int} {len : Nat → Nat → Int} (h : MapAt w b N R len) (t : Turns p w w') (hb : ¬ p b) : MapAt w' b N R len :=
  ⟨Nat.lt_of_lt_of_le h.lt t.size, (t.cell (a := ⟨b, 0, none⟩) h.lt hb).trans h.places, (t.cell (a := ⟨b, 1, none⟩) h.lt hb).trans h.roads, fun i j hi hj => (t.cell (a := ⟨b, 2 + i * 40 + j, none⟩) h.lt hb).trans (h.cell i j hi hj)⟩
theorem Ints.set {w : World} {b n : Nat} {g : Nat → Int} (h : Ints w b n g) {i : Nat} (hi : i < n) (x : Int) : Ints (w.setCell ⟨b, i, none⟩ (.int .i64 x)) b n (upd g i x) := by
  refine ⟨by simpa using h.lt, fun j hj => ?_, fun j hj => by simpa using h.free j hj⟩
  by_cases e : j = i
  · subst e; rw [upd_same]; exact World.cell?_setCell_same _ _ _ (h.cell j hj)
  · rw [upd_other _ _ _ _ e, World.cell?_setCell_other _ _ _ _ (by intro c; injection c with _ c; omega)]; exact h.cell j hj
theorem Bools.set {w : World} {b n : Nat} {g : Nat → Bool} (h : Bools w b n g) {i : Nat} (hi : i < n) (x : Bool) : Bools (w.setCell ⟨b, i, none⟩ (.bool x)) b n (upd g i x) := by
  refine ⟨by simpa using h.lt, fun j hj => ?_, fun j hj => by simpa using h.free j hj⟩
  by_cases e : j = i
  · subst e; rw [upd_same]; exact World.cell?_setCell_same _ _ _ (h.cell j hj)
  · rw [upd_other _ _ _ _ e, World.cell?_setCell_other _ _ _ _ (by intro c; injection c with _ c; omega)]; exact h.cell j hj
theorem made_get (z : Value) (n j : Nat) (hj : j < n) : (madeCells #[z] n)[j]? = some z := by
  simp [madeCells, hj, Nat.mod_one]
theorem Ints.made (w : World) (n : Nat) (t : TypeId) (x : Int) : Ints (w.alloc (.cells (madeCells #[.int .i64 x] n) t)) w.heap.size n (fun _ => x) :=
  ⟨by simp, fun j hj => by rw [World.cell?_alloc_new]; exact made_get _ _ _ hj, fun j _ => World.frozen?_alloc_new _ _ _ _⟩
theorem Bools.made (w : World) (n : Nat) (t : TypeId) (x : Bool) : Bools (w.alloc (.cells (madeCells #[.bool x] n) t)) w.heap.size n (fun _ => x) :=
  ⟨by simp, fun j hj => by rw [World.cell?_alloc_new]; exact made_get _ _ _ hj, fun j _ => World.frozen?_alloc_new _ _ _ _⟩
theorem Ints.congr {w : World} {b n : Nat} {g g' : Nat → Int} (h : Ints w b n g) (e : ∀ j, j < n → g j = g' j) : Ints w b n g' := ⟨h.lt, fun j hj => by rw [← e j hj]; exact h.cell j hj, h.free⟩
theorem owns_mono {w : World} {base base' : Nat} {e : TypeId} {size : Nat} {v : Value} {n : Nat} {xs : List Value} (h : w.ownsRow base e size v n xs) (hb : base' ≤ base) : w.ownsRow base' e size v n xs := by
  obtain ⟨h1, h2⟩ := h
  refine ⟨h1, ?_⟩
  rcases h2 with h2 | ⟨g, cap, cur, hv, hg, r⟩
  · exact Or.inl h2
  · exact Or.inr ⟨g, cap, cur, hv, by omega, r⟩
theorem owns_form {w : World} {base : Nat} {e : TypeId} {size : Nat} {v : Value} {n : Nat} {xs : List Value} (h : w.ownsRow base e size v (n + 1) xs) : ∃ g cap, v = .slice (some ⟨g, 0, none⟩) (n + 1) cap := by
  obtain ⟨_, h2⟩ := h
  rcases h2 with ⟨_, h2⟩ | ⟨g, cap, cur, hv, _⟩
  · omega
  · exact ⟨g, cap, hv⟩
theorem owns_turns {w w' : World} {base : Nat} {e : TypeId} {size : Nat} {v : Value} {n : Nat} {xs : List Value} (h : w.ownsRow base e size v n xs) (t : Turns (fun _ => False) w w') : w'.ownsRow base e size v n xs := by
  obtain ⟨h1, h2⟩ := h
  refine ⟨h1, ?_⟩
  rcases h2 with h2 | ⟨g, cap, cur, hv, hg, hb, r⟩
  · exact Or.inl h2
  · exact Or.inr ⟨g, cap, cur, hv, hg, (t.block g (lt_of_block hb) (fun x => x)).trans hb, r⟩
end Mem
end Go.Proofs.YtdogncjcainhlaaDoor
/- A town's block and the rows of its lengths: no program in it. -/
namespace Go.Proofs.YtdogncjcainhlaaDoor
open Go.RowKit
namespace Mem

theorem Turns.join {p q : Nat → Prop} {a b c : World} (h : Turns p a b) (k : Turns q b c) (hq : ∀ i, i < a.heap.size → ¬ p i → ¬ q i) : Turns p a c :=
  ⟨k.os.trans h.os, k.tape.trans h.tape, k.output.trans h.output, Nat.le_trans h.size k.size, fun i hi hp => (k.block i (Nat.lt_of_lt_of_le hi h.size) (hq i hi hp)).trans (h.block i hi hp)⟩
/-- Block b holds a town: the text, how many places, the slice of the rows. -/
def TB (w : World) (b : Nat) (txt : ByteArray) (n : Int) (v : Value) : Prop := w.heap[b]? = some (.cells #[.string txt, .int .i64 n, v] 35 (0, 0))
theorem TB.lt {w : World} {b : Nat} {txt : ByteArray} {n : Int} {v : Value} (h : TB w b txt n v) : b < w.heap.size := lt_of_block h
theorem TB.c0 {w : World} {b : Nat} {txt : ByteArray} {n : Int} {v : Value} (h : TB w b txt n v) : w.cell? ⟨b, 0, none⟩ = some (.string txt) := by unfold TB at h; simp [World.cell?, h]
theorem TB.c1 {w : World} {b : Nat} {txt : ByteArray} {n : Int} {v : Value} (h : TB w b txt n v) : w.cell? ⟨b, 1, none⟩ = some (.int .i64 n) := by unfold TB at h; simp [World.cell?, h]
theorem TB.c2 {w : World} {b : Nat} {txt : ByteArray} {n : Int} {v : Value} (h : TB w b txt n v) : w.cell? ⟨b, 2, none⟩ = some v := by unfold TB at h; simp [World.cell?, h]
theorem TB.free {w : World} {b : Nat} {txt : ByteArray} {n : Int} {v : Value} (h : TB w b txt n v) (j : Nat) : w.frozen? ⟨b, j, none⟩ = false := by unfold TB at h; simp [World.frozen?, h]
theorem TB.turns {p : Nat → Prop} {w w' : World} {b : Nat} {txt : ByteArray} {n : Int} {v : Value} (h : TB w b txt n v) (t : Turns p w w') (hp : ¬ p b) : TB w' b txt n v := (t.block b h.lt hp).trans h
theorem heap_setCell_same {w : World} {b j : Nat} {cs : Array Value} {t : TypeId} (h : w.heap[b]? = some (.cells cs t (0, 0))) (u : Value) : (w.setCell ⟨b, j, none⟩ u).heap[b]? = some (.cells (cs.setIfInBounds j u) t (0, 0)) := by
  have hlt := lt_of_block h
  have h' : w.heap[b] = .cells cs t (0, 0) := by simpa [Array.getElem?_eq_getElem hlt] using h
  show (w.heap.modify b _)[b]? = _
  rw [Array.getElem?_eq_getElem (by simpa using hlt), Array.getElem_modify_self, h']
  rfl
theorem TB.set0 {w : World} {b : Nat} {txt : ByteArray} {n : Int} {v : Value} (h : TB w b txt n v) (u : ByteArray) : TB (w.setCell ⟨b, 0, none⟩ (.string u)) b u n v := heap_setCell_same h _
theorem TB.set2 {w : World} {b : Nat} {txt : ByteArray} {n : Int} {v : Value} (h : TB w b txt n v) (u : Value) : TB (w.setCell ⟨b, 2, none⟩ u) b txt n u := heap_setCell_same h _

theorem TB.setAll {w : World} {b : Nat} {txt : ByteArray} {n : Int} {v : Value} (h : TB w b txt n v) (txt' : ByteArray) (n' : Int) (v' : Value) : TB (((w.setCell ⟨b, 0, none⟩ (.string txt')).setCell ⟨b, 1, none⟩ (.int .i64 n')).setCell ⟨b, 2, none⟩ v') b txt' n' v' :=
  heap_setCell_same (heap_setCell_same (heap_setCell_same h _) _) _
theorem TB.new (w : World) (txt : ByteArray) (n : Int) (v : Value) : TB (w.alloc (.cells #[.string txt, .int .i64 n, v] 35)) w.heap.size txt n v := by
  show (w.heap.push _)[w.heap.size]? = _
  simp
/-- The values of rows. -/
def rowVals (n : Nat) (rb : List Nat) : List Value := rb.map fun r => .slice (some ⟨r, 0, none⟩) n n
theorem rowVals_get {n i r : Nat} {rb : List Nat} (h : rb[i]? = some r) : (rowVals n rb)[i]? = some (.slice (some ⟨r, 0, none⟩) n n) := by simp [rowVals, h]
/-- The slice v has the rows rb, each of n lengths. -/
structure Grid (w : World) (B n : Nat) (v : Value) (rb : List Nat) (len : Nat → Nat → Int) : Prop where
  own : w.ownsRow B 41 1 v rb.length (rowVals n rb)
  row : ∀ (i r : Nat), rb[i]? = some r → Ints w r n (len i) ∧ B ≤ r ∧ v.ownBlock ≠ some r
  inj : ∀ (i j r : Nat), rb[i]? = some r → rb[j]? = some r → i = j
theorem Grid.turns {p : Nat → Prop} {w w' : World} {B n : Nat} {v : Value} {rb : List Nat} {len : Nat → Nat → Int} (h : Grid w B n v rb len) (t : Turns p w w') (hp : ∀ k, B ≤ k → ¬ p k) : Grid w' B n v rb len := by
  refine ⟨?_, fun i r hi => ⟨(h.row i r hi).1.turns t (hp r (h.row i r hi).2.1), (h.row i r hi).2⟩, h.inj⟩
  obtain ⟨h1, h2⟩ := h.own
  refine ⟨h1, ?_⟩
  rcases h2 with h2 | ⟨g, cap, cur, hv, hg, hb, r⟩
  · exact Or.inl h2
  · exact Or.inr ⟨g, cap, cur, hv, hg, (t.block g (lt_of_block hb) (hp g hg)).trans hb, r⟩
theorem Grid.mono {w : World} {B B' n : Nat} {v : Value} {rb : List Nat} {len : Nat → Nat → Int} (h : Grid w B n v rb len) (hB : B' ≤ B) : Grid w B' n v rb len :=
  ⟨owns_mono h.own hB, fun i r hi => ⟨(h.row i r hi).1, Nat.le_trans hB (h.row i r hi).2.1, (h.row i r hi).2.2⟩, h.inj⟩
theorem Grid.nil (w : World) (B n : Nat) (len : Nat → Nat → Int) : Grid w B n (.slice none 0 0) [] len :=
  ⟨World.ownsRow_nil _ _ _ _, fun i r h => by simp at h, fun i j r h => by simp at h⟩
/-- One row more. -/
theorem Grid.push {w w4 : World} {B n g cap : Nat} {v : Value} {rb : List Nat} {len : Nat → Nat → Int} (h : Grid w B n v rb len) (hB : B ≤ w.heap.size) {o2 : Obj} {q : Nat}
    (hown : w4.ownsRow B 41 1 (.slice (some ⟨g, 0, none⟩) (rb.length + 1) cap) (rb.length + 1) (rowVals n rb ++ [.slice (some ⟨w.heap.size, 0, none⟩) n n]))
    (hgrow : (((w.alloc (.cells (madeCells #[.int .i64 0] n) 3)).alloc o2).drewN q).grownBy w4 v.ownBlock) (hat : v.ownBlock = some g ∨ g = w.heap.size + 2) (hlen : ∀ j, len rb.length j = 0) :
    Grid w4 B n (.slice (some ⟨g, 0, none⟩) (rb.length + 1) cap) (rb ++ [w.heap.size]) len ∧ Turns (fun k => v.ownBlock = some k) w w4 := by
  have hT : Turns (fun k => v.ownBlock = some k) w w4 := ((((Turns.refl _ w).alloc _).alloc _).drewN q).grown hgrow (fun k hk => Or.inr hk)
  have hvl : ∀ k, v.ownBlock = some k → k < w.heap.size := fun k hk => (h.own.lt k hk).2
  have hnew : Ints w4 w.heap.size n (len rb.length) := by
    have h1 := (Ints.made w n 3 0).turns ((Turns.refl (fun _ => False) _).alloc o2) (fun x => x)
    have h2 : Ints w4 w.heap.size n (fun _ => 0) := h1.turns ((Turns.refl (fun k => v.ownBlock = some k) _).grown (row := v.ownBlock) ⟨hgrow.os, hgrow.tape, hgrow.output, hgrow.size, hgrow.block⟩ (fun k hk => Or.inr hk)) (fun hk => by have := hvl _ hk; omega)
    exact h2.congr (fun j _ => (hlen j).symm)
  refine ⟨⟨by simpa [rowVals] using hown, ?_, ?_⟩, hT⟩
  · intro i r hi
    by_cases e : i < rb.length
    · rw [List.getElem?_append_left e] at hi
      have hr := h.row i r hi
      have hrl := hr.1.lt
      refine ⟨hr.1.turns hT hr.2.2, hr.2.1, ?_⟩
      intro c
      simp only [Value.ownBlock, Option.some.injEq] at c
      subst c
      rcases hat with hat | hat
      · exact hr.2.2 hat
      · omega
    · rw [List.getElem?_append_right (by omega)] at hi
      have hi0 : i = rb.length := by
        have := (List.getElem?_eq_some_iff.1 hi).1
        simp at this; omega
      subst hi0
      simp at hi
      subst hi
      refine ⟨hnew, hB, ?_⟩
      intro c
      simp only [Value.ownBlock, Option.some.injEq] at c
      rcases hat with hat | hat
      · have := hvl _ hat; omega
      · omega
  · intro i j r hi hj
    by_cases e : i < rb.length
    · rw [List.getElem?_append_left e] at hi
      by_cases e' : j < rb.length
      · rw [List.getElem?_append_left e'] at hj; exact h.inj i j r hi hj
      · rw [List.getElem?_append_right (by omega)] at hj
        have hj0 := (List.getElem?_eq_some_iff.1 hj).1
        simp at hj0
        have : j = rb.length := by omega
        subst this; simp at hj; subst hj
        have := (h.row i _ hi).1.lt; omega
    · rw [List.getElem?_append_right (by omega)] at hi
      have hi0 := (List.getElem?_eq_some_iff.1 hi).1
      simp at hi0
      have hi1 : i = rb.length := by omega
      subst hi1; simp at hi; subst hi
      by_cases e' : j < rb.length
      · rw [List.getElem?_append_left e'] at hj
        have := (h.row j _ hj).1.lt; omega
      · rw [List.getElem?_append_right (by omega)] at hj
        have hj0 := (List.getElem?_eq_some_iff.1 hj).1
        simp at hj0; omega
theorem Grid.form {w : World} {B n : Nat} {v : Value} {rb : List Nat} {len : Nat → Nat → Int} (h : Grid w B n v rb len) (hn : 0 < rb.length) : ∃ lb cap, v = .slice (some ⟨lb, 0, none⟩) rb.length cap ∧ B ≤ lb ∧ lb < w.heap.size := by
  obtain ⟨m, hm⟩ : ∃ m, rb.length = m + 1 := ⟨rb.length - 1, by omega⟩
  have h1 := h.own
  rw [hm] at h1
  obtain ⟨g, cap, hv⟩ := owns_form h1
  have := h.own.lt g (by rw [hv]; rfl)
  exact ⟨g, cap, by rw [hm]; exact hv, this⟩
theorem Grid.cell {w : World} {B n lb cap : Nat} {rb : List Nat} {len : Nat → Nat → Int} (h : Grid w B n (.slice (some ⟨lb, 0, none⟩) rb.length cap) rb len) {i r : Nat} (hi : rb[i]? = some r) : w.cell? ⟨lb, i, none⟩ = some (.slice (some ⟨r, 0, none⟩) n n) := by
  have hl := (List.getElem?_eq_some_iff.1 hi).1
  rw [h.own.cellAt i (by omega)]
  exact rowVals_get hi
/-- A length written into a row. -/
theorem Grid.set {w : World} {B n : Nat} {v : Value} {rb : List Nat} {len : Nat → Nat → Int} (h : Grid w B n v rb len) {i r j : Nat} (hi : rb[i]? = some r) (hj : j < n) (x : Int) :
    Grid (w.setCell ⟨r, j, none⟩ (.int .i64 x)) B n v rb (fun a b => if a = i ∧ b = j then x else len a b) := by
  have hr := h.row i r hi
  have hT : Turns (· = r) w (w.setCell ⟨r, j, none⟩ (.int .i64 x)) := (Turns.refl (· = r) w).setCell (Or.inr rfl) _
  refine ⟨ownsRow_setCell_other h.own hr.2.2 _, ?_, h.inj⟩
  intro a s ha
  have hs := h.row a s ha
  by_cases e : s = r
  · subst e
    have := h.inj a i s ha hi
    subst this
    exact ⟨(hr.1.set hj x).congr (fun b _ => by unfold upd; simp), hs.2⟩
  · refine ⟨(hs.1.turns hT e).congr (fun b _ => ?_), hs.2⟩
    rw [if_neg]
    rintro ⟨rfl, _⟩
    rw [ha] at hi; cases hi; exact e rfl
end Mem
end Go.Proofs.YtdogncjcainhlaaDoor
/- Decimal texts of numbers, and raw numbers counted round. Plain: no program in it. -/
namespace Go.Proofs.YtdogncjcainhlaaDoor
namespace Pu

/-- A number's text. -/
def dec (n : Nat) : List UInt8 := if _h : n < 10 then [(48 + n).toUInt8] else dec (n / 10) ++ [(48 + n % 10).toUInt8]
  termination_by n
  decreasing_by omega
theorem dec_low {n : Nat} (h : n < 10) : dec n = [(48 + n).toUInt8] := by rw [dec, dif_pos h]
theorem dec_high {n : Nat} (h : ¬ n < 10) : dec n = dec (n / 10) ++ [(48 + n % 10).toUInt8] := by rw [dec, dif_neg h]
theorem dec_len (n : Nat) : (dec n).length ≤ n + 1 := by
  induction n using Nat.strongRecOn with
  | ind n ih =>
    by_cases h : n < 10
    · rw [dec_low h]; simp
    · rw [dec_high h]; have := ih (n / 10) (by omega); simp; omega
theorem dec_len4 {n : Nat} (h : n < 10000) : (dec n).length ≤ 4 := by
  have one : ∀ m, m < 10 → (dec m).length ≤ 1 := fun m hm => by rw [dec_low hm]; simp
  have two : ∀ m, m < 100 → (dec m).length ≤ 2 := fun m hm => by
    by_cases h : m < 10
    · have := one m h; omega
    · rw [dec_high h]; have := one (m / 10) (by omega); simp; omega
  have three : ∀ m, m < 1000 → (dec m).length ≤ 3 := fun m hm => by
    by_cases h : m < 10
    · have := one m h; omega
    · rw [dec_high h]; have := two (m / 10) (by omega); simp; omega
  by_cases h' : n < 10
  · have := one n h'; omega
  · rw [dec_high h']; have := three (n / 10) (by omega); simp; omega
/-- Which of n things a raw number speaks of. -/
def pick (c : Int) (n : Nat) : Nat := (if c < 0 then -(c + 1) else c).toNat % n
theorem pick_lt (c : Int) {n : Nat} (h : 0 < n) : pick c n < n := Nat.mod_lt _ h
end Pu
end Go.Proofs.YtdogncjcainhlaaDoor
/- Plain facts on numbers that stand in texts: no program in it. -/
namespace Go.Proofs.YtdogncjcainhlaaDoor
namespace Pu

/-- The rest of a number's digits, with the look ahead of each step. -/
def digs : Int → List UInt8 → Option Int
  | n, [] => some n
  | n, c :: r => if c.toNat < 48 ∨ 57 < c.toNat then none else if (9223372036854775807 - ((c.toNat : Int) - 48)) / 10 < n then none else digs (n * 10 + ((c.toNat : Int) - 48)) r

/-- A number of the document. -/
def num (l : List UInt8) : Option Int := if l = [] ∨ (l.head? = some 48 ∧ 1 < l.length) then none else digs 0 l

/-- A number from lo to hi. -/
def within (l : List UInt8) (lo hi : Int) : Option Int := match num l with
  | none => none
  | some n => if n < lo ∨ hi < n then none else some n

theorem digs_cons (n : Int) (c : UInt8) (r : List UInt8) (h1 : 48 ≤ c.toNat) (h2 : c.toNat ≤ 57) (h3 : n ≤ (9223372036854775807 - ((c.toNat : Int) - 48)) / 10) : digs n (c :: r) = digs (n * 10 + ((c.toNat : Int) - 48)) r := by
  rw [digs, if_neg (by omega), if_neg (by omega)]
theorem digs_bad (n : Int) (c : UInt8) (r : List UInt8) (h1 : c.toNat < 48 ∨ 57 < c.toNat) : digs n (c :: r) = none := by
  rw [digs, if_pos h1]
theorem digs_big (n : Int) (c : UInt8) (r : List UInt8) (h3 : (9223372036854775807 - ((c.toNat : Int) - 48)) / 10 < n) : digs n (c :: r) = none := by
  rw [digs]; split
  · rfl
  · first | rfl | rw [if_pos h3]
theorem drop_cons (s : ByteArray) (k : Nat) (h : k < s.size) : s.data.toList.drop k = s[k] :: s.data.toList.drop (k + 1) := by
  rw [List.drop_eq_getElem_cons (by simpa using h)]; rfl
theorem digs_bd : ∀ (l : List UInt8) (n m : Int), 0 ≤ n → n ≤ 9223372036854775807 → digs n l = some m → 0 ≤ m ∧ m ≤ 9223372036854775807
  | [], n, m, h0, h1, h => by simp [digs] at h; omega
  | c :: r, n, m, h0, h1, h => by
    rw [digs] at h
    split at h
    · cases h
    · split at h
      · cases h
      · exact digs_bd r _ m (by omega) (by omega) h
theorem num_bd {l : List UInt8} {m : Int} (h : num l = some m) : 0 ≤ m ∧ m ≤ 9223372036854775807 := by
  unfold num at h
  split at h
  · cases h
  · exact digs_bd l 0 m (by omega) (by omega) h
theorem within_some {l : List UInt8} {lo hi n : Int} (h : within l lo hi = some n) : num l = some n ∧ lo ≤ n ∧ n ≤ hi := by
  unfold within at h
  split at h
  · cases h
  · rename_i m hm
    split at h
    · cases h
    · cases h; exact ⟨hm, by omega, by omega⟩
end Pu
end Go.Proofs.YtdogncjcainhlaaDoor
/- A text cut at a byte. Plain: no program in it. -/
namespace Go.Proofs.YtdogncjcainhlaaDoor
namespace Pu

/-- A text cut at each byte c. -/
def cuts (c : UInt8) : List UInt8 → List (List UInt8)
  | [] => [[]]
  | x :: r => if x = c then [] :: cuts c r else match cuts c r with
    | [] => [[x]]
    | h :: t => (x :: h) :: t
theorem cuts_ne (c : UInt8) : ∀ l, ∃ h t, cuts c l = h :: t
  | [] => ⟨[], [], rfl⟩
  | x :: r => by
    rw [cuts]
    split
    · exact ⟨_, _, rfl⟩
    · obtain ⟨h, t, e⟩ := cuts_ne c r; rw [e]; exact ⟨_, _, rfl⟩
theorem cuts_same (c : UInt8) (r : List UInt8) : cuts c (c :: r) = [] :: cuts c r := by rw [cuts, if_pos rfl]
theorem cuts_other {c x : UInt8} (r : List UInt8) (hx : x ≠ c) {h : List UInt8} {t : List (List UInt8)} (e : cuts c r = h :: t) : cuts c (x :: r) = (x :: h) :: t := by rw [cuts, if_neg hx, e]
theorem cuts_length (c : UInt8) : ∀ l : List UInt8, (cuts c l).length = l.count c + 1
  | [] => rfl
  | x :: r => by
    have ih := cuts_length c r
    by_cases hx : x = c
    · subst hx; rw [cuts_same]; simp [ih]
    · obtain ⟨h, t, e⟩ := cuts_ne c r
      rw [cuts_other r hx e]; rw [e] at ih
      rw [List.count_cons_of_ne hx]; simpa using ih
theorem cuts_le (c : UInt8) : ∀ (l p : List UInt8), p ∈ cuts c l → p.length ≤ l.length
  | [], p, h => by simp [cuts] at h; simp [h]
  | x :: r, p, hp => by
    have ih := cuts_le c r
    by_cases hx : x = c
    · subst hx; rw [cuts_same] at hp
      rcases List.mem_cons.1 hp with rfl | hp
      · simp
      · have := ih p hp; simp; omega
    · obtain ⟨h, t, e⟩ := cuts_ne c r
      rw [cuts_other r hx e] at hp
      rcases List.mem_cons.1 hp with rfl | hp
      · have := ih h (by rw [e]; simp); simp; omega
      · have := ih p (by rw [e]; simp [hp]); simp; omega
theorem cuts_miss (c : UInt8) : ∀ l : List UInt8, Lib.indexByte l c = -1 → cuts c l = [l]
  | [], _ => rfl
  | x :: r, h => by
    rw [Lib.indexByte] at h
    split at h
    · omega
    · rename_i hx
      have hx' : x ≠ c := by simpa using hx
      split at h
      · rename_i g
        rw [cuts_other r hx' (cuts_miss c r (by simpa using g))]
      · have := Lib.indexByte_ge r c; rename_i g; simp at g; omega
theorem cuts_hit (c : UInt8) : ∀ (l : List UInt8) (i : Nat), Lib.indexByte l c = i → cuts c l = l.take i :: cuts c (l.drop (i + 1))
  | [], i, h => by simp [Lib.indexByte] at h
  | x :: r, i, h => by
    rw [Lib.indexByte] at h
    split at h
    · rename_i hx
      have hx' : x = c := by simpa using hx
      subst hx'
      obtain rfl : i = 0 := by omega
      rw [cuts_same]; simp
    · rename_i hx
      have hx' : x ≠ c := by simpa using hx
      split at h
      · omega
      · obtain ⟨k, rfl⟩ : ∃ k, i = k + 1 := ⟨i - 1, by have := Lib.indexByte_ge r c; rename_i g; simp at g; omega⟩
        rw [cuts_other r hx' (cuts_hit c r k (by omega))]; simp
theorem splitK_cuts (c : UInt8) : ∀ (n : Nat) (l : List UInt8), l.length ≤ n → Lib.splitK [c] 0 (Lib.count l [c]) l = cuts c l
  | n, l, hn => by
    have hi := Lib.index_one l c
    by_cases h : Lib.indexByte l c = -1
    · rw [Lib.count_miss (by rw [hi]; exact h), cuts_miss c l h]; rfl
    · have hge := Lib.indexByte_ge l c
      obtain ⟨i, e⟩ : ∃ i : Nat, Lib.indexByte l c = i := ⟨(Lib.indexByte l c).toNat, by omega⟩
      rw [Lib.count_hit (by simp) (hi.trans e), Nat.add_comm, cuts_hit c l i e, Lib.splitK, if_neg (by rw [hi, e]; simp)]
      have e2 : (Lib.index l [c]).toNat = i := by rw [hi, e]; simp
      rw [e2]
      match n, l, hn with
      | 0, [], _ => simp [Lib.indexByte] at e
      | n + 1, l, hn =>
        have hlen : (l.drop (i + 1)).length ≤ n := by
          cases l with
          | nil => simp
          | cons x r => simp at hn ⊢; omega
        have ih := splitK_cuts c n (l.drop (i + 1)) hlen
        simp only [Nat.add_zero, List.length_singleton]
        rw [ih]

/-- The pieces, as the library cuts them. -/
def pieces (c : UInt8) (s : ByteArray) : List ByteArray := Lib.splitB ⟨#[c]⟩ 0 (Lib.countB s ⟨#[c]⟩) s
theorem pieces_data (c : UInt8) (s : ByteArray) : (pieces c s).map (·.data.toList) = cuts c s.data.toList := by
  unfold pieces
  rw [Lib.splitB_data]
  exact splitK_cuts c s.data.toList.length s.data.toList (Nat.le_refl _)
theorem pieces_length (c : UInt8) (s : ByteArray) : (pieces c s).length = Lib.countB s ⟨#[c]⟩ + 1 := Lib.splitB_all ⟨#[c]⟩ (Nat.le_refl 1) 0 _ s rfl
theorem pieces_count (c : UInt8) (s : ByteArray) : (pieces c s).length = s.data.toList.count c + 1 := by
  rw [← cuts_length, ← pieces_data]; simp
theorem pieces_size {c : UInt8} {s p : ByteArray} (h : p ∈ pieces c s) : p.size ≤ s.size := by
  have : p.data.toList ∈ cuts c s.data.toList := by rw [← pieces_data]; exact List.mem_map_of_mem h
  have := cuts_le c _ _ this
  simpa using this

/-- A road's line: two places, the first the lesser one, and a length. -/
def road (l : List UInt8) (n : Int) : Option (Int × Int × Int) := match cuts 32 l with
  | [a, b, c] => match within b 0 (n - 1) with
    | none => none
    | some v => match within a 0 (v - 1) with
      | none => none
      | some u => match within c 1 1000 with
        | none => none
        | some x => some (u, v, x)
  | _ => none
theorem road_ne {l : List UInt8} {n : Int} (h : (cuts 32 l).length ≠ 3) : road l n = none := by
  unfold road
  split
  · rename_i e; rw [e] at h; simp at h
  · rfl
theorem road_three {l : List UInt8} {n : Int} {a b c : List UInt8} (h : cuts 32 l = [a, b, c]) : road l n = match within b 0 (n - 1) with
    | none => none
    | some v => match within a 0 (v - 1) with
      | none => none
      | some u => match within c 1 1000 with
        | none => none
        | some x => some (u, v, x) := by unfold road; rw [h]
theorem road_some {l : List UInt8} {n u v x : Int} (h : road l n = some (u, v, x)) : 0 ≤ u ∧ u < v ∧ v < n ∧ 1 ≤ x ∧ x ≤ 1000 := by
  unfold road at h
  split at h
  · split at h
    · cases h
    · rename_i v' hv
      split at h
      · cases h
      · rename_i u' hu
        split at h
        · cases h
        · rename_i x' hx
          simp only [Option.some.injEq, Prod.mk.injEq] at h
          obtain ⟨rfl, rfl, rfl⟩ := h
          have h1 := within_some hv; have h2 := within_some hu; have h3 := within_some hx
          omega
  · cases h
end Pu
end Go.Proofs.YtdogncjcainhlaaDoor
/- Plain functions that scan as package ways does: no program in it. -/
namespace Go.Proofs.YtdogncjcainhlaaDoor
namespace Pu
open Mem

/-- The nearest place of the first k that is not done and can be reached; -1: none. -/
def near (far : Nat → Int) (done : Nat → Bool) : Nat → Int
  | 0 => -1
  | k + 1 => if done k = true ∨ far k = -1 then near far done k else if near far done k = -1 ∨ far k < far (near far done k).toNat then k else near far done k
theorem near_bd (far : Nat → Int) (done : Nat → Bool) : ∀ k, near far done k = -1 ∨ (0 ≤ near far done k ∧ near far done k < k)
  | 0 => Or.inl rfl
  | k + 1 => by
    have := near_bd far done k
    rw [near]
    split
    · omega
    · split
      · omega
      · omega
theorem near_skip {far : Nat → Int} {done : Nat → Bool} {k : Nat} (h : done k = true ∨ far k = -1) : near far done (k + 1) = near far done k := by rw [near, if_pos h]
theorem near_take {far : Nat → Int} {done : Nat → Bool} {k : Nat} (h : ¬ (done k = true ∨ far k = -1)) (g : near far done k = -1 ∨ far k < far (near far done k).toNat) : near far done (k + 1) = k := by rw [near, if_neg h, if_pos g]
theorem near_keep {far : Nat → Int} {done : Nat → Bool} {k : Nat} (h : ¬ (done k = true ∨ far k = -1)) (g : ¬ (near far done k = -1 ∨ far k < far (near far done k).toNat)) : near far done (k + 1) = near far done k := by rw [near, if_neg h, if_neg g]

/-- What becomes of place j's number when one goes on from a place that is a far. -/
def rel1 (len : Nat → Int) (a : Int) (far : Nat → Int) (j : Nat) : Int := if len j ≠ 0 ∧ (far j = -1 ∨ a + len j < far j) then a + len j else far j
/-- The same after k places. -/
def relK (len : Nat → Int) (a : Int) (far : Nat → Int) (k : Nat) (j : Nat) : Int := if j < k then rel1 len a far j else far j
theorem relK_zero (len : Nat → Int) (a : Int) (far : Nat → Int) : relK len a far 0 = far := by funext j; simp [relK]
theorem relK_keep {len : Nat → Int} {a : Int} {far : Nat → Int} {k : Nat} (h : ¬ (len k ≠ 0 ∧ (far k = -1 ∨ a + len k < far k))) : relK len a far (k + 1) = relK len a far k := by
  funext j; unfold relK
  by_cases e : j = k
  · subst e; rw [if_pos (by omega), if_neg (by omega), rel1, if_neg h]
  · by_cases g : j < k
    · rw [if_pos (by omega), if_pos g]
    · rw [if_neg (by omega), if_neg g]
theorem relK_take {len : Nat → Int} {a : Int} {far : Nat → Int} {k : Nat} (h : len k ≠ 0 ∧ (far k = -1 ∨ a + len k < far k)) : relK len a far (k + 1) = upd (relK len a far k) k (a + len k) := by
  funext j; unfold relK upd
  by_cases e : j = k
  · subst e; rw [if_pos (by omega), if_pos rfl, rel1, if_pos h]
  · rw [if_neg e]
    show _ = if j < k then rel1 len a far j else far j
    by_cases g : j < k
    · rw [if_pos (by omega), if_pos g]
    · rw [if_neg (by omega), if_neg g]
theorem relK_self (len : Nat → Int) (a : Int) (far : Nat → Int) (k : Nat) : relK len a far k k = far k := by simp [relK]
theorem relK_at {len : Nat → Int} {a : Int} {far : Nat → Int} {k j : Nat} (h : len j = 0) : relK len a far k j = far j := by simp [relK, rel1, h]

end Pu
end Go.Proofs.YtdogncjcainhlaaDoor
/- How far it is from one place: what going on from the nearest place keeps, and what is told in the end. Plain: no program in it. -/
namespace Go.Proofs.YtdogncjcainhlaaDoor
namespace Pu
open Mem

/-- Lengths of roads: 0 where there is none; none from a place to itself. -/
structure Lens (len : Nat → Nat → Int) : Prop where
  rng : ∀ i j, 0 ≤ len i j ∧ len i j ≤ 1000
  self : ∀ i, len i i = 0

/-- far tells how far each of n places is from s. -/
structure Dist (n : Nat) (len : Nat → Nat → Int) (s : Nat) (far : Nat → Int) : Prop where
  f0 : far s = 0
  rng : ∀ j, j < n → far j = -1 ∨ (0 ≤ far j ∧ far j ≤ 40000)
  ed : ∀ i j, i < n → j < n → 0 ≤ far i → len i j ≠ 0 → 0 ≤ far j ∧ far j ≤ far i + len i j
  pre : ∀ j, j < n → j ≠ s → 0 ≤ far j → ∃ i, i < n ∧ 0 ≤ far i ∧ len i j ≠ 0 ∧ far j = far i + len i j

structure Dij (n : Nat) (len : Nat → Nat → Int) (s : Nat) (far : Nat → Int) (done : Nat → Bool) (D : Nat) : Prop where
  f0 : far s = 0
  rng : ∀ j, j < n → far j = -1 ∨ (0 ≤ far j ∧ far j ≤ 1000 * D)
  dn : ∀ i, i < n → done i = true → 0 ≤ far i
  ed : ∀ i j, i < n → j < n → done i = true → len i j ≠ 0 → 0 ≤ far j ∧ far j ≤ far i + len i j
  ord : ∀ i j, i < n → j < n → done i = true → done j = false → 0 ≤ far j → far i ≤ far j
  pre : ∀ j, j < n → j ≠ s → 0 ≤ far j → ∃ i, i < n ∧ done i = true ∧ len i j ≠ 0 ∧ far j = far i + len i j

/-- The place to go on from. -/
structure Next (n : Nat) (far : Nat → Int) (done : Nat → Bool) (a : Nat) : Prop where
  lt : a < n
  open' : done a = false
  far0 : 0 ≤ far a
  least : ∀ j, j < n → done j = false → 0 ≤ far j → far a ≤ far j

def cnt (g : Nat → Bool) : Nat → Nat
  | 0 => 0
  | k + 1 => cnt g k + if g k = true then 1 else 0
theorem cnt_le (g : Nat → Bool) : ∀ k, cnt g k ≤ k
  | 0 => Nat.le_refl _
  | k + 1 => by have := cnt_le g k; rw [cnt]; split <;> omega
theorem cnt_lt {g : Nat → Bool} {i : Nat} (h : g i = false) : ∀ k, i < k → cnt g k < k
  | 0, h' => by omega
  | k + 1, h' => by
    rw [cnt]
    by_cases e : i = k
    · subst e; have := cnt_le g i; rw [if_neg (by rw [h]; simp)]; omega
    · have := cnt_lt h k (by omega); split <;> omega
theorem cnt_same {g g' : Nat → Bool} : ∀ k, (∀ j, j < k → g j = g' j) → cnt g k = cnt g' k
  | 0, _ => rfl
  | k + 1, h => by rw [cnt, cnt, cnt_same k (fun j hj => h j (by omega)), h k (by omega)]
theorem cnt_upd {g : Nat → Bool} {i : Nat} (h : g i = false) : ∀ k, i < k → cnt (upd g i true) k = cnt g k + 1
  | 0, h' => by omega
  | k + 1, h' => by
    rw [cnt, cnt]
    by_cases e : i = k
    · subst e
      rw [cnt_same (g := upd g i true) (g' := g) i (fun j hj => upd_other _ _ _ _ (by omega)), upd_same, h]; simp
    · rw [cnt_upd h k (by omega), upd_other _ _ _ _ (fun c => e c.symm)]; omega
theorem cnt_none : ∀ k, cnt (fun _ => false) k = 0
  | 0 => rfl
  | k + 1 => by rw [cnt, cnt_none k]; rfl

theorem near_none {far : Nat → Int} {done : Nat → Bool} : ∀ n, near far done n = -1 → ∀ j, j < n → done j = true ∨ far j = -1
  | 0, _, j, hj => by omega
  | k + 1, h, j, hj => by
    rw [near] at h
    by_cases c : done k = true ∨ far k = -1
    · rw [if_pos c] at h
      by_cases e : j = k
      · subst e; exact c
      · exact near_none k h j (by omega)
    · rw [if_neg c] at h
      split at h
      · omega
      · rename_i g; exact absurd (Or.inl h) g
theorem near_some {far : Nat → Int} {done : Nat → Bool} : ∀ n, near far done n ≠ -1 → ∃ a : Nat, near far done n = a ∧ a < n ∧ done a = false ∧ far a ≠ -1 ∧ ∀ j, j < n → done j = false → far j ≠ -1 → far a ≤ far j
  | 0, h => absurd rfl h
  | k + 1, h => by
    by_cases c : done k = true ∨ far k = -1
    · rw [near_skip c] at h ⊢
      obtain ⟨a, e, h1, h2, h3, h4⟩ := near_some k h
      refine ⟨a, e, by omega, h2, h3, fun j hj hd hf => ?_⟩
      by_cases ej : j = k
      · subst ej
        rcases c with c | c
        · rw [c] at hd; cases hd
        · exact absurd c hf
      · exact h4 j (by omega) hd hf
    · have hk1 : done k = false := by
        cases e : done k with
        | false => rfl
        | true => exact absurd (Or.inl e) c
      have hk2 : far k ≠ -1 := fun e => c (Or.inr e)
      by_cases g : near far done k = -1 ∨ far k < far (near far done k).toNat
      · rw [near_take c g]
        refine ⟨k, rfl, by omega, hk1, hk2, fun j hj hd hf => ?_⟩
        by_cases ej : j = k
        · subst ej; exact Int.le_refl _
        · rcases g with g | g
          · rcases near_none k g j (by omega) with h' | h'
            · rw [h'] at hd; cases hd
            · exact absurd h' hf
          · have hne : near far done k ≠ -1 := by
              intro e
              rcases near_none k e j (by omega) with h' | h'
              · rw [h'] at hd; cases hd
              · exact absurd h' hf
            obtain ⟨a, e, h1, h2, h3, h4⟩ := near_some k hne
            rw [e] at g
            have := h4 j (by omega) hd hf
            simp at g; omega
      · rw [near_keep c g] at h ⊢
        obtain ⟨a, e, h1, h2, h3, h4⟩ := near_some k h
        refine ⟨a, e, by omega, h2, h3, fun j hj hd hf => ?_⟩
        by_cases ej : j = k
        · subst ej
          have : ¬ far j < far a := fun c => g (Or.inr (by rw [e]; simpa using c))
          omega
        · exact h4 j (by omega) hd hf

theorem Dij.start (n : Nat) (len : Nat → Nat → Int) (s : Nat) : Dij n len s (upd (fun _ => -1) s 0) (fun _ => false) 0 := by
  refine ⟨upd_same _ _ _, fun j _ => ?_, (fun i _ h => by cases h), (fun i j _ _ h => by cases h), (fun i j _ _ h => by cases h), fun j _ hj h => ?_⟩
  · by_cases e : j = s
    · subst e; right; rw [upd_same]; omega
    · left; exact upd_other _ _ _ _ e
  · rw [upd_other _ _ _ _ hj] at h; omega
theorem Next.start {n s : Nat} (h : s < n) : Next n (upd (fun _ => -1) s 0) (fun _ => false) s := by
  refine ⟨h, rfl, by rw [upd_same]; omega, fun j _ _ h0 => by rw [upd_same]; exact h0⟩

theorem rel1_le {len : Nat → Int} {a : Int} {far : Nat → Int} {j : Nat} (h : 0 ≤ far j) : rel1 len a far j ≤ far j := by
  unfold rel1; split <;> omega

theorem Dij.step {n : Nat} {len : Nat → Nat → Int} {s : Nat} {far : Nat → Int} {done : Nat → Bool} {D : Nat} {a : Nat} (L : Lens len) (I : Dij n len s far done D) (A : Next n far done a) :
    Dij n len s (rel1 (len a) (far a) far) (upd done a true) (D + 1) := by
  have ha := I.rng a A.lt
  have hA0 := A.far0
  -- a done place keeps its number
  have keep : ∀ i, i < n → upd done a true i = true → rel1 (len a) (far a) far i = far i ∧ 0 ≤ far i ∧ far i ≤ far a := by
    intro i hi hd
    by_cases e : i = a
    · subst e; refine ⟨?_, A.far0, Int.le_refl _⟩
      unfold rel1; rw [if_neg (fun c => c.1 (L.self i))]
    · rw [upd_other _ _ _ _ e] at hd
      have h1 := I.dn i hi hd
      have h2 := I.ord i a hi A.lt hd A.open' A.far0
      refine ⟨?_, h1, h2⟩
      unfold rel1; rw [if_neg]
      rintro ⟨_, c⟩
      have := (L.rng a i).1
      omega
  have low : ∀ j, j < n → far j = -1 ∨ 0 ≤ far j := fun j hj => by rcases I.rng j hj with h | h <;> omega
  -- what a number becomes
  have cases' : ∀ j, j < n → rel1 (len a) (far a) far j = far j ∨ (len a j ≠ 0 ∧ rel1 (len a) (far a) far j = far a + len a j ∧ (far j = -1 ∨ far a + len a j < far j)) := by
    intro j _
    unfold rel1
    split
    · rename_i h; exact Or.inr ⟨h.1, rfl, h.2⟩
    · exact Or.inl rfl
  have hlr : ∀ j, 0 ≤ len a j ∧ len a j ≤ 1000 := L.rng a
  refine ⟨?_, ?_, ?_, ?_, ?_, ?_⟩
  · unfold rel1; rw [if_neg]; · exact I.f0
    rintro ⟨_, c⟩
    have := (hlr s).1; have := I.f0; omega
  · intro j hj
    have := hlr j
    rcases cases' j hj with h | ⟨_, h, _⟩
    · rw [h]; rcases I.rng j hj with h' | h'
      · exact Or.inl h'
      · right; omega
    · rw [h]; right; omega
  · intro i hi hd; rw [(keep i hi hd).1]; exact (keep i hi hd).2.1
  · intro i j hi hj hd hl
    rw [(keep i hi hd).1]
    by_cases e : i = a
    · subst e
      have := hlr j
      rcases cases' j hj with h | ⟨_, h, _⟩
      · rw [h]
        unfold rel1 at h
        split at h
        · omega
        · rename_i c
          have c' : ¬ (far j = -1 ∨ far i + len i j < far j) := fun x => c ⟨hl, x⟩
          rcases low j hj with h' | h' <;> omega
      · rw [h]; omega
    · rw [upd_other _ _ _ _ e] at hd
      have h1 := I.ed i j hi hj hd hl
      have h2 := rel1_le (len := len a) (a := far a) h1.1
      have := hlr j
      rcases cases' j hj with h | ⟨_, h, _⟩
      · rw [h]; exact h1
      · rw [h] at h2 ⊢; omega
  · intro i j hi hj hd hdj h0
    rw [(keep i hi hd).1]
    have k2 := (keep i hi hd).2.2
    have hja : j ≠ a := fun e => by subst e; rw [upd_same] at hdj; cases hdj
    rw [upd_other _ _ _ _ hja] at hdj
    have := hlr j
    rcases cases' j hj with h | ⟨_, h, _⟩
    · rw [h] at h0 ⊢; have := A.least j hj hdj h0; omega
    · rw [h]; omega
  · intro j hj hjs h0
    rcases cases' j hj with h | ⟨hl, h, _⟩
    · rw [h] at h0 ⊢
      obtain ⟨i, hi, hd, hl, e⟩ := I.pre j hj hjs h0
      have hd' : upd done a true i = true := by
        by_cases e : i = a
        · subst e; exact upd_same _ _ _
        · rw [upd_other _ _ _ _ e]; exact hd
      exact ⟨i, hi, hd', hl, by rw [(keep i hi hd').1]; exact e⟩
    · exact ⟨a, A.lt, upd_same _ _ _, hl, by rw [h, (keep a A.lt (upd_same _ _ _)).1]⟩

theorem Dij.stop {n : Nat} {len : Nat → Nat → Int} {s : Nat} {far : Nat → Int} {done : Nat → Bool} {D : Nat} (I : Dij n len s far done D) (hD : D ≤ 40) (h : near far done n = -1) : Dist n len s far := by
  have hd : ∀ i, i < n → 0 ≤ far i → done i = true := fun i hi h0 => by
    rcases near_none n h i hi with h' | h'
    · exact h'
    · omega
  refine ⟨I.f0, fun j hj => ?_, fun i j hi hj h0 hl => I.ed i j hi hj (hd i hi h0) hl, fun j hj hjs h0 => ?_⟩
  · rcases I.rng j hj with h | h <;> omega
  · obtain ⟨i, hi, hdi, hl, e⟩ := I.pre j hj hjs h0
    exact ⟨i, hi, I.dn i hi hdi, hl, e⟩
theorem Dij.next {n : Nat} {len : Nat → Nat → Int} {s : Nat} {far : Nat → Int} {done : Nat → Bool} {D : Nat} (I : Dij n len s far done D) (h : near far done n ≠ -1) : ∃ a : Nat, near far done n = a ∧ Next n far done a := by
  obtain ⟨a, e, h1, h2, h3, h4⟩ := near_some n h
  refine ⟨a, e, h1, h2, ?_, fun j hj hd h0 => h4 j hj hd (by omega)⟩
  rcases I.rng a h1 with h | h <;> omega
end Pu
end Go.Proofs.YtdogncjcainhlaaDoor
/- Roads laid one behind the other. Plain: no program in it. -/
namespace Go.Proofs.YtdogncjcainhlaaDoor
namespace Pu
open Mem

abbrev Rd := Nat × Nat × Int
/-- A road more. -/
def layLen (len : Nat → Nat → Int) (u v : Nat) (x : Int) : Nat → Nat → Int := fun i j => if (i = u ∧ j = v) ∨ (i = v ∧ j = u) then x else len i j
/-- All roads laid, or the number of the first that is there already. -/
def lay (len : Nat → Nat → Int) : List Rd → Nat → Nat ⊕ (Nat → Nat → Int)
  | [], _ => .inr len
  | (u, v, x) :: rs, i => if len u v ≠ 0 then .inl i else lay (layLen len u v x) rs (i + 1)
theorem lay_twice {len : Nat → Nat → Int} {u v : Nat} {x : Int} {rs : List Rd} {i : Nat} (h : len u v ≠ 0) : lay len ((u, v, x) :: rs) i = .inl i := by rw [lay, if_pos h]
theorem lay_go {len : Nat → Nat → Int} {u v : Nat} {x : Int} {rs : List Rd} {i : Nat} (h : len u v = 0) : lay len ((u, v, x) :: rs) i = lay (layLen len u v x) rs (i + 1) := by rw [lay, if_neg (by simpa using h)]
/-- A road that may be. -/
def RdOk (n : Nat) (r : Rd) : Prop := r.1 < r.2.1 ∧ r.2.1 < n ∧ 1 ≤ r.2.2 ∧ r.2.2 ≤ 1000

/-- Lengths of roads, both ways, between n places. -/
structure Net (n : Nat) (len : Nat → Nat → Int) : Prop where
  lens : Lens len
  sym : ∀ i j, len i j = len j i
  out : ∀ i j, len i j ≠ 0 → i < n ∧ j < n
theorem Net.zero (n : Nat) : Net n (fun _ _ => 0) := ⟨⟨fun _ _ => by omega, fun _ => rfl⟩, fun _ _ => rfl, fun _ _ h => absurd rfl h⟩
theorem Net.lay {n : Nat} {len : Nat → Nat → Int} {u v : Nat} {x : Int} (h : Net n len) (hr : RdOk n (u, v, x)) : Net n (layLen len u v x) := by
  obtain ⟨h1, h2, h3, h4⟩ := hr
  simp only at h1 h2 h3 h4
  refine ⟨⟨fun i j => ?_, fun i => ?_⟩, fun i j => ?_, fun i j hl => ?_⟩
  · unfold layLen; split
    · omega
    · exact h.lens.rng i j
  · unfold layLen; rw [if_neg (by omega)]; exact h.lens.self i
  · unfold layLen
    by_cases c : (i = u ∧ j = v) ∨ (i = v ∧ j = u)
    · rw [if_pos c, if_pos (by omega)]
    · rw [if_neg c, if_neg (by omega)]; exact h.sym i j
  · unfold layLen at hl
    by_cases c : (i = u ∧ j = v) ∨ (i = v ∧ j = u)
    · omega
    · rw [if_neg c] at hl; exact h.out i j hl
theorem Net.lay_all {n : Nat} : ∀ (rs : List Rd) (len len' : Nat → Nat → Int) (i : Nat), Net n len → (∀ r ∈ rs, RdOk n r) → Pu.lay len rs i = .inr len' → Net n len'
  | [], len, len', i, h, _, e => by
    rw [Pu.lay] at e; cases e; exact h
  | (u, v, x) :: rs, len, len', i, h, hr, e => by
    by_cases c : len u v = 0
    · rw [lay_go c] at e
      exact Net.lay_all rs _ len' (i + 1) (h.lay (hr _ (by simp))) (fun r hm => hr r (by simp [hm])) e
    · rw [lay_twice c] at e; cases e
end Pu
end Go.Proofs.YtdogncjcainhlaaDoor
/- A map's text read. Plain: no program in it. -/
namespace Go.Proofs.YtdogncjcainhlaaDoor
namespace Pu
open Mem

/-- All lines but the first: roads, or the number of the first that is none. -/
def roads (n : Int) : List (List UInt8) → Nat → Nat ⊕ List Rd
  | [], _ => .inr []
  | l :: t, i => match road l n with
    | none => .inl i
    | some (u, v, x) => match roads n t (i + 1) with
      | .inl j => .inl j
      | .inr rs => .inr ((u.toNat, v.toNat, x) :: rs)
/-- What reading gives: an error and the place of it, or a map. -/
inductive Res
  | err (e at' : Int)
  | ok (n k : Nat) (len : Nat → Nat → Int)
def parseRows (h : List UInt8) (t : List (List UInt8)) : Res := match within h 1 40 with
  | none => .err 2 0
  | some n => match roads n t 0 with
    | .inl i => .err 2 ((i : Int) + 1)
    | .inr rs => match lay (fun _ _ => 0) rs 0 with
      | .inl i => .err 3 ((i : Int) + 1)
      | .inr len => .ok n.toNat rs.length len
def parse (l : List UInt8) : Res := if 4000 < l.length ∨ 200 < l.count 10 then .err 1 0 else match cuts 10 l with
  | [] => .err 2 0
  | h :: t => parseRows h t
/-- What is left of the roads joined to those that were read. -/
def join (acc : List Rd) : Nat ⊕ List Rd → Nat ⊕ List Rd
  | .inl i => .inl i
  | .inr rs => .inr (acc ++ rs)
theorem roads_bad {n : Int} {l : List UInt8} {t : List (List UInt8)} {i : Nat} (acc : List Rd) (h : road l n = none) : join acc (roads n (l :: t) i) = .inl i := by rw [roads, h]; rfl
theorem roads_good {n u v x : Int} {l : List UInt8} {t : List (List UInt8)} {i : Nat} (acc : List Rd) (h : road l n = some (u, v, x)) : join acc (roads n (l :: t) i) = join (acc ++ [(u.toNat, v.toNat, x)]) (roads n t (i + 1)) := by
  rw [roads, h]
  cases roads n t (i + 1) with
  | inl j => rfl
  | inr rs => simp [join]
theorem join_nil (r : Nat ⊕ List Rd) : join [] r = r := by cases r <;> rfl

/-- The cells of roads. -/
def rdVals : List Rd → List Value
  | [] => []
  | (u, v, x) :: r => .int .i64 (u : Int) :: .int .i64 (v : Int) :: .int .i64 x :: rdVals r
theorem rdVals_length : ∀ l : List Rd, (rdVals l).length = l.length * 3
  | [] => rfl
  | (u, v, x) :: r => by simp [rdVals, rdVals_length r]; omega
theorem rdVals_append : ∀ (a b : List Rd), rdVals (a ++ b) = rdVals a ++ rdVals b
  | [], b => rfl
  | (u, v, x) :: r, b => by simp [rdVals, rdVals_append r b]
theorem rdVals_get : ∀ (l : List Rd) (k u v : Nat) (x : Int), l[k]? = some (u, v, x) → (rdVals l)[k * 3]? = some (.int .i64 (u : Int)) ∧ (rdVals l)[k * 3 + 1]? = some (.int .i64 (v : Int)) ∧ (rdVals l)[k * 3 + 2]? = some (.int .i64 x)
  | [], k, u, v, x, h => by simp at h
  | (a, b, c) :: r, 0, u, v, x, h => by
    simp at h
    obtain ⟨rfl, rfl, rfl⟩ := h
    simp [rdVals]
  | (a, b, c) :: r, k + 1, u, v, x, h => by
    have := rdVals_get r k u v x (by simpa using h)
    rw [show (k + 1) * 3 = k * 3 + 1 + 1 + 1 by omega, rdVals]
    simpa using this
theorem parse_err {l : List UInt8} {c p : Int} (h : parse l = .err c p) : c = 1 ∨ c = 2 ∨ c = 3 := by
  have rows : ∀ (a : List UInt8) (t : List (List UInt8)), parseRows a t = .err c p → c = 2 ∨ c = 3 := by
    intro a t h
    unfold parseRows at h
    split at h
    · cases h; omega
    · split at h
      · cases h; omega
      · split at h
        · cases h; omega
        · cases h
  unfold parse at h
  split at h
  · cases h; omega
  · split at h
    · cases h; omega
    · have := rows _ _ h; omega
theorem roads_ok {n : Int} : ∀ (t : List (List UInt8)) (i : Nat) (rs : List Rd), roads n t i = .inr rs → ∀ r ∈ rs, RdOk n.toNat r
  | [], i, rs, h, r, hr => by rw [roads] at h; cases h; cases hr
  | l :: t, i, rs, h, r, hr => by
    rw [roads] at h
    split at h
    · cases h
    · rename_i u v x e
      split at h
      · cases h
      · rename_i rs' e'
        cases h
        rcases List.mem_cons.1 hr with rfl | hr
        · have := road_some e
          exact ⟨by simp only; omega, by simp only; omega, by simp only; omega, by simp only; omega⟩
        · exact roads_ok t (i + 1) rs' e' r hr
theorem roads_le {n : Int} : ∀ (t : List (List UInt8)) (i : Nat) (rs : List Rd), roads n t i = .inr rs → rs.length = t.length
  | [], i, rs, h => by rw [roads] at h; cases h; rfl
  | l :: t, i, rs, h => by
    rw [roads] at h
    split at h
    · cases h
    · split at h
      · cases h
      · rename_i rs' e'
        cases h
        simp [roads_le t (i + 1) rs' e']
/-- What is known of a map that was read. -/
theorem parse_ok {l : List UInt8} {n k : Nat} {len : Nat → Nat → Int} (h : parse l = .ok n k len) : 1 ≤ n ∧ n ≤ 40 ∧ k ≤ 200 ∧ Net n len := by
  unfold parse at h
  split at h
  · cases h
  · rename_i hno
    split at h
    · cases h
    · rename_i a t hc
      unfold parseRows at h
      split at h
      · cases h
      · rename_i m hm
        have hb := within_some hm
        split at h
        · cases h
        · rename_i rs hrs
          split at h
          · cases h
          · rename_i len' hl
            cases h
            have h1 := cuts_length 10 l
            rw [hc] at h1
            have h2 := roads_le _ _ _ hrs
            simp at h1
            refine ⟨by omega, by omega, by omega, Net.lay_all rs _ _ 0 (Net.zero _) (roads_ok _ _ _ hrs) hl⟩
end Pu
end Go.Proofs.YtdogncjcainhlaaDoor
/- A town's text and the roads that were taken. Plain: no program in it. -/
namespace Go.Proofs.YtdogncjcainhlaaDoor
namespace Pu
open Mem

/-- A road's line. -/
def roadLine (r : Rd) : List UInt8 := dec r.1 ++ 32 :: (dec r.2.1 ++ 32 :: dec r.2.2.toNat)
/-- The text of n places and some roads. -/
def townText (n : Nat) : List Rd → List UInt8
  | [] => dec n
  | acc => dec n ++ acc.flatMap fun r => 10 :: roadLine r
theorem townText_eq (n : Nat) (acc : List Rd) : townText n acc = dec n ++ acc.flatMap fun r => 10 :: roadLine r := by
  cases acc with
  | nil => simp [townText]
  | cons r l => rfl
theorem townText_push (n : Nat) (acc : List Rd) (r : Rd) : townText n (acc ++ [r]) = townText n acc ++ 10 :: roadLine r := by
  rw [townText_eq, townText_eq]; simp
theorem roadLine_le {n : Nat} {r : Rd} (hn : n ≤ 14) (h : RdOk n r) : (roadLine r).length ≤ 14 := by
  obtain ⟨h1, h2, h3, h4⟩ := h
  have a := dec_len4 (n := r.1) (by omega)
  have b := dec_len4 (n := r.2.1) (by omega)
  have c := dec_len4 (n := r.2.2.toNat) (by omega)
  unfold roadLine; simp; omega
theorem townText_le {n : Nat} (hn : n ≤ 14) : ∀ (acc : List Rd), (∀ r ∈ acc, RdOk n r) → (townText n acc).length ≤ 4 + 15 * acc.length := by
  intro acc h
  rw [townText_eq]
  have a := dec_len4 (n := n) (by omega)
  have b : ∀ (l : List Rd), (∀ r ∈ l, RdOk n r) → (l.flatMap fun r => 10 :: roadLine r).length ≤ 15 * l.length := by
    intro l hl
    induction l with
    | nil => simp
    | cons r l ih =>
      have h1 := roadLine_le hn (hl r (by simp))
      have h2 := ih (fun r' hr => hl r' (by simp [hr]))
      rw [List.flatMap_cons, List.length_append, List.length_cons, List.length_cons]; omega
  have := b acc h
  rw [List.length_append]; omega
theorem lay_push {len len' : Nat → Nat → Int} {u v : Nat} {x : Int} : ∀ (acc : List Rd) (i : Nat), lay len acc i = .inr len' → len' u v = 0 → lay len (acc ++ [(u, v, x)]) i = .inr (layLen len' u v x)
  | [], i, h, h0 => by
    rw [lay] at h; cases h
    show lay len [(u, v, x)] i = _
    rw [lay_go h0]; rfl
  | (a, b, c) :: acc, i, h, h0 => by
    by_cases e : len a b = 0
    · rw [lay_go e] at h
      show lay len ((a, b, c) :: (acc ++ [(u, v, x)])) i = _
      rw [lay_go e]
      exact lay_push acc (i + 1) h h0
    · rw [lay_twice e] at h; cases h
end Pu
end Go.Proofs.YtdogncjcainhlaaDoor
/- A town's text, read, is the town. Plain: no program in it. -/
namespace Go.Proofs.YtdogncjcainhlaaDoor
namespace Pu
open Mem

theorem dig_toNat {m : Nat} (h : m < 10) : (48 + m).toUInt8.toNat = 48 + m := by simp; omega
/-- All signs of a number's text are digits. -/
theorem dec_digits (n : Nat) : ∀ c ∈ dec n, 48 ≤ c.toNat ∧ c.toNat ≤ 57 := by
  induction n using Nat.strongRecOn with
  | ind n ih =>
    by_cases h : n < 10
    · rw [dec_low h]; intro c hc; rw [List.mem_singleton] at hc; subst hc; rw [dig_toNat h]; omega
    · rw [dec_high h]; intro c hc
      rcases List.mem_append.1 hc with hc | hc
      · exact ih (n / 10) (by omega) c hc
      · rw [List.mem_singleton] at hc; subst hc; rw [dig_toNat (by omega)]; omega
theorem dec_ne (n : Nat) : dec n ≠ [] := by
  by_cases h : n < 10
  · rw [dec_low h]; simp
  · rw [dec_high h]; simp
/-- A number that is not 0 begins with another sign than 0. -/
theorem dec_head (n : Nat) (h0 : 0 < n) : (dec n).head? ≠ some 48 := by
  induction n using Nat.strongRecOn with
  | ind n ih =>
    by_cases h : n < 10
    · rw [dec_low h]
      simp only [List.head?_cons, ne_eq, Option.some.injEq]
      intro c
      have := congrArg UInt8.toNat c
      rw [dig_toNat h] at this
      have e : (48 : UInt8).toNat = 48 := rfl
      omega
    · rw [dec_high h]
      have := ih (n / 10) (by omega) (by omega)
      cases e : dec (n / 10) with
      | nil => exact absurd e (dec_ne _)
      | cons a l => rw [e] at this; simpa using this
theorem digs_append : ∀ (l : List UInt8) (n m : Int) (r : List UInt8), digs n l = some m → digs n (l ++ r) = digs m r
  | [], n, m, r, h => by simp [digs] at h; subst h; rfl
  | c :: l, n, m, r, h => by
    rw [digs] at h
    show digs n (c :: (l ++ r)) = _
    rw [digs]
    split at h
    · cases h
    · rename_i h1
      split at h
      · cases h
      · rename_i h2
        rw [if_neg h1, if_neg h2]; exact digs_append l _ m r h
theorem digs_dec (n : Nat) (hn : n < 100000) : digs 0 (dec n) = some (n : Int) := by
  induction n using Nat.strongRecOn with
  | ind n ih =>
    by_cases h : n < 10
    · rw [dec_low h, digs_cons _ _ _ (by rw [dig_toNat h]; omega) (by rw [dig_toNat h]; omega) (by rw [dig_toNat h]; omega), dig_toNat h, digs]
      congr 1; omega
    · rw [dec_high h, digs_append _ _ _ _ (ih (n / 10) (by omega) (by omega))]
      have hd := dig_toNat (m := n % 10) (by omega)
      rw [digs_cons _ _ _ (by rw [hd]; omega) (by rw [hd]; omega) (by rw [hd]; omega), hd, digs]
      congr 1; omega
theorem num_dec (n : Nat) (hn : n < 100000) : num (dec n) = some (n : Int) := by
  unfold num
  rw [if_neg, digs_dec n hn]
  rintro (h | ⟨h, h'⟩)
  · exact dec_ne n h
  · by_cases h0 : n = 0
    · subst h0; rw [dec_low (by omega)] at h'; simp at h'
    · exact dec_head n (by omega) h
theorem within_dec {n : Nat} {lo hi : Int} (hn : n < 100000) (h1 : lo ≤ n) (h2 : n ≤ hi) : within (dec n) lo hi = some (n : Int) := by
  unfold within; rw [num_dec n hn]; simp only; rw [if_neg (by omega)]

/-- A text without c is one piece. -/
theorem cuts_free {c : UInt8} : ∀ l : List UInt8, (∀ x ∈ l, x ≠ c) → cuts c l = [l]
  | [], _ => rfl
  | x :: l, h => by rw [cuts_other l (h x (by simp)) (cuts_free l (fun y hy => h y (by simp [hy])))]
theorem cuts_step {c : UInt8} : ∀ (l r : List UInt8), (∀ x ∈ l, x ≠ c) → cuts c (l ++ c :: r) = l :: cuts c r
  | [], r, _ => cuts_same c r
  | x :: l, r, h => by
    show cuts c (x :: (l ++ c :: r)) = _
    rw [cuts_other _ (h x (by simp)) (cuts_step l r (fun y hy => h y (by simp [hy])))]
theorem dec_no {n : Nat} {c : UInt8} (hc : c.toNat < 48) : ∀ x ∈ dec n, x ≠ c := by
  intro x hx e; subst e; have := dec_digits n x hx; omega
theorem cuts_road (r : Rd) : cuts 32 (roadLine r) = [dec r.1, dec r.2.1, dec r.2.2.toNat] := by
  unfold roadLine
  rw [cuts_step _ _ (dec_no (by decide)), cuts_step _ _ (dec_no (by decide)), cuts_free _ (dec_no (by decide))]
theorem road_back {n : Nat} {r : Rd} (hn : n ≤ 14) (h : RdOk n r) : road (roadLine r) (n : Int) = some ((r.1 : Int), (r.2.1 : Int), r.2.2) := by
  obtain ⟨h1, h2, h3, h4⟩ := h
  rw [road_three (cuts_road r), within_dec (n := r.2.1) (by omega) (by omega) (by omega)]
  simp only
  rw [within_dec (n := r.1) (by omega) (by omega) (by omega)]
  simp only
  rw [within_dec (n := r.2.2.toNat) (by omega) (by omega) (by omega)]
  simp only [Option.some.injEq, Prod.mk.injEq, true_and]
  omega
theorem roadLine_no {r : Rd} : ∀ x ∈ roadLine r, x ≠ 10 := by
  intro x hx
  unfold roadLine at hx
  have no : ∀ n, ∀ y ∈ dec n, y ≠ 10 := fun n => dec_no (by decide)
  rcases List.mem_append.1 hx with h | h
  · exact no _ _ h
  · rcases List.mem_cons.1 h with h | h
    · subst h; decide
    · rcases List.mem_append.1 h with h | h
      · exact no _ _ h
      · rcases List.mem_cons.1 h with h | h
        · subst h; decide
        · exact no _ _ h
theorem cuts_lines : ∀ (acc : List Rd) (l : List UInt8), (∀ x ∈ l, x ≠ 10) → cuts 10 (l ++ acc.flatMap fun r => 10 :: roadLine r) = l :: acc.map roadLine
  | [], l, h => by simp; exact cuts_free l h
  | r :: acc, l, h => by
    rw [List.flatMap_cons, List.cons_append, cuts_step l _ h, cuts_lines acc (roadLine r) roadLine_no]; rfl
theorem roads_back {n : Nat} (hn : n ≤ 14) : ∀ (acc : List Rd) (i : Nat), (∀ r ∈ acc, RdOk n r) → roads (n : Int) (acc.map roadLine) i = .inr acc
  | [], i, _ => rfl
  | r :: acc, i, h => by
    have hr := h r (by simp)
    rw [List.map_cons, roads, road_back hn hr, roads_back hn acc (i + 1) (fun r' h' => h r' (by simp [h']))]
    simp
theorem count_lines (n : Nat) (acc : List Rd) : (townText n acc).count 10 = acc.length := by
  have h := cuts_length 10 (townText n acc)
  rw [townText_eq, cuts_lines acc (dec n) (dec_no (by decide))] at h
  rw [townText_eq]; simp only [List.length_cons, List.length_map] at h; omega
/-- What is read of a town's text is the town. -/
theorem parse_back {n : Nat} {acc : List Rd} {len : Nat → Nat → Int} (h1 : 1 ≤ n) (hn : n ≤ 14) (hok : ∀ r ∈ acc, RdOk n r) (hac : acc.length ≤ 60) (hl : lay (fun _ _ => 0) acc 0 = .inr len) : parse (townText n acc) = .ok n acc.length len := by
  unfold parse
  have hlen := townText_le hn acc hok
  rw [if_neg (by rw [count_lines]; omega)]
  have hc : cuts 10 (townText n acc) = dec n :: acc.map roadLine := by rw [townText_eq]; exact cuts_lines acc (dec n) (dec_no (by decide))
  rw [hc]
  show parseRows (dec n) (acc.map roadLine) = _
  unfold parseRows
  rw [within_dec (n := n) (by omega) (by omega) (by omega)]
  simp only
  rw [roads_back hn acc 0 hok]
  simp only
  rw [hl]
  simp
/-- How far it is is told by one answer alone. -/
theorem Dist.unique {n : Nat} {len : Nat → Nat → Int} {s : Nat} {f g : Nat → Int} (L : Lens len) (hf : Dist n len s f) (hg : Dist n len s g) : ∀ j, j < n → f j = g j := by
  have le : ∀ {f g : Nat → Int}, Dist n len s f → Dist n len s g → ∀ (k : Nat) (j : Nat), j < n → 0 ≤ f j → f j ≤ k → 0 ≤ g j ∧ g j ≤ f j := by
    intro f g hf hg k
    induction k with
    | zero =>
      intro j hj h0 hk
      by_cases e : j = s
      · subst e; have := hg.f0; have := hf.f0; omega
      · obtain ⟨i, hi, h1, h2, h3⟩ := hf.pre j hj e h0
        have := L.rng i j; omega
    | succ k ih =>
      intro j hj h0 hk
      by_cases e : j = s
      · subst e; have := hg.f0; have := hf.f0; omega
      · obtain ⟨i, hi, h1, h2, h3⟩ := hf.pre j hj e h0
        have hl := L.rng i j
        have h4 := ih i hi h1 (by omega)
        have h5 := hg.ed i j hi hj h4.1 h2
        omega
  intro j hj
  rcases hf.rng j hj with h | h
  · rcases hg.rng j hj with h' | h'
    · rw [h, h']
    · have := le hg hf (g j).toNat j hj h'.1 (by omega); omega
  · have h1 := le hf hg (f j).toNat j hj h.1 (by omega)
    have h2 := le hg hf (g j).toNat j hj h1.1 (by omega)
    omega
end Pu
end Go.Proofs.YtdogncjcainhlaaDoor
/- Lists that are held, full of marks: no program in it. -/
namespace Go.Proofs.YtdogncjcainhlaaDoor
open Go.RowKit
namespace Mem

section
variable {P : Program} (w : World)
/-- append onto a row of one's own: what lay in the old row still lies there, whether it grows or not. -/
theorem run_append_stays (t ty : TypeId) (base : Nat) (e : TypeId) (i : TypeInfo) (z : Value) (size bytes : Nat) (ht : P.underlying t = some (.slice e)) (hi : P.info? e = some i) (hz : i.zero = some z)
    (hsize : i.size = size) (hby : i.bytes = bytes) (hzs : z.cells.size = size) (hsz : 0 < size)
    (v : Value) (n : Nat) (xs : List Value) (hown : w.ownsRow base e size v n xs)
    (ad : Addr) (m c : Nat) (news : List Value) (hl : news.length = m * size) (hnews : ∀ j u, news[j]? = some u → w.cell? (ad.add j) = some u) (h1 : ∀ u ∈ news, u.oneCell' = true)
    (hm : 0 < m) (h63 : n + m ≤ maxLen) (hbytes : (n + m) * bytes ≤ 140737488355328) (hbase : base ≤ w.heap.size) :
    ∃ g cap w', (Builtin.append_ #[t, t] ty #[v, .slice (some ad) m c]).run P w = .ok (.slice (some ⟨g, 0, none⟩) (n + m) cap) w' ∧
      w'.ownsRow base e size (.slice (some ⟨g, 0, none⟩) (n + m) cap) (n + m) (xs ++ news) ∧ w.grownBy w' v.ownBlock ∧ (v.ownBlock = some g ∨ g = w.heap.size) ∧
      ∀ b, v.ownBlock = some b → ∀ j, j < n * size → w'.cell? ⟨b, j, none⟩ = w.cell? ⟨b, j, none⟩ := by
  obtain ⟨g, cap, w', hr, h2, h3, h4, _⟩ := run_append_lies (P := P) w t ty base e i z size bytes ht hi hz hsize hby hzs hsz v n xs hown ad m c news hl hnews h1 hm h63 hbytes hbase _ rfl
  refine ⟨g, cap, w', hr, h2, h3, h4, ?_⟩
  have same : v.ownBlock = some g → ∀ b, v.ownBlock = some b → ∀ j, j < n * size → w'.cell? ⟨b, j, none⟩ = w.cell? ⟨b, j, none⟩ := by
    intro hg b hb j hj
    rw [hg] at hb
    cases hb
    have hx := hown.1
    obtain ⟨g0, cap0, cur, rfl, _⟩ : ∃ g0 cap0 cur, v = .slice (some ⟨g0, 0, none⟩) n cap0 ∧ w.heap[g0]? = some (.cells cur e (0, 0)) := by
      rcases hown.2 with ⟨rfl, _⟩ | ⟨g0, cap0, cur, hv, _, hh, _⟩
      · cases hg
      · exact ⟨g0, cap0, cur, hv, hh⟩
    simp only [Value.ownBlock, Option.some.injEq] at hg
    subst hg
    rw [h2.cellAt j (by rw [Nat.add_mul]; omega), hown.cellAt j hj, List.getElem?_append_left (by omega)]
  rcases hown.2 with ⟨rfl, _⟩ | ⟨g0, cap0, cur, rfl, hbg, hg, hnc, hcm, hcs, htake⟩
  · intro b hb; cases hb
  · by_cases hroom : n + m ≤ cap0
    · subst hsize
      have hfit : n * i.size + news.length ≤ cur.size := by rw [hl, hcs, ← Nat.add_mul]; exact Nat.mul_le_mul_right _ hroom
      have hr2 := run_append_room (P := P) w t ty e i ht hi g0 n cap0 cur hg ad m c news hl hnews h1 hroom hfit
      rw [hr] at hr2
      injection hr2 with e1 e2
      injection e1 with e3 _ _
      injection e3 with e4
      injection e4 with e5
      exact same (by rw [e5]; rfl)
    · subst hsize
      subst hby
      have holds : ∀ j u, xs[j]? = some u → w.cell? ((⟨g0, 0, none⟩ : Addr).add j) = some u := hown.cells (g := g0) rfl
      have hsmall : n + m ≤ 9223372036854775807 := by simp only [maxLen] at h63; omega
      have hr2 := run_append_grow (P := P) w t ty e i z ht hi hz ⟨g0, 0, none⟩ n cap0 xs hown.1 holds ad m c news hl hnews (by omega) (by omega) (growslice_fits (by omega) hbytes)
      rw [hr] at hr2
      injection hr2 with e1 e2
      subst e2
      intro b hb j _
      simp only [Value.ownBlock, Option.some.injEq] at hb
      subst hb
      rw [World.cell?_alloc_lt _ _ _ (by show g0 < w.heap.size; exact lt_of_block hg)]
      rfl

theorem wpList_append_stays {ops : Array Oper} {rest : List Oper} {o : Oper} {a : Act} {Q : Exit → Act → World → Prop} (hgd : o.guard = none) (s x : Operand) (t : TypeId)
    (ho : o.op = .call { callee := .builtin .append, args := #[s, x], argTypes := #[t, t] })
    (base : Nat) (e : TypeId) (i : TypeInfo) (z : Value) (size bytes : Nat) (ht : P.underlying t = some (.slice e)) (hi : P.info? e = some i) (hz : i.zero = some z)
    (hsize : i.size = size) (hby : i.bytes = bytes) (hzs : z.cells.size = size) (hsz : 0 < size)
    (v : Value) (n : Nat) (xs : List Value) (hs : a.eval s = v) (hown : w.ownsRow base e size v n xs)
    (ad : Addr) (m c : Nat) (news : List Value) (hx : a.eval x = .slice (some ad) m c) (hl : news.length = m * size) (hnews : ∀ j u, news[j]? = some u → w.cell? (ad.add j) = some u) (h1 : ∀ u ∈ news, u.oneCell' = true)
    (hm : 0 < m) (h63 : n + m ≤ maxLen) (hbytes : (n + m) * bytes ≤ 140737488355328) (hbase : base ≤ w.heap.size)
    (h : ∀ g cap w', w'.ownsRow base e size (.slice (some ⟨g, 0, none⟩) (n + m) cap) (n + m) (xs ++ news) → w.grownBy w' v.ownBlock → (v.ownBlock = some g ∨ g = w.heap.size) →
      (∀ b, v.ownBlock = some b → ∀ j, j < n * size → w'.cell? ⟨b, j, none⟩ = w.cell? ⟨b, j, none⟩) → wpList P ops Q rest (a.put o.dst (.slice (some ⟨g, 0, none⟩) (n + m) cap)) w') : wpList P ops Q (o :: rest) a w := by
  refine wpList_plain hgd fun K hK => ?_
  obtain ⟨g, cap, w', hr, h2, h3, h4, h5⟩ := run_append_stays (P := P) w t o.type base e i z size bytes ht hi hz hsize hby hzs hsz v n xs hown ad m c news hl hnews h1 hm h63 hbytes hbase
  unfold Oper.wp execOp
  simp only [ho, resolve, invoke, builtin, Sem.run_bind, Sem.run_pure, Result.andThen_ok, List.map_toArray, List.map_cons, List.map_nil, hs, hx, hr]
  exact hK _ _ (h g cap w' h2 h3 h4 h5)
end

/-- A cell of a row of one's own written. -/
theorem owns_set {w : World} {base : Nat} {e : TypeId} {size g cap n : Nat} {xs : List Value} (h : w.ownsRow base e size (.slice (some ⟨g, 0, none⟩) n cap) n xs) (j : Nat) (u : Value) :
    (w.setCell ⟨g, j, none⟩ u).ownsRow base e size (.slice (some ⟨g, 0, none⟩) n cap) n (xs.set j u) := by
  obtain ⟨h1, h2⟩ := h
  refine ⟨by simpa using h1, ?_⟩
  rcases h2 with ⟨hv, _⟩ | ⟨g', cap', cur, hv, hb, hg, hnc, hcm, hcs, htake⟩
  · cases hv
  · injection hv with e1 _ e3
    injection e1 with e1
    injection e1 with e1
    subst e1
    subst e3
    refine Or.inr ⟨g, cap, cur.setIfInBounds j u, rfl, hb, heap_setCell_same hg u, hnc, hcm, by simpa using hcs, ?_⟩
    rw [← htake, Array.toList_setIfInBounds, List.take_set]

/-- What is held: a list (its elements of sz cells) that reads as its mark; it lies at B or behind, and not in the row v. -/
def Held1 (sz : Nat) (w : World) (B : Nat) (v : Value) (e : Value × Int) : Prop :=
  e.1 = .slice none 0 0 ∨ ∃ q len cap, e.1 = .slice (some ⟨q, 0, none⟩) len cap ∧ B ≤ q ∧ q < w.heap.size ∧ v.ownBlock ≠ some q ∧ len ≤ cap ∧ cap ≤ maxLen ∧ ∀ j, j < len * sz → w.cell? ⟨q, j, none⟩ = some (.int .i64 e.2)
theorem Held1.turns {sz : Nat} {p : Nat → Prop} {w w' : World} {B : Nat} {v : Value} {e : Value × Int} (h : Held1 sz w B v e) (t : Turns p w w') (hp : ∀ q, e.1.ownBlock = some q → ¬ p q) : Held1 sz w' B v e := by
  rcases h with h | ⟨q, len, cap, h1, h2, h3, h4, h5, h6, h7⟩
  · exact Or.inl h
  · exact Or.inr ⟨q, len, cap, h1, h2, Nat.lt_of_lt_of_le h3 t.size, h4, h5, h6, fun j hj => (t.cell (a := ⟨q, j, none⟩) h3 (hp q (by rw [h1]; rfl))).trans (h7 j hj)⟩
theorem Held1.row {sz : Nat} {w : World} {B : Nat} {v v' : Value} {e : Value × Int} (h : Held1 sz w B v e) (hv : ∀ q, e.1.ownBlock = some q → v'.ownBlock ≠ some q) : Held1 sz w B v' e := by
  rcases h with h | ⟨q, len, cap, h1, h2, h3, _, h5⟩
  · exact Or.inl h
  · exact Or.inr ⟨q, len, cap, h1, h2, h3, hv q (by rw [h1]; rfl), h5⟩
theorem Held1.lt {sz : Nat} {w : World} {B : Nat} {v : Value} {e : Value × Int} (h : Held1 sz w B v e) : ∀ q, e.1.ownBlock = some q → B ≤ q ∧ q < w.heap.size ∧ v.ownBlock ≠ some q := by
  intro q hq
  rcases h with h | ⟨q', len, cap, h1, h2, h3, h4, _⟩
  · rw [h] at hq; cases hq
  · rw [h1] at hq; cases hq; exact ⟨h2, h3, h4⟩

def hvals : List (Value × Int) → List Value
  | [] => []
  | (v, m) :: r => v :: .int .i64 m :: hvals r
theorem hvals_length : ∀ E : List (Value × Int), (hvals E).length = E.length * 2
  | [] => rfl
  | (v, m) :: r => by simp [hvals, hvals_length r]; omega
theorem hvals_append : ∀ (a b : List (Value × Int)), hvals (a ++ b) = hvals a ++ hvals b
  | [], b => rfl
  | (v, m) :: r, b => by simp [hvals, hvals_append r b]
theorem hvals_get : ∀ (E : List (Value × Int)) (k : Nat) (v : Value) (m : Int), E[k]? = some (v, m) → (hvals E)[k * 2]? = some v ∧ (hvals E)[k * 2 + 1]? = some (.int .i64 m)
  | [], k, v, m, h => by simp at h
  | (a, b) :: r, 0, v, m, h => by
    simp at h
    obtain ⟨rfl, rfl⟩ := h
    simp [hvals]
  | (a, b) :: r, k + 1, v, m, h => by
    have := hvals_get r k v m (by simpa using h)
    rw [show (k + 1) * 2 = k * 2 + 1 + 1 by omega, hvals]
    simpa using this

/-- The row v holds the lists E, each full of its mark. -/
structure Lists (sz et : Nat) (w : World) (B : Nat) (v : Value) (E : List (Value × Int)) : Prop where
  own : w.ownsRow B et 2 v E.length (hvals E)
  full : ∀ e ∈ E, Held1 sz w B v e
theorem Lists.nil (sz et : Nat) (w : World) (B : Nat) : Lists sz et w B (.slice none 0 0) [] := ⟨World.ownsRow_nil _ _ _ _, fun e he => by cases he⟩
theorem Lists.turns {sz et : Nat} {p : Nat → Prop} {w w' : World} {B : Nat} {v : Value} {E : List (Value × Int)} (h : Lists sz et w B v E) (t : Turns p w w') (hv : ∀ q, v.ownBlock = some q → ¬ p q) (hp : ∀ e ∈ E, ∀ q, e.1.ownBlock = some q → ¬ p q) : Lists sz et w' B v E := by
  refine ⟨?_, fun e he => (h.full e he).turns t (hp e he)⟩
  obtain ⟨h1, h2⟩ := h.own
  refine ⟨h1, ?_⟩
  rcases h2 with h2 | ⟨g, cap, cur, hv', hg, hb, r⟩
  · exact Or.inl h2
  · exact Or.inr ⟨g, cap, cur, hv', hg, (t.block g (lt_of_block hb) (hv g (by rw [hv']; rfl))).trans hb, r⟩

/-- The block of what is held: how many lists came, the rows of held lists of numbers and of labels. -/
def HB (w : World) (h : Nat) (k : Int) (v u : Value) : Prop := w.heap[h]? = some (.cells #[.int .i64 k, v, u, .slice none 0 0] 27 (0, 0))
theorem HB.lt {w : World} {h : Nat} {k : Int} {v u : Value} (H : HB w h k v u) : h < w.heap.size := lt_of_block H
theorem HB.c0 {w : World} {h : Nat} {k : Int} {v u : Value} (H : HB w h k v u) : w.cell? ⟨h, 0, none⟩ = some (.int .i64 k) := by unfold HB at H; simp [World.cell?, H]
theorem HB.c1 {w : World} {h : Nat} {k : Int} {v u : Value} (H : HB w h k v u) : w.cell? ⟨h, 1, none⟩ = some v := by unfold HB at H; simp [World.cell?, H]
theorem HB.c2 {w : World} {h : Nat} {k : Int} {v u : Value} (H : HB w h k v u) : w.cell? ⟨h, 2, none⟩ = some u := by unfold HB at H; simp [World.cell?, H]
theorem HB.c3 {w : World} {h : Nat} {k : Int} {v u : Value} (H : HB w h k v u) : w.cell? ⟨h, 3, none⟩ = some (.slice none 0 0) := by unfold HB at H; simp [World.cell?, H]
theorem HB.free {w : World} {h : Nat} {k : Int} {v u : Value} (H : HB w h k v u) (j : Nat) : w.frozen? ⟨h, j, none⟩ = false := by unfold HB at H; simp [World.frozen?, H]
theorem HB.turns {p : Nat → Prop} {w w' : World} {h : Nat} {k : Int} {v u : Value} (H : HB w h k v u) (t : Turns p w w') (hp : ¬ p h) : HB w' h k v u := (t.block h H.lt hp).trans H
theorem HB.set0 {w : World} {h : Nat} {k : Int} {v u : Value} (H : HB w h k v u) (x : Int) : HB (w.setCell ⟨h, 0, none⟩ (.int .i64 x)) h x v u := heap_setCell_same H _
theorem HB.set1 {w : World} {h : Nat} {k : Int} {v u : Value} (H : HB w h k v u) (x : Value) : HB (w.setCell ⟨h, 1, none⟩ x) h k x u := heap_setCell_same H _
theorem HB.set2 {w : World} {h : Nat} {k : Int} {v u : Value} (H : HB w h k v u) (x : Value) : HB (w.setCell ⟨h, 2, none⟩ x) h k v x := heap_setCell_same H _
theorem HB.new (w : World) : HB (w.alloc (.cells #[.int .i64 0, .slice none 0 0, .slice none 0 0, .slice none 0 0] 27)) w.heap.size 0 (.slice none 0 0) (.slice none 0 0) := by
  show (w.heap.push _)[w.heap.size]? = _
  simp

/-- One list more in the row. -/
theorem Lists.snoc {sz et : Nat} {w w4 : World} {B g cap n : Nat} {v : Value} {E : List (Value × Int)} {gv : Value} {m : Int} (h : Lists sz et w B v E) (hg : Held1 sz w B v (gv, m))
    (hown : w4.ownsRow B et 2 (.slice (some ⟨g, 0, none⟩) (n + 1) cap) (n + 1) (hvals E ++ [gv, .int .i64 m])) (hn : E.length = n) (hT : Turns (fun k => v.ownBlock = some k) w w4) (hat : v.ownBlock = some g ∨ w.heap.size ≤ g) :
    Lists sz et w4 B (.slice (some ⟨g, 0, none⟩) (n + 1) cap) (E ++ [(gv, m)]) := by
  have one : ∀ e, Held1 sz w B v e → Held1 sz w4 B (.slice (some ⟨g, 0, none⟩) (n + 1) cap) e := by
    intro e he
    refine (he.turns hT (fun q hq => (he.lt q hq).2.2)).row (fun q hq c => ?_)
    simp only [Value.ownBlock, Option.some.injEq] at c
    subst c
    have := he.lt g hq
    rcases hat with hat | hat
    · exact this.2.2 hat
    · omega
  refine ⟨by rw [hvals_append]; simpa [hvals, hn] using hown, fun e he => ?_⟩
  rcases List.mem_append.1 he with he | he
  · exact one e (h.full e he)
  · rw [List.mem_singleton] at he; subst he; exact one _ hg
end Mem
end Go.Proofs.YtdogncjcainhlaaDoor
/- The reference's map in memory: no program in it. -/
namespace Go.Proofs.YtdogncjcainhlaaDoor
open Go.RowKit
namespace Mem

/-- Block b holds the reference's map: how many places, how many roads, the rows of lengths, the rows of how far it is. -/
def RB (w : World) (b : Nat) (n R : Int) (v f : Value) : Prop := w.heap[b]? = some (.cells #[.int .i64 n, .int .i64 R, v, f] 62 (0, 0))
theorem RB.lt {w : World} {b : Nat} {n R : Int} {v f : Value} (h : RB w b n R v f) : b < w.heap.size := lt_of_block h
theorem RB.c0 {w : World} {b : Nat} {n R : Int} {v f : Value} (h : RB w b n R v f) : w.cell? ⟨b, 0, none⟩ = some (.int .i64 n) := by unfold RB at h; simp [World.cell?, h]
theorem RB.c1 {w : World} {b : Nat} {n R : Int} {v f : Value} (h : RB w b n R v f) : w.cell? ⟨b, 1, none⟩ = some (.int .i64 R) := by unfold RB at h; simp [World.cell?, h]
theorem RB.c2 {w : World} {b : Nat} {n R : Int} {v f : Value} (h : RB w b n R v f) : w.cell? ⟨b, 2, none⟩ = some v := by unfold RB at h; simp [World.cell?, h]
theorem RB.c3 {w : World} {b : Nat} {n R : Int} {v f : Value} (h : RB w b n R v f) : w.cell? ⟨b, 3, none⟩ = some f := by unfold RB at h; simp [World.cell?, h]
theorem RB.free {w : World} {b : Nat} {n R : Int} {v f : Value} (h : RB w b n R v f) (j : Nat) : w.frozen? ⟨b, j, none⟩ = false := by unfold RB at h; simp [World.frozen?, h]
theorem RB.turns {p : Nat → Prop} {w w' : World} {b : Nat} {n R : Int} {v f : Value} (h : RB w b n R v f) (t : Turns p w w') (hp : ¬ p b) : RB w' b n R v f := (t.block b h.lt hp).trans h
theorem RB.set1 {w : World} {b : Nat} {n R : Int} {v f : Value} (h : RB w b n R v f) (u : Int) : RB (w.setCell ⟨b, 1, none⟩ (.int .i64 u)) b n u v f := heap_setCell_same h _
theorem RB.set2 {w : World} {b : Nat} {n R : Int} {v f : Value} (h : RB w b n R v f) (u : Value) : RB (w.setCell ⟨b, 2, none⟩ u) b n R u f := heap_setCell_same h _
theorem RB.set3 {w : World} {b : Nat} {n R : Int} {v f : Value} (h : RB w b n R v f) (u : Value) : RB (w.setCell ⟨b, 3, none⟩ u) b n R v u := heap_setCell_same h _
theorem RB.new (w : World) (n R : Int) (v f : Value) : RB (w.alloc (.cells #[.int .i64 n, .int .i64 R, v, f] 62)) w.heap.size n R v f := by
  show (w.heap.push _)[w.heap.size]? = _
  simp

/-- One row more, that lies in memory already. -/
theorem Grid.snoc {w w4 : World} {B n g cap r : Nat} {v : Value} {rb : List Nat} {len : Nat → Nat → Int} (h : Grid w B n v rb len) (hr : Ints w r n (len rb.length)) (hB : B ≤ r) (hno : ∀ i : Nat, rb[i]? ≠ some r) (hv : v.ownBlock ≠ some r)
    (hown : w4.ownsRow B 41 1 (.slice (some ⟨g, 0, none⟩) (rb.length + 1) cap) (rb.length + 1) (rowVals n rb ++ [.slice (some ⟨r, 0, none⟩) n n]))
    (hT : Turns (fun k => v.ownBlock = some k) w w4) (hat : v.ownBlock = some g ∨ w.heap.size ≤ g) :
    Grid w4 B n (.slice (some ⟨g, 0, none⟩) (rb.length + 1) cap) (rb ++ [r]) len := by
  refine ⟨by simpa [rowVals] using hown, ?_, ?_⟩
  · intro i s hi
    by_cases e : i < rb.length
    · rw [List.getElem?_append_left e] at hi
      have hs := h.row i s hi
      have hsl := hs.1.lt
      refine ⟨hs.1.turns hT hs.2.2, hs.2.1, ?_⟩
      intro c
      simp only [Value.ownBlock, Option.some.injEq] at c
      subst c
      rcases hat with hat | hat
      · exact hs.2.2 hat
      · omega
    · rw [List.getElem?_append_right (by omega)] at hi
      have hi0 : i = rb.length := by
        have := (List.getElem?_eq_some_iff.1 hi).1
        simp at this; omega
      subst hi0
      simp at hi
      subst hi
      refine ⟨hr.turns hT hv, hB, ?_⟩
      intro c
      simp only [Value.ownBlock, Option.some.injEq] at c
      subst c
      have := hr.lt
      rcases hat with hat | hat
      · exact hv hat
      · omega
  · intro i j s hi hj
    by_cases e : i < rb.length
    · rw [List.getElem?_append_left e] at hi
      by_cases e' : j < rb.length
      · rw [List.getElem?_append_left e'] at hj; exact h.inj i j s hi hj
      · rw [List.getElem?_append_right (by omega)] at hj
        have hj0 := (List.getElem?_eq_some_iff.1 hj).1
        simp at hj0
        have : j = rb.length := by omega
        subst this; simp at hj; subst hj
        exact absurd hi (hno i)
    · rw [List.getElem?_append_right (by omega)] at hi
      have hi0 := (List.getElem?_eq_some_iff.1 hi).1
      simp at hi0
      have hi1 : i = rb.length := by omega
      subst hi1; simp at hi; subst hi
      by_cases e' : j < rb.length
      · rw [List.getElem?_append_left e'] at hj
        exact absurd hj (hno j)
      · rw [List.getElem?_append_right (by omega)] at hj
        have hj0 := (List.getElem?_eq_some_iff.1 hj).1
        simp at hj0; omega
theorem Grid.congr {w : World} {B n : Nat} {v : Value} {rb : List Nat} {len len' : Nat → Nat → Int} (h : Grid w B n v rb len) (e : ∀ i j, i < rb.length → j < n → len i j = len' i j) : Grid w B n v rb len' :=
  ⟨h.own, fun i r hi => ⟨(h.row i r hi).1.congr (fun j hj => e i j (List.getElem?_eq_some_iff.1 hi).1 hj), (h.row i r hi).2⟩, h.inj⟩
end Mem
end Go.Proofs.YtdogncjcainhlaaDoor
/- How far it is is the same both ways; how many roads there are. Plain: no program in it. -/
namespace Go.Proofs.YtdogncjcainhlaaDoor
namespace Pu
open Mem

theorem Dist.through {n : Nat} {len : Nat → Nat → Int} {a v : Nat} {f g : Nat → Int} (N : Net n len) (hf : Dist n len v f) (hg : Dist n len a g) : ∀ (k j : Nat), j < n → 0 ≤ f j → f j ≤ k → 0 ≤ g j → 0 ≤ g v ∧ g v ≤ g j + f j := by
  intro k
  induction k with
  | zero =>
    intro j hj h0 hk hgj
    by_cases e : j = v
    · subst e; have := hf.f0; omega
    · obtain ⟨i, hi, h1, h2, h3⟩ := hf.pre j hj e h0
      have := N.lens.rng i j; omega
  | succ k ih =>
    intro j hj h0 hk hgj
    by_cases e : j = v
    · subst e; have := hf.f0; omega
    · obtain ⟨i, hi, h1, h2, h3⟩ := hf.pre j hj e h0
      have hl := N.lens.rng i j
      have h4 := hg.ed j i hj hi hgj (by rw [N.sym]; exact h2)
      rw [N.sym] at h4
      have := ih i hi h1 (by omega) h4.1
      omega
/-- It is as far there as back. -/
theorem Dist.sym {n : Nat} {len : Nat → Nat → Int} {a v : Nat} {f g : Nat → Int} (N : Net n len) (ha : a < n) (hv : v < n) (hf : Dist n len v f) (hg : Dist n len a g) : f a = g v := by
  have h1 : 0 ≤ f a → 0 ≤ g v ∧ g v ≤ f a := fun h => by
    have := Dist.through N hf hg (f a).toNat a ha h (by omega) (by rw [hg.f0]; omega)
    rw [hg.f0] at this; omega
  have h2 : 0 ≤ g v → 0 ≤ f a ∧ f a ≤ g v := fun h => by
    have := Dist.through N hg hf (g v).toNat v hv h (by omega) (by rw [hf.f0]; omega)
    rw [hf.f0] at this; omega
  rcases hf.rng a ha with h | h
  · rcases hg.rng v hv with h' | h'
    · rw [h, h']
    · have := h2 h'.1; omega
  · have := h1 h.1; have := h2 (h1 h.1).1; omega

/-- Of the first k places how many have a road to v. -/
def rowCnt (len : Nat → Nat → Int) (v : Nat) : Nat → Nat
  | 0 => 0
  | k + 1 => rowCnt len v k + if 0 < len v k then 1 else 0
/-- How many roads lead from the first m places to lesser ones. -/
def total (len : Nat → Nat → Int) : Nat → Nat
  | 0 => 0
  | m + 1 => total len m + rowCnt len m m
theorem rowCnt_congr {len len' : Nat → Nat → Int} {v : Nat} : ∀ k, (∀ j, j < k → len v j = len' v j) → rowCnt len v k = rowCnt len' v k
  | 0, _ => rfl
  | k + 1, h => by rw [rowCnt, rowCnt, rowCnt_congr k (fun j hj => h j (by omega)), h k (by omega)]
theorem rowCnt_lay {len : Nat → Nat → Int} {u v : Nat} {x : Int} (huv : u < v) (hz : len v u = 0) (hx : 0 < x) : ∀ k, u < k → rowCnt (layLen len u v x) v k = rowCnt len v k + 1
  | 0, h => by omega
  | k + 1, h => by
    rw [rowCnt, rowCnt]
    by_cases e : k = u
    · subst e
      have e1 : layLen len k v x v k = x := by unfold layLen; rw [if_pos (Or.inr ⟨rfl, rfl⟩)]
      rw [e1, hz, if_pos hx, if_neg (by omega), rowCnt_congr (len := layLen len k v x) (len' := len) k (fun j hj => by unfold layLen; rw [if_neg (by omega)])]
    · have e1 : layLen len u v x v k = len v k := by unfold layLen; rw [if_neg (by omega)]
      rw [e1, rowCnt_lay huv hz hx k (by omega)]; omega
theorem total_lay {len : Nat → Nat → Int} {u v : Nat} {x : Int} (huv : u < v) (hz : len v u = 0) (hx : 0 < x) : ∀ m, total (layLen len u v x) m = total len m + if v < m then 1 else 0
  | 0 => by simp [total]
  | m + 1 => by
    rw [total, total, total_lay huv hz hx m]
    by_cases e : m = v
    · subst e
      rw [rowCnt_lay huv hz hx m huv, if_neg (by omega), if_pos (by omega)]; omega
    · rw [rowCnt_congr (len := layLen len u v x) (len' := len) m (fun j hj => by unfold layLen; rw [if_neg (by omega)])]
      by_cases g : v < m
      · rw [if_pos g, if_pos (by omega)]; omega
      · rw [if_neg g, if_neg (by omega)]; omega
theorem total_zero : ∀ m, total (fun _ _ => 0) m = 0
  | 0 => rfl
  | m + 1 => by
    have r : ∀ v k, rowCnt (fun _ _ => 0) v k = 0 := by
      intro v k
      induction k with
      | zero => rfl
      | succ k ih => rw [rowCnt, ih]; simp
    rw [total, total_zero m, r]
theorem lay_total {n : Nat} : ∀ (rs : List Rd) (len len' : Nat → Nat → Int) (i : Nat), Net n len → (∀ r ∈ rs, RdOk n r) → lay len rs i = .inr len' → total len' n = total len n + rs.length
  | [], len, len', i, _, _, e => by rw [lay] at e; cases e; simp
  | (u, v, x) :: rs, len, len', i, h, hr, e => by
    by_cases c : len u v = 0
    · rw [lay_go c] at e
      have ho := hr (u, v, x) (by simp)
      obtain ⟨h1, h2, h3, h4⟩ := ho
      simp only at h1 h2 h3 h4
      have := lay_total rs _ len' (i + 1) (h.lay (hr _ (by simp))) (fun r hm => hr r (by simp [hm])) e
      rw [this, total_lay h1 (by rw [h.sym]; exact c) (by omega), if_pos h2]; simp; omega
    · rw [lay_twice c] at e; cases e
/-- A map that was read has as many roads as it was told. -/
theorem parse_total {l : List UInt8} {n k : Nat} {len : Nat → Nat → Int} (h : parse l = .ok n k len) : total len n = k := by
  unfold parse at h
  split at h
  · cases h
  · split at h
    · cases h
    · unfold parseRows at h
      split at h
      · cases h
      · rename_i m hm
        split at h
        · cases h
        · rename_i rs hrs
          split at h
          · cases h
          · rename_i len' hl
            cases h
            have := lay_total rs _ _ 0 (Net.zero _) (roads_ok _ _ _ hrs) hl
            rw [this, total_zero]; omega
end Pu
end Go.Proofs.YtdogncjcainhlaaDoor
/- Plain: a table filled through every place tells how far it is (the reference's fill). No program. -/
namespace Go.Proofs.YtdogncjcainhlaaDoor.Pu

/-- What the table holds ahead of the filling. -/
def fill0 (len : Nat → Nat → Int) (i k : Nat) : Int := if i = k then 0 else if 0 < len i k then len i k else 1000000000
/-- One entry behind the round of place x. -/
def fstep (t : Nat → Nat → Int) (x i k : Nat) : Int := if t i x + t x k < t i k then t i x + t x k else t i k
/-- The table behind the rounds of the places below x. -/
def fillTo (len : Nat → Nat → Int) : Nat → Nat → Nat → Int
  | 0 => fill0 len
  | x + 1 => fstep (fillTo len x) x

/-- What holds of the table behind the rounds of the places below x; D i tells how far it is from i. -/
structure FillOk (n : Nat) (len D : Nat → Nat → Int) (x : Nat) (t : Nat → Nat → Int) : Prop where
  diag : ∀ i, i < n → t i i = 0
  rng : ∀ i k, i < n → k < n → 0 ≤ t i k ∧ t i k ≤ 1000000000
  low : ∀ i k, i < n → k < n → t i k < 1000000000 → 0 ≤ D i k ∧ D i k ≤ t i k
  ed : ∀ i k, i < n → k < n → len i k ≠ 0 → t i k ≤ len i k
  tri : ∀ y, y < x → ∀ i k, i < n → k < n → t i k ≤ t i y + t y k

theorem Dist.tri {n : Nat} {len D : Nat → Nat → Int} (N : Net n len) (hD : ∀ i, i < n → Dist n len i (D i)) {i x k : Nat} (hi : i < n) (hx : x < n) (hk : k < n) (h1 : 0 ≤ D i x) (h2 : 0 ≤ D x k) : 0 ≤ D i k ∧ D i k ≤ D i x + D x k := by
  have e : D k x = D x k := Dist.sym N hx hk (hD k hk) (hD x hx)
  have := Dist.through N (hD k hk) (hD i hi) (D k x).toNat x hx (by omega) (by omega) h1
  omega

theorem FillOk.zero {n : Nat} {len D : Nat → Nat → Int} (N : Net n len) (hD : ∀ i, i < n → Dist n len i (D i)) : FillOk n len D 0 (fill0 len) := by
  refine ⟨fun i _ => by simp [fill0], fun i k _ _ => ?_, fun i k hi hk h => ?_, fun i k _ _ h => ?_, fun y hy => absurd hy (Nat.not_lt_zero _)⟩
  · have := N.lens.rng i k
    unfold fill0; split
    · omega
    · split <;> omega
  · unfold fill0 at h ⊢
    by_cases e : i = k
    · subst e; rw [if_pos rfl, (hD i hi).f0]; omega
    · rw [if_neg e] at h ⊢
      by_cases g : 0 < len i k
      · rw [if_pos g]
        have := (hD i hi).ed i k hi hk (by rw [(hD i hi).f0]; omega) (by omega)
        rw [(hD i hi).f0] at this
        omega
      · rw [if_neg g] at h; omega
  · have := N.lens.rng i k
    unfold fill0; split
    · omega
    · rw [if_pos (by omega)]; omega

theorem FillOk.step {n : Nat} {len D : Nat → Nat → Int} {x : Nat} {t : Nat → Nat → Int} (N : Net n len) (hD : ∀ i, i < n → Dist n len i (D i)) (hx : x < n) (h : FillOk n len D x t) : FillOk n len D (x + 1) (fstep t x) := by
  have le1 : ∀ i k, fstep t x i k ≤ t i k := fun i k => by unfold fstep; split <;> omega
  have le2 : ∀ i k, fstep t x i k ≤ t i x + t x k := fun i k => by unfold fstep; split <;> omega
  have or : ∀ i k, fstep t x i k = t i k ∨ fstep t x i k = t i x + t x k := fun i k => by unfold fstep; split <;> simp
  refine ⟨fun i hi => ?_, fun i k hi hk => ?_, fun i k hi hk hl => ?_, fun i k hi hk hl => ?_, fun y hy i k hi hk => ?_⟩
  · have a1 := h.diag i hi
    have a2 := h.rng i x hi hx
    have a3 := h.rng x i hx hi
    unfold fstep; rw [if_neg (by omega)]; exact a1
  · have a1 := h.rng i k hi hk
    have a2 := h.rng i x hi hx
    have a3 := h.rng x k hx hk
    have a4 := le1 i k
    rcases or i k with e | e <;> omega
  · by_cases e : t i x + t x k < t i k
    · have b : fstep t x i k = t i x + t x k := by unfold fstep; rw [if_pos e]
      have a1 := h.rng i k hi hk
      have a2 := h.rng i x hi hx
      have a3 := h.rng x k hx hk
      have c1 := h.low i x hi hx (by omega)
      have c2 := h.low x k hx hk (by omega)
      have c3 := Dist.tri N hD hi hx hk c1.1 c2.1
      omega
    · have b : fstep t x i k = t i k := by unfold fstep; rw [if_neg e]
      rw [b] at hl ⊢
      exact h.low i k hi hk hl
  · have := h.ed i k hi hk hl
    have := le1 i k
    omega
  · have hyn : y < n := by omega
    have l1 := le1 i k
    have l2 := le2 i k
    have dx := h.diag x hx
    have r1 := h.rng y x hyn hx
    have r2 := h.rng x y hx hyn
    have r3 := h.rng i x hi hx
    have r4 := h.rng x k hx hk
    by_cases e : y = x
    · subst e
      rcases or i y with u | u <;> rcases or y k with v | v <;> omega
    · have ty := h.tri y (by omega)
      have t1 := ty i k hi hk
      have t2 := ty i x hi hx
      have t3 := ty x k hx hk
      rcases or i y with u | u <;> rcases or y k with v | v <;> omega

theorem FillOk.all {n : Nat} {len D : Nat → Nat → Int} (N : Net n len) (hD : ∀ i, i < n → Dist n len i (D i)) : ∀ x, x ≤ n → FillOk n len D x (fillTo len x)
  | 0, _ => FillOk.zero N hD
  | x + 1, h => FillOk.step N hD h (FillOk.all N hD x (by omega))

/-- Filled through every place the table tells how far it is. -/
theorem fill_dist {n : Nat} {len D : Nat → Nat → Int} (N : Net n len) (hD : ∀ i, i < n → Dist n len i (D i)) {i k : Nat} (hi : i < n) (hk : k < n) :
    fillTo len n i k = if D i k = -1 then 1000000000 else D i k := by
  have F := FillOk.all N hD n (Nat.le_refl _)
  have up : ∀ (m j : Nat), j < n → 0 ≤ D i j → D i j ≤ m → fillTo len n i j ≤ D i j := by
    intro m
    induction m with
    | zero =>
      intro j hj h0 h1
      by_cases e : j = i
      · subst e; rw [F.diag j hj]; exact h0
      · obtain ⟨p, hp, p0, p1, p2⟩ := (hD i hi).pre j hj e h0
        have := N.lens.rng p j
        omega
    | succ m ih =>
      intro j hj h0 h1
      by_cases e : j = i
      · subst e; rw [F.diag j hj]; exact h0
      · obtain ⟨p, hp, p0, p1, p2⟩ := (hD i hi).pre j hj e h0
        have := N.lens.rng p j
        have a := ih p hp p0 (by omega)
        have b := F.ed p j hp hj p1
        have c := F.tri p hp i j hi hj
        omega
  have r := F.rng i k hi hk
  have l := F.low i k hi hk
  have d := (hD i hi).rng k hk
  by_cases e : D i k = -1
  · rw [if_pos e]; omega
  · rw [if_neg e]
    have := up (D i k).toNat k hk (by omega) (by omega)
    have := l (by omega)
    omega
#print axioms fill_dist
end Go.Proofs.YtdogncjcainhlaaDoor.Pu
/- Plain: how far it is can be told from every place; what the reference's table holds. No program. -/
namespace Go.Proofs.YtdogncjcainhlaaDoor.Pu
open Mem

theorem Dist.any {n : Nat} {len : Nat → Nat → Int} {s : Nat} (L : Lens len) (hn : n ≤ 40) : ∃ far, Dist n len s far := by
  have aux : ∀ (m : Nat) (far : Nat → Int) (done : Nat → Bool) (D : Nat), Dij n len s far done D → D = cnt done n → n ≤ m + D → ∃ far, Dist n len s far := by
    intro m
    induction m with
    | zero =>
      intro far done D I hD hm
      have hle := cnt_le done n
      by_cases h : near far done n = -1
      · exact ⟨far, I.stop (by omega) h⟩
      · obtain ⟨a, _, A⟩ := I.next h
        have := cnt_lt A.open' n A.lt
        omega
    | succ m ih =>
      intro far done D I hD hm
      have hle := cnt_le done n
      by_cases h : near far done n = -1
      · exact ⟨far, I.stop (by omega) h⟩
      · obtain ⟨a, _, A⟩ := I.next h
        have h1 := cnt_upd A.open' n A.lt
        exact ih _ _ (D + 1) (I.step L A) (by omega) (by omega)
  exact aux n _ _ 0 (Dij.start n len s) (cnt_none n).symm (by omega)

theorem fillTo_rng {len : Nat → Nat → Int} (L : Lens len) : ∀ x, (∀ i, fillTo len x i i = 0) ∧ ∀ i k, 0 ≤ fillTo len x i k ∧ fillTo len x i k ≤ 1000000000
  | 0 => by
    refine ⟨fun i => by simp [fillTo, fill0], fun i k => ?_⟩
    have := L.rng i k
    show 0 ≤ fill0 len i k ∧ fill0 len i k ≤ 1000000000
    unfold fill0
    split
    · omega
    · split <;> omega
  | x + 1 => by
    obtain ⟨h1, h2⟩ := fillTo_rng L x
    refine ⟨fun i => ?_, fun i k => ?_⟩
    · show fstep (fillTo len x) x i i = 0
      have a1 := h1 i
      have a2 := h2 i x
      have a3 := h2 x i
      unfold fstep; rw [if_neg (by omega)]; exact a1
    · show 0 ≤ fstep (fillTo len x) x i k ∧ fstep (fillTo len x) x i k ≤ 1000000000
      have a1 := h2 i k
      have a2 := h2 i x
      have a3 := h2 x k
      unfold fstep; split <;> omega

/-- What the reference's table says, by how far it is from the end t. -/
theorem table_says {n : Nat} {len : Nat → Nat → Int} (N : Net n len) (hn : n ≤ 40) {t : Nat} (ht : t < n) {far : Nat → Int} (hD : Dist n len t far) {y : Nat} (hy : y < n) :
    fillTo len n y t = if far y = -1 then 1000000000 else far y := by
  have h : ∀ i, ∃ far, i < n → Dist n len i far := fun i => by
    by_cases hi : i < n
    · obtain ⟨f, hf⟩ := Dist.any (s := i) N.lens hn
      exact ⟨f, fun _ => hf⟩
    · exact ⟨fun _ => 0, fun h => absurd h hi⟩
  have e1 := fill_dist (D := fun i => Classical.choose (h i)) N (fun i hi => Classical.choose_spec (h i) hi) hy ht
  have e2 : Classical.choose (h y) t = far y := Dist.sym N ht hy (Classical.choose_spec (h y) hy) hD
  rw [e1, e2]
#print axioms table_says
end Go.Proofs.YtdogncjcainhlaaDoor.Pu
/- Plain: an order's text read. No program in it. -/
namespace Go.Proofs.YtdogncjcainhlaaDoor.Pu

/-- The rest of an order. -/
def ordGo (n : Int) : List (List UInt8) → List Nat → Option (List Nat)
  | [], acc => some acc
  | p :: r, acc => match within p 0 (n - 1) with
    | none => none
    | some x => if x.toNat ∈ acc then none else ordGo n r (acc ++ [x.toNat])
/-- An order of n places. -/
def order (n : Nat) (s : List UInt8) : Option (List Nat) := if (cuts 32 s).length = n then ordGo n (cuts 32 s) [] else none
theorem ordGo_none {n : Int} {p : List UInt8} {r : List (List UInt8)} {acc : List Nat} (h : within p 0 (n - 1) = none) : ordGo n (p :: r) acc = none := by rw [ordGo, h]
theorem ordGo_twice {n : Int} {x : Nat} {p : List UInt8} {r : List (List UInt8)} {acc : List Nat} (h : within p 0 (n - 1) = some (x : Int)) (hm : x ∈ acc) : ordGo n (p :: r) acc = none := by rw [ordGo, h]; simp [hm]
theorem ordGo_next {n : Int} {x : Nat} {p : List UInt8} {r : List (List UInt8)} {acc : List Nat} (h : within p 0 (n - 1) = some (x : Int)) (hm : ¬ x ∈ acc) : ordGo n (p :: r) acc = ordGo n r (acc ++ [x]) := by rw [ordGo, h]; simp [hm]
/-- A list of places, each once. -/
structure Perm (n : Nat) (O : List Nat) : Prop where
  len : O.length = n
  nodup : O.Nodup
  lt : ∀ m ∈ O, m < n
theorem ordGo_ok {n : Nat} : ∀ (t : List (List UInt8)) (acc O : List Nat), acc.Nodup → (∀ m ∈ acc, m < n) → ordGo n t acc = some O → O.length = acc.length + t.length ∧ O.Nodup ∧ ∀ m ∈ O, m < n
  | [], acc, O, h1, h2, h => by rw [ordGo] at h; cases h; exact ⟨by simp, h1, h2⟩
  | p :: r, acc, O, h1, h2, h => by
    rw [ordGo] at h
    split at h
    · cases h
    · rename_i x hx
      have hb := within_some hx
      split at h
      · cases h
      · rename_i hm
        have := ordGo_ok r (acc ++ [x.toNat]) O (by
            rw [List.nodup_append]
            exact ⟨h1, by simp, fun a ha b hb' c => by rw [List.mem_singleton] at hb'; subst hb'; subst c; exact hm ha⟩) (fun m hm' => by
            rcases List.mem_append.1 hm' with h' | h'
            · exact h2 m h'
            · rw [List.mem_singleton] at h'; omega) h
        simp only [List.length_append, List.length_cons, List.length_nil] at this ⊢
        exact ⟨by omega, this.2⟩
theorem order_ok {n : Nat} {s : List UInt8} {O : List Nat} (h : order n s = some O) : Perm n O := by
  unfold order at h
  split at h
  · rename_i hl
    have := ordGo_ok _ _ _ (by simp) (by simp) h
    exact ⟨by simpa [hl] using this.1, this.2.1, this.2.2⟩
  · cases h
end Go.Proofs.YtdogncjcainhlaaDoor.Pu
/- Plain: the order by how many roads a place has. No program in it. -/
namespace Go.Proofs.YtdogncjcainhlaaDoor.Pu

/-- Those of the places below p that have r roads. -/
def lvl (d : Nat → Nat) (r p : Nat) : List Nat := (List.range p).filter fun x => d x == r
theorem lvl_hit {d : Nat → Nat} {r p : Nat} (h : d p = r) : lvl d r (p + 1) = lvl d r p ++ [p] := by
  unfold lvl; rw [List.range_succ, List.filter_append]; simp [h]
theorem lvl_miss {d : Nat → Nat} {r p : Nat} (h : d p ≠ r) : lvl d r (p + 1) = lvl d r p := by
  unfold lvl; rw [List.range_succ, List.filter_append]; simp [h]
theorem lvl_mem {d : Nat → Nat} {r p x : Nat} : x ∈ lvl d r p ↔ x < p ∧ d x = r := by unfold lvl; simp
theorem lvl_len (d : Nat → Nat) (r p : Nat) : (lvl d r p).length ≤ p := by
  unfold lvl; exact Nat.le_trans (List.length_filter_le _ _) (by simp)
/-- The places with n, n - 1, .. roads, k of these numbers. -/
def rankK (d : Nat → Nat) (n : Nat) : Nat → List Nat
  | 0 => []
  | k + 1 => rankK d n k ++ lvl d (n - k) n
/-- The order by roads. -/
def ranked (d : Nat → Nat) (n : Nat) : List Nat := rankK d n (n + 1)
theorem rankK_mem {d : Nat → Nat} {n x : Nat} : ∀ k, k ≤ n + 1 → (x ∈ rankK d n k ↔ x < n ∧ d x ≤ n ∧ n < d x + k)
  | 0, _ => by simp [rankK]
  | k + 1, hk => by
    rw [rankK, List.mem_append, rankK_mem k (by omega), lvl_mem]
    omega
/-- Higher by more roads, or by the lesser number. -/
def Above (d : Nat → Nat) (a b : Nat) : Prop := d b < d a ∨ (d a = d b ∧ a < b)
theorem lvl_sorted (d : Nat → Nat) (r : Nat) : ∀ p, (lvl d r p).Pairwise (Above d)
  | 0 => by simp [lvl]
  | p + 1 => by
    by_cases h : d p = r
    · rw [lvl_hit h, List.pairwise_append]
      refine ⟨lvl_sorted d r p, by simp, fun x hx y hy => ?_⟩
      rw [List.mem_singleton] at hy
      subst hy
      have := lvl_mem.1 hx
      right; omega
    · rw [lvl_miss h]; exact lvl_sorted d r p
theorem rankK_sorted (d : Nat → Nat) (n : Nat) : ∀ k, k ≤ n + 1 → (rankK d n k).Pairwise (Above d)
  | 0, _ => by simp [rankK]
  | k + 1, hk => by
    rw [rankK, List.pairwise_append]
    refine ⟨rankK_sorted d n k (by omega), lvl_sorted d _ n, fun x hx y hy => ?_⟩
    have h1 := (rankK_mem k (by omega)).1 hx
    have h2 := lvl_mem.1 hy
    left; omega
theorem sorted_one {R : Nat → Nat → Prop} (hR : ∀ a b, R a b → ¬ R b a) : ∀ (l m : List Nat), l.Pairwise R → m.Pairwise R → (∀ x, x ∈ l ↔ x ∈ m) → l = m
  | [], [], _, _, _ => rfl
  | [], b :: m, _, _, h => by have := (h b).2 (by simp); simp at this
  | a :: l, [], _, _, h => by have := (h a).1 (by simp); simp at this
  | a :: l, b :: m, hl, hm, h => by
    have h1 := List.pairwise_cons.1 hl
    have h2 := List.pairwise_cons.1 hm
    have hab : a = b := by
      by_cases c : a = b
      · exact c
      · have ha : a ∈ m := by
          have := (h a).1 (by simp)
          rcases List.mem_cons.1 this with e | e
          · exact absurd e c
          · exact e
        have hb : b ∈ l := by
          have := (h b).2 (by simp)
          rcases List.mem_cons.1 this with e | e
          · exact absurd e.symm c
          · exact e
        exact absurd (h2.1 a ha) (hR _ _ (h1.1 b hb))
    subst hab
    have irr : ∀ x, ¬ R x x := fun x c => hR x x c c
    have : l = m := by
      refine sorted_one hR l m h1.2 h2.2 (fun x => ?_)
      constructor
      · intro hx
        rcases List.mem_cons.1 ((h x).1 (by simp [hx])) with e | e
        · subst e; exact absurd (h1.1 x hx) (irr x)
        · exact e
      · intro hx
        rcases List.mem_cons.1 ((h x).2 (by simp [hx])) with e | e
        · subst e; exact absurd (h2.1 x hx) (irr x)
        · exact e
    rw [this]
theorem Above.anti (d : Nat → Nat) (a b : Nat) (h : Above d a b) : ¬ Above d b a := by unfold Above at *; omega
/-- Whatever holds all places, sorted so, is the order by roads. -/
theorem ranked_one {d : Nat → Nat} {n : Nat} (hd : ∀ x, x < n → d x ≤ n) {O : List Nat} (hs : O.Pairwise (Above d)) (hm : ∀ x, x ∈ O ↔ x < n) : O = ranked d n :=
  sorted_one (Above.anti d) _ _ hs (rankK_sorted d n _ (Nat.le_refl _)) (fun x => by
    unfold ranked
    rw [rankK_mem _ (Nat.le_refl _), hm]
    constructor
    · intro h; have := hd x h; omega
    · intro h; exact h.1)
theorem ranked_perm {d : Nat → Nat} {n : Nat} (hd : ∀ x, x < n → d x ≤ n) : Perm n (ranked d n) := by
  have hnd : (ranked d n).Nodup := (rankK_sorted d n _ (Nat.le_refl _)).imp (fun {a b} h c => by subst c; exact Above.anti d a a h h)
  have hlt : ∀ m ∈ ranked d n, m < n := fun m hm => ((rankK_mem _ (Nat.le_refl _)).1 hm).1
  refine ⟨?_, hnd, hlt⟩
  have h1 : (List.range n).length ≤ (ranked d n).length := by
    have hsub : ∀ x ∈ List.range n, x ∈ ranked d n := fun x hx => by
      have hx' : x < n := by simpa using hx
      have := hd x hx'
      exact (rankK_mem _ (Nat.le_refl _)).2 ⟨hx', by omega, by omega⟩
    have := List.Nodup.length_le_of_subset (List.nodup_range (n := n)) hsub
    exact this
  have h2 : (ranked d n).length ≤ n := by
    have aux : ∀ (n : Nat) (l : List Nat), l.Nodup → (∀ m ∈ l, m < n) → l.length ≤ n := by
      intro n l h3 h4
      have := List.Nodup.length_le_of_subset h3 (l₂ := List.range n) (fun x hx => by simpa using h4 x hx)
      simpa using this
    exact aux n _ hnd hlt
  simp at h1
  omega
theorem rowCnt_le' (len : Nat → Nat → Int) (v : Nat) : ∀ k, rowCnt len v k ≤ k
  | 0 => Nat.le_refl _
  | k + 1 => by have := rowCnt_le' len v k; rw [rowCnt]; split <;> omega
end Go.Proofs.YtdogncjcainhlaaDoor.Pu
/- Plain: hubs and labels by an order. No program in it. -/
namespace Go.Proofs.YtdogncjcainhlaaDoor.Pu

/-- m lies between a and b. -/
def lies (D : Nat → Nat → Int) (a m b : Nat) : Bool := decide (D a m ≠ -1 ∧ D m b ≠ -1 ∧ D a m + D m b = D a b)
/-- h is a hub of v, the places pre being higher. -/
def isHub (D : Nat → Nat → Int) (v h : Nat) (pre : List Nat) : Bool := decide (D v h ≠ -1) && pre.all fun m => !lies D v m h
theorem isHub_iff {D : Nat → Nat → Int} {v h : Nat} {pre : List Nat} : isHub D v h pre = true ↔ D v h ≠ -1 ∧ ∀ m ∈ pre, lies D v m h = false := by
  unfold isHub
  rw [Bool.and_eq_true, decide_eq_true_iff, List.all_eq_true]
  simp
/-- The labels of place v of the first k hubs of the order O. -/
def labK (D : Nat → Nat → Int) (O : List Nat) (v : Nat) : Nat → List Rd
  | 0 => []
  | k + 1 => labK D O v k ++ match O[k]? with
    | none => []
    | some h => if isHub D v h (O.take k) then [(v, h, D v h)] else []
/-- The labels of the places below p. -/
def labP (D : Nat → Nat → Int) (O : List Nat) : Nat → List Rd
  | 0 => []
  | p + 1 => labP D O p ++ labK D O p O.length
theorem labK_hit {D : Nat → Nat → Int} {O : List Nat} {v k h : Nat} (hk : O[k]? = some h) (hh : isHub D v h (O.take k) = true) : labK D O v (k + 1) = labK D O v k ++ [(v, h, D v h)] := by rw [labK, hk]; simp [hh]
theorem labK_miss {D : Nat → Nat → Int} {O : List Nat} {v k h : Nat} (hk : O[k]? = some h) (hh : isHub D v h (O.take k) = false) : labK D O v (k + 1) = labK D O v k := by rw [labK, hk]; simp [hh]
theorem labK_len (D : Nat → Nat → Int) (O : List Nat) (v : Nat) : ∀ k, (labK D O v k).length ≤ k
  | 0 => Nat.le_refl _
  | k + 1 => by
    have := labK_len D O v k
    rw [labK, List.length_append]
    split
    · simp; omega
    · split <;> simp <;> omega
theorem labP_len (D : Nat → Nat → Int) (O : List Nat) : ∀ p, (labP D O p).length ≤ p * O.length
  | 0 => by simp [labP]
  | p + 1 => by
    have h1 := labP_len D O p
    have h2 := labK_len D O p O.length
    rw [labP, List.length_append, Nat.add_mul]; omega
theorem labK_mem {D : Nat → Nat → Int} {O : List Nat} {v : Nat} {x : Rd} : ∀ k, x ∈ labK D O v k ↔ ∃ j h, j < k ∧ O[j]? = some h ∧ isHub D v h (O.take j) = true ∧ x = (v, h, D v h)
  | 0 => by simp [labK]
  | k + 1 => by
    rw [labK, List.mem_append, labK_mem k]
    constructor
    · rintro (⟨j, h, h1, h2⟩ | h)
      · exact ⟨j, h, by omega, h2⟩
      · cases e : O[k]? with
        | none => rw [e] at h; simp at h
        | some y =>
          rw [e] at h
          simp only at h
          by_cases g : isHub D v y (O.take k) = true
          · rw [if_pos g] at h; exact ⟨k, y, by omega, e, g, by simpa using h⟩
          · rw [if_neg g] at h; simp at h
    · rintro ⟨j, h, h1, h2, h3, h4⟩
      by_cases e : j = k
      · subst e; right; rw [h2]; simp [h3, h4]
      · left; exact ⟨j, h, by omega, h2, h3, h4⟩
theorem labP_mem {D : Nat → Nat → Int} {O : List Nat} {x : Rd} : ∀ p, x ∈ labP D O p ↔ ∃ v j h, v < p ∧ O[j]? = some h ∧ isHub D v h (O.take j) = true ∧ x = (v, h, D v h)
  | 0 => by simp [labP]
  | p + 1 => by
    rw [labP, List.mem_append, labP_mem p, labK_mem]
    constructor
    · rintro (⟨v, j, h, h1, h2⟩ | ⟨j, h, h1, h2⟩)
      · exact ⟨v, j, h, by omega, h2⟩
      · exact ⟨p, j, h, by omega, h2⟩
    · rintro ⟨v, j, h, h1, h2, h3⟩
      by_cases e : v = p
      · subst e; right; exact ⟨j, h, (List.getElem?_eq_some_iff.1 h2).1, h2, h3⟩
      · left; exact ⟨v, j, h, by omega, h2, h3⟩
end Go.Proofs.YtdogncjcainhlaaDoor.Pu
