/- What blocks of memory hold, and which of them a call may have turned: no program in it. -/
import Derived.WalkKit
import Derived.Deep.Draws
namespace Go.Proofs.YtdogncjcainhlaaDoor
open Go.RowKit
namespace Mem

/-- Of what was there only the blocks p may have turned. -/
structure Turns (p : Nat → Prop) (w w' : World) : Prop where
  os : w'.os = w.os
  tape : w'.tape = w.tape
  output : w'.output = w.output
  size : w.heap.size ≤ w'.heap.size
  block : ∀ k, k < w.heap.size → ¬ p k → w'.heap[k]? = w.heap[k]?

theorem Turns.refl (p : Nat → Prop) (w : World) : Turns p w w := ⟨rfl, rfl, rfl, Nat.le_refl _, fun _ _ _ => rfl⟩
theorem Turns.trans {p : Nat → Prop} {a b c : World} (h : Turns p a b) (k : Turns p b c) : Turns p a c :=
  ⟨k.os.trans h.os, k.tape.trans h.tape, k.output.trans h.output, Nat.le_trans h.size k.size, fun i hi hp => (k.block i (Nat.lt_of_lt_of_le hi h.size) hp).trans (h.block i hi hp)⟩
theorem Turns.mono {p q : Nat → Prop} {a b : World} (h : Turns p a b) (hpq : ∀ k, k < a.heap.size → p k → q k) : Turns q a b :=
  ⟨h.os, h.tape, h.output, h.size, fun k hk hq => h.block k hk (fun hp => hq (hpq k hk hp))⟩
theorem Turns.cell {p : Nat → Prop} {w w' : World} (h : Turns p w w') {a : Addr} (ha : a.block < w.heap.size) (hp : ¬ p a.block) : w'.cell? a = w.cell? a := World.cell?_of_block (w := w) (h.block a.block ha hp)
theorem Turns.frozen {p : Nat → Prop} {w w' : World} (h : Turns p w w') {a : Addr} (ha : a.block < w.heap.size) (hp : ¬ p a.block) : w'.frozen? a = w.frozen? a := World.frozen?_of_block (w := w) (h.block a.block ha hp)
theorem Turns.drew {p : Nat → Prop} {a w : World} (h : Turns p a w) : Turns p a w.drew := ⟨h.os, h.tape, h.output, h.size, h.block⟩
theorem Turns.drewN {p : Nat → Prop} {a w : World} (h : Turns p a w) (n : Nat) : Turns p a (w.drewN n) := ⟨h.os, h.tape, h.output, h.size, h.block⟩
theorem Turns.alloc {p : Nat → Prop} {a w : World} (h : Turns p a w) (o : Obj) : Turns p a (w.alloc o) :=
  ⟨h.os, h.tape, h.output, Nat.le_trans h.size (by simp), fun k hk hp => (Below.heap_alloc w o k (Nat.lt_of_lt_of_le hk h.size)).trans (h.block k hk hp)⟩
theorem Turns.setCell {p : Nat → Prop} {a w : World} (h : Turns p a w) {x : Addr} (hx : a.heap.size ≤ x.block ∨ p x.block) (u : Value) : Turns p a (w.setCell x u) := by
  refine ⟨h.os, h.tape, h.output, Nat.le_trans h.size (by simp), fun k hk hp => (Below.heap_setCell w x u k ?_).trans (h.block k hk hp)⟩
  rintro rfl
  rcases hx with hx | hx
  · omega
  · exact hp hx
theorem Turns.grown {p : Nat → Prop} {a w w' : World} {row : Option Nat} (h : Turns p a w) (hg : w.grownBy w' row) (hr : ∀ k, row = some k → a.heap.size ≤ k ∨ p k) : Turns p a w' := by
  refine ⟨hg.os.trans h.os, hg.tape.trans h.tape, hg.output.trans h.output, Nat.le_trans h.size hg.size, fun k hk hp => (hg.block k (Nat.lt_of_lt_of_le hk h.size) ?_).trans (h.block k hk hp)⟩
  intro e
  rcases hr k e.symm with h' | h'
  · omega
  · exact hp h'
theorem Turns.below {w w' : World} (h : Turns (fun _ => False) w w') : Below w.heap.size w w' := ⟨h.os, h.tape, h.output, h.size, fun k hk => h.block k hk (fun x => x)⟩
theorem Turns.of_below {B : Nat} {w w' : World} (h : Below B w w') (p : Nat → Prop) (hp : ∀ k, B ≤ k → k < w.heap.size → p k) : Turns p w w' :=
  ⟨h.os, h.tape, h.output, h.size, fun k hk hn => h.block k (Nat.lt_of_not_le fun hB => hn (hp k hB hk))⟩

/-- The first n cells of block b hold the numbers g, and may be written. -/
structure Ints (w : World) (b n : Nat) (g : Nat → Int) : Prop where
  lt : b < w.heap.size
  cell : ∀ j, j < n → w.cell? ⟨b, j, none⟩ = some (.int .i64 (g j))
  free : ∀ j, j < n → w.frozen? ⟨b, j, none⟩ = false
/-- The same of bools. -/
structure Bools (w : World) (b n : Nat) (g : Nat → Bool) : Prop where
  lt : b < w.heap.size
  cell : ∀ j, j < n → w.cell? ⟨b, j, none⟩ = some (.bool (g j))
  free : ∀ j, j < n → w.frozen? ⟨b, j, none⟩ = false
/-- A map's block: how many places, how many roads, the lengths in rows of 40. -/
structure MapAt (w : World) (b : Nat) (N R : Int) (len : Nat → Nat → Int) : Prop where
  lt : b < w.heap.size
  places : w.cell? ⟨b, 0, none⟩ = some (.int .i64 N)
  roads : w.cell? ⟨b, 1, none⟩ = some (.int .i64 R)
  cell : ∀ i j, i < 40 → j < 40 → w.cell? ⟨b, 2 + i * 40 + j, none⟩ = some (.int .i64 (len i j))

def upd {α : Type} (g : Nat → α) (i : Nat) (x : α) : Nat → α := fun j => if j = i then x else g j
theorem upd_same {α : Type} (g : Nat → α) (i : Nat) (x : α) : upd g i x i = x := by simp [upd]
theorem upd_other {α : Type} (g : Nat → α) (i j : Nat) (x : α) (h : j ≠ i) : upd g i x j = g j := by simp [upd, h]

theorem Ints.turns {p : Nat → Prop} {w w' : World} {b n : Nat} {g : Nat → Int} (h : Ints w b n g) (t : Turns p w w') (hb : ¬ p b) : Ints w' b n g :=
  ⟨Nat.lt_of_lt_of_le h.lt t.size, fun j hj => (t.cell (a := ⟨b, j, none⟩) h.lt hb).trans (h.cell j hj), fun j hj => (t.frozen (a := ⟨b, j, none⟩) h.lt hb).trans (h.free j hj)⟩
theorem Bools.turns {p : Nat → Prop} {w w' : World} {b n : Nat} {g : Nat → Bool} (h : Bools w b n g) (t : Turns p w w') (hb : ¬ p b) : Bools w' b n g :=
  ⟨Nat.lt_of_lt_of_le h.lt t.size, fun j hj => (t.cell (a := ⟨b, j, none⟩) h.lt hb).trans (h.cell j hj), fun j hj => (t.frozen (a := ⟨b, j, none⟩) h.lt hb).trans (h.free j hj)⟩
theorem MapAt.turns {p : Nat → Prop} {w w' : World} {b : Nat} {N R : Int} {len : Nat → Nat → Int} (h : MapAt w b N R len) (t : Turns p w w') (hb : ¬ p b) : MapAt w' b N R len :=
  ⟨Nat.lt_of_lt_of_le h.lt t.size, (t.cell (a := ⟨b, 0, none⟩) h.lt hb).trans h.places, (t.cell (a := ⟨b, 1, none⟩) h.lt hb).trans h.roads, fun i j hi hj => (t.cell (a := ⟨b, 2 + i * 40 + j, none⟩) h.lt hb).trans (h.cell i j hi hj)⟩
theorem Ints.set {w : World} {b n : Nat} {g : Nat → Int} (h : Ints w b n g) {i : Nat} (hi : i < n) (x : Int) : Ints (w.setCell ⟨b, i, none⟩ (.int .i64 x)) b n (upd g i x) := by
  refine ⟨by simpa using h.lt, fun j hj => ?_, fun j hj => by simpa using h.free j hj⟩
  by_cases e : j = i
  · subst e; rw [upd_same]; exact World.cell?_setCell_same _ _ _ (h.cell j hj)
  · rw [upd_other _ _ _ _ e, World.cell?_setCell_other _ _ _ _ (by intro c; injection c with _ c; omega)]; exact h.cell j hj
theorem Bools.set {w : World} {b n : Nat} {g : Nat → Bool} (h : Bools w b n g) {i : Nat} (hi : i < n) (x : Bool) : Bools (w.setCell ⟨b, i, none⟩ (.bool x)) b n (upd g i x) := by
  refine ⟨by simpa using h.lt, fun j hj => ?_, fun j hj => by simpa using h.free j hj⟩
  by_cases e : j = i
  · subst e; rw [upd_same]; exact World.cell?_setCell_same _ _ _ (h.cell j hj)
  · rw [upd_other _ _ _ _ e, World.cell?_setCell_other _ _ _ _ (by intro c; injection c with _ c; omega)]; exact h.cell j hj
theorem made_get (z : Value) (n j : Nat) (hj : j < n) : (madeCells #[z] n)[j]? = some z := by
  simp [madeCells, hj, Nat.mod_one]
theorem Ints.made (w : World) (n : Nat) (t : TypeId) (x : Int) : Ints (w.alloc (.cells (madeCells #[.int .i64 x] n) t)) w.heap.size n (fun _ => x) :=
  ⟨by simp, fun j hj => by rw [World.cell?_alloc_new]; exact made_get _ _ _ hj, fun j _ => World.frozen?_alloc_new _ _ _ _⟩
theorem Bools.made (w : World) (n : Nat) (t : TypeId) (x : Bool) : Bools (w.alloc (.cells (madeCells #[.bool x] n) t)) w.heap.size n (fun _ => x) :=
  ⟨by simp, fun j hj => by rw [World.cell?_alloc_new]; exact made_get _ _ _ hj, fun j _ => World.frozen?_alloc_new _ _ _ _⟩
theorem Ints.congr {w : World} {b n : Nat} {g g' : Nat → Int} (h : Ints w b n g) (e : ∀ j, j < n → g j = g' j) : Ints w b n g' := ⟨h.lt, fun j hj => by rw [← e j hj]; exact h.cell j hj, h.free⟩
theorem owns_mono {w : World} {base base' : Nat} {e : TypeId} {size : Nat} {v : Value} {n : Nat} {xs : List Value} (h : w.ownsRow base e size v n xs) (hb : base' ≤ base) : w.ownsRow base' e size v n xs := by
  obtain ⟨h1, h2⟩ := h
  refine ⟨h1, ?_⟩
  rcases h2 with h2 | ⟨g, cap, cur, hv, hg, r⟩
  · exact Or.inl h2
  · exact Or.inr ⟨g, cap, cur, hv, by omega, r⟩
theorem owns_form {w : World} {base : Nat} {e : TypeId} {size : Nat} {v : Value} {n : Nat} {xs : List Value} (h : w.ownsRow base e size v (n + 1) xs) : ∃ g cap, v = .slice (some ⟨g, 0, none⟩) (n + 1) cap := by
  obtain ⟨_, h2⟩ := h
  rcases h2 with ⟨_, h2⟩ | ⟨g, cap, cur, hv, _⟩
  · omega
  · exact ⟨g, cap, hv⟩
theorem owns_turns {w w' : World} {base : Nat} {e : TypeId} {size : Nat} {v : Value} {n : Nat} {xs : List Value} (h : w.ownsRow base e size v n xs) (t : Turns (fun _ => False) w w') : w'.ownsRow base e size v n xs := by
  obtain ⟨h1, h2⟩ := h
  refine ⟨h1, ?_⟩
  rcases h2 with h2 | ⟨g, cap, cur, hv, hg, hb, r⟩
  · exact Or.inl h2
  · exact Or.inr ⟨g, cap, cur, hv, hg, (t.block g (lt_of_block hb) (fun x => x)).trans hb, r⟩
end Mem
end Go.Proofs.YtdogncjcainhlaaDoor
