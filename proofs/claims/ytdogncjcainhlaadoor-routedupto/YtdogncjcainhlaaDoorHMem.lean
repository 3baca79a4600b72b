/- Lists that are held, full of marks: no program in it. -/
import Derived.Test.YtdogncjcainhlaaDoorTMem
import Derived.Deep.AppendLies
namespace Go.Proofs.YtdogncjcainhlaaDoor
open Go.RowKit
namespace Mem

section
variable {P : Program} (w : World)
/-- append onto a row of one's own: what lay in the old row still lies there, whether it grows or not. -/
theorem run_append_stays (t ty : TypeId) (base : Nat) (e : TypeId) (i : TypeInfo) (z : Value) (size bytes : Nat) (ht : P.underlying t = some (.slice e)) (hi : P.info? e = some i) (hz : i.zero = some z)
    (hsize : i.size = size) (hby : i.bytes = bytes) (hzs : z.cells.size = size) (hsz : 0 < size)
    (v : Value) (n : Nat) (xs : List Value) (hown : w.ownsRow base e size v n xs)
    (ad : Addr) (m c : Nat) (news : List Value) (hl : news.length = m * size) (hnews : ∀ j u, news[j]? = some u → w.cell? (ad.add j) = some u) (h1 : ∀ u ∈ news, u.oneCell' = true)
    (hm : 0 < m) (h63 : n + m ≤ maxLen) (hbytes : (n + m) * bytes ≤ 140737488355328) (hbase : base ≤ w.heap.size) :
    ∃ g cap w', (Builtin.append_ #[t, t] ty #[v, .slice (some ad) m c]).run P w = .ok (.slice (some ⟨g, 0, none⟩) (n + m) cap) w' ∧
      w'.ownsRow base e size (.slice (some ⟨g, 0, none⟩) (n + m) cap) (n + m) (xs ++ news) ∧ w.grownBy w' v.ownBlock ∧ (v.ownBlock = some g ∨ g = w.heap.size) ∧
      ∀ b, v.ownBlock = some b → ∀ j, j < n * size → w'.cell? ⟨b, j, none⟩ = w.cell? ⟨b, j, none⟩ := by
  obtain ⟨g, cap, w', hr, h2, h3, h4, _⟩ := run_append_lies (P := P) w t ty base e i z size bytes ht hi hz hsize hby hzs hsz v n xs hown ad m c news hl hnews h1 hm h63 hbytes hbase _ rfl
  refine ⟨g, cap, w', hr, h2, h3, h4, ?_⟩
  have same : v.ownBlock = some g → ∀ b, v.ownBlock = some b → ∀ j, j < n * size → w'.cell? ⟨b, j, none⟩ = w.cell? ⟨b, j, none⟩ := by
    intro hg b hb j hj
    rw [hg] at hb
    cases hb
    have hx := hown.1
    obtain ⟨g0, cap0, cur, rfl, _⟩ : ∃ g0 cap0 cur, v = .slice (some ⟨g0, 0, none⟩) n cap0 ∧ w.heap[g0]? = some (.cells cur e (0, 0)) := by
      rcases hown.2 with ⟨rfl, _⟩ | ⟨g0, cap0, cur, hv, _, hh, _⟩
      · cases hg
      · exact ⟨g0, cap0, cur, hv, hh⟩
    simp only [Value.ownBlock, Option.some.injEq] at hg
    subst hg
    rw [h2.cellAt j (by rw [Nat.add_mul]; omega), hown.cellAt j hj, List.getElem?_append_left (by omega)]
  rcases hown.2 with ⟨rfl, _⟩ | ⟨g0, cap0, cur, rfl, hbg, hg, hnc, hcm, hcs, htake⟩
  · intro b hb; cases hb
  · by_cases hroom : n + m ≤ cap0
    · subst hsize
      have hfit : n * i.size + news.length ≤ cur.size := by rw [hl, hcs, ← Nat.add_mul]; exact Nat.mul_le_mul_right _ hroom
      have hr2 := run_append_room (P := P) w t ty e i ht hi g0 n cap0 cur hg ad m c news hl hnews h1 hroom hfit
      rw [hr] at hr2
      injection hr2 with e1 e2
      injection e1 with e3 _ _
      injection e3 with e4
      injection e4 with e5
      exact same (by rw [e5]; rfl)
    · subst hsize
      subst hby
      have holds : ∀ j u, xs[j]? = some u → w.cell? ((⟨g0, 0, none⟩ : Addr).add j) = some u := hown.cells (g := g0) rfl
      have hsmall : n + m ≤ 9223372036854775807 := by simp only [maxLen] at h63; omega
      have hr2 := run_append_grow (P := P) w t ty e i z ht hi hz ⟨g0, 0, none⟩ n cap0 xs hown.1 holds ad m c news hl hnews (by omega) (by omega) (growslice_fits (by omega) hbytes)
      rw [hr] at hr2
      injection hr2 with e1 e2
      subst e2
      intro b hb j _
      simp only [Value.ownBlock, Option.some.injEq] at hb
      subst hb
      rw [World.cell?_alloc_lt _ _ _ (by show g0 < w.heap.size; exact lt_of_block hg)]
      rfl

theorem wpList_append_stays {ops : Array Oper} {rest : List Oper} {o : Oper} {a : Act} {Q : Exit → Act → World → Prop} (hgd : o.guard = none) (s x : Operand) (t : TypeId)
    (ho : o.op = .call { callee := .builtin .append, args := #[s, x], argTypes := #[t, t] })
    (base : Nat) (e : TypeId) (i : TypeInfo) (z : Value) (size bytes : Nat) (ht : P.underlying t = some (.slice e)) (hi : P.info? e = some i) (hz : i.zero = some z)
    (hsize : i.size = size) (hby : i.bytes = bytes) (hzs : z.cells.size = size) (hsz : 0 < size)
    (v : Value) (n : Nat) (xs : List Value) (hs : a.eval s = v) (hown : w.ownsRow base e size v n xs)
    (ad : Addr) (m c : Nat) (news : List Value) (hx : a.eval x = .slice (some ad) m c) (hl : news.length = m * size) (hnews : ∀ j u, news[j]? = some u → w.cell? (ad.add j) = some u) (h1 : ∀ u ∈ news, u.oneCell' = true)
    (hm : 0 < m) (h63 : n + m ≤ maxLen) (hbytes : (n + m) * bytes ≤ 140737488355328) (hbase : base ≤ w.heap.size)
    (h : ∀ g cap w', w'.ownsRow base e size (.slice (some ⟨g, 0, none⟩) (n + m) cap) (n + m) (xs ++ news) → w.grownBy w' v.ownBlock → (v.ownBlock = some g ∨ g = w.heap.size) →
      (∀ b, v.ownBlock = some b → ∀ j, j < n * size → w'.cell? ⟨b, j, none⟩ = w.cell? ⟨b, j, none⟩) → wpList P ops Q rest (a.put o.dst (.slice (some ⟨g, 0, none⟩) (n + m) cap)) w') : wpList P ops Q (o :: rest) a w := by
  refine wpList_plain hgd fun K hK => ?_
  obtain ⟨g, cap, w', hr, h2, h3, h4, h5⟩ := run_append_stays (P := P) w t o.type base e i z size bytes ht hi hz hsize hby hzs hsz v n xs hown ad m c news hl hnews h1 hm h63 hbytes hbase
  unfold Oper.wp execOp
  simp only [ho, resolve, invoke, builtin, Sem.run_bind, Sem.run_pure, Result.andThen_ok, List.map_toArray, List.map_cons, List.map_nil, hs, hx, hr]
  exact hK _ _ (h g cap w' h2 h3 h4 h5)
end

/-- A cell of a row of one's own written. -/
theorem owns_set {w : World} {base : Nat} {e : TypeId} {size g cap n : Nat} {xs : List Value} (h : w.ownsRow base e size (.slice (some ⟨g, 0, none⟩) n cap) n xs) (j : Nat) (u : Value) :
    (w.setCell ⟨g, j, none⟩ u).ownsRow base e size (.slice (some ⟨g, 0, none⟩) n cap) n (xs.set j u) := by
  obtain ⟨h1, h2⟩ := h
  refine ⟨by simpa using h1, ?_⟩
  rcases h2 with ⟨hv, _⟩ | ⟨g', cap', cur, hv, hb, hg, hnc, hcm, hcs, htake⟩
  · cases hv
  · injection hv with e1 _ e3
    injection e1 with e1
    injection e1 with e1
    subst e1
    subst e3
    refine Or.inr ⟨g, cap, cur.setIfInBounds j u, rfl, hb, heap_setCell_same hg u, hnc, hcm, by simpa using hcs, ?_⟩
    rw [← htake, Array.toList_setIfInBounds, List.take_set]

/-- What is held: a list (its elements of sz cells) that reads as its mark; it lies at B or behind, and not in the row v. -/
def Held1 (sz : Nat) (w : World) (B : Nat) (v : Value) (e : Value × Int) : Prop :=
  e.1 = .slice none 0 0 ∨ ∃ q len cap, e.1 = .slice (some ⟨q, 0, none⟩) len cap ∧ B ≤ q ∧ q < w.heap.size ∧ v.ownBlock ≠ some q ∧ len ≤ cap ∧ cap ≤ maxLen ∧ ∀ j, j < len * sz → w.cell? ⟨q, j, none⟩ = some (.int .i64 e.2)
theorem Held1.turns {sz : Nat} {p : Nat → Prop} {w w' : World} {B : Nat} {v : Value} {e : Value × Int} (h : Held1 sz w B v e) (t : Turns p w w') (hp : ∀ q, e.1.ownBlock = some q → ¬ p q) : Held1 sz w' B v e := by
  rcases h with h | ⟨q, len, cap, h1, h2, h3, h4, h5, h6, h7⟩
  · exact Or.inl h
  · exact Or.inr ⟨q, len, cap, h1, h2, Nat.lt_of_lt_of_le h3 t.size, h4, h5, h6, fun j hj => (t.cell (a := ⟨q, j, none⟩) h3 (hp q (by rw [h1]; rfl))).trans (h7 j hj)⟩
theorem Held1.row {sz : Nat} {w : World} {B : Nat} {v v' : Value} {e : Value × Int} (h : Held1 sz w B v e) (hv : ∀ q, e.1.ownBlock = some q → v'.ownBlock ≠ some q) : Held1 sz w B v' e := by
  rcases h with h | ⟨q, len, cap, h1, h2, h3, _, h5⟩
  · exact Or.inl h
  · exact Or.inr ⟨q, len, cap, h1, h2, h3, hv q (by rw [h1]; rfl), h5⟩
theorem Held1.lt {sz : Nat} {w : World} {B : Nat} {v : Value} {e : Value × Int} (h : Held1 sz w B v e) : ∀ q, e.1.ownBlock = some q → B ≤ q ∧ q < w.heap.size ∧ v.ownBlock ≠ some q := by
  intro q hq
  rcases h with h | ⟨q', len, cap, h1, h2, h3, h4, _⟩
  · rw [h] at hq; cases hq
  · rw [h1] at hq; cases hq; exact ⟨h2, h3, h4⟩

def hvals : List (Value × Int) → List Value
  | [] => []
  | (v, m) :: r => v :: .int .i64 m :: hvals r
theorem hvals_length : ∀ E : List (Value × Int), (hvals E).length = E.length * 2
  | [] => rfl
  | (v, m) :: r => by simp [hvals, hvals_length r]; omega
theorem hvals_append : ∀ (a b : List (Value × Int)), hvals (a ++ b) = hvals a ++ hvals b
  | [], b => rfl
  | (v, m) :: r, b => by simp [hvals, hvals_append r b]
theorem hvals_get : ∀ (E : List (Value × Int)) (k : Nat) (v : Value) (m : Int), E[k]? = some (v, m) → (hvals E)[k * 2]? = some v ∧ (hvals E)[k * 2 + 1]? = some (.int .i64 m)
  | [], k, v, m, h => by simp at h
  | (a, b) :: r, 0, v, m, h => by
    simp at h
    obtain ⟨rfl, rfl⟩ := h
    simp [hvals]
  | (a, b) :: r, k + 1, v, m, h => by
    have := hvals_get r k v m (by simpa using h)
    rw [show (k + 1) * 2 = k * 2 + 1 + 1 by omega, hvals]
    simpa using this

/-- The row v holds the lists E, each full of its mark. -/
structure Lists (sz et : Nat) (w : World) (B : Nat) (v : Value) (E : List (Value × Int)) : Prop where
  own : w.ownsRow B et 2 v E.length (hvals E)
  full : ∀ e ∈ E, Held1 sz w B v e
theorem Lists.nil (sz et : Nat) (w : World) (B : Nat) : Lists sz et w B (.slice none 0 0) [] := ⟨World.ownsRow_nil _ _ _ _, fun e he => by cases he⟩
theorem Lists.turns {sz et : Nat} {p : Nat → Prop} {w w' : World} {B : Nat} {v : Value} {E : List (Value × Int)} (h : Lists sz et w B v E) (t : Turns p w w') (hv : ∀ q, v.ownBlock = some q → ¬ p q) (hp : ∀ e ∈ E, ∀ q, e.1.ownBlock = some q → ¬ p q) : Lists sz et w' B v E := by
  refine ⟨?_, fun e he => (h.full e he).turns t (hp e he)⟩
  obtain ⟨h1, h2⟩ := h.own
  refine ⟨h1, ?_⟩
  rcases h2 with h2 | ⟨g, cap, cur, hv', hg, hb, r⟩
  · exact Or.inl h2
  · exact Or.inr ⟨g, cap, cur, hv', hg, (t.block g (lt_of_block hb) (hv g (by rw [hv']; rfl))).trans hb, r⟩

/-- The block of what is held: how many lists came, the rows of held lists of numbers and of labels. -/
def HB (w : World) (h : Nat) (k : Int) (v u : Value) : Prop := w.heap[h]? = some (.cells #[.int .i64 k, v, u, .slice none 0 0] 27 (0, 0))
theorem HB.lt {w : World} {h : Nat} {k : Int} {v u : Value} (H : HB w h k v u) : h < w.heap.size := lt_of_block H
theorem HB.c0 {w : World} {h : Nat} {k : Int} {v u : Value} (H : HB w h k v u) : w.cell? ⟨h, 0, none⟩ = some (.int .i64 k) := by unfold HB at H; simp [World.cell?, H]
theorem HB.c1 {w : World} {h : Nat} {k : Int} {v u : Value} (H : HB w h k v u) : w.cell? ⟨h, 1, none⟩ = some v := by unfold HB at H; simp [World.cell?, H]
theorem HB.c2 {w : World} {h : Nat} {k : Int} {v u : Value} (H : HB w h k v u) : w.cell? ⟨h, 2, none⟩ = some u := by unfold HB at H; simp [World.cell?, H]
theorem HB.c3 {w : World} {h : Nat} {k : Int} {v u : Value} (H : HB w h k v u) : w.cell? ⟨h, 3, none⟩ = some (.slice none 0 0) := by unfold HB at H; simp [World.cell?, H]
theorem HB.free {w : World} {h : Nat} {k : Int} {v u : Value} (H : HB w h k v u) (j : Nat) : w.frozen? ⟨h, j, none⟩ = false := by unfold HB at H; simp [World.frozen?, H]
theorem HB.turns {p : Nat → Prop} {w w' : World} {h : Nat} {k : Int} {v u : Value} (H : HB w h k v u) (t : Turns p w w') (hp : ¬ p h) : HB w' h k v u := (t.block h H.lt hp).trans H
theorem HB.set0 {w : World} {h : Nat} {k : Int} {v u : Value} (H : HB w h k v u) (x : Int) : HB (w.setCell ⟨h, 0, none⟩ (.int .i64 x)) h x v u := heap_setCell_same H _
theorem HB.set1 {w : World} {h : Nat} {k : Int} {v u : Value} (H : HB w h k v u) (x : Value) : HB (w.setCell ⟨h, 1, none⟩ x) h k x u := heap_setCell_same H _
theorem HB.set2 {w : World} {h : Nat} {k : Int} {v u : Value} (H : HB w h k v u) (x : Value) : HB (w.setCell ⟨h, 2, none⟩ x) h k v x := heap_setCell_same H _
theorem HB.new (w : World) : HB (w.alloc (.cells #[.int .i64 0, .slice none 0 0, .slice none 0 0, .slice none 0 0] 27)) w.heap.size 0 (.slice none 0 0) (.slice none 0 0) := by
  show (w.heap.push _)[w.heap.size]? = _
  simp

/-- One list more in the row. -/
theorem Lists.snoc {sz et : Nat} {w w4 : World} {B g cap n : Nat} {v : Value} {E : List (Value × Int)} {gv : Value} {m : Int} (h : Lists sz et w B v E) (hg : Held1 sz w B v (gv, m))
    (hown : w4.ownsRow B et 2 (.slice (some ⟨g, 0, none⟩) (n + 1) cap) (n + 1) (hvals E ++ [gv, .int .i64 m])) (hn : E.length = n) (hT : Turns (fun k => v.ownBlock = some k) w w4) (hat : v.ownBlock = some g ∨ w.heap.size ≤ g) :
    Lists sz et w4 B (.slice (some ⟨g, 0, none⟩) (n + 1) cap) (E ++ [(gv, m)]) := by
  have one : ∀ e, Held1 sz w B v e → Held1 sz w4 B (.slice (some ⟨g, 0, none⟩) (n + 1) cap) e := by
    intro e he
    refine (he.turns hT (fun q hq => (he.lt q hq).2.2)).row (fun q hq c => ?_)
    simp only [Value.ownBlock, Option.some.injEq] at c
    subst c
    have := he.lt g hq
    rcases hat with hat | hat
    · exact this.2.2 hat
    · omega
  refine ⟨by rw [hvals_append]; simpa [hvals, hn] using hown, fun e he => ?_⟩
  rcases List.mem_append.1 he with he | he
  · exact one e (h.full e he)
  · rw [List.mem_singleton] at he; subst he; exact one _ hg
end Mem
end Go.Proofs.YtdogncjcainhlaaDoor
