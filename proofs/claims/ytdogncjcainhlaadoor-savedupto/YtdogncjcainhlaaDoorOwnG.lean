/- A row of one's own, and one element more behind it. -/
import Derived.Test.YtdogncjcainhlaaDoorPlain
import Derived.Deep.RegionHeld3
namespace Go.Proofs.YtdogncjcainhlaaDoor
open Go.RowKit
open Mem

theorem addr_add (g j : Nat) : (⟨g, 0, none⟩ : Addr).add j = ⟨g, j, none⟩ := by
  unfold Addr.add
  by_cases e : j = 0
  · subst e; simp
  · simp [e]
theorem turns_over {w wr w3 : World} {v : Value} (h : Turns (fun _ => False) w wr) (t : Turns (fun b => v.ownBlock = some b) wr w3) (hb : ∀ b, v.ownBlock = some b → w.heap.size ≤ b) : Turns (fun _ => False) w w3 :=
  ⟨t.os.trans h.os, t.tape.trans h.tape, t.output.trans h.output, Nat.le_trans h.size t.size, fun k hk _ => (t.block k (Nat.lt_of_lt_of_le hk h.size) (fun c => by have := hb k c; omega)).trans (h.block k hk (fun x => x))⟩
theorem owns_over {w w' : World} {base : Nat} {e : TypeId} {size : Nat} {v u : Value} {n : Nat} {xs : List Value} (h : w.ownsRow base e size v n xs) (t : Turns (fun b => u.ownBlock = some b) w w') (hne : ∀ b, v.ownBlock = some b → u.ownBlock ≠ some b) : w'.ownsRow base e size v n xs := by
  obtain ⟨h1, h2⟩ := h
  refine ⟨h1, ?_⟩
  rcases h2 with h2 | ⟨g, cap, cur, hv, hg, hb, r⟩
  · exact Or.inl h2
  · exact Or.inr ⟨g, cap, cur, hv, hg, (t.block g (lt_of_block hb) (hne g (by rw [hv]; rfl))).trans hb, r⟩
/-- A row of one's own, that came out of another by putting elements behind it: of what was there only that one's block may have turned. -/
structure OwnG (w0 : World) (v0 : Value) (base : Nat) (e : TypeId) (size : Nat) (v : Value) (n : Nat) (xs : List Value) (w : World) : Prop where
  own : w.ownsRow base e size v n xs
  turns : Turns (fun b => v0.ownBlock = some b) w0 w
  block : ∀ b, v.ownBlock = some b → v0.ownBlock = some b ∨ w0.heap.size ≤ b
theorem OwnG.refl {w : World} {base : Nat} {e : TypeId} {size : Nat} {v : Value} {n : Nat} {xs : List Value} (h : w.ownsRow base e size v n xs) : OwnG w v base e size v n xs w := ⟨h, Turns.refl _ _, fun _ h => Or.inl h⟩
theorem OwnG.nil (w : World) (base : Nat) (e : TypeId) (size : Nat) : OwnG w (.slice none 0 0) base e size (.slice none 0 0) 0 [] w := OwnG.refl (World.ownsRow_nil _ _ _ _)
theorem OwnG.alloc {w0 w : World} {v0 v : Value} {base : Nat} {e : TypeId} {size : Nat} {n : Nat} {xs : List Value} (h : OwnG w0 v0 base e size v n xs w) (o : Obj) : OwnG w0 v0 base e size v n xs (w.alloc o) :=
  ⟨h.own.alloc o, h.turns.alloc o, h.block⟩
theorem OwnG.then {w0 w w' : World} {v0 v : Value} {base : Nat} {e : TypeId} {size : Nat} {n : Nat} {xs : List Value} (h : OwnG w0 v0 base e size v n xs w) (t : Turns (fun _ => False) w w') : OwnG w0 v0 base e size v n xs w' :=
  ⟨owns_turns h.own t, h.turns.trans (t.mono (fun _ _ x => x.elim)), h.block⟩
/-- From nothing: what was there is as it was. -/
theorem OwnG.turns0 {w0 w : World} {v : Value} {base : Nat} {e : TypeId} {size : Nat} {n : Nat} {xs : List Value} (h : OwnG w0 (.slice none 0 0) base e size v n xs w) : Turns (fun _ => False) w0 w := h.turns.mono (fun _ _ c => by cases c)
theorem OwnG.fresh {w0 w : World} {v : Value} {base : Nat} {e : TypeId} {size : Nat} {n : Nat} {xs : List Value} (h : OwnG w0 (.slice none 0 0) base e size v n xs w) : ∀ b, v.ownBlock = some b → w0.heap.size ≤ b := fun b hb => by
  rcases h.block b hb with c | c
  · cases c
  · exact c
/-- append of one element, at the operation. -/
theorem wpList_append_one {P : Program} {ops : Array Oper} {rest : List Oper} {o : Oper} {a : Act} {Q : Exit → Act → World → Prop} (hgd : o.guard = none) (s x : Operand) (t : TypeId) (ho : o.op = .call { callee := .builtin .append, args := #[s, x], argTypes := #[t, t] })
    (e : TypeId) (size bytes : Nat) (z : Value) (ht : P.underlying t = some (.slice e)) (hinfo : (P.info? e).map (fun i => (i.zero, i.size, i.bytes)) = some (some z, size, bytes)) (hzs : z.cells.size = size) (hsz : 0 < size)
    (w0 w : World) (v0 v : Value) (base n : Nat) (xs : List Value) (news : Array Value) (hnl : news.toList.length = size) (h1 : ∀ u ∈ news.toList, u.oneCell' = true) (h : OwnG w0 v0 base e size v n xs w) (hb : base ≤ w.heap.size) (hl : (n + 1) * bytes ≤ 140737488355328) (hl2 : n + 1 ≤ 140737488355328)
    (hs : a.eval s = v) (H : Nat) (hx : a.eval x = .slice (some ⟨H, 0, none⟩) 1 1) (hH : w.heap.size = H)
    (hk : ∀ v' w3, OwnG w0 v0 base e size v' (n + 1) (xs ++ news.toList) w3 → wpList P ops Q rest (a.put o.dst v') w3) : wpList P ops Q (o :: rest) a (w.alloc (.cells news e)) := by
  subst hH
  obtain ⟨i0, hi, hz0, hz1, hz2⟩ := info_parts hinfo
  refine wpList_append_own_at (w := w.alloc (.cells news e)) hgd s x t ho base e i0 z size bytes ht hi hz0 hz1 hz2 hzs hsz v n xs hs (h.own.alloc _) ⟨w.heap.size, 0, none⟩ 1 1 news.toList hx (by rw [hnl, Nat.one_mul]) ?_ h1 ?_ hl ?_ ?_
  · intro j u hj
    have : (⟨w.heap.size, 0, none⟩ : Addr).add j = ⟨w.heap.size, j, none⟩ := by
      unfold Addr.add
      by_cases e : j = 0
      · subst e; simp
      · simp [e]
    rw [this, World.cell?_alloc_new]
    rw [Array.getElem?_toList] at hj
    exact hj
  · unfold maxLen; omega
  · simp; omega
  · intro v' w3 hown3 hgrow _ hat
    refine hk v' w3 ⟨hown3, (h.turns.alloc _).grown hgrow ?_, ?_⟩
    · intro q hq
      rcases h.block q hq with h | h
      · exact Or.inr h
      · exact Or.inl h
    · intro b hb
      rcases hat with e | e
      · exact h.block b (by rw [← e]; exact hb)
      · rw [e] at hb
        injection hb with hb
        have := h.turns.size
        simp at hb
        exact Or.inr (by omega)
end Go.Proofs.YtdogncjcainhlaaDoor
