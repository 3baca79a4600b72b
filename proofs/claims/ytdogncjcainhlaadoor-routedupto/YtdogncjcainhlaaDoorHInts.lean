/- The walk of (*Held).ints: a list is written full of a mark, and three more behind it, and held at each step. -/
import Derived.Test.YtdogncjcainhlaaDoorProg
import Derived.Test.YtdogncjcainhlaaDoorHMem
import Derived.WalkKit
import Derived.WalkSpells
import Derived.WalkLawsBesides
namespace Go.Proofs.YtdogncjcainhlaaDoor
open Go.RowKit
open Mem

/-- What holds while a list is held again and again: the row v' has the lists E', the list gv (n' elements) is full of m. -/
structure HS (sz et rt : Nat) (p : Nat → Prop) (w : World) (B n' : Nat) (m : Int) (v' gv : Value) (E' : List (Value × Int)) (wr : World) : Prop where
  ls : Lists sz et wr B v' E'
  row : ∃ ys, wr.ownsRow B rt sz gv n' ys ∧ ∀ j, j < n' * sz → ys[j]? = some (.int .i64 m)
  apart : ∀ q, gv.ownBlock = some q → v'.ownBlock ≠ some q ∧ ∀ e ∈ E', e.1.ownBlock = some q → ∃ len cap, e.1 = .slice (some ⟨q, 0, none⟩) len cap ∧ len ≤ n'
  new1 : ∀ q, v'.ownBlock = some q → p q ∨ w.heap.size ≤ q
  new2 : ∀ q, gv.ownBlock = some q → p q ∨ w.heap.size ≤ q
  t : Turns p w wr
theorem HS.held {sz et rt : Nat} {p : Nat → Prop} {w : World} {B n' : Nat} {m : Int} {v' gv : Value} {E' : List (Value × Int)} {wr : World} (h : HS sz et rt p w B n' m v' gv E' wr) : Held1 sz wr B v' (gv, m) := by
  obtain ⟨ys, h1, h2⟩ := h.row
  have h3 := h1
  rcases h1.2 with ⟨hv, _⟩ | ⟨q, cap, cur, hv, hb, hg, hnc, hcm, _⟩
  · exact Or.inl hv
  · rw [hv] at h3
    exact Or.inr ⟨q, n', cap, hv, hb, lt_of_block hg, (h.apart q (by rw [hv]; rfl)).1, hnc, hcm, fun j hj => by rw [h3.cellAt j hj]; exact h2 j hj⟩
/-- The list is held. -/
theorem HS.list {sz et rt : Nat} {p : Nat → Prop} {w : World} {B n' : Nat} {m : Int} {v' gv : Value} {E' : List (Value × Int)} {wr w3 : World} {o : Obj} {g cap c hblk slot : Nat} (h : HS sz et rt p w B n' m v' gv E' wr) (hh : hblk < B) (hp : p hblk) (hE : E'.length = c)
    (hown : w3.ownsRow B et 2 (.slice (some ⟨g, 0, none⟩) (c + 1) cap) (c + 1) (hvals E' ++ [gv, .int .i64 m])) (hgrow : (wr.alloc o).grownBy w3 v'.ownBlock) (hat : v'.ownBlock = some g ∨ g = wr.heap.size + 1) (x : Value) :
    HS sz et rt p w B n' m (.slice (some ⟨g, 0, none⟩) (c + 1) cap) gv (E' ++ [(gv, m)]) (w3.setCell ⟨hblk, slot, none⟩ x) := by
  have hT : Turns (fun k => v'.ownBlock = some k) wr w3 := ((Turns.refl _ wr).alloc _).grown hgrow (fun k hk => Or.inr hk)
  have hS : Turns (· = hblk) w3 (w3.setCell ⟨hblk, slot, none⟩ x) := (Turns.refl (· = hblk) w3).setCell (Or.inr rfl) _
  have hL := h.ls.snoc h.held hown hE hT (by rcases hat with hat | hat; · exact Or.inl hat
                                             · exact Or.inr (by omega))
  have hgB : B ≤ g := (hown.lt g rfl).1
  refine ⟨hL.turns hS (fun q hq => by simp only [Value.ownBlock, Option.some.injEq] at hq; omega) (fun e he q hq => by have := ((hL.full e he).lt q hq).1; omega), ?_, ?_, ?_, h.new2, ?_⟩
  · obtain ⟨ys, h1, h2⟩ := h.row
    refine ⟨ys, ?_, h2⟩
    refine ownsRow_setCell_other ?_ (fun c => by have := (h1.lt _ c).1; simp at this; omega) x
    obtain ⟨h3, h4⟩ := h1
    refine ⟨h3, ?_⟩
    rcases h4 with h4 | ⟨q, cap', cur, hv, hb, hg, r⟩
    · exact Or.inl h4
    · exact Or.inr ⟨q, cap', cur, hv, hb, (hT.block q (lt_of_block hg) (h.apart q (by rw [hv]; rfl)).1).trans hg, r⟩
  · intro q hq
    have ha := h.apart q hq
    have hlt : q < wr.heap.size := by
      obtain ⟨ys, h1, _⟩ := h.row
      exact (h1.lt q hq).2
    refine ⟨fun c => ?_, fun e he hb => ?_⟩
    · simp only [Value.ownBlock, Option.some.injEq] at c
      subst c
      rcases hat with hat | hat
      · exact ha.1 hat
      · omega
    · rcases List.mem_append.1 he with he | he
      · exact ha.2 e he hb
      · rw [List.mem_singleton] at he
        subst he
        obtain ⟨ys, h1, _⟩ := h.row
        rcases h1.2 with ⟨hv, _⟩ | ⟨q', cap', cur, hv, _⟩
        · rw [hv] at hq; cases hq
        · rw [hv] at hq; cases hq
          exact ⟨n', cap', hv, Nat.le_refl _⟩
  · intro q hq
    simp only [Value.ownBlock, Option.some.injEq] at hq
    subst hq
    have := h.t.size
    rcases hat with hat | hat
    · exact h.new1 _ hat
    · right; omega
  · refine Turns.setCell ?_ (Or.inr hp) x
    refine h.t.join hT (fun i hi hnp c => ?_)
    rcases h.new1 i c with h' | h'
    · exact hnp h'
    · omega
/-- One more of the mark behind it. -/
theorem HS.grow {sz et rt : Nat} {p : Nat → Prop} {w : World} {B n' : Nat} {m : Int} {v' gv : Value} {E' : List (Value × Int)} {wr w5 : World} {o : Obj} {g cap : Nat} {ys news : List Value} (h : HS sz et rt p w B n' m v' gv E' wr)
    (hys : wr.ownsRow B rt sz gv n' ys) (hm : ∀ j, j < n' * sz → ys[j]? = some (.int .i64 m)) (hnl : news.length = sz) (hnews : ∀ u ∈ news, u = .int .i64 m)
    (hown : w5.ownsRow B rt sz (.slice (some ⟨g, 0, none⟩) (n' + 1) cap) (n' + 1) (ys ++ news)) (hgrow : (wr.alloc o).grownBy w5 gv.ownBlock) (hat : gv.ownBlock = some g ∨ g = wr.heap.size + 1)
    (hst : ∀ b, gv.ownBlock = some b → ∀ j, j < n' * sz → w5.cell? ⟨b, j, none⟩ = (wr.alloc o).cell? ⟨b, j, none⟩) :
    HS sz et rt p w B (n' + 1) m v' (.slice (some ⟨g, 0, none⟩) (n' + 1) cap) E' w5 := by
  have hT : Turns (fun k => gv.ownBlock = some k) wr w5 := ((Turns.refl _ wr).alloc _).grown hgrow (fun k hk => Or.inr hk)
  refine ⟨⟨?_, fun e he => ?_⟩, ⟨ys ++ news, hown, fun j hj => ?_⟩, ?_, h.new1, ?_, ?_⟩
  · obtain ⟨h1, h2⟩ := h.ls.own
    refine ⟨h1, ?_⟩
    rcases h2 with h2 | ⟨q, cap', cur, hv, hb, hg, r⟩
    · exact Or.inl h2
    · exact Or.inr ⟨q, cap', cur, hv, hb, (hT.block q (lt_of_block hg) (fun c => (h.apart q c).1 (by rw [hv]; rfl))).trans hg, r⟩
  · have he1 := h.ls.full e he
    rcases he1 with h1 | ⟨q, len, cap', h1, h2, h3, h4, h5, h6, h7⟩
    · exact Or.inl h1
    · refine Or.inr ⟨q, len, cap', h1, h2, Nat.lt_of_lt_of_le h3 hT.size, h4, h5, h6, fun j hj => ?_⟩
      by_cases c : gv.ownBlock = some q
      · obtain ⟨len', cap'', h8, h9⟩ := (h.apart q c).2 e he (by rw [h1]; rfl)
        rw [h1] at h8
        injection h8 with _ e2 _
        subst e2
        have hle : len * sz ≤ n' * sz := Nat.mul_le_mul_right _ h9
        rw [hst q c j (by omega), World.cell?_alloc_lt _ _ _ h3]
        exact h7 j hj
      · exact (hT.cell (a := ⟨q, j, none⟩) h3 c).trans (h7 j hj)
  · have hyl := hys.1
    by_cases c : j < n' * sz
    · rw [List.getElem?_append_left (by omega)]; exact hm j c
    · rw [Nat.add_mul] at hj
      rw [List.getElem?_append_right (by omega)]
      have hlt : j - ys.length < news.length := by omega
      rw [List.getElem?_eq_getElem hlt, hnews _ (List.getElem_mem hlt)]
  · intro q hq
    simp only [Value.ownBlock, Option.some.injEq] at hq
    subst hq
    rcases hat with hat | hat
    · refine ⟨(h.apart _ hat).1, fun e he hb => ?_⟩
      obtain ⟨len, cap', h1, h2⟩ := (h.apart _ hat).2 e he hb
      exact ⟨len, cap', h1, by omega⟩
    · refine ⟨fun c => ?_, fun e he hb => ?_⟩
      · have := (h.ls.own.lt _ c).2; omega
      · have := ((h.ls.full e he).lt _ hb).2.1; omega
  · intro q hq
    simp only [Value.ownBlock, Option.some.injEq] at hq
    subst hq
    have := h.t.size
    rcases hat with hat | hat
    · exact h.new2 _ hat
    · right; omega
  · refine h.t.join hT (fun i hi hnp c => ?_)
    rcases h.new2 i c with h' | h'
    · exact hnp h'
    · omega
theorem infoH67 : (Tryd.prog.info? 67).map (fun i => (i.zero, i.size, i.bytes)) = some (some (.agg #[.slice none 0 0, .int .i64 0]), 2, 32) := by kernel_rfl
theorem infoH3 : (Tryd.prog.info? 3).map (fun i => (i.zero, i.size, i.bytes)) = some (some (.int .i64 0), 1, 8) := by kernel_rfl

theorem HS.one {sz et rt : Nat} {p : Nat → Prop} {w : World} {B n' : Nat} {m : Int} {v' gv : Value} {E' : List (Value × Int)} {wr : World} (h : HS sz et rt p w B n' m v' gv E' wr) : gv.oneCell' = true := by
  obtain ⟨ys, h1, _⟩ := h.row
  rcases h1.2 with ⟨hv, _⟩ | ⟨q, cap, cur, hv, _⟩ <;> rw [hv] <;> rfl
theorem HS.form {sz et rt : Nat} {p : Nat → Prop} {w : World} {B n' : Nat} {m : Int} {v' gv : Value} {E' : List (Value × Int)} {wr : World} (h : HS sz et rt p w B n' m v' gv E' wr) : ∃ ga gl gc, gv = .slice ga gl gc := by
  obtain ⟨ys, h1, _⟩ := h.row
  rcases h1.2 with ⟨hv, _⟩ | ⟨q, cap, cur, hv, _⟩
  · exact ⟨_, _, _, hv⟩
  · exact ⟨_, _, _, hv⟩
/-- What holds ahead of each round of the loop that holds the list. -/
def HLoop (p : Nat → Prop) (w : World) (h B n : Nat) (k m : Int) (u : Value) (c : Nat) (gs iv : Value) (wr : World) : Prop :=
  ∃ (i : Nat) (v' : Value) (E' : List (Value × Int)), iv = .int .i64 i ∧ i ≤ 3 ∧ HB wr h k v' u ∧ HS 1 67 3 p w B (n + i) m v' gs E' wr ∧ E'.length = c + i

set_option maxRecDepth 100000 in
set_option maxHeartbeats 1000000 in
theorem ints_nil (w : World) (h B n : Nat) (k : Int) (v u : Value) (E : List (Value × Int)) (hk0 : 0 ≤ k) (hk1 : k ≤ 1000) (hn : n ≤ 1000000) (hE : E.length ≤ 1000) (hHB : HB w h k v u) (hL : Lists 1 67 w B v E) (hn0 : n = 0)
    (hhB : h < B) (hBw : B ≤ w.heap.size) :
    Calls Tryd.prog 26 #[.pointer (some ⟨h, 0, none⟩), .slice none 0 0] w fun e w' => e = .returned (.tuple #[]) ∧ Turns (fun q => q = h ∨ v.ownBlock = some q ∨ (.slice none 0 0 : Value).ownBlock = some q) w w' ∧ ∃ v' E', HB w' h (k + 1) v' u ∧ Lists 1 67 w' B v' E' ∧ E'.length = E.length + 4 := by
  obtain ⟨i0, hi, hz0, hz1, hz2⟩ := info_parts infoH67
  obtain ⟨i1, hj, hy0, hy1, hy2⟩ := info_parts infoH3
  obtain ⟨p, hpdef⟩ : ∃ p : Nat → Prop, p = fun q => q = h ∨ v.ownBlock = some q ∨ (.slice none 0 0 : Value).ownBlock = some q := ⟨_, rfl⟩
  have hph : p h := by rw [hpdef]; exact Or.inl rfl
  have hpv : ∀ q, v.ownBlock = some q → p q := fun q hq => by rw [hpdef]; exact Or.inr (Or.inl hq)
  have hpl : ∀ q, (.slice none 0 0 : Value).ownBlock = some q → p q := fun q hq => by rw [hpdef]; exact Or.inr (Or.inr hq)
  rw [← hpdef]
  have c0 := hHB.c0
  have f0 := hHB.free 0
  have s0 : ∀ y, (w.setCell ⟨h, 0, none⟩ y).cell? ⟨h, 0, none⟩ = some y := fun y => World.cell?_setCell_same _ _ _ c0
  obtain ⟨m, hm⟩ : ∃ m : Int, -1000 - (k + 1) = m := ⟨_, rfl⟩
  have hS0 : Turns (· = h) w (w.setCell ⟨h, 0, none⟩ (.int .i64 (k + 1))) := (Turns.refl (· = h) w).setCell (Or.inr rfl) _
  have hB1 := hHB.set0 (k + 1)
  have hL1 : Lists 1 67 (w.setCell ⟨h, 0, none⟩ (.int .i64 (k + 1))) B v E := hL.turns hS0 (fun q hq => by have := (hL.own.lt q hq).1; omega) (fun e he q hq => by have := ((hL.full e he).lt q hq).1; omega)
  have hT1 : Turns p w (w.setCell ⟨h, 0, none⟩ (.int .i64 (k + 1))) := (Turns.refl p w).setCell (Or.inr hph) _
  have HST : Hid (HLoop p w h B n (k + 1) m u E.length (.slice none 0 0) (.int .i64 0) (w.setCell ⟨h, 0, none⟩ (.int .i64 (k + 1)))) :=
    ⟨0, v, E, rfl, by omega, hB1, ⟨hL1, ⟨[], by rw [hn0]; exact World.ownsRow_nil _ _ _ _, fun j hj => by omega⟩, fun q hq => (by cases hq), fun q hq => Or.inl (hpv q hq), fun q hq => (by cases hq), hT1⟩, rfl⟩
  have HN : Hid (n = 0) := hn0
  clear hn0
  clear hB1 hL1 hT1 hS0 hL hHB hpdef hpv hpl
  go_enter Tryd.func26, Tryd.ntmps26
  go_wp2
  go_loopw [5] (fun iv wr => iv = .int .i64 0 ∧ wr = w.setCell ⟨h, 0, none⟩ (.int .i64 (k + 1))) (fun iv _ => 0)
  case atStart => exact ⟨rfl, rfl⟩
  case round =>
    obtain ⟨rfl, hwr⟩ := hrel
    subst hwr
    go_wp2
    go_loopw [6, 7] (fun gs iv wr => HLoop p w h B n (k + 1) m u E.length gs iv wr) (fun _ iv _ => 3 - (intOf iv).toNat)
    case atStart => exact HST.out
    case round =>
      clear HST
      obtain ⟨i, v', E', rfl, hi3, hB, hS, hEl⟩ := hrel
      rename_i gs
      obtain ⟨ga, gl, gc, hgs⟩ := hS.form
      subst hgs
      have HEl : Hid (E'.length = E.length + i) := hEl
      have hEb : E'.length ≤ 2000 := by omega
      clear hEl
      have hsz := hS.t.size
      have c1 := hB.c1
      have hown := hS.ls.own
      have hone := hS.one
      have HA : Hid (HB wr h (k + 1) v' u ∧ HS 1 67 3 p w B (n + i) m v' (.slice ga gl gc) E' wr) := ⟨hB, hS⟩
      clear hB hS
      by_cases hlt : i < 3
      · go_wp2_with (at_builtin; refine wpList_append_own_at _ rfl _ _ 23 rfl B 67 i0 _ 2 32 Tryd.underlying23 hi hz0 hz1 hz2 rfl (by decide) _ _ _ rfl (hown.alloc _) ⟨wr.heap.size, 0, none⟩ 1 1 [.slice ga gl gc, .int .i64 m] rfl rfl ?c1 ?c2 ?c3 ?c4 ?c5 ?_)
        case c1 => exact World.news_of_block (cs := #[.slice ga gl gc, .int .i64 m]) (heap_alloc_new wr _)
        case c2 => intro x hx; simp at hx; rcases hx with rfl | rfl; · exact hone
                   · rfl
        case c3 => unfold maxLen; omega
        case c4 => omega
        case c5 => simp; omega
        intro v'' w3 hown3 hgrow _ hat
        obtain ⟨g', cap', hv'⟩ := owns_form hown3
        subst hv'
        have hat' : v'.ownBlock = some g' ∨ g' = wr.heap.size + 1 := by
          rcases hat with h' | h'
          · left; rw [← h']; rfl
          · right; simpa [Value.ownBlock] using h'
        have hT3 : Turns (fun q => v'.ownBlock = some q) wr w3 := ((Turns.refl _ wr).alloc _).grown hgrow (fun q hq => Or.inr hq)
        have hB3 := HA.out.1.turns hT3 (fun c => by have := (hown.lt _ c).1; omega)
        have d1 := hB3.c1
        have e1 := hB3.free 1
        have hS4 := HA.out.2.list (slot := 1) hhB hph rfl hown3 hgrow hat' (.slice (some ⟨g', 0, none⟩) (E'.length + 1) cap')
        have hB4 := hB3.set1 (.slice (some ⟨g', 0, none⟩) (E'.length + 1) cap')
        obtain ⟨w4, hw4⟩ : ∃ w4, w3.setCell ⟨h, 1, none⟩ (.slice (some ⟨g', 0, none⟩) (E'.length + 1) cap') = w4 := ⟨_, rfl⟩
        rw [hw4] at hS4 hB4
        obtain ⟨ys, hrow, hfull⟩ := hS4.row
        have hsz4 := hS4.t.size
        have HC : Hid (HB w4 h (k + 1) (.slice (some ⟨g', 0, none⟩) (E'.length + 1) cap') u ∧ HS 1 67 3 p w B (n + i) m (.slice (some ⟨g', 0, none⟩) (E'.length + 1) cap') (.slice ga gl gc) (E' ++ [(.slice ga gl gc, m)]) w4) := ⟨hB4, hS4⟩
        clear hown3 hgrow hat hat' hT3 hB3 hS4 hB4 HA hown c1
        go_wp2_with (at_builtin; refine wpList_append_stays _ rfl _ _ 41 rfl B 3 i1 (.int .i64 0) 1 8 Tryd.underlying41 hj hy0 hy1 hy2 rfl (by decide) _ _ _ rfl (hrow.alloc _) ⟨w4.heap.size, 0, none⟩ 1 1 [.int .i64 m] rfl rfl ?k1 ?k2 ?k3 ?k4 ?k5 ?k6 ?_)
        case k1 => exact cell_one_new _ _ _
        case k2 => intro x hx; simp at hx; subst hx; rfl
        case k3 => omega
        case k4 => unfold maxLen; omega
        case k5 => omega
        case k6 => simp; omega
        intro g5 cap5 w5 hown5 hgrow5 hat5 hst5
        have hS5 := HC.out.2.grow hrow hfull rfl (fun x hx => by simpa using hx) hown5 hgrow5 (by simpa using hat5) (fun b hb j hj => hst5 b hb j (by omega))
        have hT5 : Turns (fun q => (Value.slice ga gl gc).ownBlock = some q) w4 w5 := ((Turns.refl _ w4).alloc _).grown hgrow5 (fun q hq => Or.inr hq)
        have hB5 := HC.out.1.turns hT5 (fun c => by have := (hrow.lt _ c).1; omega)
        have HX : Hid (HLoop p w h B n (k + 1) m u E.length (.slice (some ⟨g5, 0, none⟩) (n + i + 1) cap5) (.int .i64 ((i : Int) + 1)) w5) :=
          ⟨i + 1, _, _, by go_num, by omega, hB5, hS5, by have := HEl.out; simp; omega⟩
        clear hS5 hT5 hB5 HC hown5 hgrow5 hat5 hst5 hrow hfull
        go_wp2
        go_roundw
        case measure => simp [intOf]; omega
        case rel => exact HX.out
      · have hie : i = 3 := by omega
        subst hie
        go_wp2_with (at_builtin; refine wpList_append_own_at _ rfl _ _ 23 rfl B 67 i0 _ 2 32 Tryd.underlying23 hi hz0 hz1 hz2 rfl (by decide) _ _ _ rfl (hown.alloc _) ⟨wr.heap.size, 0, none⟩ 1 1 [.slice ga gl gc, .int .i64 m] rfl rfl ?c1 ?c2 ?c3 ?c4 ?c5 ?_)
        case c1 => exact World.news_of_block (cs := #[.slice ga gl gc, .int .i64 m]) (heap_alloc_new wr _)
        case c2 => intro x hx; simp at hx; rcases hx with rfl | rfl; · exact hone
                   · rfl
        case c3 => unfold maxLen; omega
        case c4 => omega
        case c5 => simp; omega
        intro v'' w3 hown3 hgrow _ hat
        obtain ⟨g', cap', hv'⟩ := owns_form hown3
        subst hv'
        have hat' : v'.ownBlock = some g' ∨ g' = wr.heap.size + 1 := by
          rcases hat with h' | h'
          · left; rw [← h']; rfl
          · right; simpa [Value.ownBlock] using h'
        have hT3 : Turns (fun q => v'.ownBlock = some q) wr w3 := ((Turns.refl _ wr).alloc _).grown hgrow (fun q hq => Or.inr hq)
        have hB3 := HA.out.1.turns hT3 (fun c => by have := (hown.lt _ c).1; omega)
        have d1 := hB3.c1
        have e1 := hB3.free 1
        have hS4 := HA.out.2.list (slot := 1) hhB hph rfl hown3 hgrow hat' (.slice (some ⟨g', 0, none⟩) (E'.length + 1) cap')
        have hB4 := hB3.set1 (.slice (some ⟨g', 0, none⟩) (E'.length + 1) cap')
        have HX : Hid (Turns p w (w3.setCell ⟨h, 1, none⟩ (.slice (some ⟨g', 0, none⟩) (E'.length + 1) cap')) ∧ ∃ v' E'', HB (w3.setCell ⟨h, 1, none⟩ (.slice (some ⟨g', 0, none⟩) (E'.length + 1) cap')) h (k + 1) v' u ∧ Lists 1 67 (w3.setCell ⟨h, 1, none⟩ (.slice (some ⟨g', 0, none⟩) (E'.length + 1) cap')) B v' E'' ∧ E''.length = E.length + 4) :=
          ⟨hS4.t, _, _, hB4, hS4.ls, by have := HEl.out; simp; omega⟩
        clear hown3 hgrow hat hat' hT3 hB3 hS4 hB4 HA hown c1
        go_wp2
        go_end0
        exact ⟨rfl, HX.out⟩
set_option maxRecDepth 100000 in
set_option maxHeartbeats 1000000 in
theorem ints_some (w : World) (h B n g cap : Nat) (k : Int) (v u : Value) (E : List (Value × Int)) (hk0 : 0 ≤ k) (hk1 : k ≤ 1000) (hn : n ≤ 1000000) (hE : E.length ≤ 1000) (hHB : HB w h k v u) (hL : Lists 1 67 w B v E) (xs : List Value) (hl : w.ownsRow B 3 1 (.slice (some ⟨g, 0, none⟩) n cap) n xs)
    (hhB : h < B) (hBw : B ≤ w.heap.size) (hap : ∀ q, (.slice (some ⟨g, 0, none⟩) n cap : Value).ownBlock = some q → v.ownBlock ≠ some q ∧ ∀ e ∈ E, e.1.ownBlock ≠ some q) :
    Calls Tryd.prog 26 #[.pointer (some ⟨h, 0, none⟩), .slice (some ⟨g, 0, none⟩) n cap] w fun e w' => e = .returned (.tuple #[]) ∧ Turns (fun q => q = h ∨ v.ownBlock = some q ∨ (.slice (some ⟨g, 0, none⟩) n cap : Value).ownBlock = some q) w w' ∧ ∃ v' E', HB w' h (k + 1) v' u ∧ Lists 1 67 w' B v' E' ∧ E'.length = E.length + 4 := by
  obtain ⟨i0, hi, hz0, hz1, hz2⟩ := info_parts infoH67
  obtain ⟨i1, hj, hy0, hy1, hy2⟩ := info_parts infoH3
  obtain ⟨p, hpdef⟩ : ∃ p : Nat → Prop, p = fun q => q = h ∨ v.ownBlock = some q ∨ (.slice (some ⟨g, 0, none⟩) n cap : Value).ownBlock = some q := ⟨_, rfl⟩
  have hph : p h := by rw [hpdef]; exact Or.inl rfl
  have hpv : ∀ q, v.ownBlock = some q → p q := fun q hq => by rw [hpdef]; exact Or.inr (Or.inl hq)
  have hpl : ∀ q, (.slice (some ⟨g, 0, none⟩) n cap : Value).ownBlock = some q → p q := fun q hq => by rw [hpdef]; exact Or.inr (Or.inr hq)
  rw [← hpdef]
  have c0 := hHB.c0
  have f0 := hHB.free 0
  have s0 : ∀ y, (w.setCell ⟨h, 0, none⟩ y).cell? ⟨h, 0, none⟩ = some y := fun y => World.cell?_setCell_same _ _ _ c0
  obtain ⟨m, hm⟩ : ∃ m : Int, -1000 - (k + 1) = m := ⟨_, rfl⟩
  have hS0 : Turns (· = h) w (w.setCell ⟨h, 0, none⟩ (.int .i64 (k + 1))) := (Turns.refl (· = h) w).setCell (Or.inr rfl) _
  have hB1 := hHB.set0 (k + 1)
  have hL1 : Lists 1 67 (w.setCell ⟨h, 0, none⟩ (.int .i64 (k + 1))) B v E := hL.turns hS0 (fun q hq => by have := (hL.own.lt q hq).1; omega) (fun e he q hq => by have := ((hL.full e he).lt q hq).1; omega)
  have hT1 : Turns p w (w.setCell ⟨h, 0, none⟩ (.int .i64 (k + 1))) := (Turns.refl p w).setCell (Or.inr hph) _
  have hgB := (hl.lt g rfl).1
  have hR0 : (w.setCell ⟨h, 0, none⟩ (.int .i64 (k + 1))).ownsRow B 3 1 (.slice (some ⟨g, 0, none⟩) n cap) n xs := ownsRow_setCell_other hl (fun c => by simp [Value.ownBlock] at c; omega) _
  have HPV : Hid (∀ q, v.ownBlock = some q → p q) := hpv
  have HPL : Hid (p g) := hpl g rfl
  have HAP : Hid (v.ownBlock ≠ some g ∧ ∀ e ∈ E, e.1.ownBlock ≠ some g) := hap g rfl
  have HPH : Hid (p h) := hph
  have HR0 : Hid (∃ ys, (w.setCell ⟨h, 0, none⟩ (.int .i64 (k + 1))).ownsRow B 3 1 (.slice (some ⟨g, 0, none⟩) n cap) n ys ∧ (∀ j, j < 0 → ys[j]? = some (.int .i64 m)) ∧ HB (w.setCell ⟨h, 0, none⟩ (.int .i64 (k + 1))) h (k + 1) v u ∧ Lists 1 67 (w.setCell ⟨h, 0, none⟩ (.int .i64 (k + 1))) B v E ∧ Turns p w (w.setCell ⟨h, 0, none⟩ (.int .i64 (k + 1)))) :=
    ⟨xs, hR0, fun j hj => by omega, hB1, hL1, hT1⟩
  clear hB1 hL1 hT1 hS0 hL hHB hap hpdef hpv hpl hl hR0
  go_enter Tryd.func26, Tryd.ntmps26
  go_wp2
  go_loopw [5] (fun iv wr => ∃ i : Nat, iv = .int .i64 i ∧ i ≤ n ∧ ∃ ys, wr.ownsRow B 3 1 (.slice (some ⟨g, 0, none⟩) n cap) n ys ∧ (∀ j, j < i → ys[j]? = some (.int .i64 m)) ∧ HB wr h (k + 1) v u ∧ Lists 1 67 wr B v E ∧ Turns p w wr) (fun iv _ => n - (intOf iv).toNat)
  case atStart => exact ⟨0, rfl, Nat.zero_le _, HR0.out⟩
  case round =>
    clear HR0
    obtain ⟨i, rfl, hin, ys, hrow, hys, hB, hL, hT⟩ := hrel
    by_cases hlt : i < n
    · have hyl : ys.length = n := by have := hrow.1; omega
      have hc : wr.cell? ⟨g, i, none⟩ = some ys[i] := by rw [hrow.cellAt i (by omega)]; exact List.getElem?_eq_getElem (by omega)
      have hf := hrow.frozenAt i
      have hS1 : Turns (· = g) wr (wr.setCell ⟨g, i, none⟩ (.int .i64 m)) := (Turns.refl (· = g) wr).setCell (Or.inr rfl) _
      have HX : Hid (∃ i' : Nat, (Value.int .i64 ((i : Int) + 1)) = .int .i64 i' ∧ i' ≤ n ∧ ∃ ys, (wr.setCell ⟨g, i, none⟩ (.int .i64 m)).ownsRow B 3 1 (.slice (some ⟨g, 0, none⟩) n cap) n ys ∧ (∀ j, j < i' → ys[j]? = some (.int .i64 m)) ∧ HB (wr.setCell ⟨g, i, none⟩ (.int .i64 m)) h (k + 1) v u ∧ Lists 1 67 (wr.setCell ⟨g, i, none⟩ (.int .i64 m)) B v E ∧ Turns p w (wr.setCell ⟨g, i, none⟩ (.int .i64 m))) := by
        refine ⟨i + 1, by go_num, by omega, ys.set i (.int .i64 m), owns_set hrow i _, fun j hj => ?_, hB.turns hS1 (by omega), hL.turns hS1 (fun q hq c => HAP.out.1 (by rw [← c]; exact hq)) (fun e he q hq c => HAP.out.2 e he (by rw [← c]; exact hq)), hT.setCell (Or.inr HPL.out) _⟩
        rw [List.getElem?_set]
        by_cases c : i = j
        · rw [if_pos c, if_pos (by omega)]
        · rw [if_neg c]; exact hys j (by omega)
      generalize ys[i] = y0 at *
      clear hrow hys hB hL hT hS1
      go_wp2
      go_roundw
      case measure => simp [intOf]; omega
      case rel => exact HX.out
    · have hie : n = i := by omega
      have HST : Hid (HLoop p w h B n (k + 1) m u E.length (.slice (some ⟨g, 0, none⟩) n cap) (.int .i64 0) wr) :=
        ⟨0, v, E, rfl, by omega, hB, ⟨hL, ⟨ys, hrow, fun j hj => hys j (by omega)⟩, fun q hq => (by cases hq; exact ⟨HAP.out.1, fun e he hb => absurd hb (HAP.out.2 e he)⟩), fun q hq => Or.inl (HPV.out q hq), fun q hq => (by cases hq; exact Or.inl HPL.out), hT⟩, rfl⟩
      clear hrow hys hB hL hT hin
      subst hie
      go_wp2
      go_loopw [6, 7] (fun gs iv wr => HLoop p w h B n (k + 1) m u E.length gs iv wr) (fun _ iv _ => 3 - (intOf iv).toNat)
      case atStart => exact HST.out
      case round =>
        clear HST
        obtain ⟨i, v', E', rfl, hi3, hB, hS, hEl⟩ := hrel
        rename_i gs
        obtain ⟨ga, gl, gc, hgs⟩ := hS.form
        subst hgs
        have HEl : Hid (E'.length = E.length + i) := hEl
        have hEb : E'.length ≤ 2000 := by omega
        clear hEl
        have hsz := hS.t.size
        have c1 := hB.c1
        have hown := hS.ls.own
        have hone := hS.one
        have HA : Hid (HB wr h (k + 1) v' u ∧ HS 1 67 3 p w B (n + i) m v' (.slice ga gl gc) E' wr) := ⟨hB, hS⟩
        clear hB hS
        by_cases hlt : i < 3
        · go_wp2_with (at_builtin; refine wpList_append_own_at _ rfl _ _ 23 rfl B 67 i0 _ 2 32 Tryd.underlying23 hi hz0 hz1 hz2 rfl (by decide) _ _ _ rfl (hown.alloc _) ⟨wr.heap.size, 0, none⟩ 1 1 [.slice ga gl gc, .int .i64 m] rfl rfl ?c1 ?c2 ?c3 ?c4 ?c5 ?_)
          case c1 => exact World.news_of_block (cs := #[.slice ga gl gc, .int .i64 m]) (heap_alloc_new wr _)
          case c2 => intro x hx; simp at hx; rcases hx with rfl | rfl; · exact hone
                     · rfl
          case c3 => unfold maxLen; omega
          case c4 => omega
          case c5 => simp; omega
          intro v'' w3 hown3 hgrow _ hat
          obtain ⟨g', cap', hv'⟩ := owns_form hown3
          subst hv'
          have hat' : v'.ownBlock = some g' ∨ g' = wr.heap.size + 1 := by
            rcases hat with h' | h'
            · left; rw [← h']; rfl
            · right; simpa [Value.ownBlock] using h'
          have hT3 : Turns (fun q => v'.ownBlock = some q) wr w3 := ((Turns.refl _ wr).alloc _).grown hgrow (fun q hq => Or.inr hq)
          have hB3 := HA.out.1.turns hT3 (fun c => by have := (hown.lt _ c).1; omega)
          have d1 := hB3.c1
          have e1 := hB3.free 1
          have hS4 := HA.out.2.list (slot := 1) hhB hph rfl hown3 hgrow hat' (.slice (some ⟨g', 0, none⟩) (E'.length + 1) cap')
          have hB4 := hB3.set1 (.slice (some ⟨g', 0, none⟩) (E'.length + 1) cap')
          obtain ⟨w4, hw4⟩ : ∃ w4, w3.setCell ⟨h, 1, none⟩ (.slice (some ⟨g', 0, none⟩) (E'.length + 1) cap') = w4 := ⟨_, rfl⟩
          rw [hw4] at hS4 hB4
          obtain ⟨ys, hrow, hfull⟩ := hS4.row
          have hsz4 := hS4.t.size
          have HC : Hid (HB w4 h (k + 1) (.slice (some ⟨g', 0, none⟩) (E'.length + 1) cap') u ∧ HS 1 67 3 p w B (n + i) m (.slice (some ⟨g', 0, none⟩) (E'.length + 1) cap') (.slice ga gl gc) (E' ++ [(.slice ga gl gc, m)]) w4) := ⟨hB4, hS4⟩
          clear hown3 hgrow hat hat' hT3 hB3 hS4 hB4 HA hown c1
          go_wp2_with (at_builtin; refine wpList_append_stays _ rfl _ _ 41 rfl B 3 i1 (.int .i64 0) 1 8 Tryd.underlying41 hj hy0 hy1 hy2 rfl (by decide) _ _ _ rfl (hrow.alloc _) ⟨w4.heap.size, 0, none⟩ 1 1 [.int .i64 m] rfl rfl ?k1 ?k2 ?k3 ?k4 ?k5 ?k6 ?_)
          case k1 => exact cell_one_new _ _ _
          case k2 => intro x hx; simp at hx; subst hx; rfl
          case k3 => omega
          case k4 => unfold maxLen; omega
          case k5 => omega
          case k6 => simp; omega
          intro g5 cap5 w5 hown5 hgrow5 hat5 hst5
          have hS5 := HC.out.2.grow hrow hfull rfl (fun x hx => by simpa using hx) hown5 hgrow5 (by simpa using hat5) (fun b hb j hj => hst5 b hb j (by omega))
          have hT5 : Turns (fun q => (Value.slice ga gl gc).ownBlock = some q) w4 w5 := ((Turns.refl _ w4).alloc _).grown hgrow5 (fun q hq => Or.inr hq)
          have hB5 := HC.out.1.turns hT5 (fun c => by have := (hrow.lt _ c).1; omega)
          have HX : Hid (HLoop p w h B n (k + 1) m u E.length (.slice (some ⟨g5, 0, none⟩) (n + i + 1) cap5) (.int .i64 ((i : Int) + 1)) w5) :=
            ⟨i + 1, _, _, by go_num, by omega, hB5, hS5, by have := HEl.out; simp; omega⟩
          clear hS5 hT5 hB5 HC hown5 hgrow5 hat5 hst5 hrow hfull
          go_wp2
          go_roundw
          case measure => simp [intOf]; omega
          case rel => exact HX.out
        · have hie : i = 3 := by omega
          subst hie
          go_wp2_with (at_builtin; refine wpList_append_own_at _ rfl _ _ 23 rfl B 67 i0 _ 2 32 Tryd.underlying23 hi hz0 hz1 hz2 rfl (by decide) _ _ _ rfl (hown.alloc _) ⟨wr.heap.size, 0, none⟩ 1 1 [.slice ga gl gc, .int .i64 m] rfl rfl ?c1 ?c2 ?c3 ?c4 ?c5 ?_)
          case c1 => exact World.news_of_block (cs := #[.slice ga gl gc, .int .i64 m]) (heap_alloc_new wr _)
          case c2 => intro x hx; simp at hx; rcases hx with rfl | rfl; · exact hone
                     · rfl
          case c3 => unfold maxLen; omega
          case c4 => omega
          case c5 => simp; omega
          intro v'' w3 hown3 hgrow _ hat
          obtain ⟨g', cap', hv'⟩ := owns_form hown3
          subst hv'
          have hat' : v'.ownBlock = some g' ∨ g' = wr.heap.size + 1 := by
            rcases hat with h' | h'
            · left; rw [← h']; rfl
            · right; simpa [Value.ownBlock] using h'
          have hT3 : Turns (fun q => v'.ownBlock = some q) wr w3 := ((Turns.refl _ wr).alloc _).grown hgrow (fun q hq => Or.inr hq)
          have hB3 := HA.out.1.turns hT3 (fun c => by have := (hown.lt _ c).1; omega)
          have d1 := hB3.c1
          have e1 := hB3.free 1
          have hS4 := HA.out.2.list (slot := 1) hhB hph rfl hown3 hgrow hat' (.slice (some ⟨g', 0, none⟩) (E'.length + 1) cap')
          have hB4 := hB3.set1 (.slice (some ⟨g', 0, none⟩) (E'.length + 1) cap')
          have HX : Hid (Turns p w (w3.setCell ⟨h, 1, none⟩ (.slice (some ⟨g', 0, none⟩) (E'.length + 1) cap')) ∧ ∃ v' E'', HB (w3.setCell ⟨h, 1, none⟩ (.slice (some ⟨g', 0, none⟩) (E'.length + 1) cap')) h (k + 1) v' u ∧ Lists 1 67 (w3.setCell ⟨h, 1, none⟩ (.slice (some ⟨g', 0, none⟩) (E'.length + 1) cap')) B v' E'' ∧ E''.length = E.length + 4) :=
            ⟨hS4.t, _, _, hB4, hS4.ls, by have := HEl.out; simp; omega⟩
          clear hown3 hgrow hat hat' hT3 hB3 hS4 hB4 HA hown c1
          go_wp2
          go_end0
          exact ⟨rfl, HX.out⟩
theorem ints_any (w : World) (h B n : Nat) (k : Int) (v u lv : Value) (E : List (Value × Int)) (xs : List Value) (hk0 : 0 ≤ k) (hk1 : k ≤ 1000) (hn : n ≤ 1000000) (hE : E.length ≤ 1000) (hHB : HB w h k v u) (hL : Lists 1 67 w B v E) (hl : w.ownsRow B 3 1 lv n xs)
    (hhB : h < B) (hBw : B ≤ w.heap.size) (hap : ∀ q, lv.ownBlock = some q → v.ownBlock ≠ some q ∧ ∀ e ∈ E, e.1.ownBlock ≠ some q) :
    Calls Tryd.prog 26 #[.pointer (some ⟨h, 0, none⟩), lv] w fun e w' => e = .returned (.tuple #[]) ∧ Turns (fun q => q = h ∨ v.ownBlock = some q ∨ lv.ownBlock = some q) w w' ∧ ∃ v' E', HB w' h (k + 1) v' u ∧ Lists 1 67 w' B v' E' ∧ E'.length = E.length + 4 := by
  rcases hl.2 with ⟨h1, h2⟩ | ⟨g, cap, _, h1, _⟩
  · subst h1
    exact ints_nil w h B n k v u E hk0 hk1 hn hE hHB hL h2 hhB hBw
  · subst h1
    exact ints_some w h B n g cap k v u E hk0 hk1 hn hE hHB hL xs hl hhB hBw hap
#print axioms ints_any
end Go.Proofs.YtdogncjcainhlaaDoor
