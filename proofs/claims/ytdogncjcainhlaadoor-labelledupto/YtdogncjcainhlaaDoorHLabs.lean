/- The walk of (*Held).labels: a list of labels is written full of a mark, and three more behind it, and held at each step. -/
import Derived.Test.YtdogncjcainhlaaDoorHInts
namespace Go.Proofs.YtdogncjcainhlaaDoor
open Go.RowKit
open Mem

theorem infoH69 : (Tryd.prog.info? 69).map (fun i => (i.zero, i.size, i.bytes)) = some (some (.agg #[.slice none 0 0, .int .i64 0]), 2, 32) := by kernel_rfl
theorem infoH54 : (Tryd.prog.info? 54).map (fun i => (i.zero, i.size, i.bytes)) = some (some (.agg #[.int .i64 0, .int .i64 0, .int .i64 0]), 3, 24) := by kernel_rfl

/-- What holds ahead of each round of the loop that holds the list. -/
def HLoopL (p : Nat → Prop) (w : World) (h B n : Nat) (k m : Int) (u : Value) (c : Nat) (gs iv : Value) (wr : World) : Prop :=
  ∃ (i : Nat) (v' : Value) (E' : List (Value × Int)), iv = .int .i64 i ∧ i ≤ 3 ∧ HB wr h k u v' ∧ HS 3 69 54 p w B (n + i) m v' gs E' wr ∧ E'.length = c + i

set_option maxRecDepth 100000 in
set_option maxHeartbeats 1000000 in
theorem labs_nil (w : World) (h B n : Nat) (k : Int) (v u : Value) (E : List (Value × Int)) (hk0 : 0 ≤ k) (hk1 : k ≤ 1000) (hn : n ≤ 1000000) (hE : E.length ≤ 1000) (hHB : HB w h k u v) (hL : Lists 3 69 w B v E) (hn0 : n = 0)
    (hhB : h < B) (hBw : B ≤ w.heap.size) :
    Calls Tryd.prog 32 #[.pointer (some ⟨h, 0, none⟩), .slice none 0 0] w fun e w' => e = .returned (.tuple #[]) ∧ Turns (fun q => q = h ∨ v.ownBlock = some q ∨ (.slice none 0 0 : Value).ownBlock = some q) w w' ∧ ∃ v' E', HB w' h (k + 1) u v' ∧ Lists 3 69 w' B v' E' ∧ E'.length = E.length + 4 := by
  obtain ⟨i0, hi, hz0, hz1, hz2⟩ := info_parts infoH69
  obtain ⟨i1, hj, hy0, hy1, hy2⟩ := info_parts infoH54
  obtain ⟨p, hpdef⟩ : ∃ p : Nat → Prop, p = fun q => q = h ∨ v.ownBlock = some q ∨ (.slice none 0 0 : Value).ownBlock = some q := ⟨_, rfl⟩
  have hph : p h := by rw [hpdef]; exact Or.inl rfl
  have hpv : ∀ q, v.ownBlock = some q → p q := fun q hq => by rw [hpdef]; exact Or.inr (Or.inl hq)
  have hpl : ∀ q, (.slice none 0 0 : Value).ownBlock = some q → p q := fun q hq => by rw [hpdef]; exact Or.inr (Or.inr hq)
  rw [← hpdef]
  have c0 := hHB.c0
  have f0 := hHB.free 0
  have s0 : ∀ y, (w.setCell ⟨h, 0, none⟩ y).cell? ⟨h, 0, none⟩ = some y := fun y => World.cell?_setCell_same _ _ _ c0
  obtain ⟨m, hm⟩ : ∃ m : Int, -1000 - (k + 1) = m := ⟨_, rfl⟩
  have hS0 : Turns (· = h) w (w.setCell ⟨h, 0, none⟩ (.int .i64 (k + 1))) := (Turns.refl (· = h) w).setCell (Or.inr rfl) _
  have hB1 := hHB.set0 (k + 1)
  have hL1 : Lists 3 69 (w.setCell ⟨h, 0, none⟩ (.int .i64 (k + 1))) B v E := hL.turns hS0 (fun q hq => by have := (hL.own.lt q hq).1; omega) (fun e he q hq => by have := ((hL.full e he).lt q hq).1; omega)
  have hT1 : Turns p w (w.setCell ⟨h, 0, none⟩ (.int .i64 (k + 1))) := (Turns.refl p w).setCell (Or.inr hph) _
  have HST : Hid (HLoopL p w h B n (k + 1) m u E.length (.slice none 0 0) (.int .i64 0) (w.setCell ⟨h, 0, none⟩ (.int .i64 (k + 1)))) :=
    ⟨0, v, E, rfl, by omega, hB1, ⟨hL1, ⟨[], by rw [hn0]; exact World.ownsRow_nil _ _ _ _, fun j hj => by omega⟩, fun q hq => (by cases hq), fun q hq => Or.inl (hpv q hq), fun q hq => (by cases hq), hT1⟩, rfl⟩
  have HN : Hid (n = 0) := hn0
  clear hn0
  clear hB1 hL1 hT1 hS0 hL hHB hpdef hpv hpl
  go_enter Tryd.func32, Tryd.ntmps32
  go_wp2
  go_loopw [5] (fun iv wr => iv = .int .i64 0 ∧ wr = w.setCell ⟨h, 0, none⟩ (.int .i64 (k + 1))) (fun iv _ => 0)
  case atStart => exact ⟨rfl, rfl⟩
  case round =>
    obtain ⟨rfl, hwr⟩ := hrel
    subst hwr
    go_wp2
    go_loopw [6, 7] (fun gs iv wr => HLoopL p w h B n (k + 1) m u E.length gs iv wr) (fun _ iv _ => 3 - (intOf iv).toNat)
    case atStart => exact HST.out
    case round =>
      clear HST
      obtain ⟨i, v', E', rfl, hi3, hB, hS, hEl⟩ := hrel
      rename_i gs
      obtain ⟨ga, gl, gc, hgs⟩ := hS.form
      subst hgs
      have HEl : Hid (E'.length = E.length + i) := hEl
      have hEb : E'.length ≤ 2000 := by omega
      clear hEl
      have hsz := hS.t.size
      have c1 := hB.c2
      have hown := hS.ls.own
      have hone := hS.one
      have HA : Hid (HB wr h (k + 1) u v' ∧ HS 3 69 54 p w B (n + i) m v' (.slice ga gl gc) E' wr) := ⟨hB, hS⟩
      clear hB hS
      by_cases hlt : i < 3
      · go_wp2_with (at_builtin; refine wpList_append_own_at _ rfl _ _ 24 rfl B 69 i0 _ 2 32 Tryd.underlying24 hi hz0 hz1 hz2 rfl (by decide) _ _ _ rfl (hown.alloc _) ⟨wr.heap.size, 0, none⟩ 1 1 [.slice ga gl gc, .int .i64 m] rfl rfl ?c1 ?c2 ?c3 ?c4 ?c5 ?_)
        case c1 => exact World.news_of_block (cs := #[.slice ga gl gc, .int .i64 m]) (heap_alloc_new wr _)
        case c2 => intro x hx; simp at hx; rcases hx with rfl | rfl; · exact hone
                   · rfl
        case c3 => unfold maxLen; omega
        case c4 => omega
        case c5 => simp; omega
        intro v'' w3 hown3 hgrow _ hat
        obtain ⟨g', cap', hv'⟩ := owns_form hown3
        subst hv'
        have hat' : v'.ownBlock = some g' ∨ g' = wr.heap.size + 1 := by
          rcases hat with h' | h'
          · left; rw [← h']; rfl
          · right; simpa [Value.ownBlock] using h'
        have hT3 : Turns (fun q => v'.ownBlock = some q) wr w3 := ((Turns.refl _ wr).alloc _).grown hgrow (fun q hq => Or.inr hq)
        have hB3 := HA.out.1.turns hT3 (fun c => by have := (hown.lt _ c).1; omega)
        have d1 := hB3.c2
        have e1 := hB3.free 2
        have hS4 := HA.out.2.list (slot := 2) hhB hph rfl hown3 hgrow hat' (.slice (some ⟨g', 0, none⟩) (E'.length + 1) cap')
        have hB4 := hB3.set2 (.slice (some ⟨g', 0, none⟩) (E'.length + 1) cap')
        obtain ⟨w4, hw4⟩ : ∃ w4, w3.setCell ⟨h, 2, none⟩ (.slice (some ⟨g', 0, none⟩) (E'.length + 1) cap') = w4 := ⟨_, rfl⟩
        rw [hw4] at hS4 hB4
        obtain ⟨ys, hrow, hfull⟩ := hS4.row
        have hsz4 := hS4.t.size
        have HC : Hid (HB w4 h (k + 1) u (.slice (some ⟨g', 0, none⟩) (E'.length + 1) cap') ∧ HS 3 69 54 p w B (n + i) m (.slice (some ⟨g', 0, none⟩) (E'.length + 1) cap') (.slice ga gl gc) (E' ++ [(.slice ga gl gc, m)]) w4) := ⟨hB4, hS4⟩
        clear hown3 hgrow hat hat' hT3 hB3 hS4 hB4 HA hown c1
        go_wp2_with (at_builtin; refine wpList_append_stays _ rfl _ _ 48 rfl B 54 i1 _ 3 24 Tryd.underlying48 hj hy0 hy1 hy2 rfl (by decide) _ _ _ rfl (hrow.alloc _) ⟨w4.heap.size, 0, none⟩ 1 1 [.int .i64 m, .int .i64 m, .int .i64 m] rfl rfl ?k1 ?k2 ?k3 ?k4 ?k5 ?k6 ?_)
        case k1 => exact World.news_of_block (cs := #[.int .i64 m, .int .i64 m, .int .i64 m]) (heap_alloc_new w4 _)
        case k2 => intro x hx; simp at hx; subst hx; rfl
        case k3 => omega
        case k4 => unfold maxLen; omega
        case k5 => omega
        case k6 => simp; omega
        intro g5 cap5 w5 hown5 hgrow5 hat5 hst5
        have hS5 := HC.out.2.grow hrow hfull rfl (fun x hx => by simpa using hx) hown5 hgrow5 (by simpa using hat5) (fun b hb j hj => hst5 b hb j (by omega))
        have hT5 : Turns (fun q => (Value.slice ga gl gc).ownBlock = some q) w4 w5 := ((Turns.refl _ w4).alloc _).grown hgrow5 (fun q hq => Or.inr hq)
        have hB5 := HC.out.1.turns hT5 (fun c => by have := (hrow.lt _ c).1; omega)
        have HX : Hid (HLoopL p w h B n (k + 1) m u E.length (.slice (some ⟨g5, 0, none⟩) (n + i + 1) cap5) (.int .i64 ((i : Int) + 1)) w5) :=
          ⟨i + 1, _, _, by go_num, by omega, hB5, hS5, by have := HEl.out; simp; omega⟩
        clear hS5 hT5 hB5 HC hown5 hgrow5 hat5 hst5 hrow hfull
        go_wp2
        go_roundw
        case measure => simp [intOf]; omega
        case rel => exact HX.out
      · have hie : i = 3 := by omega
        subst hie
        go_wp2_with (at_builtin; refine wpList_append_own_at _ rfl _ _ 24 rfl B 69 i0 _ 2 32 Tryd.underlying24 hi hz0 hz1 hz2 rfl (by decide) _ _ _ rfl (hown.alloc _) ⟨wr.heap.size, 0, none⟩ 1 1 [.slice ga gl gc, .int .i64 m] rfl rfl ?c1 ?c2 ?c3 ?c4 ?c5 ?_)
        case c1 => exact World.news_of_block (cs := #[.slice ga gl gc, .int .i64 m]) (heap_alloc_new wr _)
        case c2 => intro x hx; simp at hx; rcases hx with rfl | rfl; · exact hone
                   · rfl
        case c3 => unfold maxLen; omega
        case c4 => omega
        case c5 => simp; omega
        intro v'' w3 hown3 hgrow _ hat
        obtain ⟨g', cap', hv'⟩ := owns_form hown3
        subst hv'
        have hat' : v'.ownBlock = some g' ∨ g' = wr.heap.size + 1 := by
          rcases hat with h' | h'
          · left; rw [← h']; rfl
          · right; simpa [Value.ownBlock] using h'
        have hT3 : Turns (fun q => v'.ownBlock = some q) wr w3 := ((Turns.refl _ wr).alloc _).grown hgrow (fun q hq => Or.inr hq)
        have hB3 := HA.out.1.turns hT3 (fun c => by have := (hown.lt _ c).1; omega)
        have d1 := hB3.c2
        have e1 := hB3.free 2
        have hS4 := HA.out.2.list (slot := 2) hhB hph rfl hown3 hgrow hat' (.slice (some ⟨g', 0, none⟩) (E'.length + 1) cap')
        have hB4 := hB3.set2 (.slice (some ⟨g', 0, none⟩) (E'.length + 1) cap')
        have HX : Hid (Turns p w (w3.setCell ⟨h, 2, none⟩ (.slice (some ⟨g', 0, none⟩) (E'.length + 1) cap')) ∧ ∃ v' E'', HB (w3.setCell ⟨h, 2, none⟩ (.slice (some ⟨g', 0, none⟩) (E'.length + 1) cap')) h (k + 1) u v' ∧ Lists 3 69 (w3.setCell ⟨h, 2, none⟩ (.slice (some ⟨g', 0, none⟩) (E'.length + 1) cap')) B v' E'' ∧ E''.length = E.length + 4) :=
          ⟨hS4.t, _, _, hB4, hS4.ls, by have := HEl.out; simp; omega⟩
        clear hown3 hgrow hat hat' hT3 hB3 hS4 hB4 HA hown c1
        go_wp2
        go_end0
        exact ⟨rfl, HX.out⟩
set_option maxRecDepth 100000 in
set_option maxHeartbeats 1000000 in
theorem labs_some (w : World) (h B n g cap : Nat) (k : Int) (v u : Value) (E : List (Value × Int)) (hk0 : 0 ≤ k) (hk1 : k ≤ 1000) (hn : n ≤ 1000000) (hE : E.length ≤ 1000) (hHB : HB w h k u v) (hL : Lists 3 69 w B v E) (xs : List Value) (hl : w.ownsRow B 54 3 (.slice (some ⟨g, 0, none⟩) n cap) n xs)
    (hhB : h < B) (hBw : B ≤ w.heap.size) (hap : ∀ q, (.slice (some ⟨g, 0, none⟩) n cap : Value).ownBlock = some q → v.ownBlock ≠ some q ∧ ∀ e ∈ E, e.1.ownBlock ≠ some q) :
    Calls Tryd.prog 32 #[.pointer (some ⟨h, 0, none⟩), .slice (some ⟨g, 0, none⟩) n cap] w fun e w' => e = .returned (.tuple #[]) ∧ Turns (fun q => q = h ∨ v.ownBlock = some q ∨ (.slice (some ⟨g, 0, none⟩) n cap : Value).ownBlock = some q) w w' ∧ ∃ v' E', HB w' h (k + 1) u v' ∧ Lists 3 69 w' B v' E' ∧ E'.length = E.length + 4 := by
  obtain ⟨i0, hi, hz0, hz1, hz2⟩ := info_parts infoH69
  obtain ⟨i1, hj, hy0, hy1, hy2⟩ := info_parts infoH54
  obtain ⟨p, hpdef⟩ : ∃ p : Nat → Prop, p = fun q => q = h ∨ v.ownBlock = some q ∨ (.slice (some ⟨g, 0, none⟩) n cap : Value).ownBlock = some q := ⟨_, rfl⟩
  have hph : p h := by rw [hpdef]; exact Or.inl rfl
  have hpv : ∀ q, v.ownBlock = some q → p q := fun q hq => by rw [hpdef]; exact Or.inr (Or.inl hq)
  have hpl : ∀ q, (.slice (some ⟨g, 0, none⟩) n cap : Value).ownBlock = some q → p q := fun q hq => by rw [hpdef]; exact Or.inr (Or.inr hq)
  rw [← hpdef]
  have c0 := hHB.c0
  have f0 := hHB.free 0
  have s0 : ∀ y, (w.setCell ⟨h, 0, none⟩ y).cell? ⟨h, 0, none⟩ = some y := fun y => World.cell?_setCell_same _ _ _ c0
  obtain ⟨m, hm⟩ : ∃ m : Int, -1000 - (k + 1) = m := ⟨_, rfl⟩
  have hS0 : Turns (· = h) w (w.setCell ⟨h, 0, none⟩ (.int .i64 (k + 1))) := (Turns.refl (· = h) w).setCell (Or.inr rfl) _
  have hB1 := hHB.set0 (k + 1)
  have hL1 : Lists 3 69 (w.setCell ⟨h, 0, none⟩ (.int .i64 (k + 1))) B v E := hL.turns hS0 (fun q hq => by have := (hL.own.lt q hq).1; omega) (fun e he q hq => by have := ((hL.full e he).lt q hq).1; omega)
  have hT1 : Turns p w (w.setCell ⟨h, 0, none⟩ (.int .i64 (k + 1))) := (Turns.refl p w).setCell (Or.inr hph) _
  have hgB := (hl.lt g rfl).1
  have hR0 : (w.setCell ⟨h, 0, none⟩ (.int .i64 (k + 1))).ownsRow B 54 3 (.slice (some ⟨g, 0, none⟩) n cap) n xs := ownsRow_setCell_other hl (fun c => by simp [Value.ownBlock] at c; omega) _
  have HPV : Hid (∀ q, v.ownBlock = some q → p q) := hpv
  have HPL : Hid (p g) := hpl g rfl
  have HAP : Hid (v.ownBlock ≠ some g ∧ ∀ e ∈ E, e.1.ownBlock ≠ some g) := hap g rfl
  have HPH : Hid (p h) := hph
  have HR0 : Hid (∃ ys, (w.setCell ⟨h, 0, none⟩ (.int .i64 (k + 1))).ownsRow B 54 3 (.slice (some ⟨g, 0, none⟩) n cap) n ys ∧ (∀ j, j < 0 * 3 → ys[j]? = some (.int .i64 m)) ∧ HB (w.setCell ⟨h, 0, none⟩ (.int .i64 (k + 1))) h (k + 1) u v ∧ Lists 3 69 (w.setCell ⟨h, 0, none⟩ (.int .i64 (k + 1))) B v E ∧ Turns p w (w.setCell ⟨h, 0, none⟩ (.int .i64 (k + 1)))) :=
    ⟨xs, hR0, fun j hj => by omega, hB1, hL1, hT1⟩
  clear hB1 hL1 hT1 hS0 hL hHB hap hpdef hpv hpl hl hR0
  go_enter Tryd.func32, Tryd.ntmps32
  go_wp2
  go_loopw [5] (fun iv wr => ∃ i : Nat, iv = .int .i64 i ∧ i ≤ n ∧ ∃ ys, wr.ownsRow B 54 3 (.slice (some ⟨g, 0, none⟩) n cap) n ys ∧ (∀ j, j < i * 3 → ys[j]? = some (.int .i64 m)) ∧ HB wr h (k + 1) u v ∧ Lists 3 69 wr B v E ∧ Turns p w wr) (fun iv _ => n - (intOf iv).toNat)
  case atStart => exact ⟨0, rfl, Nat.zero_le _, HR0.out⟩
  case round =>
    clear HR0
    obtain ⟨i, rfl, hin, ys, hrow, hys, hB, hL, hT⟩ := hrel
    by_cases hlt : i < n
    · have hyl : ys.length = n * 3 := hrow.1
      obtain ⟨y0, hy0⟩ : ∃ y, ys[i * 3]? = some y := ⟨_, List.getElem?_eq_getElem (by omega)⟩
      obtain ⟨y1, hy1⟩ : ∃ y, ys[i * 3 + 1]? = some y := ⟨_, List.getElem?_eq_getElem (by omega)⟩
      obtain ⟨y2, hy2⟩ : ∃ y, ys[i * 3 + 2]? = some y := ⟨_, List.getElem?_eq_getElem (by omega)⟩
      have hc0 : wr.cell? ⟨g, i * 3, none⟩ = some y0 := by rw [hrow.cellAt _ (by omega)]; exact hy0
      have hc1 : wr.cell? ⟨g, i * 3 + 1, none⟩ = some y1 := by rw [hrow.cellAt _ (by omega)]; exact hy1
      have hc2 : wr.cell? ⟨g, i * 3 + 2, none⟩ = some y2 := by rw [hrow.cellAt _ (by omega)]; exact hy2
      have hf0 := hrow.frozenAt (i * 3)
      have hf1 := hrow.frozenAt (i * 3 + 1)
      have hf2 := hrow.frozenAt (i * 3 + 2)
      have hS1 : Turns (· = g) wr (((wr.setCell ⟨g, i * 3, none⟩ (.int .i64 m)).setCell ⟨g, i * 3 + 1, none⟩ (.int .i64 m)).setCell ⟨g, i * 3 + 2, none⟩ (.int .i64 m)) := (((Turns.refl (· = g) wr).setCell (Or.inr rfl) _).setCell (Or.inr rfl) _).setCell (Or.inr rfl) _
      have HX : Hid (∃ i' : Nat, (Value.int .i64 ((i : Int) + 1)) = .int .i64 i' ∧ i' ≤ n ∧ ∃ ys, (((wr.setCell ⟨g, i * 3, none⟩ (.int .i64 m)).setCell ⟨g, i * 3 + 1, none⟩ (.int .i64 m)).setCell ⟨g, i * 3 + 2, none⟩ (.int .i64 m)).ownsRow B 54 3 (.slice (some ⟨g, 0, none⟩) n cap) n ys ∧ (∀ j, j < i' * 3 → ys[j]? = some (.int .i64 m)) ∧ HB (((wr.setCell ⟨g, i * 3, none⟩ (.int .i64 m)).setCell ⟨g, i * 3 + 1, none⟩ (.int .i64 m)).setCell ⟨g, i * 3 + 2, none⟩ (.int .i64 m)) h (k + 1) u v ∧ Lists 3 69 (((wr.setCell ⟨g, i * 3, none⟩ (.int .i64 m)).setCell ⟨g, i * 3 + 1, none⟩ (.int .i64 m)).setCell ⟨g, i * 3 + 2, none⟩ (.int .i64 m)) B v E ∧ Turns p w (((wr.setCell ⟨g, i * 3, none⟩ (.int .i64 m)).setCell ⟨g, i * 3 + 1, none⟩ (.int .i64 m)).setCell ⟨g, i * 3 + 2, none⟩ (.int .i64 m))) := by
        refine ⟨i + 1, by go_num, by omega, ((ys.set (i * 3) (.int .i64 m)).set (i * 3 + 1) (.int .i64 m)).set (i * 3 + 2) (.int .i64 m), owns_set (owns_set (owns_set hrow _ _) _ _) _ _, fun j hj => ?_, hB.turns hS1 (by omega), hL.turns hS1 (fun q hq c => HAP.out.1 (by rw [← c]; exact hq)) (fun e he q hq c => HAP.out.2 e he (by rw [← c]; exact hq)), ((hT.setCell (Or.inr HPL.out) _).setCell (Or.inr HPL.out) _).setCell (Or.inr HPL.out) _⟩
        rw [List.getElem?_set, List.getElem?_set, List.getElem?_set]
        by_cases c2 : i * 3 + 2 = j
        · rw [if_pos c2, if_pos (by simp; omega)]
        · rw [if_neg c2]
          by_cases c1 : i * 3 + 1 = j
          · rw [if_pos c1, if_pos (by simp; omega)]
          · rw [if_neg c1]
            by_cases c0 : i * 3 = j
            · rw [if_pos c0, if_pos (by omega)]
            · rw [if_neg c0]; exact hys j (by omega)
      clear hrow hys hB hL hT hS1 hy0 hy1 hy2
      have hli : (i : Int) < (n : Int) := by omega
      go_wp2
      go_roundw
      case measure => simp [intOf]; omega
      case rel => exact HX.out
    · have hie : n = i := by omega
      have HST : Hid (HLoopL p w h B n (k + 1) m u E.length (.slice (some ⟨g, 0, none⟩) n cap) (.int .i64 0) wr) :=
        ⟨0, v, E, rfl, by omega, hB, ⟨hL, ⟨ys, hrow, fun j hj => hys j (by omega)⟩, fun q hq => (by cases hq; exact ⟨HAP.out.1, fun e he hb => absurd hb (HAP.out.2 e he)⟩), fun q hq => Or.inl (HPV.out q hq), fun q hq => (by cases hq; exact Or.inl HPL.out), hT⟩, rfl⟩
      clear hrow hys hB hL hT hin
      subst hie
      go_wp2
      go_loopw [6, 7] (fun gs iv wr => HLoopL p w h B n (k + 1) m u E.length gs iv wr) (fun _ iv _ => 3 - (intOf iv).toNat)
      case atStart => exact HST.out
      case round =>
        clear HST
        obtain ⟨i, v', E', rfl, hi3, hB, hS, hEl⟩ := hrel
        rename_i gs
        obtain ⟨ga, gl, gc, hgs⟩ := hS.form
        subst hgs
        have HEl : Hid (E'.length = E.length + i) := hEl
        have hEb : E'.length ≤ 2000 := by omega
        clear hEl
        have hsz := hS.t.size
        have c1 := hB.c2
        have hown := hS.ls.own
        have hone := hS.one
        have HA : Hid (HB wr h (k + 1) u v' ∧ HS 3 69 54 p w B (n + i) m v' (.slice ga gl gc) E' wr) := ⟨hB, hS⟩
        clear hB hS
        by_cases hlt : i < 3
        · go_wp2_with (at_builtin; refine wpList_append_own_at _ rfl _ _ 24 rfl B 69 i0 _ 2 32 Tryd.underlying24 hi hz0 hz1 hz2 rfl (by decide) _ _ _ rfl (hown.alloc _) ⟨wr.heap.size, 0, none⟩ 1 1 [.slice ga gl gc, .int .i64 m] rfl rfl ?c1 ?c2 ?c3 ?c4 ?c5 ?_)
          case c1 => exact World.news_of_block (cs := #[.slice ga gl gc, .int .i64 m]) (heap_alloc_new wr _)
          case c2 => intro x hx; simp at hx; rcases hx with rfl | rfl; · exact hone
                     · rfl
          case c3 => unfold maxLen; omega
          case c4 => omega
          case c5 => simp; omega
          intro v'' w3 hown3 hgrow _ hat
          obtain ⟨g', cap', hv'⟩ := owns_form hown3
          subst hv'
          have hat' : v'.ownBlock = some g' ∨ g' = wr.heap.size + 1 := by
            rcases hat with h' | h'
            · left; rw [← h']; rfl
            · right; simpa [Value.ownBlock] using h'
          have hT3 : Turns (fun q => v'.ownBlock = some q) wr w3 := ((Turns.refl _ wr).alloc _).grown hgrow (fun q hq => Or.inr hq)
          have hB3 := HA.out.1.turns hT3 (fun c => by have := (hown.lt _ c).1; omega)
          have d1 := hB3.c2
          have e1 := hB3.free 2
          have hS4 := HA.out.2.list (slot := 2) hhB hph rfl hown3 hgrow hat' (.slice (some ⟨g', 0, none⟩) (E'.length + 1) cap')
          have hB4 := hB3.set2 (.slice (some ⟨g', 0, none⟩) (E'.length + 1) cap')
          obtain ⟨w4, hw4⟩ : ∃ w4, w3.setCell ⟨h, 2, none⟩ (.slice (some ⟨g', 0, none⟩) (E'.length + 1) cap') = w4 := ⟨_, rfl⟩
          rw [hw4] at hS4 hB4
          obtain ⟨ys, hrow, hfull⟩ := hS4.row
          have hsz4 := hS4.t.size
          have HC : Hid (HB w4 h (k + 1) u (.slice (some ⟨g', 0, none⟩) (E'.length + 1) cap') ∧ HS 3 69 54 p w B (n + i) m (.slice (some ⟨g', 0, none⟩) (E'.length + 1) cap') (.slice ga gl gc) (E' ++ [(.slice ga gl gc, m)]) w4) := ⟨hB4, hS4⟩
          clear hown3 hgrow hat hat' hT3 hB3 hS4 hB4 HA hown c1
          go_wp2_with (at_builtin; refine wpList_append_stays _ rfl _ _ 48 rfl B 54 i1 _ 3 24 Tryd.underlying48 hj hy0 hy1 hy2 rfl (by decide) _ _ _ rfl (hrow.alloc _) ⟨w4.heap.size, 0, none⟩ 1 1 [.int .i64 m, .int .i64 m, .int .i64 m] rfl rfl ?k1 ?k2 ?k3 ?k4 ?k5 ?k6 ?_)
          case k1 => exact World.news_of_block (cs := #[.int .i64 m, .int .i64 m, .int .i64 m]) (heap_alloc_new w4 _)
          case k2 => intro x hx; simp at hx; subst hx; rfl
          case k3 => omega
          case k4 => unfold maxLen; omega
          case k5 => omega
          case k6 => simp; omega
          intro g5 cap5 w5 hown5 hgrow5 hat5 hst5
          have hS5 := HC.out.2.grow hrow hfull rfl (fun x hx => by simpa using hx) hown5 hgrow5 (by simpa using hat5) (fun b hb j hj => hst5 b hb j (by omega))
          have hT5 : Turns (fun q => (Value.slice ga gl gc).ownBlock = some q) w4 w5 := ((Turns.refl _ w4).alloc _).grown hgrow5 (fun q hq => Or.inr hq)
          have hB5 := HC.out.1.turns hT5 (fun c => by have := (hrow.lt _ c).1; omega)
          have HX : Hid (HLoopL p w h B n (k + 1) m u E.length (.slice (some ⟨g5, 0, none⟩) (n + i + 1) cap5) (.int .i64 ((i : Int) + 1)) w5) :=
            ⟨i + 1, _, _, by go_num, by omega, hB5, hS5, by have := HEl.out; simp; omega⟩
          clear hS5 hT5 hB5 HC hown5 hgrow5 hat5 hst5 hrow hfull
          go_wp2
          go_roundw
          case measure => simp [intOf]; omega
          case rel => exact HX.out
        · have hie : i = 3 := by omega
          subst hie
          go_wp2_with (at_builtin; refine wpList_append_own_at _ rfl _ _ 24 rfl B 69 i0 _ 2 32 Tryd.underlying24 hi hz0 hz1 hz2 rfl (by decide) _ _ _ rfl (hown.alloc _) ⟨wr.heap.size, 0, none⟩ 1 1 [.slice ga gl gc, .int .i64 m] rfl rfl ?c1 ?c2 ?c3 ?c4 ?c5 ?_)
          case c1 => exact World.news_of_block (cs := #[.slice ga gl gc, .int .i64 m]) (heap_alloc_new wr _)
          case c2 => intro x hx; simp at hx; rcases hx with rfl | rfl; · exact hone
                     · rfl
          case c3 => unfold maxLen; omega
          case c4 => omega
          case c5 => simp; omega
          intro v'' w3 hown3 hgrow _ hat
          obtain ⟨g', cap', hv'⟩ := owns_form hown3
          subst hv'
          have hat' : v'.ownBlock = some g' ∨ g' = wr.heap.size + 1 := by
            rcases hat with h' | h'
            · left; rw [← h']; rfl
            · right; simpa [Value.ownBlock] using h'
          have hT3 : Turns (fun q => v'.ownBlock = some q) wr w3 := ((Turns.refl _ wr).alloc _).grown hgrow (fun q hq => Or.inr hq)
          have hB3 := HA.out.1.turns hT3 (fun c => by have := (hown.lt _ c).1; omega)
          have d1 := hB3.c2
          have e1 := hB3.free 2
          have hS4 := HA.out.2.list (slot := 2) hhB hph rfl hown3 hgrow hat' (.slice (some ⟨g', 0, none⟩) (E'.length + 1) cap')
          have hB4 := hB3.set2 (.slice (some ⟨g', 0, none⟩) (E'.length + 1) cap')
          have HX : Hid (Turns p w (w3.setCell ⟨h, 2, none⟩ (.slice (some ⟨g', 0, none⟩) (E'.length + 1) cap')) ∧ ∃ v' E'', HB (w3.setCell ⟨h, 2, none⟩ (.slice (some ⟨g', 0, none⟩) (E'.length + 1) cap')) h (k + 1) u v' ∧ Lists 3 69 (w3.setCell ⟨h, 2, none⟩ (.slice (some ⟨g', 0, none⟩) (E'.length + 1) cap')) B v' E'' ∧ E''.length = E.length + 4) :=
            ⟨hS4.t, _, _, hB4, hS4.ls, by have := HEl.out; simp; omega⟩
          clear hown3 hgrow hat hat' hT3 hB3 hS4 hB4 HA hown c1
          go_wp2
          go_end0
          exact ⟨rfl, HX.out⟩
theorem labs_any (w : World) (h B n : Nat) (k : Int) (v u lv : Value) (E : List (Value × Int)) (xs : List Value) (hk0 : 0 ≤ k) (hk1 : k ≤ 1000) (hn : n ≤ 1000000) (hE : E.length ≤ 1000) (hHB : HB w h k u v) (hL : Lists 3 69 w B v E) (hl : w.ownsRow B 54 3 lv n xs)
    (hhB : h < B) (hBw : B ≤ w.heap.size) (hap : ∀ q, lv.ownBlock = some q → v.ownBlock ≠ some q ∧ ∀ e ∈ E, e.1.ownBlock ≠ some q) :
    Calls Tryd.prog 32 #[.pointer (some ⟨h, 0, none⟩), lv] w fun e w' => e = .returned (.tuple #[]) ∧ Turns (fun q => q = h ∨ v.ownBlock = some q ∨ lv.ownBlock = some q) w w' ∧ ∃ v' E', HB w' h (k + 1) u v' ∧ Lists 3 69 w' B v' E' ∧ E'.length = E.length + 4 := by
  rcases hl.2 with ⟨h1, h2⟩ | ⟨g, cap, _, h1, _⟩
  · subst h1
    exact labs_nil w h B n k v u E hk0 hk1 hn hE hHB hL h2 hhB hBw
  · subst h1
    exact labs_some w h B n g cap k v u E hk0 hk1 hn hE hHB hL xs hl hhB hBw hap
#print axioms labs_any
end Go.Proofs.YtdogncjcainhlaaDoor
