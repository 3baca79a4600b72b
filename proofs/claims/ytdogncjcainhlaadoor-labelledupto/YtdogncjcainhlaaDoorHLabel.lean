/- The walks of the law's own label and of Labelled. -/
import Derived.Test.YtdogncjcainhlaaDoorHDryL
import Derived.Test.YtdogncjcainhlaaDoorHRoute
import Derived.Test.YtdogncjcainhlaaDoorLabA
namespace Go.Proofs.YtdogncjcainhlaaDoor
open Go.RowKit Go.Deep
open Mem

theorem lab_form {w w1 : World} {r : Pu.Res} {o : Nat → (Nat → Nat → Int) → Option (List Nat)} {e1 : Ending} (h1 : LabPost w r o e1 w1) : ∃ (la : Option Addr) (ll lc : Nat) (f p : Int), e1 = .returned (.tuple #[.slice la ll lc, .int .i64 f, .int .i64 p]) := by
  obtain ⟨_, h1⟩ := h1
  cases r with
  | err c p => exact ⟨_, _, _, _, _, h1⟩
  | ok n q len =>
    dsimp only at h1
    cases ho : o n len with
    | none => rw [ho] at h1; exact ⟨_, _, _, _, _, h1⟩
    | some O =>
      rw [ho] at h1
      obtain ⟨D, v, _, g2, g3⟩ := h1
      rcases g3.2 with ⟨h3, h4⟩ | ⟨g, cap, _, h3, _⟩
      · subst h3; exact ⟨_, _, _, _, _, g2⟩
      · subst h3; exact ⟨_, _, _, _, _, g2⟩
/-- Two answers by the document are the same. -/
theorem lab_same {w w1 w2 : World} {r : Pu.Res} {o : Nat → (Nat → Nat → Int) → Option (List Nat)} {e2 : Ending} {x : List UInt8} {la : Option Addr} {ll lc : Nat} {f p : Int} (hx : Pu.parse x = r)
    (h1 : LabPost w r o (.returned (.tuple #[.slice la ll lc, .int .i64 f, .int .i64 p])) w1) (h2 : RLabsPost w1 r o e2 w2) :
    Turns (fun _ => False) w w1 ∧ Turns (fun _ => False) w1 w2 ∧ ∃ (lb : Option Addr) (ld : Nat) (l : List Pu.Rd), e2 = .returned (.tuple #[.slice lb ll ld, .int .i64 f, .int .i64 p]) ∧ l.length = ll ∧ ll ≤ 1600 ∧
      w2.ownsRow w.heap.size 54 3 (.slice la ll lc) ll (Pu.rdVals l) ∧ w2.ownsRow w1.heap.size 91 3 (.slice lb ll ld) ll (Pu.rdVals l) := by
  obtain ⟨hT1, h1⟩ := h1
  obtain ⟨hT2, h2⟩ := h2
  refine ⟨hT1, hT2, ?_⟩
  have eqs : ∀ {c q : Int}, Ending.returned (.tuple #[.slice la ll lc, .int .i64 f, .int .i64 p]) = .returned (.tuple #[.slice none 0 0, .int .i64 c, .int .i64 q]) → la = none ∧ ll = 0 ∧ lc = 0 ∧ f = c ∧ p = q := by
    intro c q k3
    simp only [Ending.returned.injEq, Value.tuple.injEq, Array.mk.injEq, List.cons.injEq, Value.slice.injEq, Value.int.injEq, true_and, and_true] at k3
    obtain ⟨⟨rfl, rfl, rfl⟩, rfl, rfl⟩ := k3
    exact ⟨rfl, rfl, rfl, rfl, rfl⟩
  cases r with
  | err c q =>
    obtain ⟨rfl, rfl, rfl, rfl, rfl⟩ := eqs h1
    exact ⟨none, 0, [], h2, rfl, by omega, World.ownsRow_nil _ _ _ _, World.ownsRow_nil _ _ _ _⟩
  | ok n q len =>
    obtain ⟨hn1, hn2, _, hN⟩ := Pu.parse_ok hx
    dsimp only at h1 h2
    cases ho : o n len with
    | none =>
      rw [ho] at h1 h2
      obtain ⟨rfl, rfl, rfl, rfl, rfl⟩ := eqs h1
      exact ⟨none, 0, [], h2, rfl, by omega, World.ownsRow_nil _ _ _ _, World.ownsRow_nil _ _ _ _⟩
    | some O =>
      rw [ho] at h1 h2
      obtain ⟨D, v, hD, g2, g3⟩ := h1
      obtain ⟨D', v', hC, k2, k3⟩ := h2
      obtain ⟨hOl, _, hO⟩ := hC.perm
      have eq : Pu.labP D' O n = Pu.labP D O n := Pu.labP_congr hO (fun i j hi hj => Pu.Dist.unique hN.lens (hC.dist i hi) (hD i hi) j hj) n (Nat.le_refl _)
      rw [eq] at k3
      have hlen := Pu.labP_len D O n
      have hm : n * O.length ≤ 40 * 40 := Nat.mul_le_mul hn2 (by omega)
      generalize Pu.labP D O n = l at *
      simp only [Ending.returned.injEq, Value.tuple.injEq, Array.mk.injEq, List.cons.injEq, Value.int.injEq, true_and, and_true] at g2
      obtain ⟨rfl, rfl, rfl⟩ := g2
      have hl : l.length = ll := by
        rcases g3.2 with ⟨h3, h4⟩ | ⟨g, cap, _, h3, _⟩
        · injection h3 with _ e2 _; omega
        · injection h3 with _ e2 _; omega
      rw [hl] at g3 k3
      obtain ⟨lb, ld, rfl⟩ : ∃ lb ld, v' = .slice lb ll ld := by
        rcases k3.2 with ⟨h3, h4⟩ | ⟨g, cap, _, h3, _⟩
        · exact ⟨none, 0, by rw [h3, h4]⟩
        · exact ⟨_, _, h3⟩
      exact ⟨lb, ld, l, k2, hl, by omega, owns_turns g3 hT2, k3⟩

/-- What is held, ready for more labels. -/
def ReadyL (w : World) (h B : Nat) (k : Nat) : Prop := ∃ (v : Value) (E : List (Value × Int)), HB w h k (.slice none 0 0) v ∧ Lists 3 69 w B v E ∧ E.length = 4 * k ∧ h < B ∧ B ≤ w.heap.size ∧ 0 < h ∧ Ml w
theorem ReadyL.ml {w : World} {h B k : Nat} (H : ReadyL w h B k) : Ml w := by
  obtain ⟨_, _, _, _, _, _, _, _, h7⟩ := H
  exact h7

set_option maxRecDepth 100000 in
set_option maxHeartbeats 1000000 in
theorem llabel_any (x s : ByteArray) (w : World) (h B k : Nat) (hx : x.size ≤ 2000000) (hs : s.size ≤ 2000000) (hk : k ≤ 100) (hR : ReadyL w h B k) :
    Calls Tryd.prog 17 #[.pointer (some ⟨h, 0, none⟩), .string x, .string s] w fun e w' => e = .returned (.bool true) ∧ ReadyL w' h B (k + 1) ∧ Turns (fun q => q = h ∨ B ≤ q) w w' := by
  have c1 := labels_any x s w (by unfold maxLen; omega) hR.ml hs
  have c2 := fun w' => rlabs_any x s w' hx hs
  obtain ⟨r, hr⟩ : ∃ r, Pu.parse x.data.toList = r := ⟨_, rfl⟩
  rw [hr] at c1 c2
  have HR : Hid (ReadyL w h B k) := hR
  have HX : Hid (Pu.parse x.data.toList = r) := hr
  clear hR hr
  go_enter Tryd.func17, Tryd.ntmps17
  go_wp2_with fail
  refine c1.mono ?_
  intro e1 w1 h1
  obtain ⟨la, ll, lc, f, p, rfl⟩ := lab_form h1
  have H1 : Hid (LabPost w r (Pu.orderOf s.data.toList) (.returned (.tuple #[.slice la ll lc, .int .i64 f, .int .i64 p])) w1) := h1
  have c3 := c2 w1
  clear c1 c2 h1
  go_wp2_with fail
  refine c3.mono ?_
  intro e2 w2 h2
  obtain ⟨hT1, hT2, lb, ld, l, rfl, hll, hlb, ho1, ho2⟩ := lab_same HX.out H1.out h2
  have hTT := hT1.trans hT2
  have HEND : Hid (∀ wx, Turns (fun _ => False) w2 wx → Calls Tryd.prog 32 #[.pointer (some ⟨h, 0, none⟩), .slice la ll lc] wx fun e w' => e = .returned (.tuple #[]) ∧ ReadyL w' h B (k + 1) ∧ Turns (fun q => q = h ∨ B ≤ q) w w') := by
    obtain ⟨v, E, k1, k2, k3, k4, k5, k6, k7⟩ := HR.out
    intro wx hx
    have hTx := hTT.trans hx
    have hLx := k2.turns hTx (fun _ _ x => x) (fun _ _ _ _ x => x)
    refine (labs_any wx h B ll k v (.slice none 0 0) (.slice la ll lc) E (Pu.rdVals l) (by omega) (by omega) (by omega) (by omega) (k1.turns hTx (fun x => x)) hLx (owns_mono (owns_turns ho1 hx) k5) k4 (Nat.le_trans k5 hTx.size) ?_).mono ?_
    · intro q hq
      have hge := (ho1.lt q hq).1
      exact ⟨fun c => by have := (k2.own.lt q c).2; omega, fun e he c => by have := ((k2.full e he).lt q c).2.1; omega⟩
    · rintro e w' ⟨rfl, hT', v', E', m1, m2, m3⟩
      have hT'' : Turns (fun q => q = h ∨ B ≤ q) w w' := (hTx.mono (fun _ _ f => f.elim)).trans (hT'.mono (fun q _ hq => by
        rcases hq with hq | hq | hq
        · exact Or.inl hq
        · exact Or.inr (k2.own.lt q hq).1
        · exact Or.inr (Nat.le_trans k5 (ho1.lt q hq).1)))
      refine ⟨rfl, ⟨v', E', by simpa using m1, m2, by omega, k4, Nat.le_trans k5 hT''.size, k6, k7.turns hT'' (by omega)⟩, hT''⟩
  have HC : Hid (∀ i, i < ll → ∃ (g g' y z : Nat) (t : Int), la = some ⟨g, 0, none⟩ ∧ lb = some ⟨g', 0, none⟩ ∧ (w2.cell? ⟨g, i * 3, none⟩ = some (.int .i64 y) ∧ w2.cell? ⟨g, i * 3 + 1, none⟩ = some (.int .i64 z) ∧ w2.cell? ⟨g, i * 3 + 2, none⟩ = some (.int .i64 t)) ∧ (w2.cell? ⟨g', i * 3, none⟩ = some (.int .i64 y) ∧ w2.cell? ⟨g', i * 3 + 1, none⟩ = some (.int .i64 z) ∧ w2.cell? ⟨g', i * 3 + 2, none⟩ = some (.int .i64 t))) := by
    intro i hi
    obtain ⟨g, cap, hg, _⟩ := ho1.form (by omega)
    obtain ⟨g', cap', hg', _⟩ := ho2.form (by omega)
    injection hg with e1 _ e2
    injection hg' with e3 _ e4
    subst e1 e2 e3 e4
    obtain ⟨⟨y, z, t⟩, hyz⟩ : ∃ y, l[i]? = some y := ⟨_, List.getElem?_eq_getElem (show i < l.length by omega)⟩
    obtain ⟨r1, r2, r3⟩ := Pu.rdVals_get l i y z t hyz
    exact ⟨g, g', y, z, t, rfl, rfl, ⟨by rw [ho1.cellAt _ (by omega)]; exact r1, by rw [ho1.cellAt _ (by omega)]; exact r2, by rw [ho1.cellAt _ (by omega)]; exact r3⟩,
      by rw [ho2.cellAt _ (by omega)]; exact r1, by rw [ho2.cellAt _ (by omega)]; exact r2, by rw [ho2.cellAt _ (by omega)]; exact r3⟩
  have hff : (f == f) = true := by simp
  have hpp : (p == p) = true := by simp
  clear c3 h2 H1 hT1 hT2 hTT ho1 ho2 hll HR
  go_wp2_with (go_at_call 24; refine (num_any f _).mono ?_; rintro e w3 ⟨rfl, hw3⟩; subst w3)
  go_loopw [13, 14] (fun sv iv wx => ∃ i q : Nat, sv = .bool true ∧ iv = .int .i64 i ∧ i ≤ ll ∧ wx = w2.drewN q) (fun _ iv _ => ll - (intOf iv).toNat)
  case atStart => exact ⟨0, 0, by simp, rfl, Nat.zero_le _, rfl⟩
  case round =>
    obtain ⟨i, q, rfl, rfl, hi, hwr⟩ := hrel
    by_cases hil : i < ll
    · obtain ⟨g, g', y, z, t, rfl, rfl, ⟨y1, y2, y3⟩, y4, y5, y6⟩ := HC.out i hil
      have z1 : wr.cell? ⟨g, i * 3, none⟩ = some (.int .i64 y) := by rw [hwr]; exact y1
      have z2 : wr.cell? ⟨g, i * 3 + 1, none⟩ = some (.int .i64 z) := by rw [hwr]; exact y2
      have z3 : wr.cell? ⟨g, i * 3 + 2, none⟩ = some (.int .i64 t) := by rw [hwr]; exact y3
      have z4 : wr.cell? ⟨g', i * 3, none⟩ = some (.int .i64 y) := by rw [hwr]; exact y4
      have z5 : wr.cell? ⟨g', i * 3 + 1, none⟩ = some (.int .i64 z) := by rw [hwr]; exact y5
      have z6 : wr.cell? ⟨g', i * 3 + 2, none⟩ = some (.int .i64 t) := by rw [hwr]; exact y6
      have hii : (i : Int) < (ll : Int) := by omega
      have hyy : ((y : Int) == (y : Int)) = true := by simp
      have hzz : ((z : Int) == (z : Int)) = true := by simp
      have htt : (t == t) = true := by simp
      have HY : Hid (∀ n' sv, sv = Value.bool true → ∃ i' q' : Nat, sv = .bool true ∧ (Value.int .i64 ((i : Int) + 1)) = .int .i64 i' ∧ i' ≤ ll ∧ wr.drewN n' = w2.drewN q') := fun n' sv hsv => ⟨i + 1, q + n', hsv, by go_num, by omega, by rw [hwr, World.drewN_drewN]⟩
      clear hwr y1 y2 y3 y4 y5 y6 HC HEND
      go_wp2
      go_quiet (fail)
      go_wp2
      go_roundw
      case measure => simp [intOf]; omega
      case rel => exact HY.out _ _ rfl
    · have hii : ¬ (i : Int) < (ll : Int) := by omega
      have c4 := HEND.out wr (by rw [hwr]; exact (Turns.refl _ _).drewN q)
      clear HEND HC hwr
      go_wp2_with fail
      refine c4.mono ?_
      rintro e w3 ⟨rfl, h3⟩
      have H3 : Hid (ReadyL w3 h B (k + 1) ∧ Turns (fun q => q = h ∨ B ≤ q) w w3) := h3
      clear h3 c4
      go_wp2
      go_ret
      exact ⟨rfl, H3.out⟩
#print axioms llabel_any

set_option maxRecDepth 100000 in
set_option maxHeartbeats 1000000 in
theorem labelled_any (x s o t : ByteArray) (w : World) (hx : x.size ≤ 2000000) (hs : s.size ≤ 2000000) (ho : o.size ≤ 2000000) (ht : t.size ≤ 2000000) (hm : Ml w) :
    Calls Tryd.prog 6 #[.string x, .string s, .string o, .string t] w fun e w' => e = .returned (.bool true) ∧ Turns (fun _ => False) w w' := by
  have hR0 : ReadyL (w.alloc (.cells #[.int .i64 0, .slice none 0 0, .slice none 0 0, .slice none 0 0] 27)) w.heap.size (w.heap.size + 1) 0 :=
    ⟨_, [], HB.new w, Lists.nil _ _ _ _, rfl, by omega, by simp, hm.1, hm.alloc _⟩
  have hT0 : Turns (fun _ => False) w (w.alloc (.cells #[.int .i64 0, .slice none 0 0, .slice none 0 0, .slice none 0 0] 27)) := (Turns.refl _ _).alloc _
  have HJ : Hid (∀ {w1 w2 : World}, Turns (fun _ => False) w w1 → Turns (fun q => q = w.heap.size ∨ w.heap.size + 1 ≤ q) w1 w2 → Turns (fun _ => False) w w2) := fun h1 h2 => h1.join h2 (fun i hi _ c => by omega)
  go_enter Tryd.func6, Tryd.ntmps6
  go_wp2_with fail
  generalize w.alloc (.cells #[.int .i64 0, .slice none 0 0, .slice none 0 0, .slice none 0 0] 27) = w0 at *
  refine (llabel_any x s w0 _ _ 0 hx hs (by omega) hR0).mono ?_
  rintro e w1 ⟨rfl, hR1, hT⟩
  have hT1 := HJ.out hT0 hT
  clear hR0 hT0 hT
  go_wp2_with fail
  refine (llabel_any o s w1 _ _ 1 ho hs (by omega) hR1).mono ?_
  rintro e w2 ⟨rfl, hR2, hT⟩
  have hT2 := HJ.out hT1 hT
  clear hR1 hT1 hT
  go_wp2_with fail
  refine (llabel_any x t w2 _ _ 2 hx ht (by omega) hR2).mono ?_
  rintro e w3 ⟨rfl, hR3, hT⟩
  have hT3 := HJ.out hT2 hT
  clear hR2 hT2 hT
  go_wp2_with fail
  refine (llabel_any x s w3 _ _ 3 hx hs (by omega) hR3).mono ?_
  rintro e w4 ⟨rfl, hR4, hT⟩
  have hT4 := HJ.out hT3 hT
  clear hR3 hT3 hT
  go_wp2_with fail
  refine (llabel_any x _ w4 _ _ 4 hx (by decide) (by omega) hR4).mono ?_
  rintro e w5 ⟨rfl, hR5, hT⟩
  have hT5 := HJ.out hT4 hT
  clear hR4 hT4 hT
  go_wp2_with fail
  refine (llabel_any _ _ w5 _ _ 5 (by decide) (by decide) (by omega) hR5).mono ?_
  rintro e w6 ⟨rfl, hR6, hT⟩
  have hT6 := HJ.out hT5 hT
  clear hR5 hT5 hT
  go_wp2_with fail
  refine (llabel_any _ _ w6 _ _ 6 (by decide) (by decide) (by omega) hR6).mono ?_
  rintro e w7 ⟨rfl, hR7, hT⟩
  have hT7 := HJ.out hT6 hT
  clear hR6 hT6 hT
  obtain ⟨v, E, k1, k2, k3, k4, k5, k6, k7⟩ := hR7
  have hdry := dry_labs w7 _ _ _ v E k1 k2 (by omega) (by omega)
  clear k1 k2 k3 k4 k5 k6 k7
  go_wp2_with fail
  refine hdry.mono ?_
  rintro e w10 ⟨rfl, hT⟩
  have hTA := hT7.trans hT
  clear hdry hT7 hT HJ
  go_wp2
  go_ret
  exact ⟨by simp, hTA⟩
#print axioms labelled_any
end Go.Proofs.YtdogncjcainhlaaDoor
