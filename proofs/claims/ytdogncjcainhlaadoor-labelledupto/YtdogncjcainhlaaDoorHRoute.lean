/- The walks of the law's own num, read and route. -/
import Derived.Test.YtdogncjcainhlaaDoorCRead
import Derived.Test.YtdogncjcainhlaaDoorHDry
import Derived.Test.YtdogncjcainhlaaDoorRRoute
import Derived.Test.YtdogncjcainhlaaDoorFWalk
namespace Go.Proofs.YtdogncjcainhlaaDoor
open Go.RowKit Go.Deep
open Mem

set_option maxHeartbeats 400000 in
theorem num_any (c : Int) (w : World) : Calls Tryd.prog 24 #[.int .i64 c] w fun e w' => e = .returned (.int .i64 c) ∧ w' = w := by
  go_enter Tryd.func24, Tryd.ntmps24
  go_wp2
  go_ret
  exact ⟨rfl, rfl⟩

set_option maxRecDepth 100000 in
set_option maxHeartbeats 400000 in
theorem lread_any (s : ByteArray) (w : World) (hs : s.size ≤ 2000000) (hm : Ml w) : Calls Tryd.prog 9 #[.string s] w fun e w' => e = .returned (.bool true) ∧ Turns (fun _ => False) w w' := by
  have c1 := read_any s w (by unfold maxLen; omega) hm
  have c2 := fun w' => rread_any s w' hs
  cases hp : Pu.parse s.data.toList with
  | err c p =>
    rw [hp] at c1 c2
    have he := Pu.parse_err hp
    have hne : (c != 0) = true := by simp; omega
    clear hp he
    go_enter Tryd.func9, Tryd.ntmps9
    go_wp2_with fail
    refine c1.mono ?_
    rintro e w1 ⟨rfl, hT1⟩
    simp only [readV]
    go_wp2_with fail
    refine (c2 w1).mono ?_
    rintro e w2 ⟨hT2, rfl⟩
    have hT := hT1.trans hT2
    clear c1 c2 hT1 hT2
    go_wp2_with (go_at_call 24; refine (num_any c _).mono ?_; rintro e w3 ⟨rfl, hw3⟩; subst w3)
    go_ret
    exact ⟨by simp, hT⟩
  | ok n k len =>
    rw [hp] at c1 c2
    clear hp
    go_enter Tryd.func9, Tryd.ntmps9
    go_wp2_with fail
    refine c1.mono ?_
    rintro e w1 ⟨rfl, hT1⟩
    simp only [readV]
    go_wp2_with fail
    refine (c2 w1).mono ?_
    rintro e w2 ⟨hT2, b, lb, lcap, fg, fcap, rb, fb, rfl, _, hB, _⟩
    have hT := hT1.trans hT2
    have b0 := hB.c0
    have b1 := hB.c1
    clear c1 c2 hT1 hT2 hB
    go_wp2
    go_ret
    exact ⟨by simp, hT⟩

theorem Way.congr {n : Nat} {len : Nat → Nat → Int} {far far' : Nat → Int} {t a : Nat} {l : List Nat} (h : Way n len far t a l) (e : ∀ j, j < n → far j = far' j) (ha : a < n) : Way n len far' t a l := by
  induction h with
  | done => exact Way.done
  | step a j l h1 h2 h3 h4 ih =>
    refine Way.step a j l h1 h2 ⟨⟨h3.1.1, by rw [← e j h2, ← e a ha]; exact h3.1.2⟩, fun i hi c => h3.2 i hi ⟨c.1, by rw [e i (by omega), e a ha]; exact c.2⟩⟩ (ih h2)
theorem Way.short {n : Nat} {len : Nat → Nat → Int} {far : Nat → Int} {t a : Nat} {l : List Nat} (h : Way n len far t a l) (hD : Pu.Dist n len t far) (L : Pu.Lens len) (ha : a < n) (h0 : 0 ≤ far a) : (l.length : Int) ≤ far a + 1 := by
  induction h with
  | done => simp; omega
  | step a j l h1 h2 h3 h4 ih =>
    have hj := (hD.ed a j ha h2 h0 h3.1.1).1
    have := ih h2 hj
    have hr := L.rng a j
    have h5 := h3.1.1
    have h6 := h3.1.2
    simp only [List.length_cons]
    omega
/-- Two answers by the document are the same. -/
theorem route_same {w w1 w2 : World} {r : Pu.Res} {s t : Int} {e1 e2 : Ending} {x : List UInt8} (hx : Pu.parse x = r) (h1 : RoutePost w r s t e1 w1) (h2 : RoutePost w1 r s t e2 w2) :
    Turns (fun _ => False) w w1 ∧ Turns (fun _ => False) w1 w2 ∧ ∃ (la lb : Option Addr) (lc ld : Nat) (l : List Nat) (d f p : Int), e1 = .returned (.tuple #[.slice la l.length lc, .int .i64 d, .int .i64 f, .int .i64 p]) ∧ e2 = .returned (.tuple #[.slice lb l.length ld, .int .i64 d, .int .i64 f, .int .i64 p]) ∧
      l.length ≤ 40001 ∧ w2.ownsRow w.heap.size 3 1 (.slice la l.length lc) l.length (vals l) ∧ w2.ownsRow w1.heap.size 3 1 (.slice lb l.length ld) l.length (vals l) := by
  obtain ⟨hT1, h1⟩ := h1
  obtain ⟨hT2, h2⟩ := h2
  refine ⟨hT1, hT2, ?_⟩
  have form : ∀ {W : World} {B : Nat} {v : Value} {l : List Nat}, W.ownsRow B 3 1 v l.length (vals l) → ∃ la lc, v = .slice la l.length lc := by
    intro W B v l h
    rcases h.2 with ⟨h3, h4⟩ | ⟨g, cap, _, h3, _⟩
    · exact ⟨none, 0, by rw [h3, h4]⟩
    · exact ⟨_, _, h3⟩
  cases r with
  | err c p => exact ⟨none, none, 0, 0, [], 0, c, p, h1, h2, by simp, World.ownsRow_nil _ _ _ _, World.ownsRow_nil _ _ _ _⟩
  | ok n q len =>
    obtain ⟨hn1, hn2, _, hN⟩ := Pu.parse_ok hx
    rcases h1 with ⟨g1, g2⟩ | ⟨g1, far, hD, g2⟩
    · rcases h2 with ⟨_, g4⟩ | ⟨g3, _⟩
      · exact ⟨none, none, 0, 0, [], 0, 5, 0, g2, g4, by simp, World.ownsRow_nil _ _ _ _, World.ownsRow_nil _ _ _ _⟩
      · exact absurd g3 g1
    · rcases h2 with ⟨g3, _⟩ | ⟨_, far', hD', g4⟩
      · exact absurd g1 g3
      · have hs : s.toNat < n := by obtain ⟨_, _, _, _⟩ := g1; omega
        have ht : t.toNat < n := by obtain ⟨_, _, _, _⟩ := g1; omega
        have eq : ∀ j, j < n → far' j = far j := fun j hj => Pu.Dist.unique hN.lens hD' hD j hj
        have es := eq _ hs
        rcases g2 with ⟨k1, k2⟩ | ⟨k1, way, v, k2, k3, k4⟩
        · rcases g4 with ⟨_, m2⟩ | ⟨m1, _⟩
          · exact ⟨none, none, 0, 0, [], 0, 6, 0, k2, m2, by simp, World.ownsRow_nil _ _ _ _, World.ownsRow_nil _ _ _ _⟩
          · omega
        · rcases g4 with ⟨m1, _⟩ | ⟨m1, way', v', m2, m3, m4⟩
          · omega
          · have ew := Way.one (m2.congr eq hs) k2
            subst ew
            obtain ⟨la, lc, rfl⟩ := form k4
            obtain ⟨lb, ld, rfl⟩ := form m4
            have hb := k2.short hD hN.lens hs k1
            have hr := hD.rng _ hs
            exact ⟨la, lb, lc, ld, way', far s.toNat, 0, 0, k3, by rw [m3, es], by omega, owns_turns k4 hT2, m4⟩
theorem route_form {w w1 : World} {r : Pu.Res} {s t : Int} {e1 : Ending} (h1 : RoutePost w r s t e1 w1) : ∃ (la : Option Addr) (ll lc : Nat) (d f p : Int), e1 = .returned (.tuple #[.slice la ll lc, .int .i64 d, .int .i64 f, .int .i64 p]) := by
  obtain ⟨_, h1⟩ := h1
  cases r with
  | err c p => exact ⟨_, _, _, _, _, _, h1⟩
  | ok n q len =>
    rcases h1 with ⟨_, g2⟩ | ⟨_, far, _, ⟨_, g2⟩ | ⟨_, way, v, _, g2, g3⟩⟩
    · exact ⟨_, _, _, _, _, _, g2⟩
    · exact ⟨_, _, _, _, _, _, g2⟩
    · rcases g3.2 with ⟨h3, h4⟩ | ⟨g, cap, _, h3, _⟩
      · subst h3; exact ⟨_, _, _, _, _, _, g2⟩
      · subst h3; exact ⟨_, _, _, _, _, _, g2⟩
theorem route_same2 {w w1 w2 : World} {r : Pu.Res} {s t : Int} {e2 : Ending} {x : List UInt8} {la : Option Addr} {ll lc : Nat} {d f p : Int} (hx : Pu.parse x = r) (h1 : RoutePost w r s t (.returned (.tuple #[.slice la ll lc, .int .i64 d, .int .i64 f, .int .i64 p])) w1) (h2 : RoutePost w1 r s t e2 w2) :
    Turns (fun _ => False) w w1 ∧ Turns (fun _ => False) w1 w2 ∧ ∃ (lb : Option Addr) (ld : Nat) (l : List Nat), e2 = .returned (.tuple #[.slice lb ll ld, .int .i64 d, .int .i64 f, .int .i64 p]) ∧ l.length = ll ∧
      ll ≤ 40001 ∧ w2.ownsRow w.heap.size 3 1 (.slice la ll lc) ll (vals l) ∧ w2.ownsRow w1.heap.size 3 1 (.slice lb ll ld) ll (vals l) := by
  obtain ⟨k1, k2, la', lb, lc', ld, l, d', f', p', k3, k4, k5, k6, k7⟩ := route_same hx h1 h2
  simp only [Ending.returned.injEq, Value.tuple.injEq, Array.mk.injEq, List.cons.injEq, Value.slice.injEq, Value.int.injEq, true_and, and_true] at k3
  obtain ⟨⟨rfl, rfl, rfl⟩, rfl, rfl, rfl⟩ := k3
  exact ⟨k1, k2, lb, ld, l, k4, rfl, k5, k6, k7⟩

/-- What is held, ready for more: h the block, behind B all that belongs to it. -/
def Ready (w : World) (h B : Nat) (k : Nat) : Prop := ∃ (v : Value) (E : List (Value × Int)), HB w h k v (.slice none 0 0) ∧ Lists 1 67 w B v E ∧ E.length = 4 * k ∧ h < B ∧ B ≤ w.heap.size ∧ 0 < h ∧ Ml w
theorem Ready.turns {w w' : World} {h B k : Nat} (H : Ready w h B k) (t : Turns (fun _ => False) w w') : Ready w' h B k := by
  obtain ⟨v, E, h1, h2, h3, h4, h5, h6, h7⟩ := H
  exact ⟨v, E, h1.turns t (fun x => x), h2.turns t (fun _ _ x => x) (fun _ _ _ _ x => x), h3, h4, Nat.le_trans h5 t.size, h6, h7.turns t (fun x => x)⟩
theorem Ready.ml {w : World} {h B k : Nat} (H : Ready w h B k) : Ml w := by
  obtain ⟨_, _, _, _, _, _, _, _, h7⟩ := H
  exact h7

set_option maxRecDepth 100000 in
set_option maxHeartbeats 1000000 in
theorem lroute_any (x : ByteArray) (s t : Int) (w : World) (h B k : Nat) (hs : x.size ≤ 2000000) (hk : k ≤ 100) (hR : Ready w h B k) :
    Calls Tryd.prog 10 #[.pointer (some ⟨h, 0, none⟩), .string x, .int .i64 s, .int .i64 t] w fun e w' => e = .returned (.bool true) ∧ Ready w' h B (k + 1) ∧ Turns (fun q => q = h ∨ B ≤ q) w w' := by
  have c1 := route_any x s t w (by unfold maxLen; omega) hR.ml
  have c2 := fun w' => rroute_any x s t w' hs
  obtain ⟨r, hr⟩ : ∃ r, Pu.parse x.data.toList = r := ⟨_, rfl⟩
  rw [hr] at c1 c2
  have HR : Hid (Ready w h B k) := hR
  have HX : Hid (Pu.parse x.data.toList = r) := hr
  clear hR hr
  go_enter Tryd.func10, Tryd.ntmps10
  go_wp2_with fail
  refine c1.mono ?_
  intro e1 w1 h1
  obtain ⟨la, ll, lc, d, f, p, rfl⟩ := route_form h1
  have H1 : Hid (RoutePost w r s t (.returned (.tuple #[.slice la ll lc, .int .i64 d, .int .i64 f, .int .i64 p])) w1) := h1
  have c3 := c2 w1
  clear c1 c2 h1
  go_wp2_with fail
  refine c3.mono ?_
  intro e2 w2 h2
  obtain ⟨hT1, hT2, lb, ld, l, rfl, hll, hlb, ho1, ho2⟩ := route_same2 HX.out H1.out h2
  have hTT := hT1.trans hT2
  have HEND : Hid (∀ wx, Turns (fun _ => False) w2 wx → Calls Tryd.prog 26 #[.pointer (some ⟨h, 0, none⟩), .slice la ll lc] wx fun e w' => e = .returned (.tuple #[]) ∧ Ready w' h B (k + 1) ∧ Turns (fun q => q = h ∨ B ≤ q) w w') := by
    obtain ⟨v, E, k1, k2, k3, k4, k5, k6, k7⟩ := HR.out
    intro wx hx
    have hTx := hTT.trans hx
    have hLx := k2.turns hTx (fun _ _ x => x) (fun _ _ _ _ x => x)
    refine (ints_any wx h B ll k v (.slice none 0 0) (.slice la ll lc) E (vals l) (by omega) (by omega) (by omega) (by omega) (k1.turns hTx (fun x => x)) hLx (owns_mono (owns_turns ho1 hx) k5) k4 (Nat.le_trans k5 hTx.size) ?_).mono ?_
    · intro q hq
      have hge := (ho1.lt q hq).1
      exact ⟨fun c => by have := (k2.own.lt q c).2; omega, fun e he c => by have := ((k2.full e he).lt q c).2.1; omega⟩
    · rintro e w' ⟨rfl, hT', v', E', m1, m2, m3⟩
      have hT'' : Turns (fun q => q = h ∨ B ≤ q) w w' := (hTx.mono (fun _ _ f => f.elim)).trans (hT'.mono (fun q _ hq => by
        rcases hq with hq | hq | hq
        · exact Or.inl hq
        · exact Or.inr (k2.own.lt q hq).1
        · exact Or.inr (Nat.le_trans k5 (ho1.lt q hq).1)))
      refine ⟨rfl, ⟨v', E', by simpa using m1, m2, by omega, k4, Nat.le_trans k5 hT''.size, k6, k7.turns hT'' (by omega)⟩, hT''⟩
  have HC : Hid (∀ i, i < ll → ∃ (g g' y : Nat), la = some ⟨g, 0, none⟩ ∧ lb = some ⟨g', 0, none⟩ ∧ w2.cell? ⟨g, i, none⟩ = some (.int .i64 y) ∧ w2.cell? ⟨g', i, none⟩ = some (.int .i64 y)) := by
    intro i hi
    obtain ⟨g, cap, hg, _⟩ := ho1.form (by omega)
    obtain ⟨g', cap', hg', _⟩ := ho2.form (by omega)
    injection hg with e1 _ e2
    injection hg' with e3 _ e4
    subst e1 e2 e3 e4
    exact ⟨g, g', l[i], rfl, rfl, by rw [ho1.cellAt i (by omega)]; simp [vals, List.getElem?_eq_getElem (show i < l.length by omega)], by rw [ho2.cellAt i (by omega)]; simp [vals, List.getElem?_eq_getElem (show i < l.length by omega)]⟩
  have hdd : (d == d) = true := by simp
  have hff : (f == f) = true := by simp
  have hpp : (p == p) = true := by simp
  clear c3 h2 H1 hT1 hT2 hTT ho1 ho2 hll HR
  go_wp2_with (go_at_call 24; refine (num_any f _).mono ?_; rintro e w3 ⟨rfl, hw3⟩; subst w3)
  go_loopw [17, 18] (fun sv iv wx => ∃ i q : Nat, sv = .bool true ∧ iv = .int .i64 i ∧ i ≤ ll ∧ wx = w2.drewN q) (fun _ iv _ => ll - (intOf iv).toNat)
  case atStart => exact ⟨0, 0, by simp, rfl, Nat.zero_le _, rfl⟩
  case round =>
    obtain ⟨i, q, rfl, rfl, hi, hwr⟩ := hrel
    by_cases hil : i < ll
    · obtain ⟨g, g', y, rfl, rfl, y1, y2⟩ := HC.out i hil
      have z1 : wr.cell? ⟨g, i, none⟩ = some (.int .i64 y) := by rw [hwr]; exact y1
      have z2 : wr.cell? ⟨g', i, none⟩ = some (.int .i64 y) := by rw [hwr]; exact y2
      have hii : (i : Int) < (ll : Int) := by omega
      have hyy : ((y : Int) == (y : Int)) = true := by simp
      have HY : Hid (∀ n' sv, sv = Value.bool true → ∃ i' q' : Nat, sv = .bool true ∧ (Value.int .i64 ((i : Int) + 1)) = .int .i64 i' ∧ i' ≤ ll ∧ wr.drewN n' = w2.drewN q') := fun n' sv hsv => ⟨i + 1, q + n', hsv, by go_num, by omega, by rw [hwr, World.drewN_drewN]⟩
      clear hwr y1 y2 HC HEND
      go_wp2
      go_quiet (fail)
      go_wp2
      go_roundw
      case measure => simp [intOf]; omega
      case rel => exact HY.out _ _ rfl
    · have hii : ¬ (i : Int) < (ll : Int) := by omega
      have c4 := HEND.out wr (by rw [hwr]; exact (Turns.refl _ _).drewN q)
      clear HEND HC hwr
      go_wp2_with fail
      refine c4.mono ?_
      rintro e w3 ⟨rfl, h3⟩
      have H3 : Hid (Ready w3 h B (k + 1) ∧ Turns (fun q => q = h ∨ B ≤ q) w w3) := h3
      clear h3 c4
      go_wp2
      go_ret
      exact ⟨rfl, H3.out⟩
#print axioms lroute_any

set_option maxRecDepth 100000 in
set_option maxHeartbeats 1000000 in
theorem routed_any (x o : ByteArray) (s t : Int) (w : World) (hx : x.size ≤ 2000000) (ho : o.size ≤ 2000000) (hm : Ml w) :
    Calls Tryd.prog 3 #[.string x, .int .i64 s, .int .i64 t, .string o] w fun e w' => e = .returned (.bool true) ∧ Turns (fun _ => False) w w' := by
  have hR0 : Ready (w.alloc (.cells #[.int .i64 0, .slice none 0 0, .slice none 0 0, .slice none 0 0] 27)) w.heap.size (w.heap.size + 1) 0 :=
    ⟨_, [], HB.new w, Lists.nil _ _ _ _, rfl, by omega, by simp, hm.1, hm.alloc _⟩
  have hT0 : Turns (fun _ => False) w (w.alloc (.cells #[.int .i64 0, .slice none 0 0, .slice none 0 0, .slice none 0 0] 27)) := (Turns.refl _ _).alloc _
  have HJ : Hid (∀ {w1 w2 : World}, Turns (fun _ => False) w w1 → Turns (fun q => q = w.heap.size ∨ w.heap.size + 1 ≤ q) w1 w2 → Turns (fun _ => False) w w2) := fun h1 h2 => h1.join h2 (fun i hi _ c => by omega)
  go_enter Tryd.func3, Tryd.ntmps3
  go_wp2_with fail
  generalize w.alloc (.cells #[.int .i64 0, .slice none 0 0, .slice none 0 0, .slice none 0 0] 27) = w0 at *
  refine (lread_any x w0 hx hR0.ml).mono ?_
  rintro e w1 ⟨rfl, hT⟩
  have hR1 := hR0.turns hT
  have hT1 := hT0.trans hT
  clear hR0 hT0 hT
  go_wp2_with fail
  refine (lroute_any x s t w1 _ _ 0 hx (by omega) hR1).mono ?_
  rintro e w2 ⟨rfl, hR2, hT⟩
  have hT2 := HJ.out hT1 hT
  clear hR1 hT1 hT
  go_wp2_with fail
  refine (lread_any o w2 ho hR2.ml).mono ?_
  rintro e w3 ⟨rfl, hT⟩
  have hR3 := hR2.turns hT
  have hT3 := hT2.trans hT
  clear hR2 hT2 hT
  go_wp2_with fail
  refine (lroute_any o s t w3 _ _ 1 ho (by omega) hR3).mono ?_
  rintro e w4 ⟨rfl, hR4, hT⟩
  have hT4 := HJ.out hT3 hT
  clear hR3 hT3 hT
  go_wp2_with fail
  refine (lroute_any x t s w4 _ _ 2 hx (by omega) hR4).mono ?_
  rintro e w5 ⟨rfl, hR5, hT⟩
  have hT5 := HJ.out hT4 hT
  clear hR4 hT4 hT
  go_wp2_with fail
  refine (lroute_any x s t w5 _ _ 3 hx (by omega) hR5).mono ?_
  rintro e w6 ⟨rfl, hR6, hT⟩
  have hT6 := HJ.out hT5 hT
  clear hR5 hT5 hT
  go_wp2_with fail
  refine (lroute_any _ 0 2 w6 _ _ 4 (by decide) (by omega) hR6).mono ?_
  rintro e w7 ⟨rfl, hR7, hT⟩
  have hT7 := HJ.out hT6 hT
  clear hR6 hT6 hT
  go_wp2_with fail
  refine (lroute_any _ 0 3 w7 _ _ 5 (by decide) (by omega) hR7).mono ?_
  rintro e w8 ⟨rfl, hR8, hT⟩
  have hT8 := HJ.out hT7 hT
  clear hR7 hT7 hT
  go_wp2_with fail
  refine (lread_any _ w8 (by decide) hR8.ml).mono ?_
  rintro e w9 ⟨rfl, hT⟩
  have hR9 := hR8.turns hT
  have hT9 := hT8.trans hT
  clear hR8 hT8 hT
  obtain ⟨v, E, k1, k2, k3, k4, k5, k6, k7⟩ := hR9
  have hdry := dry_ints w9 _ _ _ v E k1 k2 (by omega) (by omega)
  clear k1 k2 k3 k4 k5 k6 k7
  go_wp2_with fail
  refine hdry.mono ?_
  rintro e w10 ⟨rfl, hT⟩
  have hTA := hT9.trans hT
  clear hdry hT9 hT HJ
  go_wp2
  go_ret
  exact ⟨by simp, hTA⟩
#print axioms routed_any
end Go.Proofs.YtdogncjcainhlaaDoor
