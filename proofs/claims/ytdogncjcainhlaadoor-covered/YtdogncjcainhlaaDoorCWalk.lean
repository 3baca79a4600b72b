/- The walk of the law bywaykeep.Covered. -/
import Derived.Test.YtdogncjcainhlaaDoorFWalk
import Derived.Test.YtdogncjcainhlaaDoorLabC
import Derived.Test.YtdogncjcainhlaaDoorOrdW
import Derived.Test.YtdogncjcainhlaaDoorPCov
import Derived.Deep.Cut
import Derived.Deep.CutRange
import Derived.Deep.RegionWith
import Derived.Deep.RegionHeld3
import Derived.BigRegion
namespace Go.Proofs.YtdogncjcainhlaaDoor
open Go.RowKit Go.Deep
open Mem

theorem Pu.Best.one {S : Int → Prop} {b b' : Int} (h : Pu.Best S b) (h' : Pu.Best S b') : b = b' := by
  rcases h with ⟨h1, h2⟩ | ⟨h1, _, h2⟩
  · rcases h' with ⟨h3, _⟩ | ⟨h3, _⟩
    · omega
    · exact absurd h3 (h2 _)
  · rcases h' with ⟨_, h4⟩ | ⟨h3, _, h4⟩
    · exact absurd h1 (h4 _)
    · have := h2 _ h3; have := h4 _ h1; omega
theorem Pu.Best.any {S : Int → Prop} (h0 : ∀ s, S s → 0 ≤ s) : ∃ b, Pu.Best S b := by
  by_cases h : ∃ s, S s
  · have aux : ∀ (k : Nat) (s : Int), S s → s ≤ k → ∃ b, Pu.Best S b := by
      intro k
      induction k with
      | zero =>
        intro s hs hk
        exact ⟨s, Or.inr ⟨hs, h0 s hs, fun s' hs' => by have := h0 s' hs'; omega⟩⟩
      | succ k ih =>
        intro s hs hk
        by_cases c : ∃ s', S s' ∧ s' ≤ k
        · obtain ⟨s', h1, h2⟩ := c; exact ih s' h1 h2
        · exact ⟨s, Or.inr ⟨hs, h0 s hs, fun s' hs' => by
            by_cases d : s' ≤ k
            · exact absurd ⟨s', hs', d⟩ c
            · omega⟩⟩
    obtain ⟨s, hs⟩ := h
    exact aux s.toNat s hs (by have := h0 s hs; omega)
  · exact ⟨-1, Pu.Best.none (fun s hs => h ⟨s, hs⟩)⟩

/-- What is known of the labels that Covered looks at. -/
structure CovW (w : World) (n g N : Nat) (len D : Nat → Nat → Int) (O : List Nat) : Prop where
  cov : Pu.Cov n len D O
  at' : LabAt w g (Pu.labP D O n)
  len : (Pu.labP D O n).length = N
theorem CovW.turns {w w' : World} {n g N : Nat} {len D : Nat → Nat → Int} {O : List Nat} (h : CovW w n g N len D O) (t : Turns (fun _ => False) w w') : CovW w' n g N len D O := ⟨h.cov, h.at'.turns t, h.len⟩
theorem CovW.least {w : World} {n g N : Nat} {len D : Nat → Nat → Int} {O : List Nat} (h : CovW w n g N len D O) (cap : Nat) (o : Int) (u v : Nat) (b : Int) (hN : N ≤ 2000) (hu : u ≤ 100) (hv : v ≤ 100) (hb : Pu.Best (Pu.Through (Pu.labP D O n) o u v) b) :
    Calls Tryd.prog 20 #[.slice (some ⟨g, 0, none⟩) N cap, .int .i64 o, .int .i64 u, .int .i64 v] w fun e w' => e = .returned (.int .i64 b) ∧ ∃ q, w' = w.drewN q := by
  refine (least_any w g cap N (Pu.labP D O n) o u v h.len hN h.at' (fun x hx => ?_) hu hv).mono ?_
  · obtain ⟨a, b, f⟩ := x
    have := h.cov.each hx
    exact ⟨this.2.2.2.2.1, this.2.2.2.2.2⟩
  · rintro e w' ⟨⟨b', rfl, hb'⟩, q⟩
    rw [Pu.Best.one hb hb']
    exact ⟨rfl, q⟩

/-- What Labels of a town by a made order gives. -/
theorem labels_town {w0 : World} {B : Nat} {txt : ByteArray} {n R : Nat} {v : Value} {rb : List Nat} {len : Nat → Nat → Int} (h : TownIs w0 B txt n R v rb len) (s : ByteArray) (O : List Nat) (hO : Pu.Perm n O) (hs : s.data.toList = Pu.joinT O) (w : World) (hm : Ml w) :
    Calls Tryd.prog 18 #[.string txt, .string s] w fun e w' => Turns (fun _ => False) w w' ∧ ∃ (g N gc : Nat) (D : Nat → Nat → Int), e = .returned (.tuple #[.slice (some ⟨g, 0, none⟩) N gc, .int .i64 0, .int .i64 0]) ∧ CovW w' n g N len D O ∧ n ≤ N ∧ N ≤ 196 := by
  have hn1 := h.n1
  have hn2 := h.n2
  have hne : O ≠ [] := fun c => by have := hO.len; rw [c] at this; simp at this; omega
  have hp := Pu.joinT_pos hne
  have hl := Pu.joinT_len O (fun m hm => by have := hO.lt m hm; omega)
  rw [← hs] at hp hl
  have es : s.data.toList.length = s.size := by simp
  have hOl := hO.len
  have k := labels_some txt s w (by have := h.size; unfold maxLen; omega) hm (by omega) (by omega)
  rw [h.parse] at k
  refine k.mono ?_
  rintro e w' ⟨hT, h2⟩
  refine ⟨hT, ?_⟩
  rw [hs] at h2
  dsimp only at h2
  rw [Pu.order_back (by omega) (by omega) hO] at h2
  obtain ⟨D, v', hD, rfl, hown⟩ := h2
  have C : Pu.Cov n len D O := ⟨h.net, hD, hO⟩
  have hmany := C.many n (Nat.le_refl _)
  have hlen := Pu.labP_len D O n
  have hb : n * O.length ≤ 14 * 14 := Nat.mul_le_mul (by omega) (by omega)
  obtain ⟨m, hm1⟩ : ∃ m, (Pu.labP D O n).length = m + 1 := ⟨(Pu.labP D O n).length - 1, by omega⟩
  have hown' := hown
  rw [hm1] at hown'
  obtain ⟨g, gc, hv⟩ := owns_form hown'
  rw [← hm1] at hv
  subst hv
  refine ⟨g, _, gc, D, rfl, ⟨C, ?_, rfl⟩, by omega, by omega⟩
  intro i p a f hi
  have hil := (List.getElem?_eq_some_iff.1 hi).1
  obtain ⟨r1, r2, r3⟩ := Pu.rdVals_get _ i p a f hi
  exact ⟨by rw [hown.cellAt _ (by omega)]; exact r1, by rw [hown.cellAt _ (by omega)]; exact r2, by rw [hown.cellAt _ (by omega)]; exact r3⟩

set_option maxRecDepth 100000 in
set_option maxHeartbeats 20000000 in
theorem covered_any (ht : TownSaid) (w : World) (size out : Int) (ra rn : Option Addr) (K cap KN capN : Nat) (raw : Nat → Int × Int × Int) (nums : Nat → Int) (h0 : -9223372036854775808 ≤ size) (h1 : size ≤ 9223372036854775807) (hK : K ≤ 9223372036854775807) (hRaw : Raw w ra K raw)
    (hKN : KN ≤ 9223372036854775807) (hNums : Nums w rn KN nums) (hf0 : -9223372036854775808 ≤ out) (hf1 : out ≤ 9223372036854775807) (hm : Ml w) :
    Calls Tryd.prog 7 #[.int .i64 size, .slice ra K cap, .slice rn KN capN, .int .i64 out] w fun e w' => e = .returned (.bool true) ∧ Turns (fun _ => False) w w' := by
  go_enter Tryd.func7, Tryd.ntmps7
  go_wp2_with fail
  refine (ht w size ra K cap raw h0 h1 hK hRaw).mono ?_
  rintro e w1 ⟨hT1, txt, n, R, v, rb, len, rfl, hTown⟩
  have hm1 := hm.turns hT1 (fun x => x)
  have hn1 := hTown.n1
  have hn2 := hTown.n2
  obtain ⟨lb, lcap, rfl⟩ := hTown.form
  have hN1 : Nums w1 rn KN nums := ⟨fun h => by
    obtain ⟨b, o, e1, e2, e3⟩ := hNums.1 h
    exact ⟨b, o, e1, Nat.lt_of_lt_of_le e2 hT1.size, fun i hi => (hT1.cell (a := ⟨b, o + i, none⟩) e2 (fun x => x)).trans (e3 i hi)⟩, hNums.2⟩
  go_wp2_with fail
  refine (awake_any _ (hm1.alloc _)).mono ?_
  rintro e w2 ⟨rfl, hT2⟩
  have hTB2 : TB w2 w1.heap.size txt n (.slice (some ⟨lb, 0, none⟩) n lcap) := (TB.new w1 txt n _).turns hT2 (fun x => x)
  have hTa : Turns (fun _ => False) w1 w2 := ((Turns.refl _ w1).alloc _).trans hT2
  have hTown2 := hTown.turns hTa
  have hTw2 : Turns (fun _ => False) w w2 := hT1.trans hTa
  have hm2 := hm1.turns hTa (fun x => x)
  have hN2 : Nums w2 rn KN nums := ⟨fun h => by
    obtain ⟨b, o, e1, e2, e3⟩ := hN1.1 h
    exact ⟨b, o, e1, Nat.lt_of_lt_of_le e2 hTa.size, fun i hi => (hTa.cell (a := ⟨b, o + i, none⟩) e2 (fun x => x)).trans (e3 i hi)⟩, hN1.2⟩
  have c0 := hTB2.c0
  have c1 := hTB2.c1
  have hbl := hTB2.lt
  clear hT1 hT2 hTown hm1 hm hRaw hNums hN1 hTa
  have HNUMS : Hid (∀ wx, Turns (fun _ => False) w2 wx → Nums wx rn KN nums) := fun wx hx => ⟨fun h => by
    obtain ⟨b, o, e1, e2, e3⟩ := hN2.1 h
    exact ⟨b, o, e1, Nat.lt_of_lt_of_le e2 hx.size, fun i hi => (hx.cell (a := ⟨b, o + i, none⟩) e2 (fun x => x)).trans (e3 i hi)⟩, hN2.2⟩
  clear hN2
  go_upto_region 3 with fail
  go_cut [11, 12, 13] from 33 to 43 (fun s11 s12 s13 wx => ∃ (g N gc : Nat) (D : Nat → Nat → Int) (O : List Nat), s11 = .slice (some ⟨g, 0, none⟩) N gc ∧ s12 = .int .i64 0 ∧ s13 = .int .i64 0 ∧ CovW wx n g N len D O ∧ n ≤ N ∧ N ≤ 196 ∧ Turns (fun _ => False) w2 wx)
  case first =>
    have HT2 : Hid (TownIs w2 w.heap.size txt n R (.slice (some ⟨lb, 0, none⟩) n lcap) rb len) := hTown2
    have HM2 : Hid (Ml w2) := hm2
    clear hTown2 hm2 hTB2 hTw2
    go_region_with (first
      | (go_at_call 19; refine (order_any _ n KN capN rn nums hn1 hn2 hKN (HNUMS.out _ (by first | exact Turns.refl _ _ | exact (Turns.refl _ _).drew))).mono ?_; rintro e wa ⟨hTa, sO, O, rfl, hO, hsO⟩; have hTA : Turns (fun _ => False) w2 wa := ((Turns.refl _ w2).drew).trans hTa; have ka : wa.cell? ⟨w1.heap.size, 0, none⟩ = some (.string txt) := (hTA.cell (a := ⟨w1.heap.size, 0, none⟩) hbl (fun x => x)).trans c0)
      | (go_at_call 18; refine (labels_town HT2.out sO O hO hsO _ (HM2.out.turns hTA (fun x => x))).mono ?_; rintro e wb ⟨hTb, g, NN, gc, D, rfl, hCW, hNN, hNN2⟩))
    all_goals
      have hTT := hTA.trans hTb
      clear hTa hTb hTA ka
      go_wp2_with fail
      go_meet
      case rel => exact ⟨g, NN, gc, D, O, rfl, rfl, rfl, hCW, hNN, hNN2, hTT⟩
  case rest =>
    obtain ⟨g, N, gc, D, O, rfl, rfl, rfl, hCW, hnN, hN2, hTc⟩ := hcut
    have hTBc := hTB2.turns hTc (fun x => x)
    have hTownc := hTown2.turns hTc
    have hTwc := hTw2.trans hTc
    have hmc := hm2.turns hTc (fun x => x)
    have HALL : Hid (∀ wx, Turns (fun _ => False) wc wx → TB wx w1.heap.size txt n (.slice (some ⟨lb, 0, none⟩) n lcap) ∧ TownIs wx w.heap.size txt n R (.slice (some ⟨lb, 0, none⟩) n lcap) rb len ∧ Ml wx ∧ CovW wx n g N len D O ∧ Turns (fun _ => False) w wx) :=
      fun wx hx => ⟨hTBc.turns hx (fun x => x), hTownc.turns hx, hmc.turns hx (fun x => x), hCW.turns hx, hTwc.trans hx⟩
    have HC : Hid (Pu.Cov n len D O ∧ (Pu.labP D O n).length = N) := ⟨hCW.cov, hCW.len⟩
    have e1 := hTBc.c1
    clear hTB2 hTown2 hTw2 hm2 hTc hTBc hTownc hTwc hmc hCW c0 c1 hbl HNUMS hKN
    have hnNi : ¬ (N : Int) < (n : Int) := by omega
    obtain ⟨tb, htb⟩ : ∃ tb, w1.heap.size = tb := ⟨_, rfl⟩
    rw [htb] at HALL e1
    go_wp2
    clear htb
    go_loopw [14] (fun uv wr => ∃ u : Nat, uv = .int .i64 u ∧ u ≤ n ∧ Turns (fun _ => False) wc wr) (fun uv _ => n - (intOf uv).toNat)
    case atStart => exact ⟨0, rfl, Nat.zero_le _, Turns.refl _ _⟩
    case round =>
      clear e1
      obtain ⟨u, rfl, hu, hTu⟩ := hrel
      have e1 := (HALL.out _ hTu).1.c1
      by_cases hun : u < n
      · have huni : (u : Int) < (n : Int) := by omega
        have HTU : Hid (Turns (fun _ => False) wc wr) := hTu
        clear hTu
        go_wp2
        go_loopw [15] (fun vv wr => ∃ v : Nat, vv = .int .i64 v ∧ v ≤ u + 1 ∧ Turns (fun _ => False) wc wr) (fun vv _ => u + 1 - (intOf vv).toNat)
        case atStart => exact ⟨0, rfl, Nat.zero_le _, HTU.out⟩
        case round =>
          clear HTU e1
          obtain ⟨v, rfl, hv, hTv⟩ := hrel
          by_cases hvu : v ≤ u
          · have hvui : (v : Int) ≤ (u : Int) := by omega
            obtain ⟨a1, a2, a3, a4, a5⟩ := HALL.out _ hTv
            have t0 := a1.c0
            have cr := route_town a2 u v hun (by omega) wr a3
            have hvn : v < n := by omega
            clear a1 a2 a3 a4 a5
            go_wp2_with fail
            refine cr.mono ?_
            rintro e w5 ⟨hT5, far, hD, h5⟩
            have hT5' := hTv.trans hT5
            have hfar : D u v = far u := Pu.Dist.sym HC.out.1.net hvn hun (HC.out.1.dist u hun) hD
            obtain ⟨bb, hbb⟩ := Pu.Best.any (S := Pu.Through (Pu.labP D O n) (-1) u v) (fun s hs => by
              have := HC.out.1.low hs
              have := HC.out.1.rng this.1 this.2.1
              omega)
            have hbe := HC.out.1.tells hun hvn hbb
            rw [hbe] at hbb
            have cl := (HALL.out _ hT5').2.2.2.1.least gc (-1) u v (D u v) (by omega) (by omega) (by omega) hbb
            have HX : Hid (∀ q, ∃ v' : Nat, (Value.int .i64 ((v : Int) + 1)) = .int .i64 v' ∧ v' ≤ u + 1 ∧ Turns (fun _ => False) wc (w5.drewN q)) := fun q => ⟨v + 1, by go_num, by omega, hT5'.drewN q⟩
            have hrg := HC.out.1.rng hun hvn
            rw [hfar] at cl hrg
            clear cr hT5 hT5' hbb hbe hfar hTv t0
            rcases h5 with ⟨h6, rfl⟩ | ⟨h6, way, g5, gc5, _, rfl, _⟩
            · rw [h6] at cl
              clear hrg h6 hD
              go_wp2_with fail
              refine cl.mono ?_
              rintro e w6 ⟨rfl, q, hw6⟩
              subst hw6
              clear cl
              go_wp2
              go_roundw
              case measure => simp [intOf]; omega
              case rel => exact HX.out _
            · have hff : (far u != far u) = false := by simp
              clear hrg hD
              generalize far u = fu at *
              go_wp2_with fail
              refine cl.mono ?_
              rintro e w6 ⟨rfl, q, hw6⟩
              subst hw6
              clear cl
              go_wp2
              go_roundw
              case measure => simp [intOf]; omega
              case rel => exact HX.out _
          · have hvui : ¬ (v : Int) ≤ (u : Int) := by omega
            have HX : Hid (∃ u' : Nat, (Value.int .i64 ((u : Int) + 1)) = .int .i64 u' ∧ u' ≤ n ∧ Turns (fun _ => False) wc wr) := ⟨u + 1, by go_num, by omega, hTv⟩
            clear hTv
            go_wp2
            go_roundw
            case measure => simp [intOf]; omega
            case rel => exact HX.out
      · have huni : ¬ (u : Int) < (n : Int) := by omega
        have HTU : Hid (Turns (fun _ => False) wc wr) := hTu
        clear hTu
        go_wp2
        go_loopw [21] (fun iv wr => ∃ i : Nat, iv = .int .i64 i ∧ i ≤ N ∧ Turns (fun _ => False) wc wr) (fun iv _ => N - (intOf iv).toNat)
        case atStart => exact ⟨0, rfl, Nat.zero_le _, HTU.out⟩
        case round =>
          clear HTU e1
          obtain ⟨i, rfl, hi, hTi⟩ := hrel
          by_cases hiN : i < N
          · have hiNi : (i : Int) < (N : Int) := by omega
            obtain ⟨a1, a2, a3, a4, a5⟩ := HALL.out _ hTi
            obtain ⟨p, h, f, hx⟩ : ∃ p h f, (Pu.labP D O n)[i]? = some (p, h, f) := ⟨(Pu.labP D O n)[i]'(by have := HC.out.2; omega) |>.1, (Pu.labP D O n)[i]'(by have := HC.out.2; omega) |>.2.1, (Pu.labP D O n)[i]'(by have := HC.out.2; omega) |>.2.2, List.getElem?_eq_getElem _⟩
            obtain ⟨d1, d2, d3⟩ := a4.at' i p h f hx
            obtain ⟨x1, x2, x3, x4, x5, x6⟩ := HC.out.1.each (List.mem_of_getElem? hx)
            have t0 := a1.c0
            have HCR : Hid (∀ wx, Turns (fun _ => False) wr wx → Calls Tryd.prog 16 #[.string txt, .int .i64 p, .int .i64 h] wx fun e w5 => (∃ lv, e = .returned (.tuple #[lv, .int .i64 f, .int .i64 0, .int .i64 0])) ∧ Turns (fun _ => False) wr w5) := by
              intro wx hxx
              refine (route_town a2 p h x1 x2 wx (a3.turns hxx (fun x => x))).mono ?_
              rintro e w5 ⟨hT5, far, hDf, h5⟩
              have hfar : D p h = far p := Pu.Dist.sym HC.out.1.net x2 x1 (HC.out.1.dist p x1) hDf
              refine ⟨?_, hxx.trans hT5⟩
              rcases h5 with ⟨h6, _⟩ | ⟨_, way, g5, gc5, _, rfl, _⟩
              · omega
              · exact ⟨_, by rw [x3, hfar]⟩
            have hbt : tb < wr.heap.size := a1.lt
            have hbg : g < wr.heap.size := World.block_lt_of_cell? _ _ d1
            have HPREV : Hid (0 < i → ∃ pp : Nat, pp ≤ p ∧ ∀ wx, Turns (fun _ => False) wr wx → wx.cell? ⟨g, (i - 1) * 3, none⟩ = some (.int .i64 (pp : Int))) := by
              intro hpos
              obtain ⟨j, rfl⟩ : ∃ j, i = j + 1 := ⟨i - 1, by omega⟩
              obtain ⟨p', h', f', hx'⟩ : ∃ p h f, (Pu.labP D O n)[j]? = some (p, h, f) := ⟨(Pu.labP D O n)[j]'(by have := HC.out.2; omega) |>.1, (Pu.labP D O n)[j]'(by have := HC.out.2; omega) |>.2.1, (Pu.labP D O n)[j]'(by have := HC.out.2; omega) |>.2.2, List.getElem?_eq_getElem _⟩
              refine ⟨p', Pu.labP_rising hx' hx, fun wx hxx => ?_⟩
              have c := (a4.at' j p' h' f' hx').1
              exact (hxx.cell (World.block_lt_of_cell? _ _ c) (fun x => x)).trans c
            have HD3 : Hid (∀ wx, Turns (fun _ => False) wr wx → wx.cell? ⟨g, i * 3 + 2, none⟩ = some (.int .i64 f)) := fun wx hxx => (hxx.cell (World.block_lt_of_cell? _ _ d3) (fun x => x)).trans d3
            have HX : Hid (∀ wx, Turns (fun _ => False) wr wx → ∃ i' : Nat, (Value.int .i64 ((i : Int) + 1)) = .int .i64 i' ∧ i' ≤ N ∧ Turns (fun _ => False) wc wx) := fun wx hxx => ⟨i + 1, by go_num, by omega, hTi.trans hxx⟩
            have hff : (f != f) = false := by simp
            clear a1 a2 a3 a4 a5 hx x1 x2 x3 x4 hTi d3
            go_wp2_with fail
            go_region_held3 (fun w' => w'.cell? ⟨tb, 0, none⟩ = some (.string txt) ∧ w'.cell? ⟨g, i * 3, none⟩ = some (.int .i64 p) ∧ w'.cell? ⟨g, i * 3 + 1, none⟩ = some (.int .i64 h)) (go_keep)
              (first | (go_at_call 16; refine (HCR.out _ (by first | exact Turns.refl _ _ | exact (Turns.refl _ _).drew)).mono ?_; rintro e w5 ⟨⟨lv, rfl⟩, hT5⟩; have k0 : w5.cell? ⟨tb, 0, none⟩ = some (.string txt) := (hT5.cell (a := ⟨tb, 0, none⟩) hbt (fun x => x)).trans t0; have k1 : w5.cell? ⟨g, i * 3, none⟩ = some (.int .i64 p) := (hT5.cell (a := ⟨g, i * 3, none⟩) hbg (fun x => x)).trans d1; have k2 : w5.cell? ⟨g, i * 3 + 1, none⟩ = some (.int .i64 h) := (hT5.cell (a := ⟨g, i * 3 + 1, none⟩) hbg (fun x => x)).trans d2))
            all_goals
              have k3 := HD3.out w5 hT5
              by_cases hi0 : 0 < i
              · obtain ⟨pp, hpp, hpc⟩ := HPREV.out hi0
                have k4 := hpc w5 hT5
                have HY : Hid (∀ q, ∃ i' : Nat, (Value.int .i64 ((i : Int) + 1)) = .int .i64 i' ∧ i' ≤ N ∧ Turns (fun _ => False) wc (w5.drewN q)) := fun q => HX.out _ (hT5.drewN q)
                clear hpc HPREV HD3 HX HCR t0 d1 d2
                have n1 : decide ((0 : Int) < (i : Int)) = true := by simp; omega
                have n2 : decide ((p : Int) < (pp : Int)) = false := by simp; omega
                have n4 : (i : Int) - 1 < (N : Int) := by omega
                go_wp2
                have n3 : (0 : Int) ≤ (i : Int) - 1 := by omega
                have n5 : ¬ (i : Int) - 1 < 0 := by omega
                have n6 : (0 : Int) < (i : Int) := by omega
                go_quiet (fail)
                go_wp2
                go_roundw
                case measure => simp [intOf]; omega
                case rel => exact HY.out _
              · have HY : Hid (∀ q, ∃ i' : Nat, (Value.int .i64 ((i : Int) + 1)) = .int .i64 i' ∧ i' ≤ N ∧ Turns (fun _ => False) wc (w5.drewN q)) := fun q => HX.out _ (hT5.drewN q)
                clear HPREV HD3 HX HCR t0 d1 d2
                have n1 : decide ((0 : Int) < (i : Int)) = false := by simp; omega
                go_wp2
                go_quiet (fail)
                go_wp2
                go_roundw
                case measure => simp [intOf]; omega
                case rel => exact HY.out _
          · have hiNi : ¬ (i : Int) < (N : Int) := by omega
            obtain ⟨a1, a2, a3, a4, a5⟩ := HALL.out _ hTi
            have hpk := Pu.pick_lt out (n := N) (by omega)
            have cp := pick_any out N wr hf0 hf1 (by omega) (by omega)
            generalize Pu.pick out N = k at *
            obtain ⟨p, h, f, hx⟩ : ∃ p h f, (Pu.labP D O n)[k]? = some (p, h, f) := ⟨(Pu.labP D O n)[k]'(by have := HC.out.2; omega) |>.1, (Pu.labP D O n)[k]'(by have := HC.out.2; omega) |>.2.1, (Pu.labP D O n)[k]'(by have := HC.out.2; omega) |>.2.2, List.getElem?_eq_getElem _⟩
            obtain ⟨d1, d2, d3⟩ := a4.at' k p h f hx
            obtain ⟨x1, x2, x3, x4, x5, x6⟩ := HC.out.1.each (List.mem_of_getElem? hx)
            obtain ⟨bb, hbb⟩ := Pu.Best.any (S := Pu.Through (Pu.labP D O n) (k : Int) p h) (fun s hs => by
              have := HC.out.1.low hs
              have := HC.out.1.rng this.1 this.2.1
              omega)
            have hneed := HC.out.1.needed hx hbb
            obtain ⟨k2, hk2⟩ := List.mem_iff_getElem?.1 (HC.out.1.self x1)
            have HLE : Hid (∀ q, Calls Tryd.prog 20 #[.slice (some ⟨g, 0, none⟩) N gc, .int .i64 k, .int .i64 p, .int .i64 h] (wr.drewN q) fun e w' => e = .returned (.int .i64 bb) ∧ ∃ q', w' = (wr.drewN q).drewN q') :=
              fun q => (a4.turns ((Turns.refl _ wr).drewN q)).least gc (k : Int) p h bb (by omega) (by omega) (by omega) hbb
            have HLA : Hid (∀ wx, (∃ q, wx = wr.drewN q) → Calls Tryd.prog 21 #[.slice (some ⟨g, 0, none⟩) N gc, .int .i64 p, .int .i64 p] wx fun e w' => e = .returned (.int .i64 0) ∧ ∃ q', w' = wx.drewN q') :=
              fun wx hwx => label_any wx g gc N (Pu.labP D O n) p k2 0 HC.out.2 (by omega) (a4.turns (by obtain ⟨q, rfl⟩ := hwx; exact (Turns.refl _ wr).drewN q)).at' (by omega) hk2 (fun j f' hj => by
                have y := HC.out.1.each (List.mem_of_getElem? hj)
                rw [y.2.2.1]
                exact (HC.out.1.dist p x1).f0)
            have hki : (k : Int) < (N : Int) := by omega
            have HT : Hid (Turns (fun _ => False) w wr) := a5
            clear a1 a2 a3 a4 a5 hx x1 x2 x3 x4 hTi hbb hk2 HALL HC
            have hor : (bb < 0) ∨ (0 ≤ bb ∧ f < bb) := by omega
            clear hneed
            rcases hor with hb | ⟨hb, hb'⟩
            all_goals
              go_wp2_with (go_at_call 15; refine cp.mono ?_; rintro e w5 ⟨rfl, hw5⟩; subst w5)
              go_quiet ((go_at_call 20; exact Calls.quiet_of (HLE.out _)))
              rename_i nq
              obtain ⟨w6, hw6⟩ : ∃ w6, wr.drewN nq = w6 := ⟨_, rfl⟩
              rw [hw6]
              have z1 : w6.cell? ⟨g, k * 3, none⟩ = some (.int .i64 p) := by rw [← hw6]; exact d1
              have z3 : w6.cell? ⟨g, k * 3 + 2, none⟩ = some (.int .i64 f) := by rw [← hw6]; exact d3
              have HL6 : Hid (∀ q, Calls Tryd.prog 21 #[.slice (some ⟨g, 0, none⟩) N gc, .int .i64 p, .int .i64 p] (w6.drewN q) fun e w' => e = .returned (.int .i64 0) ∧ ∃ q', w' = (w6.drewN q).drewN q') := fun q => HLA.out _ ⟨nq + q, by rw [← hw6, World.drewN_drewN]⟩
              have HT6 : Hid (Turns (fun _ => False) w w6) := by rw [← hw6]; exact HT.out.drewN nq
              clear hw6 d1 d2 d3 HLA HLE HT
              go_wp2
              go_quiet ((go_at_call 21; exact Calls.quiet_of (HL6.out _)))
              go_wp2
              go_ret
              exact ⟨by simp, HT6.out.drewN _⟩
#print axioms covered_any
end Go.Proofs.YtdogncjcainhlaaDoor
