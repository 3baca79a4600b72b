/- The walk of the reference's Route. -/
import Derived.Test.YtdogncjcainhlaaDoorRRead
import Derived.Test.YtdogncjcainhlaaDoorCalls
namespace Go.Proofs.YtdogncjcainhlaaDoor
open Go.RowKit Go.Deep
open Mem

theorem Mem.Grid.at' {w : World} {B n lb cap : Nat} {rb : List Nat} {len : Nat → Nat → Int} (h : Grid w B n (.slice (some ⟨lb, 0, none⟩) n cap) rb len) (hl : rb.length = n) {i j : Nat} (hi : i < n) (hj : j < n) :
    ∃ r, w.cell? ⟨lb, i, none⟩ = some (.slice (some ⟨r, 0, none⟩) n n) ∧ w.cell? ⟨r, j, none⟩ = some (.int .i64 (len i j)) := by
  obtain ⟨r, hr⟩ : ∃ r, rb[i]? = some r := ⟨_, List.getElem?_eq_getElem (by omega)⟩
  subst hl
  exact ⟨r, h.cell hr, (h.row i r hr).1.cell j hj⟩

/-- How far it is, as the reference's table has it. -/
def tab (far : Nat → Int) (y : Nat) : Int := if far y = -1 then 1000000000 else far y
theorem tab_good {n : Nat} {len : Nat → Nat → Int} {far : Nat → Int} {t a y : Nat} (hD : Pu.Dist n len t far) (L : Pu.Lens len) (ha : a < n) (hy : y < n) (ha0 : 0 ≤ far a) : (0 < len a y ∧ len a y + tab far y = tab far a) ↔ Good len far a y := by
  have h1 := L.rng a y
  have e : tab far a = far a := by unfold tab; rw [if_neg (by omega)]
  rw [e]
  constructor
  · rintro ⟨h2, h3⟩
    have h4 := (hD.ed a y ha hy ha0 (by omega)).1
    have e' : tab far y = far y := by unfold tab; rw [if_neg (by omega)]
    exact ⟨by omega, by omega⟩
  · rintro ⟨h2, h3⟩
    have h4 := (hD.ed a y ha hy ha0 h2).1
    have e' : tab far y = far y := by unfold tab; rw [if_neg (by omega)]
    exact ⟨by omega, by omega⟩
theorem tab_bd {n : Nat} {len : Nat → Nat → Int} {far : Nat → Int} {t y : Nat} (hD : Pu.Dist n len t far) (hy : y < n) : 0 ≤ tab far y ∧ tab far y ≤ 1000000000 := by
  have := hD.rng y hy
  unfold tab; split <;> omega

/-- The least good place of those from j on, or -1. -/
def NextIs (n : Nat) (len : Nat → Nat → Int) (far : Nat → Int) (a j : Nat) (nx : Int) : Prop := (nx = -1 ∧ ∀ i, j ≤ i → i < n → ¬ Good len far a i) ∨ ∃ m : Nat, nx = m ∧ j ≤ m ∧ m < n ∧ Good len far a m ∧ ∀ i, j ≤ i → i < m → ¬ Good len far a i
theorem NextIs.hit {n : Nat} {len : Nat → Nat → Int} {far : Nat → Int} {a j : Nat} (hj : j < n) (hg : Good len far a j) : NextIs n len far a j j := Or.inr ⟨j, rfl, Nat.le_refl _, hj, hg, fun i h1 h2 => by omega⟩
theorem NextIs.miss {n : Nat} {len : Nat → Nat → Int} {far : Nat → Int} {a j : Nat} {nx : Int} (h : NextIs n len far a (j + 1) nx) (hg : ¬ Good len far a j) : NextIs n len far a j nx := by
  rcases h with ⟨h1, h2⟩ | ⟨m, h1, h2, h3, h4, h5⟩
  · refine Or.inl ⟨h1, fun i hi hn => ?_⟩
    by_cases e : i = j
    · subst e; exact hg
    · exact h2 i (by omega) hn
  · refine Or.inr ⟨m, h1, by omega, h3, h4, fun i hi hn => ?_⟩
    by_cases e : i = j
    · subst e; exact hg
    · exact h5 i (by omega) hn

set_option maxHeartbeats 400000 in
theorem rroute_err (x : ByteArray) (s t : Int) (w : World) (hs : x.size ≤ 2000000) (c p : Int) (hp : Pu.parse x.data.toList = .err c p) :
    Calls Tryd.prog 25 #[.string x, .int .i64 s, .int .i64 t] w (RoutePost w (.err c p) s t) := by
  have k := rread_any x w hs
  rw [hp] at k
  have he := Pu.parse_err hp
  have hne : (c != 0) = true := by simp; omega
  clear hp he
  go_enter Tryd.func25, Tryd.ntmps25
  go_wp2_with (go_at_call 23; refine k.mono ?_; rintro e w1 ⟨hT, rfl⟩)
  exact bodyPost_ret (v := .tuple #[.slice none 0 0, .int .i64 0, .int .i64 c, .int .i64 p]) (by simp [results, Tryd.results25, go_sem]) rfl ⟨‹_›, rfl⟩
set_option maxHeartbeats 400000 in
theorem rroute_out (x : ByteArray) (s t : Int) (w : World) (hs : x.size ≤ 2000000) (n q : Nat) (len : Nat → Nat → Int) (hp : Pu.parse x.data.toList = .ok n q len) (hno : ¬ InMap n s t) :
    Calls Tryd.prog 25 #[.string x, .int .i64 s, .int .i64 t] w (RoutePost w (.ok n q len) s t) := by
  have k := rread_any x w hs
  rw [hp] at k
  clear hp
  have hor : s < 0 ∨ (0 ≤ s ∧ (n : Int) ≤ s) ∨ (0 ≤ s ∧ s < (n : Int) ∧ t < 0) ∨ (0 ≤ s ∧ s < (n : Int) ∧ 0 ≤ t ∧ (n : Int) ≤ t) := by unfold InMap at hno; omega
  have HNO : Hid (¬ InMap n s t) := hno
  clear hno
  go_enter Tryd.func25, Tryd.ntmps25
  go_wp2_with fail
  refine k.mono ?_
  rintro e w1 ⟨hT, b, lb, lcap, fg, fcap, rb, fb, rfl, _, hB, _⟩
  have c0 := hB.c0
  clear k hB
  rcases hor with h | ⟨h, h1⟩ | ⟨h, h1, h2⟩ | ⟨h, h1, h2, h3⟩
  all_goals
    go_wp2
    exact bodyPost_ret (v := .tuple #[.slice none 0 0, .int .i64 0, .int .i64 5, .int .i64 0]) (by simp [results, Tryd.results25, go_sem]) rfl ⟨hT, Or.inl ⟨HNO.out, rfl⟩⟩
set_option maxRecDepth 1000000 in
set_option maxHeartbeats 2000000 in
theorem rroute_in (x : ByteArray) (s t : Nat) (w : World) (hs : x.size ≤ 2000000) (n q : Nat) (len : Nat → Nat → Int) (hp : Pu.parse x.data.toList = .ok n q len) (hs' : s < n) (ht' : t < n) :
    Calls Tryd.prog 25 #[.string x, .int .i64 s, .int .i64 t] w (RoutePost w (.ok n q len) s t) := by
  have k := rread_any x w hs
  rw [hp] at k
  obtain ⟨hn1, hn2, _, hN⟩ := Pu.parse_ok hp
  obtain ⟨far, hD⟩ := Pu.Dist.any (s := t) hN.lens hn2
  clear hp
  go_enter Tryd.func25, Tryd.ntmps25
  go_wp2_with fail
  refine k.mono ?_
  rintro e w1 ⟨hT, b, lb, lcap, fg, fcap, rb, fb, rfl, hb, hB, hrl, hfl, hG, hF⟩
  clear k
  have hin : InMap n s t := ⟨by omega, by omega, by omega, by omega⟩
  have HT : Hid (∀ y, y < n → ∃ r, w1.cell? ⟨fg, y, none⟩ = some (.slice (some ⟨r, 0, none⟩) n n) ∧ w1.cell? ⟨r, t, none⟩ = some (.int .i64 (tab far y))) := fun y hy => by
    obtain ⟨r, h1, h2⟩ := hF.at' hfl hy ht'
    exact ⟨r, h1, by rw [h2, Pu.table_says hN hn2 ht' hD hy]; rfl⟩
  have HL : Hid (∀ i j, i < n → j < n → ∃ r, w1.cell? ⟨lb, i, none⟩ = some (.slice (some ⟨r, 0, none⟩) n n) ∧ w1.cell? ⟨r, j, none⟩ = some (.int .i64 (len i j))) := fun i j hi hj => hG.at' hrl hi hj
  have c0 := hB.c0
  have c2 := hB.c2
  have c3 := hB.c3
  have hbl := hB.lt
  have HC : Hid (∀ wx, Turns (fun _ => False) w1 wx → ∀ (a : Addr) (v : Value), w1.cell? a = some v → wx.cell? a = some v) := fun wx hx a v ha => (hx.cell (World.block_lt_of_cell? _ _ ha) (fun x => x)).trans ha
  obtain ⟨rs, hs1, hs2⟩ := HT.out s hs'
  have hsi : (s : Int) < (n : Int) := by omega
  have hti : (t : Int) < (n : Int) := by omega
  have hrs := hD.rng s hs'
  have hns : (n ≤ s) = False := by simp; omega
  have hnt : (n ≤ t) = False := by simp; omega
  clear hB hrl hfl hG hF
  by_cases h1 : far s = -1
  · have e : tab far s = 1000000000 := by unfold tab; rw [if_pos h1]
    rw [e] at hs2
    have HX : Hid (∃ far, Pu.Dist n len t far ∧ far s = -1) := ⟨far, hD, h1⟩
    clear h1 hrs hD e
    go_wp2
    obtain ⟨far, hD, h1⟩ := HX.out
    exact bodyPost_ret (v := .tuple #[.slice none 0 0, .int .i64 0, .int .i64 6, .int .i64 0]) (by simp [results, Tryd.results25, go_sem]) rfl ⟨hT, Or.inr ⟨hin, far, by simpa using hD, Or.inl ⟨by simpa using h1, rfl⟩⟩⟩
  · have h0 : 0 ≤ far s := by omega
    have e : tab far s = far s := by unfold tab; rw [if_neg h1]
    rw [e] at hs2
    have hlow : far s < 1000000000 := by omega
    obtain ⟨i0, hi, hz0, hz1, hz2⟩ := info_parts info3
    clear h1 e
    have hT1 := hT.size
    have hrow : (w1.alloc (.cells #[.int .i64 (s : Int)] 3)).ownsRow w1.heap.size 3 1 (.slice (some ⟨w1.heap.size, 0, none⟩) 1 1) 1 (vals [s]) := World.ownsRow_lit w1 #[.int .i64 (s : Int)] 1 (Nat.le_refl _) (by decide) rfl
    go_wp2_with fail
    go_loopg [13, 14] (far s).toNat (fun gk v va wr => FirstInv w1 n len far s t gk v va wr)
    case atStart => exact ⟨s, [], w1.heap.size, 1, rfl, rfl, hs', h0, hrow, fun l h => h, by simp, by omega, (Turns.refl _ _).alloc _⟩
    case round =>
      obtain ⟨a, p, g, cap, rfl, rfl, ha, ha0, hown, hway, hlen, hgk, hTr⟩ := hrel
      clear hrow
      by_cases hat : a = t
      · subst hat
        have hne : ((a : Int) != (a : Int)) = false := by simp
        have d3 := HC.out _ hTr _ _ c3
        have e1 := HC.out _ hTr _ _ hs1
        have e2 := HC.out _ hTr _ _ hs2
        have HX : Hid (Turns (fun _ => False) w wr ∧ ∃ far', Pu.Dist n len a far' ∧ 0 ≤ far' s ∧ far' s = far s ∧ ∃ way, Way n len far' a s way ∧ wr.ownsRow w.heap.size 3 1 (.slice (some ⟨g, 0, none⟩) (p.length + 1) cap) way.length (vals way)) :=
          ⟨hT.trans hTr, far, hD, h0, rfl, p ++ [a], hway _ Way.done, by simpa using owns_mono hown hT1⟩
        clear hD hway hown hT hTr HT HL HC
        go_wp2_with fail
        go_quiet (fail)
        go_wp2
        obtain ⟨h1, far', h2, h3, h4, way, h5, h6⟩ := HX.out
        exact bodyPost_ret (v := .tuple #[.slice (some ⟨g, 0, none⟩) (p.length + 1) cap, .int .i64 (far s), .int .i64 0, .int .i64 0]) (by simp [results, Tryd.results25, go_sem]) rfl
          ⟨h1.drewN _, Or.inr ⟨hin, far', by simpa using h2, Or.inr ⟨by simpa using h3, way, _, by simpa using h5, by simp [h4], h6⟩⟩⟩
      · have hne : ((a : Int) != (t : Int)) = true := by simp; omega
        obtain ⟨wo, hwo⟩ : ∃ wo, wo = wr := ⟨_, rfl⟩
        subst hwo
        have d0 := HC.out _ hTr _ _ c0
        obtain ⟨ra, ha1, ha2⟩ := HT.out a ha
        have hra := hD.rng a ha
        have eta : tab far a = far a := by unfold tab; rw [if_neg (by omega)]
        have HGood : Hid (∀ y, y < n → ((0 < len a y ∧ len a y + tab far y = far a) ↔ Good len far a y)) := fun y hy => by rw [← eta]; exact tab_good hD hN.lens ha hy ha0
        rw [eta] at ha2
        have d3 := HC.out _ hTr _ _ c3
        have d2 := HC.out _ hTr _ _ c2
        have e1 := HC.out _ hTr _ _ ha1
        have e2 := HC.out _ hTr _ _ ha2
        have hai : (a : Int) < (n : Int) := by omega
        go_wp2_with fail
        go_loopw [15, 16] (fun nv yv wx => ∃ (j q : Nat) (nx : Int), yv = .int .i64 ((j : Int) - 1) ∧ j ≤ n ∧ nv = .int .i64 nx ∧ NextIs n len far a j nx ∧ wx = wo.drewN q) (fun _ yv _ => (intOf yv + 1).toNat)
        case atStart => exact ⟨n, 0, -1, by simp, Nat.le_refl _, rfl, Or.inl ⟨rfl, fun i h1 h2 => by omega⟩, rfl⟩
        case round =>
          obtain ⟨j, q, nx, rfl, hj, rfl, hnx, hwr⟩ := hrel
          have X0 : wr.cell? ⟨b, 0, none⟩ = some (.int .i64 n) := by rw [hwr]; exact d0
          by_cases hj0 : j = 0
          · subst hj0
            obtain ⟨i, hi1, hi2, hi3, hi4⟩ := hD.pre a ha hat ha0
            have hgi : Good len far a i := ⟨by rw [hN.sym]; exact hi3, by rw [hN.sym a i, hi4]; omega⟩
            obtain ⟨m, rfl, hm, hG, hno⟩ : ∃ m : Nat, nx = m ∧ m < n ∧ Good len far a m ∧ ∀ i, i < m → ¬ Good len far a i := by
              rcases hnx with ⟨_, h2⟩ | ⟨m, h1, _, h3, h4, h5⟩
              · exact absurd hgi (h2 i (Nat.zero_le _) hi1)
              · exact ⟨m, h1, h3, h4, fun i hi => h5 i (Nat.zero_le _) hi⟩
            have hj0 := (hD.ed a m ha hm ha0 hG.1).1
            have hlj := hN.lens.rng a m
            have hgg := hG.2
            have hgn := hG.1
            have hrs2 := hD.rng s hs'
            have hsz : w1.heap.size ≤ wr.heap.size := by rw [hwr]; exact hTr.size
            have hown2 : wr.ownsRow w1.heap.size 3 1 (.slice (some ⟨g, 0, none⟩) (p.length + 1) cap) (p.length + 1) (vals (p ++ [a])) := by rw [hwr]; exact hown
            have hT2 : Turns (fun _ => False) w1 wr := by rw [hwr]; exact hTr.drewN q
            have HW : Hid (∀ l, Way n len far t m l → Way n len far t s (p ++ (a :: l))) := fun l hl => hway _ (Way.step a m l hat hm ⟨hG, hno⟩ hl)
            have hpl : p.length ≤ 40000 := by omega
            have hA : p.length + 1 + far m ≤ far s := by omega
            have hB : far m ≤ ((gk - 1 : Nat) : Int) := by omega
            have hC : gk - 1 < gk := by omega
            clear hwr hway hown hTr hD hi1 hi2 hi3 hi4 hG hno hT hgg hgn hnx hgi HGood HT HL HC d0 d2 d3 e1 e2
            go_wp2_with (at_builtin; refine wpList_append_own _ rfl _ _ 41 rfl w1.heap.size 3 i0 (.int .i64 0) 1 8 Tryd.underlying41 hi hz0 hz1 hz2 rfl (by decide) _ _ _ rfl (hown2.alloc _) ⟨wr.heap.size, 0, none⟩ 1 1 [.int .i64 (m : Int)] rfl rfl ?c1 ?c2 ?c3 ?c4 ?c5 ?_)
            case c1 => exact cell_one_new _ _ _
            case c2 => intro u hu; simp at hu; subst hu; rfl
            case c3 => unfold maxLen; omega
            case c4 => omega
            case c5 => simp; omega
            intro v' w3 hown3 hgrow _
            have hT3 : Turns (fun _ => False) w1 w3 := (hT2.alloc _).grown hgrow (fun k hk => Or.inl (hown2.lt k hk).1)
            obtain ⟨g', cap', hv'⟩ := owns_form hown3
            rw [hv'] at hown3 ⊢
            rw [vals_snoc] at hown3
            have HR : Hid (FirstInv w1 n len far s t (gk - 1) (.slice (some ⟨g', 0, none⟩) (p.length + 1 + 1) cap') (.int .i64 m) w3) :=
              ⟨m, p ++ [a], g', cap', rfl, by simp, hm, hj0, by simpa using hown3, fun l hl => by simpa using HW.out l hl, by simpa using hA, hB, hT3⟩
            clear hown3 hgrow hT3 hT2 hown2 HW hv'
            go_wp2
            go_roundg (gk - 1)
            case measure => exact hC
            case rel => exact HR.out
          · obtain ⟨y, rfl⟩ : ∃ y, j = y + 1 := ⟨j - 1, by omega⟩
            have hy : y < n := by omega
            have ey : ((y + 1 : Nat) : Int) - 1 = (y : Int) := by omega
            rw [ey]
            obtain ⟨r1, r1a, r1b⟩ := HL.out a y ha hy
            obtain ⟨r2, r2a, r2b⟩ := HT.out y hy
            have X2 : wr.cell? ⟨b, 2, none⟩ = some (.slice (some ⟨lb, 0, none⟩) n lcap) := by rw [hwr]; exact d2
            have X3 : wr.cell? ⟨b, 3, none⟩ = some (.slice (some ⟨fg, 0, none⟩) n fcap) := by rw [hwr]; exact d3
            have X4 : wr.cell? ⟨fg, a, none⟩ = some (.slice (some ⟨ra, 0, none⟩) n n) := by rw [hwr]; exact e1
            have X5 : wr.cell? ⟨ra, t, none⟩ = some (.int .i64 (far a)) := by rw [hwr]; exact e2
            have X6 : wr.cell? ⟨lb, a, none⟩ = some (.slice (some ⟨r1, 0, none⟩) n n) := by rw [hwr]; exact HC.out _ hTr _ _ r1a
            have X7 : wr.cell? ⟨r1, y, none⟩ = some (.int .i64 (len a y)) := by rw [hwr]; exact HC.out _ hTr _ _ r1b
            have X8 : wr.cell? ⟨fg, y, none⟩ = some (.slice (some ⟨r2, 0, none⟩) n n) := by rw [hwr]; exact HC.out _ hTr _ _ r2a
            have X9 : wr.cell? ⟨r2, t, none⟩ = some (.int .i64 (tab far y)) := by rw [hwr]; exact HC.out _ hTr _ _ r2b
            have bl := hN.lens.rng a y
            have bt := tab_bd hD hy
            have hyi : (y : Int) < (n : Int) := by omega
            have HHit : Hid (0 < len a y → len a y + tab far y = far a → ∀ nq, ∃ (j q' : Nat) (nx : Int), (Value.int .i64 ((y : Int) - 1)) = .int .i64 ((j : Int) - 1) ∧ j ≤ n ∧ (Value.int .i64 (y : Int)) = .int .i64 nx ∧ NextIs n len far a j nx ∧ wr.drewN nq = wo.drewN q') :=
              fun h1 h2 nq => ⟨y, q + nq, y, rfl, by omega, rfl, NextIs.hit hy ((HGood.out y hy).1 ⟨h1, h2⟩), by rw [hwr, World.drewN_drewN]⟩
            have HMiss : Hid (¬ (0 < len a y ∧ len a y + tab far y = far a) → ∀ nq, ∃ (j q' : Nat) (nx' : Int), (Value.int .i64 ((y : Int) - 1)) = .int .i64 ((j : Int) - 1) ∧ j ≤ n ∧ (Value.int .i64 nx) = .int .i64 nx' ∧ NextIs n len far a j nx' ∧ wr.drewN nq = wo.drewN q') :=
              fun h1 nq => ⟨y, q + nq, nx, rfl, by omega, rfl, hnx.miss (fun c => h1 ((HGood.out y hy).2 c)), by rw [hwr, World.drewN_drewN]⟩
            clear hwr hway hown hTr hD hT hnx HGood HT HL HC d0 d2 d3 e1 e2 r1a r1b r2a r2b ha1 ha2 hs1 hs2 c0 c2 c3 hj hj0 ey hi hz0 hz1 hz2
            by_cases hl : 0 < len a y
            · by_cases hg : len a y + tab far y = far a
              · have hb : (len a y + tab far y == far a) = true := by simp [hg]
                have HZ : Hid (∀ nq, ∃ (j q' : Nat) (nx : Int), (Value.int .i64 ((y : Int) - 1)) = .int .i64 ((j : Int) - 1) ∧ j ≤ n ∧ (Value.int .i64 (y : Int)) = .int .i64 nx ∧ NextIs n len far a j nx ∧ wr.drewN nq = wo.drewN q') := HHit.out hl hg
                clear hg HHit HMiss
                generalize tab far y = ty at *
                generalize far a = fa at *
                go_wp2
                go_quiet (fail)
                go_wp2
                go_roundw
                case measure => simp [intOf]
                case rel => exact HZ.out _
              · have hb : (len a y + tab far y == far a) = false := by simp [hg]
                have HZ : Hid (∀ nq, ∃ (j q' : Nat) (nx' : Int), (Value.int .i64 ((y : Int) - 1)) = .int .i64 ((j : Int) - 1) ∧ j ≤ n ∧ (Value.int .i64 nx) = .int .i64 nx' ∧ NextIs n len far a j nx' ∧ wr.drewN nq = wo.drewN q') := HMiss.out (fun c => hg c.2)
                clear hg HHit HMiss
                generalize tab far y = ty at *
                generalize far a = fa at *
                go_wp2
                go_quiet (fail)
                go_wp2
                go_roundw
                case measure => simp [intOf]
                case rel => exact HZ.out _
            · have hd : decide (0 < len a y) = false := by simp; omega
              have HZ : Hid (∀ nq, ∃ (j q' : Nat) (nx' : Int), (Value.int .i64 ((y : Int) - 1)) = .int .i64 ((j : Int) - 1) ∧ j ≤ n ∧ (Value.int .i64 nx) = .int .i64 nx' ∧ NextIs n len far a j nx' ∧ wr.drewN nq = wo.drewN q') := HMiss.out (fun c => hl c.1)
              clear HHit HMiss hl
              generalize tab far y = ty at *
              generalize far a = fa at *
              go_wp2
              go_quiet (fail)
              go_wp2
              go_roundw
              case measure => simp [intOf]
              case rel => exact HZ.out _
/-- The reference's Route answers as the document has it. -/
theorem rroute_any (x : ByteArray) (s t : Int) (w : World) (hs : x.size ≤ 2000000) :
    Calls Tryd.prog 25 #[.string x, .int .i64 s, .int .i64 t] w (RoutePost w (Pu.parse x.data.toList) s t) := by
  cases hp : Pu.parse x.data.toList with
  | err c p => exact rroute_err x s t w hs c p hp
  | ok n q len =>
    by_cases h : InMap n s t
    · obtain ⟨h1, h2, h3, h4⟩ := h
      obtain ⟨s, rfl⟩ := Int.eq_ofNat_of_zero_le h1
      obtain ⟨t, rfl⟩ := Int.eq_ofNat_of_zero_le h3
      exact rroute_in x s t w hs n q len hp (by omega) (by omega)
    · exact rroute_out x s t w hs n q len hp h
#print axioms rroute_any
end Go.Proofs.YtdogncjcainhlaaDoor
