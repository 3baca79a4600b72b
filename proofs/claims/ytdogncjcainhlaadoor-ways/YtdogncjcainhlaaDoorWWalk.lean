/- The walk of the law bywaykeep.Ways. -/
import Derived.Test.YtdogncjcainhlaaDoorCRead
import Derived.Test.YtdogncjcainhlaaDoorFWalk
import Derived.Test.YtdogncjcainhlaaDoorPCnt
namespace Go.Proofs.YtdogncjcainhlaaDoor
open Go.RowKit Go.Deep
open Mem

/-- How far it is from a to i is d i, as somebody who looks from i would say. -/
def FarTo (n : Nat) (len : Nat → Nat → Int) (a : Nat) (d : Nat → Int) (j : Nat) : Prop := ∀ i, i < j → ∃ f, Pu.Dist n len i f ∧ f a = d i
/-- What holds ahead of each round of Ways's first loop. -/
def WOut (w w4 : World) (fb n a : Nat) (len : Nat → Nat → Int) (c v : Value) (wr : World) : Prop :=
  ∃ (j : Nat) (d : Nat → Int), v = .int .i64 j ∧ j ≤ n ∧ c = .int .i64 (Pu.total len j) ∧ FarTo n len a d j ∧ Ints wr fb n (fun i => if i < j then d i else 0) ∧ Turns (fun _ => False) w wr ∧ Turns (fun _ => False) w4 wr

theorem upd_upd {α : Type} (g : Nat → α) (k : Nat) (x y : α) : upd (upd g k x) k y = upd g k y := by
  funext i
  unfold upd
  by_cases e : i = k
  · rw [if_pos e, if_pos e]
  · rw [if_neg e, if_neg e, if_neg e]
theorem FarTo.step {n : Nat} {len : Nat → Nat → Int} {a j : Nat} {d : Nat → Int} {f : Nat → Int} {x : Int} (h : FarTo n len a d j) (hD : Pu.Dist n len j f) (hx : f a = x) : FarTo n len a (upd d j x) (j + 1) := by
  intro i hi
  by_cases e : i = j
  · subst e; exact ⟨f, hD, by rw [upd_same]; exact hx⟩
  · obtain ⟨f', h1, h2⟩ := h i (by omega)
    exact ⟨f', h1, by rw [upd_other _ _ _ _ e]; exact h2⟩
theorem farK_step (d : Nat → Int) (j i : Nat) (x : Int) : upd (fun i => if i < j then d i else 0) j x i = if i < j + 1 then upd d j x i else 0 := by
  unfold upd
  by_cases e : i = j
  · rw [if_pos e, if_pos (by omega), if_pos e]
  · rw [if_neg e]
    show (if i < j then d i else 0) = _
    by_cases g : i < j
    · rw [if_pos g, if_pos (by omega), if_neg e]
    · rw [if_neg g, if_neg (by omega)]
theorem rowCnt_le (len : Nat → Nat → Int) (v : Nat) : ∀ k, Pu.rowCnt len v k ≤ k
  | 0 => Nat.le_refl _
  | k + 1 => by have := rowCnt_le len v k; rw [Pu.rowCnt]; split <;> omega
theorem total_le (len : Nat → Nat → Int) : ∀ m, Pu.total len m ≤ m * m
  | 0 => Nat.le_refl _
  | m + 1 => by
    have h1 := total_le len m
    have h2 := rowCnt_le len m m
    rw [Pu.total]
    have : (m + 1) * (m + 1) = m * m + m + m + 1 := by rw [Nat.add_mul, Nat.mul_add]; omega
    omega

set_option maxRecDepth 100000 in
set_option maxHeartbeats 1000000 in
theorem ways_any (ht : TownSaid) (w : World) (size fr : Int) (ra : Option Addr) (K cap : Nat) (raw : Nat → Int × Int × Int) (h0 : -9223372036854775808 ≤ size) (h1 : size ≤ 9223372036854775807) (hK : K ≤ 9223372036854775807) (hRaw : Raw w ra K raw)
    (hf0 : -9223372036854775808 ≤ fr) (hf1 : fr ≤ 9223372036854775807) (hm : Ml w) :
    Calls Tryd.prog 4 #[.int .i64 size, .slice ra K cap, .int .i64 fr] w fun e w' => e = .returned (.bool true) ∧ Turns (fun _ => False) w w' := by
  go_enter Tryd.func4, Tryd.ntmps4
  go_wp2_with fail
  refine (ht w size ra K cap raw h0 h1 hK hRaw).mono ?_
  rintro e w1 ⟨hT1, txt, n, R, v, rb, len, rfl, hTown⟩
  have hm1 := hm.turns hT1 (fun x => x)
  have hn1 := hTown.n1
  have hn2 := hTown.n2
  obtain ⟨lb, lcap, rfl⟩ := hTown.form
  go_wp2_with fail
  refine (awake_any _ (hm1.alloc _)).mono ?_
  rintro e w2 ⟨rfl, hT2⟩
  have hTB2 : TB w2 w1.heap.size txt n (.slice (some ⟨lb, 0, none⟩) n lcap) := (TB.new w1 txt n _).turns hT2 (fun x => x)
  have hTown2 := (hTown.turns ((Turns.refl _ w1).alloc (.cells #[.string txt, .int .i64 n, .slice (some ⟨lb, 0, none⟩) n lcap] 35))).turns hT2
  have hTw2 : Turns (fun _ => False) w w2 := (hT1.alloc _).trans hT2
  have hm2 := (hm1.alloc (.cells #[.string txt, .int .i64 n, .slice (some ⟨lb, 0, none⟩) n lcap] 35)).turns hT2 (fun x => x)
  have c0 := hTB2.c0
  clear hT1 hT2 hTown hm1 hm hRaw
  go_wp2_with fail
  refine (read_any txt _ (by have := hTown2.size; unfold maxLen; omega) hm2).mono ?_
  rw [hTown2.parse]
  rintro e w4 ⟨rfl, hT4⟩
  simp only [readV]
  have hTB4 := hTB2.turns hT4 (fun x => x)
  have hTown4 := hTown2.turns hT4
  have hTw4 := hTw2.trans hT4
  have hm4 := hm2.turns hT4 (fun x => x)
  have c1 := hTB4.c1
  clear hTB2 hTown2 hTw2 hm2 hT4 c0
  go_wp2_with fail
  refine (pick_any fr n _ hf0 hf1 (by omega) (by omega)).mono ?_
  rintro e w5 ⟨rfl, hw5⟩
  subst w5
  have ha := Pu.pick_lt fr (n := n) (by omega)
  generalize Pu.pick fr n = a at *
  have hmk := run_make_row' (P := Tryd.prog) 41 3 (.int .i64 0) 8 Tryd.underlying41 info3 rfl .i64 .i64 n (by omega) (by omega)
  have hnn : ((n : Int) != (n : Int)) = false := by simp
  have hI0 := Ints.made w4 n 3 0
  have hT0 : Turns (fun _ => False) w4 (w4.alloc (.cells (madeCells #[.int .i64 0] n) 3)) := (Turns.refl _ _).alloc _
  have hN := hTown4.net
  have hR := Pu.parse_total hTown4.parse
  have HR : Hid (Pu.total len n = R) := hR
  clear hR
  go_wp2
  go_loopw [14, 16] (fun c v wr => WOut w w4 w4.heap.size n a len c v wr) (fun _ v _ => n - (intOf v).toNat)
  case atStart => exact ⟨0, fun _ => 0, rfl, Nat.zero_le _, rfl, (fun i hi => by omega), hI0.congr (fun j _ => by simp), hTw4.trans hT0, hT0⟩
  case round =>
    clear hI0 hT0 hmk hnn c1
    obtain ⟨j, d, rfl, hj, rfl, hF, hI, hTw, hTr⟩ := hrel
    have hTBr := hTB4.turns hTr (fun x => x)
    have n1 := hTBr.c1
    have n0 := hTBr.c0
    have htl := total_le len j
    by_cases hjn : j < n
    · have hTownr := hTown4.turns hTr
      have hmr := hm4.turns hTr (fun x => x)
      go_wp2_with fail
      refine (route_town hTownr a j ha hjn _ hmr).mono ?_
      rintro e w6 ⟨hT6, f, hD, h6⟩
      have hI6 := hI.turns hT6 (fun x => x)
      have hTB6 := hTBr.turns hT6 (fun x => x)
      have hTown6 := hTownr.turns hT6
      have HT6 : Hid (Turns (fun _ => False) w w6 ∧ Turns (fun _ => False) w4 w6) := ⟨hTw.trans hT6, hTr.trans hT6⟩
      have hsz6 := (hTr.trans hT6).size
      have o2 := hTB6.c2
      have hci := hI6.cell j hjn
      have hfi := hI6.free j hjn
      have hbl6 := hTB6.lt
      have hbl : w1.heap.size < w4.heap.size := hTB4.lt
      have hrow : ∀ k, k < n → ∃ r, w6.cell? ⟨lb, j, none⟩ = some (.slice (some ⟨r, 0, none⟩) n n) ∧ w6.cell? ⟨r, k, none⟩ = some (.int .i64 (len j k)) ∧ r < w4.heap.size ∧ lb < w4.heap.size := by
        intro k hk
        obtain ⟨r, q1, q2⟩ := hTown4.cells hjn hk
        have hr1 := World.block_lt_of_cell? _ _ q1
        have hr2 := World.block_lt_of_cell? _ _ q2
        exact ⟨r, ((hTr.trans hT6).cell (a := ⟨lb, j, none⟩) hr1 (fun x => x)).trans q1, ((hTr.trans hT6).cell (a := ⟨r, k, none⟩) hr2 (fun x => x)).trans q2, hr2, hr1⟩
      have h6' : ∃ (lv : Value) (dv fv : Int), e = .returned (.tuple #[lv, .int .i64 dv, .int .i64 fv, .int .i64 0]) ∧ Hid ((f a = -1 ∧ lv = .slice none 0 0 ∧ dv = 0 ∧ fv = 6) ∨
          (0 ≤ f a ∧ ∃ way g gcap, Way n len f j a way ∧ lv = .slice (some ⟨g, 0, none⟩) way.length gcap ∧ dv = f a ∧ fv = 0 ∧ w6.ownsRow wr.heap.size 3 1 (.slice (some ⟨g, 0, none⟩) way.length gcap) way.length (vals way))) := by
        rcases h6 with ⟨h7, rfl⟩ | ⟨h7, way, g, gcap, hW, rfl, hown⟩
        · exact ⟨_, _, _, rfl, Or.inl ⟨h7, rfl, rfl, rfl⟩⟩
        · exact ⟨_, _, _, rfl, Or.inr ⟨h7, way, g, gcap, hW, rfl, rfl, rfl, hown⟩⟩
      obtain ⟨lv, dv, fv, rfl, H6⟩ := h6'
      have hfbl : w4.heap.size < wr.heap.size := hI.lt
      clear hI hTBr hTownr hmr hT6 hTw hTr h6
      go_wp2
      obtain ⟨w7, hw7⟩ : ∃ w7, w6.setCell ⟨w4.heap.size, j, none⟩ (.int .i64 (-1)) = w7 := ⟨_, rfl⟩
      rw [hw7]
      have hS : Turns (· = w4.heap.size) w6 w7 := by rw [← hw7]; exact (Turns.refl (· = w4.heap.size) w6).setCell (Or.inr rfl) _
      have hI7 : Ints w7 w4.heap.size n (upd (fun i => if i < j then d i else 0) j (-1)) := by rw [← hw7]; exact hI6.set hjn (-1)
      have hTB7 := hTB6.turns hS (by omega)
      have HT7 : Hid (Turns (fun _ => False) w w7 ∧ Turns (fun _ => False) w4 w7) := ⟨HT6.out.1.join hS (fun i hi _ c => by have := hTw4.size; omega), HT6.out.2.join hS (fun i hi _ c => by omega)⟩
      have hrow7 : Hid (∀ k, k < n → ∃ r, w7.cell? ⟨lb, j, none⟩ = some (.slice (some ⟨r, 0, none⟩) n n) ∧ w7.cell? ⟨r, k, none⟩ = some (.int .i64 (len j k))) := by
        intro k hk
        obtain ⟨r, q1, q2, q3, q4⟩ := hrow k hk
        exact ⟨r, (hS.cell (a := ⟨lb, j, none⟩) (by show lb < _; omega) (by show ¬ lb = _; omega)).trans q1, (hS.cell (a := ⟨r, k, none⟩) (by show r < _; omega) (by show ¬ r = _; omega)).trans q2⟩
      have t2 := hTB7.c2
      clear hI6 hTB6 hTown6 HT6 hrow o2 hci hfi hbl6 n0 n1
      go_loop [14, 21] (fun c x => ∃ k : Nat, x = .int .i64 k ∧ k ≤ j ∧ c = .int .i64 ((Pu.total len j + Pu.rowCnt len j k : Nat) : Int)) (fun _ x => j - (intOf x).toNat)
      case atStart => exact ⟨0, rfl, Nat.zero_le _, by simp [Pu.rowCnt]⟩
      case round =>
        obtain ⟨k, rfl, hk, rfl⟩ := hrel
        have hrc := rowCnt_le len j k
        by_cases hkj : k < j
        · obtain ⟨r, q1, q2⟩ := hrow7.out k (by omega)
          have HS : Hid (Pu.rowCnt len j (k + 1) = Pu.rowCnt len j k + if 0 < len j k then 1 else 0) := rfl
          generalize Pu.total len j = T0 at *
          generalize Pu.rowCnt len j k = T1 at *
          have hT0 : T0 ≤ 196 := by
            have : j * j ≤ 14 * 14 := Nat.mul_le_mul (by omega) (by omega)
            omega
          by_cases hl : 0 < len j k
          · go_wp2
            go_round
            case measure => simp [intOf]; omega
            case rel => exact ⟨k + 1, by go_num, by omega, by rw [HS.out, if_pos hl]; go_num⟩
          · go_wp2
            go_round
            case measure => simp [intOf]; omega
            case rel => exact ⟨k + 1, by go_num, by omega, by rw [HS.out, if_neg hl]; go_num⟩
        · have ekj : k = j := by omega
          subst ekj
          have HC : Hid (Pu.total len (k + 1) = Pu.total len k + Pu.rowCnt len k k) := rfl
          have hft : f k = 0 := hD.f0
          rcases H6.out with ⟨h7, rfl, rfl, rfl⟩ | ⟨h7, way, g, gcap, hW, rfl, rfl, rfl, hown⟩
          · have hne : ((k : Int) == (a : Int)) = false := by
              simp; intro c
              have : k = a := by omega
              subst this; omega
            have HX : Hid (WOut w w4 w4.heap.size n a len (.int .i64 ((Pu.total len k + Pu.rowCnt len k k : Nat) : Int)) (.int .i64 ((k : Int) + 1)) w7) := by
              refine ⟨k + 1, upd d k (-1), by go_num, by omega, by rw [HC.out], FarTo.step hF hD h7, hI7.congr (fun i _ => farK_step d k i (-1)), HT7.out.1, HT7.out.2⟩
            clear hI7 hTB7 HT7 hrow7 t2 hTB4 hTown4 hm4 hF hD HC
            go_wp2
            go_roundw
            case measure => simp [intOf]; omega
            case rel => exact HX.out
          · have hget := hW.get ha
            have hall := Dist_all hD hW ha h7
            obtain ⟨m, hml⟩ : ∃ m, way.length = m + 1 := ⟨way.length - 1, by have := hget.1; omega⟩
            have hfb : w4.heap.size < wr.heap.size := hfbl
            have hown7 : w7.ownsRow wr.heap.size 3 1 (.slice (some ⟨g, 0, none⟩) way.length gcap) way.length (vals way) := by
              rw [← hw7]
              refine ownsRow_setCell_other hown ?_ _
              intro c
              have := (hown.lt _ c).1
              simp at this
              omega
            have hwl : m + 1 ≤ 9223372036854775807 := by
              rcases hown7.2 with ⟨_, h⟩ | ⟨_, cp, _, _, _, _, h1, h2, _⟩
              · omega
              · unfold maxLen at h2; omega
            have gc : Hid (∀ i p : Nat, way[i]? = some p → w7.cell? ⟨g, i, none⟩ = some (.int .i64 (p : Int))) := by
              intro i p hi
              rw [hown7.cellAt i (by have := (List.getElem?_eq_some_iff.1 hi).1; omega)]; simp [vals, hi]
            have z0 := gc.out 0 a hget.2.1
            have zl : w7.cell? ⟨g, m, none⟩ = some (.int .i64 (k : Int)) := gc.out m k (by have := hget.2.2.1; rw [hml] at this; simpa using this)
            have c7 := hI7.cell k hjn
            rw [upd_same] at c7
            have f7 := hI7.free k hjn
            have n7 := hTB7.c1
            have hra := hD.rng a ha
            have Hget : Hid (∀ x, x < m → ∃ p q, way[x]? = some p ∧ way[x + 1]? = some q ∧ p < n ∧ q < n ∧ Least len f p q) := fun x hx => hget.2.2.2 x (by omega)
            have Hlast : Hid (way[m]? = some k) := by
              show way[m]? = some k
              have := hget.2.2.1; rw [hml] at this; simpa using this
            have Hfirst : Hid (way[0]? = some a) := hget.2.1
            have Hall : Hid (∀ p ∈ way, 0 ≤ f p) := hall
            have HX : Hid (∀ q, WOut w w4 w4.heap.size n a len (.int .i64 ((Pu.total len k + Pu.rowCnt len k k : Nat) : Int)) (.int .i64 ((k : Int) + 1)) ((w7.drewN q).setCell ⟨w4.heap.size, k, none⟩ (.int .i64 (f a)))) := by
              intro q
              have hS8 : Turns (· = w4.heap.size) (w7.drewN q) ((w7.drewN q).setCell ⟨w4.heap.size, k, none⟩ (.int .i64 (f a))) := (Turns.refl (· = w4.heap.size) _).setCell (Or.inr rfl) _
              have hI8 : Ints (w7.drewN q) w4.heap.size n (upd (fun i => if i < k then d i else 0) k (-1)) := ⟨hI7.lt, hI7.cell, hI7.free⟩
              refine ⟨k + 1, upd d k (f a), by go_num, by omega, by rw [HC.out], FarTo.step hF hD rfl, (hI8.set hjn (f a)).congr (fun i _ => ?_), (HT7.out.1.drewN q).join hS8 (fun i hi _ c => by have := hTw4.size; omega), (HT7.out.2.drewN q).join hS8 (fun i hi _ c => by omega)⟩
              rw [← farK_step, upd_upd]
            have Hcell : Hid (∀ p q : Nat, p < n → q < n → ∃ r, w7.cell? ⟨lb, p, none⟩ = some (.slice (some ⟨r, 0, none⟩) n n) ∧ w7.cell? ⟨r, q, none⟩ = some (.int .i64 (len p q))) := by
              intro p q hp hq
              obtain ⟨r, q1, q2⟩ := hTown4.cells hp hq
              exact ⟨r, (HT7.out.2.cell (a := ⟨lb, p, none⟩) (World.block_lt_of_cell? _ _ q1) (fun x => x)).trans q1, (HT7.out.2.cell (a := ⟨r, q, none⟩) (World.block_lt_of_cell? _ _ q2) (fun x => x)).trans q2⟩
            have HD : Hid (Pu.Dist n len k f) := hD
            clear hI7 hTB7 HT7 hrow7 hTB4 hTown4 hm4 hF hD HC hW hget hall hown hown7 hS
            obtain ⟨wl, hwle⟩ : ∃ wl, way.length = wl := ⟨_, rfl⟩
            have hwm1 : wl ≤ m + 1 := by omega
            have hwm2 : m + 1 ≤ wl := by omega
            have hwi : (1 : Int) ≤ (wl : Int) := by omega
            have zl1 : w7.cell? ⟨g, ((wl : Int) - 1).toNat, none⟩ = some (.int .i64 (k : Int)) := by rw [show ((wl : Int) - 1).toNat = m by omega]; exact zl
            have zl2 : w7.cell? ⟨g, wl - 1, none⟩ = some (.int .i64 (k : Int)) := by rw [show wl - 1 = m by omega]; exact zl
            have hwi2 : 1 ≤ wl := by omega
            have hwl2 : wl ≤ 9223372036854775807 := by omega
            have hwi3 : (0 : Int) ≤ (wl : Int) - 1 := by omega
            rw [hwle]
            clear hml hwle zl
            go_wp2
            go_loopw [22, 23] (fun s i wx => ∃ (x p q : Nat), i = .int .i64 ((x : Int) + 1) ∧ x ≤ m ∧ way[x]? = some p ∧ s = .int .i64 (f a - f p) ∧ wx = w7.drewN q) (fun _ i _ => wl - (intOf i).toNat)
            case atStart => exact ⟨0, a, 0, by simp, Nat.zero_le _, Hfirst.out, by simp, rfl⟩
            case round =>
              obtain ⟨x, p, q, rfl, hx, hp, rfl, hWq⟩ := hrel
              have HW : Hid (wr = w7.drewN q) := hWq
              have n7 : wr.cell? ⟨w1.heap.size, 1, none⟩ = some (.int .i64 n) := by rw [hWq]; exact n7
              have t2 : wr.cell? ⟨w1.heap.size, 2, none⟩ = some (.slice (some ⟨lb, 0, none⟩) n lcap) := by rw [hWq]; exact t2
              have c7 : wr.cell? ⟨w4.heap.size, k, none⟩ = some (.int .i64 (-1)) := by rw [hWq]; exact c7
              have f7 : wr.frozen? ⟨w4.heap.size, k, none⟩ = false := by rw [hWq]; exact f7
              clear hWq
              have hfp := Hall.out p (List.mem_of_getElem? hp)
              by_cases hxm : x < m
              · obtain ⟨p', q', hp', hq', hpn, hqn, hL⟩ := Hget.out x hxm
                obtain rfl : p' = p := by rw [hp] at hp'; exact (Option.some.inj hp').symm
                have y1 : wr.cell? ⟨g, x, none⟩ = some (.int .i64 (p' : Int)) := by rw [HW.out]; exact gc.out x p' hp
                have y2 : wr.cell? ⟨g, x + 1, none⟩ = some (.int .i64 (q' : Int)) := by rw [HW.out]; exact gc.out (x + 1) q' hq'
                obtain ⟨r, r1', r2'⟩ := Hcell.out p' q' hpn hqn
                have r1 : wr.cell? ⟨lb, p', none⟩ = some (.slice (some ⟨r, 0, none⟩) n n) := by rw [HW.out]; exact r1'
                have r2 : wr.cell? ⟨r, q', none⟩ = some (.int .i64 (len p' q')) := by rw [HW.out]; exact r2'
                clear r1' r2'
                have hrp := HD.out.rng p' hpn
                have hrq := HD.out.rng q' hqn
                have hb1 := hN.lens.rng p' q'
                have hz : (len p' q' == 0) = false := by have := hL.1.1; simpa using this
                have hgd := hL.1.2
                have HG : Hid (f a - f p' + len p' q' = f a - f q') := by show _ = _; omega
                have hqi : (q' : Int) < (n : Int) := by omega
                have hq0 : decide ((q' : Int) < 0) = false := by simp
                have hq1 : decide ((n : Int) ≤ (q' : Int)) = false := by simp; omega
                have hxi : (x : Int) + 1 < (wl : Int) := by omega
                have hxn : x + 1 < wl := by omega
                have hx0 : (0 : Int) ≤ (x : Int) + 1 := by omega
                have hx00 : (0 : Int) ≤ (x : Int) := by omega
                have hxw : (x : Int) < (wl : Int) := by omega
                have hpi : (p' : Int) < (n : Int) := by omega
                have hxs : (x : Int) + 1 - 1 = (x : Int) := by omega
                have hxs0 : (0 : Int) ≤ (x : Int) + 1 - 1 := by omega
                have hxs1 : (x : Int) + 1 - 1 < (wl : Int) := by omega
                have hxs2 : x < wl := by omega
                have hxs3 : (x : Int) + 1 ≤ 9223372036854775807 := by omega
                have hxs4 : (x : Int) ≤ 9223372036854775807 := by omega
                clear hgd hL hq0 hq1
                go_wp2
                have hq0 : decide ((q' : Int) < 0) = false := by simp
                have hq1 : decide ((n : Int) ≤ (q' : Int)) = false := by simp; omega
                have hq2 : ¬ n ≤ q' := by omega
                have hq3 : ¬ (n : Int) ≤ (q' : Int) := by omega
                have hq4 : ¬ (q' : Int) < 0 := by omega
                have hq5 : decide (n ≤ q') = false := by simp; omega
                have hxs : (x : Int) + 1 - 1 = (x : Int) := by omega
                have hxs0 : (0 : Int) ≤ (x : Int) + 1 - 1 := by omega
                have hxs1 : (x : Int) + 1 - 1 < (wl : Int) := by omega
                have hx0 : (0 : Int) ≤ (x : Int) + 1 := by omega
                have hx00 : (0 : Int) ≤ (x : Int) := by omega
                have hq00 : (0 : Int) ≤ (q' : Int) := by omega
                have hp00 : (0 : Int) ≤ (p' : Int) := by omega
                go_quiet (fail)
                obtain ⟨wz, hwz⟩ : ∃ wz, wr.drewN nq = wz := ⟨_, rfl⟩
                rw [hwz]
                have y1 : wz.cell? ⟨g, x, none⟩ = some (.int .i64 (p' : Int)) := by rw [← hwz]; exact y1
                have y2 : wz.cell? ⟨g, x + 1, none⟩ = some (.int .i64 (q' : Int)) := by rw [← hwz]; exact y2
                have r1 : wz.cell? ⟨lb, p', none⟩ = some (.slice (some ⟨r, 0, none⟩) n n) := by rw [← hwz]; exact r1
                have r2 : wz.cell? ⟨r, q', none⟩ = some (.int .i64 (len p' q')) := by rw [← hwz]; exact r2
                have t2 : wz.cell? ⟨w1.heap.size, 2, none⟩ = some (.slice (some ⟨lb, 0, none⟩) n lcap) := by rw [← hwz]; exact t2
                have HZ : Hid (wz = w7.drewN (q + nq)) := by show wz = _; rw [← hwz, HW.out, World.drewN_drewN]
                clear hwz
                go_wp2
                have hq0 : decide ((q' : Int) < 0) = false := by simp
                have hq1 : decide ((n : Int) ≤ (q' : Int)) = false := by simp; omega
                have hq2 : ¬ n ≤ q' := by omega
                have hq3 : ¬ (n : Int) ≤ (q' : Int) := by omega
                have hq4 : ¬ (q' : Int) < 0 := by omega
                have hq5 : decide (n ≤ q') = false := by simp; omega
                have hxs : (x : Int) + 1 - 1 = (x : Int) := by omega
                have hxs0 : (0 : Int) ≤ (x : Int) + 1 - 1 := by omega
                have hxs1 : (x : Int) + 1 - 1 < (wl : Int) := by omega
                have hx0 : (0 : Int) ≤ (x : Int) + 1 := by omega
                have hx00 : (0 : Int) ≤ (x : Int) := by omega
                have hq00 : (0 : Int) ≤ (q' : Int) := by omega
                have hp00 : (0 : Int) ≤ (p' : Int) := by omega
                go_quiet (fail)
                go_wp2
                go_roundw
                case measure => simp [intOf]; omega
                case rel => exact ⟨x + 1, q', _, by go_num, by omega, hq', by rw [HG.out], by rw [HZ.out, World.drewN_drewN]⟩
              · have exm : x = m := by omega
                subst exm
                obtain rfl : p = k := by have := Hlast.out; rw [hp] at this; exact Option.some.inj this
                have hbe : (f a - f p != f a) = false := by simp; omega
                have hxi : ¬ (x : Int) + 1 < (wl : Int) := by omega
                go_wp2
                go_roundw
                case measure => simp [intOf]; omega
                case rel => rw [HW.out]; exact HX.out q
    · have ej : j = n := by omega
      subst ej
      have hcb : ((Pu.total len j : Int) != (R : Int)) = false := by have := HR.out; simp; omega
      have hda : d a = 0 := by
        obtain ⟨f', h1, h2⟩ := hF a ha
        rw [← h2]; exact h1.f0
      have hI2 : Ints wr w4.heap.size j d := hI.congr (fun i hi => by simp [hi])
      have ca := hI2.cell a ha
      rw [hda] at ca
      have n2 := hTBr.c2
      obtain ⟨g, hDg, _⟩ := hF a ha
      have Hd : Hid (∀ i, i < j → d i = g i) := by
        intro i hi
        obtain ⟨f', h1, h2⟩ := hF i hi
        rw [← h2]; exact Pu.Dist.sym hN ha hi h1 hDg
      have HD : Hid (Pu.Dist j len a g) := hDg
      have Hcell : Hid (∀ p q : Nat, p < j → q < j → ∃ r, wr.cell? ⟨lb, p, none⟩ = some (.slice (some ⟨r, 0, none⟩) j j) ∧ wr.cell? ⟨r, q, none⟩ = some (.int .i64 (len p q))) := fun p q hp hq => (hTown4.turns hTr).cells hp hq
      have HI : Hid (Ints wr w4.heap.size j d) := hI2
      have HT : Hid (Turns (fun _ => False) w wr) := hTw
      clear hI hI2 hda hF hDg hTB4 hTown4 hTBr hTw hTr htl
      obtain ⟨wo, hwo⟩ : ∃ wo, wo = wr := ⟨_, rfl⟩
      subst hwo
      go_wp2
      go_loopw [24] (fun v wx => ∃ (x q : Nat), v = .int .i64 x ∧ x ≤ j ∧ wx = wo.drewN q) (fun v _ => j - (intOf v).toNat)
      case atStart => exact ⟨0, 0, rfl, Nat.zero_le _, rfl⟩
      case round =>
        obtain ⟨x, q, rfl, hx, hWq⟩ := hrel
        have HW4 : Hid (wr = wo.drewN q) := hWq
        have n1' : wr.cell? ⟨w1.heap.size, 1, none⟩ = some (.int .i64 j) := by rw [hWq]; exact n1
        clear hWq
        by_cases hxj : x < j
        · have hxi : (x : Int) < (j : Int) := by omega
          go_wp2
          go_loopw [25] (fun v wx => ∃ (y q : Nat), v = .int .i64 y ∧ y ≤ j ∧ wx = wo.drewN q) (fun v _ => j - (intOf v).toNat)
          case atStart => exact ⟨0, q, rfl, Nat.zero_le _, HW4.out⟩
          case round =>
            clear n1' HW4
            obtain ⟨y, q2, rfl, hy, hWq⟩ := hrel
            have HW5 : Hid (wr = wo.drewN q2) := hWq
            have n1' : wr.cell? ⟨w1.heap.size, 1, none⟩ = some (.int .i64 j) := by rw [hWq]; exact n1
            have n2' : wr.cell? ⟨w1.heap.size, 2, none⟩ = some (.slice (some ⟨lb, 0, none⟩) j lcap) := by rw [hWq]; exact n2
            clear hWq
            by_cases hyj : y < j
            · have hyi : (y : Int) < (j : Int) := by omega
              obtain ⟨r, r1', r2'⟩ := Hcell.out x y hxj hyj
              have r1 : wr.cell? ⟨lb, x, none⟩ = some (.slice (some ⟨r, 0, none⟩) j j) := by rw [HW5.out]; exact r1'
              have r2 : wr.cell? ⟨r, y, none⟩ = some (.int .i64 (len x y)) := by rw [HW5.out]; exact r2'
              have dx : wr.cell? ⟨w4.heap.size, x, none⟩ = some (.int .i64 (g x)) := by rw [HW5.out, ← Hd.out x hxj]; exact HI.out.cell x hxj
              have dy : wr.cell? ⟨w4.heap.size, y, none⟩ = some (.int .i64 (g y)) := by rw [HW5.out, ← Hd.out y hyj]; exact HI.out.cell y hyj
              clear r1' r2'
              have hb := hN.lens.rng x y
              have hrx := HD.out.rng x hxj
              have hry := HD.out.rng y hyj
              have hed := HD.out.ed x y hxj hyj
              have hde := HD.out.ed y x hyj hxj
              rw [hN.sym] at hde
              have HN1 : Hid (∀ nq, ∃ (y' q : Nat), (Value.int .i64 ((y : Int) + 1)) = .int .i64 y' ∧ y' ≤ j ∧ wr.drewN nq = wo.drewN q) := fun nq => ⟨y + 1, q2 + nq, by go_num, by omega, by rw [HW5.out, World.drewN_drewN]⟩
              by_cases hl : 0 < len x y
              · by_cases hg : g x < 0
                · have hgy : g y < 0 := by
                    rcases hry with h | h
                    · omega
                    · have := (hde h.1 (by omega)).1; omega
                  have e1 : decide (g x < 0) = true := by simpa using hg
                  have e2 : decide (g y < 0) = true := by simpa using hgy
                  have e3 : decide (0 ≤ g x) = false := by simp; omega
                  clear hed hde hrx hry
                  go_wp2
                  go_quiet (fail)
                  go_wp2
                  go_roundw
                  case measure => simp [intOf]; omega
                  case rel => exact HN1.out _
                · have h2 := hed (by omega) (by omega)
                  have e1 : decide (g x < 0) = false := by simp; omega
                  have e2 : decide (g y < 0) = false := by simp; omega
                  have e3 : 0 ≤ g x := by omega
                  have e4 : decide (g x + len x y < g y) = false := by simp; omega
                  clear hed hde
                  go_wp2
                  go_quiet (fail)
                  go_wp2
                  go_roundw
                  case measure => simp [intOf]; omega
                  case rel => exact HN1.out _
              · have e0 : decide (0 < len x y) = false := by simp; omega
                clear hed hde hl
                go_wp2
                go_quiet (fail)
                go_wp2
                go_roundw
                case measure => simp [intOf]; omega
                case rel => exact HN1.out _
            · have hyi : ¬ (y : Int) < (j : Int) := by omega
              go_wp2
              go_roundw
              case measure => simp [intOf]; omega
              case rel => exact ⟨x + 1, q2, by go_num, by omega, HW5.out⟩
        · have hxi : ¬ (x : Int) < (j : Int) := by omega
          go_wp2
          go_ret
          exact ⟨rfl, by rw [HW4.out]; exact HT.out.drewN _⟩
#print axioms ways_any
end Go.Proofs.YtdogncjcainhlaaDoor
