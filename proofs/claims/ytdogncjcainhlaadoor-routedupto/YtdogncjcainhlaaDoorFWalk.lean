/- The walk of the law bywaykeep.First. -/
import Derived.Test.YtdogncjcainhlaaDoorTSaid
import Derived.Test.YtdogncjcainhlaaDoorAwake
import Derived.Test.YtdogncjcainhlaaDoorDec
namespace Go.Proofs.YtdogncjcainhlaaDoor
open Go.RowKit
open Mem

/-- The places of a first way, one behind the other. -/
theorem Way.get {n : Nat} {len : Nat → Nat → Int} {far : Nat → Int} {t s : Nat} {way : List Nat} (h : Way n len far t s way) (hs : s < n) :
    1 ≤ way.length ∧ way[0]? = some s ∧ way[way.length - 1]? = some t ∧ ∀ k, k + 1 < way.length → ∃ p q, way[k]? = some p ∧ way[k + 1]? = some q ∧ p < n ∧ q < n ∧ Least len far p q := by
  induction h with
  | done => exact ⟨by simp, by simp, by simp, fun k hk => by simp at hk⟩
  | step a j l hne hj hL hW ih =>
    obtain ⟨h1, h2, h3, h4⟩ := ih hj
    refine ⟨by simp, by simp, ?_, ?_⟩
    · have e : (a :: l).length - 1 = (l.length - 1) + 1 := by simp; omega
      rw [e]; simpa using h3
    · intro k hk
      cases k with
      | zero => exact ⟨a, j, by simp, by simpa using h2, hs, hj, hL⟩
      | succ k =>
        obtain ⟨p, q, hp, hq, r⟩ := h4 k (by simp at hk; omega)
        exact ⟨p, q, by simpa using hp, by simpa using hq, r⟩
theorem Dist_all {n : Nat} {len : Nat → Nat → Int} {far : Nat → Int} {t s : Nat} {way : List Nat} (hD : Pu.Dist n len t far) (h : Way n len far t s way) (hs : s < n) (h0 : 0 ≤ far s) : ∀ p ∈ way, 0 ≤ far p := by
  induction h with
  | done => intro p hp; rw [List.mem_singleton] at hp; subst hp; exact h0
  | step a j l hne hj hL hW ih =>
    intro p hp
    have hj0 := (hD.ed a j hs hj h0 hL.1.1).1
    rcases List.mem_cons.1 hp with rfl | hp
    · exact h0
    · exact ih hj hj0 p hp

/-- Route of a town's text between two of its places. -/
theorem route_town {w0 : World} {B : Nat} {txt : ByteArray} {n R : Nat} {v : Value} {rb : List Nat} {len : Nat → Nat → Int} (h : TownIs w0 B txt n R v rb len) (s t : Nat) (hs : s < n) (ht : t < n) (w : World) (hm : Ml w) :
    Calls Tryd.prog 16 #[.string txt, .int .i64 s, .int .i64 t] w fun e w' => Turns (fun _ => False) w w' ∧ ∃ far, Pu.Dist n len t far ∧
      ((far s = -1 ∧ e = .returned (.tuple #[.slice none 0 0, .int .i64 0, .int .i64 6, .int .i64 0])) ∨
       (0 ≤ far s ∧ ∃ way g cap, Way n len far t s way ∧ e = .returned (.tuple #[.slice (some ⟨g, 0, none⟩) way.length cap, .int .i64 (far s), .int .i64 0, .int .i64 0]) ∧ w'.ownsRow w.heap.size 3 1 (.slice (some ⟨g, 0, none⟩) way.length cap) way.length (vals way))) := by
  have k := route_any txt s t w (by have := h.size; unfold maxLen; omega) hm
  rw [h.parse] at k
  refine k.mono ?_
  rintro e w' ⟨hT, h3⟩
  refine ⟨hT, ?_⟩
  rcases h3 with ⟨hno, _⟩ | ⟨_, far, hD, h3⟩
  · exact absurd ⟨by omega, by omega, by omega, by omega⟩ hno
  · refine ⟨far, by simpa using hD, ?_⟩
    simp only [Int.toNat_natCast] at h3
    rcases h3 with h3 | ⟨h4, way, v, hW, he, hown⟩
    · exact Or.inl h3
    · obtain ⟨m, hml⟩ : ∃ m, way.length = m + 1 := ⟨way.length - 1, by have := (hW.get hs).1; omega⟩
      have hown' := hown
      rw [hml] at hown'
      obtain ⟨g, cap, hv⟩ := owns_form hown'
      rw [← hml] at hv
      subst hv
      exact Or.inr ⟨h4, way, g, cap, hW, he, hown⟩

/-- What holds ahead of each round of First's outer loop. -/
def FOut (w w3 : World) (far : Nat → Int) (way : List Nat) (lft i : Value) (wr : World) : Prop :=
  ∃ (k p : Nat), i = .int .i64 ((k : Int) + 1) ∧ k + 1 ≤ way.length ∧ way[k]? = some p ∧ lft = .int .i64 (far p) ∧ Turns (fun _ => False) w wr ∧ Turns (fun _ => False) w3 wr

set_option maxRecDepth 100000 in
set_option maxHeartbeats 1000000 in
theorem first_any (ht : TownSaid) (w : World) (size fr to : Int) (ra : Option Addr) (K cap : Nat) (raw : Nat → Int × Int × Int) (h0 : -9223372036854775808 ≤ size) (h1 : size ≤ 9223372036854775807) (hK : K ≤ 9223372036854775807) (hRaw : Raw w ra K raw)
    (hf0 : -9223372036854775808 ≤ fr) (hf1 : fr ≤ 9223372036854775807) (ht0 : -9223372036854775808 ≤ to) (ht1 : to ≤ 9223372036854775807) (hm : Ml w) :
    Calls Tryd.prog 5 #[.int .i64 size, .slice ra K cap, .int .i64 fr, .int .i64 to] w fun e w' => e = .returned (.bool true) ∧ Turns (fun _ => False) w w' := by
  go_enter Tryd.func5, Tryd.ntmps5
  go_wp2_with fail
  refine (ht w size ra K cap raw h0 h1 hK hRaw).mono ?_
  rintro e w1 ⟨hT1, txt, n, R, v, rb, len, rfl, hTown⟩
  have hm1 := hm.turns hT1 (fun x => x)
  have hn1 := hTown.n1
  have hn2 := hTown.n2
  obtain ⟨lb, lcap, rfl⟩ := hTown.form
  go_wp2_with fail
  refine (awake_any _ (hm1.alloc _)).mono ?_
  rintro e w2 ⟨rfl, hT2⟩
  have hTB2 : TB w2 w1.heap.size txt n (.slice (some ⟨lb, 0, none⟩) n lcap) := (TB.new w1 txt n _).turns hT2 (fun x => x)
  have hTown2 := (hTown.turns ((Turns.refl _ w1).alloc (.cells #[.string txt, .int .i64 n, .slice (some ⟨lb, 0, none⟩) n lcap] 35))).turns hT2
  have hTw2 : Turns (fun _ => False) w w2 := (hT1.alloc _).trans hT2
  have hm2 := (hm1.alloc (.cells #[.string txt, .int .i64 n, .slice (some ⟨lb, 0, none⟩) n lcap] 35)).turns hT2 (fun x => x)
  have c1 := hTB2.c1
  have c0 := hTB2.c0
  clear hT1 hT2 hTown hm1 hm hRaw
  go_wp2_with fail
  refine (pick_any fr n _ hf0 hf1 (by omega) (by omega)).mono ?_
  rintro e w3 ⟨rfl, hw3⟩
  subst w3
  go_wp2_with fail
  refine (pick_any to n _ ht0 ht1 (by omega) (by omega)).mono ?_
  rintro e w3 ⟨rfl, hw3⟩
  subst w3
  have hs := Pu.pick_lt fr (n := n) (by omega)
  have htt := Pu.pick_lt to (n := n) (by omega)
  generalize Pu.pick fr n = s at *
  generalize Pu.pick to n = t at *
  go_wp2_with fail
  refine (route_town hTown2 s t hs htt _ hm2).mono ?_
  rintro e w3 ⟨hT3, far, hD, h3⟩
  have hTB3 := hTB2.turns hT3 (fun x => x)
  have hTown3 := hTown2.turns hT3
  have hTw3 := hTw2.trans hT3
  have hm3 := hm2.turns hT3 (fun x => x)
  clear hTB2 hTown2 hTw2 hm2 hT3 c0 c1
  rcases h3 with ⟨h4, rfl⟩ | ⟨h4, way, g, gcap, hW, rfl, hown⟩
  · clear hD h4 hTown3 hTB3
    go_wp2
    go_ret
    exact ⟨rfl, hTw3⟩
  · have hget := hW.get hs
    have hall := Dist_all hD hW hs h4
    have hfr := hD.rng s hs
    have hwl : way.length ≤ 9223372036854775807 := by
      rcases hown.2 with ⟨_, h⟩ | ⟨_, cp, _, _, _, _, h1, h2, _⟩
      · omega
      · unfold maxLen at h2; omega
    go_wp2
    go_loopw [17, 18] (fun lft i wr => FOut w w3 far way lft i wr) (fun _ i _ => way.length - (intOf i).toNat)
    case atStart => exact ⟨0, s, by simp, hget.1, hget.2.1, rfl, hTw3, Turns.refl _ _⟩
    case round =>
      obtain ⟨k, p, rfl, hk, hp, rfl, hTw, hTr⟩ := hrel
      have hTBr := hTB3.turns hTr (fun x => x)
      have hTownr := hTown3.turns hTr
      have hmr := hm3.turns hTr (fun x => x)
      have hownr := owns_turns hown hTr
      by_cases hlt : k + 1 < way.length
      · obtain ⟨p', q, hp', hq, hpn, hqn, hL⟩ := hget.2.2.2 k hlt
        obtain rfl : p' = p := by rw [hp] at hp'; exact (Option.some.inj hp').symm
        have hlti : (k : Int) + 1 < (way.length : Int) := by omega
        have n1 := hTBr.c1
        go_wp2
        go_loopw [19] (fun v wx => ∃ j : Nat, v = .int .i64 j ∧ j ≤ n ∧ Turns (fun _ => False) w wx ∧ Turns (fun _ => False) w3 wx) (fun v _ => n - (intOf v).toNat)
        case atStart => exact ⟨0, rfl, Nat.zero_le _, hTw, hTr⟩
        case round =>
          clear n1 hTBr hTownr hmr hownr hTw hTr
          obtain ⟨j, rfl, hj, hTw, hTr⟩ := hrel
          have hTBr := hTB3.turns hTr (fun x => x)
          have hTownr := hTown3.turns hTr
          have hmr := hm3.turns hTr (fun x => x)
          have hownr := owns_turns hown hTr
          have n1 := hTBr.c1
          have n2 := hTBr.c2
          have n0 := hTBr.c0
          have g1 : wr.cell? ⟨g, k, none⟩ = some (.int .i64 (p' : Int)) := by rw [hownr.cellAt k (by omega)]; simp [vals, hp]
          have g2 : wr.cell? ⟨g, k + 1, none⟩ = some (.int .i64 (q : Int)) := by rw [hownr.cellAt (k + 1) (by omega)]; simp [vals, hq]
          by_cases hjn : j < n
          · obtain ⟨r, r1, r2⟩ := hTownr.cells hpn hjn
            have hb1 := hTownr.net.lens.rng p' j
            have hfp := hall p' (List.mem_of_getElem? hp)
            have hrp := hD.rng p' hpn
            have hrj := hD.rng j hjn
            have hji : (j : Int) < (n : Int) := by omega
            have HTw : Hid (Turns (fun _ => False) w wr ∧ Turns (fun _ => False) w3 wr) := ⟨hTw, hTr⟩
            by_cases hz : len p' j = 0
            · have hzb : (len p' j == 0) = true := by simp [hz]
              clear hTw hTr hz hL hD hW hget hall hTB3 hTown3 hown hm3 hTBr hTownr hmr hownr
              go_wp2
              go_quiet (fail)
              go_wp2
              go_roundw
              case measure => simp [intOf]; omega
              case rel => exact ⟨j + 1, by go_num, by omega, HTw.out.1.drewN _, HTw.out.2.drewN _⟩
            · have hzb : (len p' j == 0) = false := by simp [hz]
              have hj0 := (hD.ed p' j hpn hjn hfp hz).1
              have hLn := hTownr.net.lens
              clear hTw hTr
              go_wp2
              go_quiet (fail)
              go_wp2_with fail
              refine (route_town hTownr j t hjn htt _ (hmr.turns ((Turns.refl (fun _ => False) wr).drewN _) (fun x => x))).mono ?_
              rintro e w5 ⟨hT5, far', hD', h5⟩
              have hfe := Pu.Dist.unique hLn hD' hD j hjn
              rw [hfe] at h5
              have hT6 : Turns (fun _ => False) wr w5 := ((Turns.refl (fun _ => False) wr).drewN _).trans hT5
              have HTx : Hid (Turns (fun _ => False) w w5 ∧ Turns (fun _ => False) w3 w5) := ⟨HTw.out.1.trans hT6, HTw.out.2.trans hT6⟩
              have G2 : w5.cell? ⟨g, k + 1, none⟩ = some (.int .i64 (q : Int)) := by rw [(owns_turns hownr hT6).cellAt (k + 1) (by omega)]; simp [vals, hq]
              rcases h5 with ⟨h6, _⟩ | ⟨h6, way', g', cap', hW', rfl, hown'⟩
              · omega
              · have hG := hL.1
                have hNo := hL.2
                have hgood : Hid (Good len far p' j ↔ len p' j + far j = far p') := ⟨fun c => c.2, fun c => ⟨hz, c⟩⟩
                by_cases hgd : len p' j + far j = far p'
                · have hjq : ¬ j < q := fun c => hNo j c (hgood.out.2 hgd)
                  have hjq' : (q : Int) ≤ (j : Int) := by omega
                  have hb2 : (len p' j + far j == far p') = true := by simp [hgd]
                  clear hgd hz hL hD hW hget hall hTB3 hTown3 hown hm3 hTBr hTownr hmr hownr hfe hD' hW' hown' hT5 hT6 hG hNo hjq g1 g2 n0 n1 n2 r1 r2
                  go_wp2
                  go_roundw
                  case measure => simp [intOf]; omega
                  case rel => exact ⟨j + 1, by go_num, by omega, HTx.out.1, HTx.out.2⟩
                · have hjq : j ≠ q := by rintro rfl; exact hgd hG.2
                  have hjq' : ((j : Int) == (q : Int)) = false := by simp; omega
                  have hb2 : (len p' j + far j == far p') = false := by simp [hgd]
                  clear hgd hz hL hD hW hget hall hTB3 hTown3 hown hm3 hTBr hTownr hmr hownr hfe hD' hW' hown' hT5 hT6 hG hNo hjq g1 g2 n0 n1 n2 r1 r2
                  go_wp2
                  go_roundw
                  case measure => simp [intOf]; omega
                  case rel => exact ⟨j + 1, by go_num, by omega, HTx.out.1, HTx.out.2⟩
          · obtain ⟨r, r1, r2⟩ := hTownr.cells hpn hqn
            have hG := hL.1
            have hb1 := hTownr.net.lens.rng p' q
            have hfp := hall p' (List.mem_of_getElem? hp)
            have hrp := hD.rng p' hpn
            have HX : Hid (far p' - len p' q = far q) := by have := hG.2; show _ = _; omega
            have hji : ¬ (j : Int) < (n : Int) := by omega
            clear hL hD hW hget hall hTB3 hTown3 hown hm3 hTBr hTownr hmr hownr hG
            go_wp2
            go_quiet (fail)
            go_wp2
            go_roundw
            case measure => simp [intOf]; omega
            case rel => exact ⟨k + 1, q, by go_num, by omega, hq, by rw [← HX.out], hTw.drewN _, hTr.drewN _⟩
      · have ek : k = way.length - 1 := by omega
        have hpt : p = t := by
          have := hget.2.2.1
          rw [← ek, hp] at this
          exact Option.some.inj this
        have hft : far p = 0 := by rw [hpt]; exact hD.f0
        have hlti : ¬ (k : Int) + 1 < (way.length : Int) := by omega
        rw [hft]
        clear hft hD hW hget hall hTB3 hTown3 hown hm3 hTBr hTownr hmr hownr hpt ek hp
        go_wp2
        go_ret
        exact ⟨by simp, hTw⟩
#print axioms first_any
end Go.Proofs.YtdogncjcainhlaaDoor
