/- Pack13: texts of one proof, one behind the other. -/
import Derived.Test.YtdogncjcainhlaaGreatDoorPack12
import Derived.Deep.Cut
import Derived.Deep.CutRange
import Derived.Deep.RegionWith
import Derived.Deep.RegionHeld3
import Derived.BigRegion
import Derived.Deep.QuietTactic
import Derived.BigQuiet
import Derived.Test.YtdogncjcainhlaaGreatDoorPack2
/- The walk of the law bywaykeep.Kept. -/
namespace Go.Proofs.YtdogncjcainhlaaGreatDoor
open Go.RowKit Go.Deep
open Mem

/-- Save of a town by a made order: pages of some bytes. -/
theorem save_ord {w0 : World} {B : Nat} {txt : ByteArray} {n R : Nat} {v : Value} {rb : List Nat} {len : Nat → Nat → Int} (h : TownIs w0 B txt n R v rb len) (s : ByteArray) (O : List Nat) (hO : Pu.Perm n O) (hs : s.data.toList = Pu.joinT O) (w : World) (hm : Ml w) :
    Calls Tryz.prog 9 #[.string txt, .string s] w fun e w' => Turns (fun _ => False) w w' ∧ ∃ (D : Nat → Nat → Int) (b : ByteArray) (st : Nat → Nat) (S : ByteArray), e = .returned (.tuple #[.string b, .int .i64 0, .int .i64 0]) ∧ SavedIs n len D O b st S := by
  have hn := h.n2
  have hn1 := h.n1
  have hl := Pu.joinT_len O (fun m hm => by have := hO.lt m hm; omega)
  have hol := hO.len
  rw [← hs] at hl
  have es : s.data.toList.length = s.size := by simp
  refine (save_any txt s w (by have := h.size; unfold maxLen; omega) hm (by omega)).mono ?_
  rintro e w' ⟨hT, h2⟩
  refine ⟨hT, ?_⟩
  rw [h.parse] at h2
  dsimp only at h2
  have hne : O ≠ [] := fun c => by rw [c] at hol; simp at hol; omega
  have hp := Pu.joinT_pos hne
  have ho : Pu.orderOf (Pu.joinT O) n len = some O := by
    unfold Pu.orderOf
    cases e : Pu.joinT O with
    | nil => rw [e] at hp; simp at hp
    | cons a t =>
      rw [← e, if_neg (by omega)]
      exact Pu.order_back (by omega) (by omega) hO
  rw [hs, ho] at h2
  dsimp only at h2
  obtain ⟨D, C, rfl⟩ := h2
  have l1 := Pu.sizesB_len (fun v => Pu.hubK D O v n) n
  have l2 := Pu.labsB_len (fun v => Pu.hubK D O v n) n n (fun v _ => Pu.hubK_len D O v n)
  have l3 := Pu.headB_len O
  have l4 : (3 + 6 * n) * n ≤ 87 * 14 := Nat.mul_le_mul (by omega) hn
  have l6 : (Pu.heldB O (fun v => Pu.hubK D O v n) n).length ≤ 1300 ∧ 3 ≤ (Pu.heldB O (fun v => Pu.hubK D O v n) n).length := by
    rw [Pu.heldB, List.length_append, List.length_append]; omega
  have l7 := Pu.paged_len (Pu.heldB O (fun v => Pu.hubK D O v n) n)
  have l8 : (ByteArray.mk (Pu.paged (Pu.heldB O (fun v => Pu.hubK D O v n) n)).toArray).size = (Pu.paged (Pu.heldB O (fun v => Pu.hubK D O v n) n)).length := rfl
  obtain ⟨st, S, hS⟩ := saved_is (b := ⟨(Pu.paged (Pu.heldB O (fun v => Pu.hubK D O v n) n)).toArray⟩) C hn1 (by omega) rfl (by rw [l8, l7]; omega) (by rw [l8, l7]; omega)
  exact ⟨D, _, st, S, rfl, hS⟩
theorem nearAt_own {w : World} {base : Nat} {v : Value} {L : List (Nat × Int)} (h : w.ownsRow base 66 2 v L.length (hubV L)) : ∃ a c, v = .slice a L.length c ∧ HubAt w a L ∧ L.length ≤ c := by
  rcases h.2 with ⟨h1, h2⟩ | ⟨g, cap, cur, h1, _, _, h2, _⟩
  · refine ⟨none, 0, by rw [h1, h2], ?_, by omega⟩
    intro i r f hi
    have := (List.getElem?_eq_some_iff.1 hi).1
    omega
  · subst h1
    refine ⟨_, cap, rfl, ?_, h2⟩
    intro i r f hi
    have hl := (List.getElem?_eq_some_iff.1 hi).1
    obtain ⟨c1, c2⟩ := hubV_get L i r f hi
    exact ⟨g, rfl, (World.ownsRow.cellAt h (i * 2) (by omega)).trans c1, (World.ownsRow.cellAt h (i * 2 + 1) (by omega)).trans c2⟩
set_option maxRecDepth 100000 in
set_option maxHeartbeats 8000000 in
theorem kept_any (ht : TownSaid) (w : World) (size cache many : Int) (ra rn : Option Addr) (K cap KN capN : Nat) (raw : Nat → Int × Int × Int) (nums : Nat → Int) (h0 : -9223372036854775808 ≤ size) (h1 : size ≤ 9223372036854775807) (hK : K ≤ 9223372036854775807) (hRaw : Raw w ra K raw)
    (hKN : KN ≤ 9223372036854775807) (hNums : Nums w rn KN nums) (hc0 : -9223372036854775808 ≤ cache) (hc1 : cache ≤ 9223372036854775807) (hm0 : -9223372036854775808 ≤ many) (hm1' : many ≤ 9223372036854775807) (hm : Ml w) :
    Calls Tryz.prog 5 #[.int .i64 size, .slice ra K cap, .slice rn KN capN, .int .i64 cache, .int .i64 many] w fun e w' => e = .returned (.bool true) ∧ Turns (fun _ => False) w w' := by
  go_enter Tryz.func5, Tryz.ntmps5
  go_wp2_with fail
  refine (ht w size ra K cap raw h0 h1 hK hRaw).mono ?_
  rintro e w1 ⟨hT1, txt, n, R, v, rb, len, rfl, hTown⟩
  have hm1 := hm.turns hT1 (fun x => x)
  have hn1 := hTown.n1
  have hn2 := hTown.n2
  obtain ⟨lb, lcap, rfl⟩ := hTown.form
  have hN1 : Nums w1 rn KN nums := ⟨fun h => by
    obtain ⟨b, o, e1, e2, e3⟩ := hNums.1 h
    exact ⟨b, o, e1, Nat.lt_of_lt_of_le e2 hT1.size, fun i hi => (hT1.cell (a := ⟨b, o + i, none⟩) e2 (fun x => x)).trans (e3 i hi)⟩, hNums.2⟩
  go_wp2_with fail
  refine (awake_any _ (hm1.alloc _)).mono ?_
  rintro e w2 ⟨rfl, hT2⟩
  have hTB2 : TB w2 w1.heap.size txt n (.slice (some ⟨lb, 0, none⟩) n lcap) := (TB.new w1 txt n _).turns hT2 (fun x => x)
  have hTa : Turns (fun _ => False) w1 w2 := ((Turns.refl _ w1).alloc _).trans hT2
  have hTown2 := hTown.turns hTa
  have hTw2 : Turns (fun _ => False) w w2 := hT1.trans hTa
  have hm2 := hm1.turns hTa (fun x => x)
  have hN2 : Nums w2 rn KN nums := ⟨fun h => by
    obtain ⟨b, o, e1, e2, e3⟩ := hN1.1 h
    exact ⟨b, o, e1, Nat.lt_of_lt_of_le e2 hTa.size, fun i hi => (hTa.cell (a := ⟨b, o + i, none⟩) e2 (fun x => x)).trans (e3 i hi)⟩, hN1.2⟩
  have c0 := hTB2.c0
  have c1 := hTB2.c1
  have hbl := hTB2.lt
  have HNUMS : Hid (∀ wx, Turns (fun _ => False) w2 wx → Nums wx rn KN nums) := fun wx hx => ⟨fun h => by
    obtain ⟨b, o, e1, e2, e3⟩ := hN2.1 h
    exact ⟨b, o, e1, Nat.lt_of_lt_of_le e2 hx.size, fun i hi => (hx.cell (a := ⟨b, o + i, none⟩) e2 (fun x => x)).trans (e3 i hi)⟩, hN2.2⟩
  have HTO : Hid (TownIs w2 w.heap.size txt n R (.slice (some ⟨lb, 0, none⟩) n lcap) rb len) := hTown2
  have HM2 : Hid (Ml w2) := hm2
  have HTB2 : Hid (TB w2 w1.heap.size txt n (.slice (some ⟨lb, 0, none⟩) n lcap)) := hTB2
  have HTW2 : Hid (Turns (fun _ => False) w w2) := hTw2
  obtain ⟨gg, hgg⟩ : ∃ gg, gg = w1.heap.size := ⟨_, rfl⟩
  rw [← hgg] at HTB2 c0 c1 hbl ⊢
  clear hT1 hT2 hTown hm1 hm hRaw hNums hN1 hTa hN2 hTown2 hm2 hTB2 hTw2 hgg
  go_wp2_with fail
  go_region_held3 (fun w' => w'.cell? ⟨gg, 0, none⟩ = some (.string txt) ∧ w'.cell? ⟨gg, 1, none⟩ = some (.int .i64 (n : Int))) (go_keep)
    (first
      | (go_at_call 17; refine (order_any _ n KN capN rn nums hn1 hn2 hKN (HNUMS.out _ (by first | exact Turns.refl _ _ | exact (Turns.refl _ _).drew))).mono ?_; rintro e wa ⟨hTa0, sO, O, rfl, hO, hsO⟩; have hTa : Turns (fun _ => False) w2 wa := (by first | exact hTa0 | exact first_drew hTa0); have k0 : wa.cell? ⟨gg, 0, none⟩ = some (.string txt) := (hTa.cell (a := ⟨gg, 0, none⟩) hbl (fun x => x)).trans c0; have k1 : wa.cell? ⟨gg, 1, none⟩ = some (.int .i64 (n : Int)) := (hTa.cell (a := ⟨gg, 1, none⟩) hbl (fun x => x)).trans c1)
      | (go_at_call 9; refine (save_ord HTO.out sO O hO hsO _ (HM2.out.turns (by first | exact hTa | exact hTa.drew) (fun x => x))).mono ?_; rintro e wb ⟨hTb0, D, b, st, S, rfl, hSV⟩; have hTb : Turns (fun _ => False) w2 wb := (by first | exact hTa.trans hTb0 | exact hTa.trans (first_drew hTb0)); have k2 : wb.cell? ⟨gg, 0, none⟩ = some (.string txt) := (hTb.cell (a := ⟨gg, 0, none⟩) hbl (fun x => x)).trans c0; have k3 : wb.cell? ⟨gg, 1, none⟩ = some (.int .i64 (n : Int)) := (hTb.cell (a := ⟨gg, 1, none⟩) hbl (fun x => x)).trans c1))
  all_goals
    as_aux_lemma =>
    have HTB : Hid (Turns (fun _ => False) w2 wb) := hTb
    have HSV : Hid (SavedIs n len D O b st S) := hSV
    have hol : O.length = n := hO.len
    have cp := pick_big cache 8 wb hc0 hc1 (by omega) (by omega)
    have hpl := Pu.pick_lt cache (n := 8) (by omega)
    have HPM : Hid (∀ wx, Calls Tryz.prog 10 #[.int .i64 many, .int .i64 41] wx fun e w' => e = .returned (.int .i64 (Pu.pick many 41 : Int)) ∧ w' = wx) := fun wx => pick_big many 41 wx hm0 hm1' (by omega) (by omega)
    have hpm := Pu.pick_lt many (n := 41) (by omega)
    generalize Pu.pick many 41 = mn at *
    generalize Pu.pick cache 8 = P at *
    obtain ⟨c, hcP⟩ : ∃ c, c = 1 + P := ⟨_, rfl⟩
    have hcw : IntKind.i64.wrap (1 + (P : Int)) = (c : Int) := by rw [IntKind.wrap_i64]; omega
    have hc1 : 1 ≤ c := by omega
    have hc8 : c ≤ 8 := by omega
    have co := hSV.opens c wb hc1 hc8
    clear hTb0 hTa0 hTa hTb k0 k1 k2 k3 hSV hO hsO c0 c1 hbl hcP
    go_wp2_with fail
    refine cp.mono ?_
    rintro e w3 ⟨rfl, hw3⟩
    subst w3
    go_wp2_with fail
    refine co.mono ?_
    rintro e w4 ⟨g, og, oc, sg, sc, rfl, hS4, hf4, hT4⟩
    have H4 : Hid (One wb w4 g og oc sg sc O st S c (.slice none 0 0) ([], 0)) := ⟨hS4, hf4, hT4, ⟨List.nodup_nil, by simp⟩⟩
    have C4 := H4.out.reads
    have HRT : Hid (∀ (p q : Nat), p < n → q < n → ∀ wx, Turns (fun _ => False) w2 wx → Calls Tryz.prog 19 #[.string txt, .int .i64 (p : Int), .int .i64 (q : Int)] wx fun e w' => (∃ a l c, e = .returned (.tuple #[.slice a l c, .int .i64 (Pu.rtD D p q), .int .i64 (Pu.rtE D p q), .int .i64 0])) ∧ Turns (fun _ => False) wx w') := fun p q hp hq wx hx => route_cov HTO.out HSV.out.cov hp hq wx (HM2.out.turns hx (fun x => x))
    clear cp co hS4 hf4 hT4 hcw hpl
    go_wp2_with fail
    refine C4.mono ?_
    rintro e w5 ⟨rfl, hS5⟩
    have H5 : Hid (One wb w5 g og oc sg sc O st S c (.slice none 0 0) ([], 0)) := hS5
    clear C4 hS5 H4
    go_wp2_with fail
    go_loopw [19] (fun iv wr => ∃ (u : Nat) (kv : Value) (A : List Nat × Nat) (wy : World), iv = .int .i64 (u : Int) ∧ u ≤ n ∧ wy = wr ∧ Hid (One wb wy g og oc sg sc O st S c kv A ∧ A.2 ≤ 300000 * u)) (fun iv _ => n - (intOf iv).toNat)
    case atStart => exact ⟨0, _, _, w5, rfl, by omega, rfl, H5.out, by simp⟩
    case round =>
      as_aux_lemma =>
      clear H5
      obtain ⟨u, kv, A, wr, rfl, hun, hwy, HI⟩ := hrel
      subst hwy
      have t1 := (HTB2.out.turns (HTB.out.trans HI.out.1.t) (fun x => x)).c1
      have tl := (HTB2.out.turns (HTB.out.trans HI.out.1.t) (fun x => x)).lt
      by_cases hlt : u < n
      · have hui : (u : Int) < (n : Int) := by omega
        go_wp2_with fail
        go_loopw [20, 21] (fun av jv wr' => ∃ (v : Nat) (kv : Value) (A : List Nat × Nat) (wy : World), av = .int .i64 (Pu.apN D u v : Int) ∧ jv = .int .i64 (v : Int) ∧ v ≤ n ∧ wy = wr' ∧ Hid (One wb wy g og oc sg sc O st S c kv A ∧ A.2 ≤ 300000 * u + 5000 * v)) (fun _ jv _ => n - (intOf jv).toNat)
        case atStart => exact ⟨0, _, _, wr, rfl, rfl, by omega, rfl, HI.out.1, by have := HI.out.2; omega⟩
        case round =>
          as_aux_lemma =>
          clear HI t1 tl
          obtain ⟨v, kv, A, wr, rfl, rfl, hvn, hwy, HI⟩ := hrel
          subst hwy
          have t0 := (HTB2.out.turns (HTB.out.trans HI.out.1.t) (fun x => x)).c0
          have t1 := (HTB2.out.turns (HTB.out.trans HI.out.1.t) (fun x => x)).c1
          have tl := (HTB2.out.turns (HTB.out.trans HI.out.1.t) (fun x => x)).lt
          by_cases hvl : v < n
          · have hvi : (v : Int) < (n : Int) := by omega
            have CR := HRT.out u v hlt hvl wr (HTB.out.trans HI.out.1.t)
            have hbd : A.2 ≤ 80000000 := by have := HI.out.2; omega
            have htl := HSV.out.cov.told (by omega) hlt hvl
            have CF : Hid (∀ wx, One wb wx g og oc sg sc O st S c kv A → Calls Tryz.prog 20 #[.pointer (some ⟨g, 0, none⟩), .int .i64 (u : Int), .int .i64 (v : Int)] wx fun e w' => e = .returned (farV O (Pu.best none (Pu.hubK D O u n) (Pu.hubK D O v n))) ∧ ∃ kv' A', One wb w' g og oc sg sc O st S c kv' A' ∧ A'.2 ≤ A.2 + 4400) := fun wx hx => hx.far HSV.out.labs (by omega) (by omega) hc1 hc8 hbd
            cases hB : Pu.best none (Pu.hubK D O u n) (Pu.hubK D O v n) with
            | none =>
              as_aux_lemma =>
              rw [hB] at htl CF
              have hD : D u v = -1 := htl
              have hrd : Pu.rtD D u v = 0 := by unfold Pu.rtD; rw [if_pos hD]
              have hre : Pu.rtE D u v = 6 := by unfold Pu.rtE; rw [if_pos hD]
              rw [hrd, hre] at CR
              have HAP : Hid (Pu.apN D u (v + 1) = Pu.apN D u v + 1) := by show _ = _; rw [Pu.apN, if_pos hD]
              have HAB : Hid (Pu.apN D u v ≤ 100) := by
                have := Pu.near_count HSV.out.cov (by omega) hlt v (by omega)
                show _ ≤ _
                omega
              obtain ⟨ap, hap⟩ : ∃ ap, ap = Pu.apN D u v := ⟨_, rfl⟩
              have HAE : Hid (ap = Pu.apN D u v) := hap
              rw [← hap] at HAP HAB ⊢
              have hapb : ap ≤ 100 := HAB.out
              clear htl hD hrd hre hB hap HAB
              go_wp2_with fail
              refine CR.mono ?_
              rintro e wa ⟨⟨a5, l5, c5, rfl⟩, hTa⟩
              have Ha : Hid (One wb wa g og oc sg sc O st S c kv A) := HI.out.1.turns0 hTa
              clear CR hTa t0 t1 tl
              go_wp2_with fail
              refine (CF.out wa Ha.out).mono ?_
              rintro e wd ⟨rfl, kv', A', hOd, hAd⟩
              have Hd : Hid (One wb wd g og oc sg sc O st S c kv' A' ∧ A'.2 ≤ 300000 * u + 5000 * (v + 1)) := ⟨hOd, by have := HI.out.2; omega⟩
              clear hOd hAd Ha CF HI hbd
              simp only [farV]
              go_wp2
              go_roundw
              case rel => exact ⟨v + 1, kv', A', wd, by rw [HAP.out]; go_num, by go_num, by omega, rfl, Hd.out⟩
              case measure => simp [intOf]; omega
            | some z =>
              as_aux_lemma =>
              obtain ⟨r, x⟩ := z
              rw [hB] at htl CF
              obtain ⟨hx, hne, hh, hO, hhn, h1', h2', h3'⟩ := htl
              have hrd : Pu.rtD D u v = D u v := by unfold Pu.rtD; rw [if_neg hne]
              have hre : Pu.rtE D u v = 0 := by unfold Pu.rtE; rw [if_neg hne]
              have hrd1 : Pu.rtD D u hh = D u hh := by unfold Pu.rtD; rw [if_neg h1']
              have hre1 : Pu.rtE D u hh = 0 := by unfold Pu.rtE; rw [if_neg h1']
              have hrd2 : Pu.rtD D hh v = D hh v := by unfold Pu.rtD; rw [if_neg h2']
              have hre2 : Pu.rtE D hh v = 0 := by unfold Pu.rtE; rw [if_neg h2']
              have CR1 : Hid (∀ wx, Turns (fun _ => False) w2 wx → Calls Tryz.prog 19 #[.string txt, .int .i64 (u : Int), .int .i64 (hh : Int)] wx fun e w' => (∃ a l c, e = .returned (.tuple #[.slice a l c, .int .i64 (D u hh), .int .i64 0, .int .i64 0])) ∧ Turns (fun _ => False) wx w') := fun wx hx => by
                have := HRT.out u hh hlt hhn wx hx
                rwa [hrd1, hre1] at this
              have CR2 : Hid (∀ wx, Turns (fun _ => False) w2 wx → Calls Tryz.prog 19 #[.string txt, .int .i64 (hh : Int), .int .i64 (v : Int)] wx fun e w' => (∃ a l c, e = .returned (.tuple #[.slice a l c, .int .i64 (D hh v), .int .i64 0, .int .i64 0])) ∧ Turns (fun _ => False) wx w') := fun wx hx => by
                have := HRT.out hh v hhn hvl wx hx
                rwa [hrd2, hre2] at this
              rw [hrd, hre] at CR
              have hfv : farV O (some (r, x)) = .tuple #[.int .i64 (D u v), .int .i64 (hh : Int), .int .i64 0] := by rw [farV, hO, hx]; rfl
              rw [hfv] at CF
              have HAP : Hid (Pu.apN D u (v + 1) = Pu.apN D u v) := by show _ = _; rw [Pu.apN, if_neg hne]; rfl
              have rg1 := HSV.out.cov.rng hlt hhn
              have rg2 := HSV.out.cov.rng hhn hvl
              rw [← h3'] at CR CF
              generalize D u hh = dx at *
              generalize D hh v = dy at *
              have hdw : IntKind.i64.wrap (dx + dy) = dx + dy := by rw [IntKind.wrap_i64]; omega
              have hq1 : ((dx + dy) != (dx + dy)) = false := by simp
              clear hB hx hne hO h1' h2' h3' hrd hre hrd1 hre1 hrd2 hre2 hfv rg1 rg2
              go_wp2_with fail
              refine CR.mono ?_
              rintro e wa ⟨⟨a5, l5, c5, rfl⟩, hTa⟩
              have Ha : Hid (One wb wa g og oc sg sc O st S c kv A) := HI.out.1.turns0 hTa
              clear CR hTa t0 t1 tl
              go_wp2_with fail
              refine (CF.out wa Ha.out).mono ?_
              rintro e wd ⟨rfl, kv', A', hOd, hAd⟩
              have Hd : Hid (One wb wd g og oc sg sc O st S c kv' A' ∧ A'.2 ≤ 300000 * u + 5000 * (v + 1)) := ⟨hOd, by have := HI.out.2; omega⟩
              clear hOd hAd Ha CF HI hbd
              have t0 := (HTB2.out.turns (HTB.out.trans Hd.out.1.t) (fun x => x)).c0
              have tl := (HTB2.out.turns (HTB.out.trans Hd.out.1.t) (fun x => x)).lt
              have CA := CR1.out wd (HTB.out.trans Hd.out.1.t)
              clear CR1
              go_wp2_with fail
              refine CA.mono ?_
              rintro e we ⟨⟨a6, l6, c6, rfl⟩, hTe⟩
              have He : Hid (One wb we g og oc sg sc O st S c kv' A' ∧ A'.2 ≤ 300000 * u + 5000 * (v + 1)) := ⟨Hd.out.1.turns0 hTe, Hd.out.2⟩
              clear CA hTe Hd t0 tl
              have t0 := (HTB2.out.turns (HTB.out.trans He.out.1.t) (fun x => x)).c0
              have tl := (HTB2.out.turns (HTB.out.trans He.out.1.t) (fun x => x)).lt
              have CB := CR2.out we (HTB.out.trans He.out.1.t)
              clear CR2
              go_wp2_with fail
              refine CB.mono ?_
              rintro e wf ⟨⟨a7, l7, c7, rfl⟩, hTf⟩
              have Hf : Hid (One wb wf g og oc sg sc O st S c kv' A' ∧ A'.2 ≤ 300000 * u + 5000 * (v + 1)) := ⟨He.out.1.turns0 hTf, He.out.2⟩
              clear CB hTf He t0 tl
              go_wp2
              go_roundw
              case rel => exact ⟨v + 1, kv', A', wf, by rw [HAP.out], by go_num, by omega, rfl, Hf.out⟩
              case measure => simp [intOf]; omega
          · as_aux_lemma =>
            have hvi : ¬ (v : Int) < (n : Int) := by omega
            have hve : v = n := by omega
            have hbd : A.2 ≤ 80000000 := by have := HI.out.2; omega
            obtain ⟨ap, hap⟩ : ∃ ap, ap = Pu.apN D u v := ⟨_, rfl⟩
            obtain ⟨N, hN⟩ : ∃ N, N = Pu.nearL (fun v => Pu.hubK D O v n) u n := ⟨_, rfl⟩
            have hcnt := Pu.near_count HSV.out.cov (by omega) hlt n (Nat.le_refl _)
            rw [if_pos hlt, ← hN, ← hve, ← hap, hve] at hcnt
            have hsl := Pu.srt_len N
            have HNF : Hid (∀ y ∈ N, y.1 < n ∧ y.1 ≠ u ∧ y.2 = D u y.1 ∧ D u y.1 ≠ -1) := by rw [hN]; exact Pu.near_far HSV.out.cov (by omega) hlt n (Nat.le_refl _)
            have HPW : Hid ((Pu.srt N).Pairwise Pu.Nearer) := Pu.srt_sorted (by rw [hN]; exact Pu.nearL_nodup _ _ _)
            have ha1 : Pu.arN (fun v => Pu.hubK D O v n) O.length u 40 = Pu.srt N := by rw [Pu.arN, hol, ← hN]; exact List.take_of_length_le (by omega)
            have ha2 : Pu.arN (fun v => Pu.hubK D O v n) O.length u mn = (Pu.srt N).take mn := by rw [Pu.arN, hol, ← hN]
            have CA1 := HI.out.1.around HSV.out.labs (f := u) (k := 40) (by omega) (by omega) hc1 hc8 hbd
            rw [ha1] at CA1
            have HA2 : Hid (∀ wx kv A, One wb wx g og oc sg sc O st S c kv A → A.2 ≤ 80000000 → Calls Tryz.prog 21 #[.pointer (some ⟨g, 0, none⟩), .int .i64 (u : Int), .int .i64 (mn : Int)] wx fun e w' => ∃ x, e = .returned (.tuple #[x, .int .i64 0]) ∧ w'.ownsRow wx.heap.size 66 2 x ((Pu.srt N).take mn).length (hubV ((Pu.srt N).take mn)) ∧ Turns (fun q => Foot g og sg kv q) wx w' ∧ ∃ kv' A', One wb w' g og oc sg sc O st S c kv' A' ∧ A'.2 ≤ A.2 + 100000 ∧ ∀ q, x.ownBlock = some q → ¬ Foot g og sg kv' q) := fun wx kv A hx hb => by
              have := hx.around HSV.out.labs (f := u) (k := mn) (by omega) (by omega) hc1 hc8 hb
              rwa [ha2] at this
            obtain ⟨sN, hsN⟩ : ∃ sN, sN = Pu.srt N := ⟨_, rfl⟩
            rw [← hsN] at CA1 HA2 HPW hsl
            have HSF : Hid (∀ y ∈ sN, y.1 < n ∧ y.1 ≠ u ∧ y.2 = D u y.1 ∧ D u y.1 ≠ -1) := fun y hy => HNF.out y ((Pu.srt_perm N).mem_iff.1 (by rw [← hsN]; exact hy))
            rw [← hap]
            have hapb : ap ≤ 100 := by omega
            obtain ⟨L1, hL1⟩ : ∃ L, L = sN.length := ⟨_, rfl⟩
            obtain ⟨L2, hL2⟩ : ∃ L, L = (sN.take mn).length := ⟨_, rfl⟩
            have HL12 : Hid (L2 = min mn L1) := by show _ = _; rw [hL2, hL1, List.length_take]
            have HL : Hid (L1 = sN.length ∧ L2 = (sN.take mn).length) := ⟨hL1, hL2⟩
            have hcL : L1 + ap + 1 = n := by omega
            rw [← hL1] at CA1
            rw [← hL2] at HA2
            clear hap hN hsN ha1 ha2 HNF t0 tl hL1 hL2 hcnt hsl
            go_wp2_with fail
            refine CA1.mono ?_
            rintro e wa ⟨x1, rfl, hx1, hTa, kv1, A1, hO1, hA1, hd1⟩
            obtain ⟨a1, cc1, hxe1, hH1, hcc1⟩ := nearAt_own (by rw [← HL.out.1]; exact hx1)
            rw [← HL.out.1] at hxe1 hcc1
            subst hxe1
            have H1 : Hid (One wb wa g og oc sg sc O st S c kv1 A1 ∧ A1.2 ≤ 300000 * u + 5000 * n + 100000 ∧ HubAt wa a1 sN ∧ ∀ q, (Value.slice a1 L1 cc1).ownBlock = some q → ¬ Foot g og sg kv1 q) := ⟨hO1, by have := HI.out.2; omega, hH1, hd1⟩
            have CA2 := HA2.out wa kv1 A1 hO1 (by have := HI.out.2; omega)
            clear CA1 hx1 hTa hO1 hA1 hd1 hH1 HI t1 hbd HA2
            go_wp2_with fail
            refine (HPM.out wa).mono ?_
            rintro e w' ⟨rfl, hw'⟩
            subst w'
            go_wp2_with fail
            refine CA2.mono ?_
            rintro e wc ⟨x2, rfl, hx2, hTc, kv2, A2, hO2, hA2, hd2⟩
            obtain ⟨a2, cc2, hxe2, hH2, hcc2⟩ := nearAt_own (by rw [← HL.out.2]; exact hx2)
            rw [← HL.out.2] at hxe2 hcc2
            subst hxe2
            have H2 : Hid (One wb wc g og oc sg sc O st S c kv2 A2 ∧ A2.2 ≤ 300000 * (u + 1) ∧ HubAt wc a1 sN ∧ HubAt wc a2 (sN.take mn)) := ⟨hO2, by have := H1.out.2.1; omega, H1.out.2.2.1.turns_p hTc H1.out.2.2.2, hH2⟩
            have t1 := (HTB2.out.turns (HTB.out.trans H2.out.1.t) (fun x => x)).c1
            have tl := (HTB2.out.turns (HTB.out.trans H2.out.1.t) (fun x => x)).lt
            have hwn1 : IntKind.i64.wrap ((n : Int) - 1) = (n : Int) - 1 := by rw [IntKind.wrap_i64]; omega
            have hwn2 : IntKind.i64.wrap ((n : Int) - 1 - (ap : Int)) = (L1 : Int) := by rw [IntKind.wrap_i64]; omega
            have hq1 : ((L1 : Int) != (L1 : Int)) = false := by simp
            have hL12 : L2 = min mn L1 := HL12.out
            have hq2 : decide ((L1 : Int) < (L2 : Int)) = false := decide_eq_false (by omega)
            have hq2n : decide (L1 < L2) = false := decide_eq_false (by omega)
            have hq2p : ¬ (L2 : Int) > (L1 : Int) := by omega
            have hq3 : (decide ((L2 : Int) < (L1 : Int)) = true ∧ decide (L2 < L1) = true ∧ (L2 : Int) < (L1 : Int) ∧ ((L2 : Int) != (mn : Int)) = false) ∨ (decide ((L2 : Int) < (L1 : Int)) = false ∧ decide (L2 < L1) = false ∧ ¬ (L2 : Int) < (L1 : Int)) := by
              by_cases c' : L2 < L1
              · exact Or.inl ⟨decide_eq_true (by omega), decide_eq_true c', by omega, by simp; omega⟩
              · exact Or.inr ⟨decide_eq_false (by omega), decide_eq_false c', by omega⟩
            clear CA2 hx2 hTc hO2 hA2 hd2 hH2 H1 hcc1 hcc2 hL12 HL12
            rcases hq3 with ⟨hq3, hq5, hq6, hq4⟩ | ⟨hq3, hq5, hq6⟩
            · as_aux_lemma =>
              go_wp2_with fail
              refine (HPM.out wc).mono ?_
              rintro e w' ⟨rfl, hw'⟩
              subst w'
              go_wp2_with fail
              go_loopw [41] (fun iv wr' => ∃ (k : Nat) (wy : World), iv = .int .i64 (k : Int) ∧ k ≤ L1 ∧ wy = wr' ∧ Hid (Turns (fun _ => False) wc wy)) (fun iv _ => L1 - (intOf iv).toNat)
              case atStart => exact ⟨0, wc, rfl, by omega, rfl, Turns.refl _ _⟩
              case round =>
                as_aux_lemma =>
                clear t1 tl
                obtain ⟨k, wr, rfl, hkl, hwy, HI⟩ := hrel
                subst hwy
                by_cases hk : k < L1
                · have hki : (k : Int) < (L1 : Int) := by omega
                  obtain ⟨y, hy⟩ : ∃ y, sN[k]? = some y := ⟨_, List.getElem?_eq_getElem (by rw [← HL.out.1]; exact hk)⟩
                  obtain ⟨p, f⟩ := y
                  obtain ⟨hpn, hpu, hpf, hpd⟩ := HSF.out (p, f) (List.mem_of_getElem? hy)
                  simp only at hpn hpu hpf hpd
                  obtain ⟨g1, ha1, e1, e2⟩ := (H2.out.2.2.1.turns HI.out) k p f hy
                  subst ha1
                  have t0 := (HTB2.out.turns (HTB.out.trans (H2.out.1.t.trans HI.out)) (fun x => x)).c0
                  have tl := (HTB2.out.turns (HTB.out.trans (H2.out.1.t.trans HI.out)) (fun x => x)).lt
                  have CR : Hid (∀ wx, Turns (fun _ => False) wr wx → Calls Tryz.prog 19 #[.string txt, .int .i64 (u : Int), .int .i64 (p : Int)] wx fun e w' => (∃ a l c, e = .returned (.tuple #[.slice a l c, .int .i64 f, .int .i64 0, .int .i64 0])) ∧ Turns (fun _ => False) wr w') := fun wx hx => by
                    have h8 := HRT.out u p hlt hpn wx (HTB.out.trans (H2.out.1.t.trans (HI.out.trans hx)))
                    have hrd : Pu.rtD D u p = f := by unfold Pu.rtD; rw [if_neg hpd, hpf]
                    have hre : Pu.rtE D u p = 0 := by unfold Pu.rtE; rw [if_neg hpd]
                    rw [hrd, hre] at h8
                    exact h8.mono fun e w' hh => ⟨hh.1, hx.trans hh.2⟩
                  have hgl : g1 < wr.heap.size := World.block_lt_of_cell? _ _ e1
                  have HPR : Hid (∀ j, k = j + 1 → ∃ (p' : Nat) (f' : Int), (f' < f ∨ (f' = f ∧ p' < p)) ∧ ∀ wx, Turns (fun _ => False) wr wx → wx.cell? ⟨g1, j * 2, none⟩ = some (.int .i64 (p' : Int)) ∧ wx.cell? ⟨g1, j * 2 + 1, none⟩ = some (.int .i64 f')) := fun j hj => by
                    obtain ⟨y', hy'⟩ : ∃ y, sN[j]? = some y := ⟨_, List.getElem?_eq_getElem (by rw [← HL.out.1]; omega)⟩
                    obtain ⟨p', f'⟩ := y'
                    obtain ⟨g1', ha', e3, e4⟩ := (H2.out.2.2.1.turns HI.out) j p' f' hy'
                    injection ha' with ha'
                    injection ha' with ha'
                    subst ha'
                    have hnr := (List.pairwise_iff_getElem.1 HPW.out) j k (List.getElem?_eq_some_iff.1 hy').1 (List.getElem?_eq_some_iff.1 hy).1 (by omega)
                    rw [(List.getElem?_eq_some_iff.1 hy').2, (List.getElem?_eq_some_iff.1 hy).2] at hnr
                    refine ⟨p', f', hnr, fun wx hx => ⟨(hx.cell (a := ⟨g1, j * 2, none⟩) hgl (fun x => x)).trans e3, (hx.cell (a := ⟨g1, j * 2 + 1, none⟩) hgl (fun x => x)).trans e4⟩⟩
                  have HMB : Hid (k < L2 → ∃ g2, a2 = some ⟨g2, 0, none⟩ ∧ ∀ wx, Turns (fun _ => False) wr wx → wx.cell? ⟨g2, k * 2, none⟩ = some (.int .i64 (p : Int)) ∧ wx.cell? ⟨g2, k * 2 + 1, none⟩ = some (.int .i64 f)) := fun hk2 => by
                    have hy2 : (sN.take mn)[k]? = some (p, f) := by
                      have h9 := HL.out.2
                      rw [List.length_take] at h9
                      rw [List.getElem?_take_of_lt (by omega)]; exact hy
                    obtain ⟨g2, ha', e3, e4⟩ := (H2.out.2.2.2.turns HI.out) k p f hy2
                    have hgl2 : g2 < wr.heap.size := World.block_lt_of_cell? _ _ e3
                    exact ⟨g2, ha', fun wx hx => ⟨(hx.cell (a := ⟨g2, k * 2, none⟩) hgl2 (fun x => x)).trans e3, (hx.cell (a := ⟨g2, k * 2 + 1, none⟩) hgl2 (fun x => x)).trans e4⟩⟩
                  have HB1 : Hid (((p : Int) == (u : Int)) = false) := by show _ = _; simp; omega
                  have HNX : Hid (∀ wx, Turns (fun _ => False) wr wx → Turns (fun _ => False) wc wx) := fun wx hx => HI.out.trans hx
                  clear hpn hpf hpd hy HI hpu
                  go_wp2_with fail
                  go_region_held3 (fun w' => w'.cell? ⟨gg, 0, none⟩ = some (.string txt) ∧ w'.cell? ⟨g1, k * 2, none⟩ = some (.int .i64 (p : Int)) ∧ w'.cell? ⟨g1, k * 2 + 1, none⟩ = some (.int .i64 f)) (go_keep)
                    (first | (go_at_call 19; refine (CR.out _ (by first | exact Turns.refl _ _ | exact (Turns.refl _ _).drew)).mono ?_; rintro e w6 ⟨⟨a8, l8, c8, rfl⟩, hT6⟩; have j0 : w6.cell? ⟨gg, 0, none⟩ = some (.string txt) := (hT6.cell (a := ⟨gg, 0, none⟩) tl (fun x => x)).trans t0; have j1 : w6.cell? ⟨g1, k * 2, none⟩ = some (.int .i64 (p : Int)) := (hT6.cell (a := ⟨g1, k * 2, none⟩) hgl (fun x => x)).trans e1; have j2 : w6.cell? ⟨g1, k * 2 + 1, none⟩ = some (.int .i64 f) := (hT6.cell (a := ⟨g1, k * 2 + 1, none⟩) hgl (fun x => x)).trans e2))
                  all_goals
                    as_aux_lemma =>
                    have HY : Hid (∀ q, ∃ (k' : Nat) (wy : World), (Value.int .i64 ((k : Int) + 1)) = .int .i64 (k' : Int) ∧ k' ≤ L1 ∧ wy = w6.drewN q ∧ Hid (Turns (fun _ => False) wc wy)) := fun q => ⟨k + 1, _, by go_num, by omega, rfl, (HNX.out _ hT6).drewN q⟩
                    have HT6 : Hid (Turns (fun _ => False) wr w6) := hT6
                    clear CR t0 tl e1 e2 hT6 hgl HNX
                    go_wp2
                    try simp only [List.append]
                    refine wp_region_quiet_lit (by as_aux_lemma => kernel_rfl) (by as_aux_lemma => kernel_rfl) ?_
                    by_cases hk2 : k < L2
                    · obtain ⟨g2, ha2, hm2⟩ := HMB.out hk2
                      subst ha2
                      obtain ⟨m1, m2⟩ := hm2 w6 HT6.out
                      by_cases hk0 : k = 0
                      · as_aux_lemma =>
                        have HK0 : Hid (k = 0) := hk0
                        clear HPR HMB HT6 hk0 hm2
                        have b1 : ((p : Int) == (u : Int)) = false := HB1.out
                        have b2 : (f != f) = false := by simp
                        have hki2 : (k : Int) < (L1 : Int) := by omega
                        have hk00 : (0 : Int) ≤ (k : Int) := by omega
                        have n1 : decide ((0 : Int) < (k : Int)) = false := decide_eq_false (by have := HK0.out; omega)
                        have n1n : decide (0 < k) = false := decide_eq_false (by have := HK0.out; omega)
                        have n1p : ¬ 0 < k := by have := HK0.out; omega
                        have b6 : decide ((k : Int) < (L2 : Int)) = true := decide_eq_true (by omega)
                        have b6n : decide (k < L2) = true := decide_eq_true (by omega)
                        have b5 : (k : Int) < (L2 : Int) := by omega
                        have b8 : ((p : Int) == (p : Int)) = true := by simp
                        have b9 : (f == f) = true := by simp
                        repeat (go_big_quiet_step (fail))
                        refine wpQuiet_nil ?_
                        intro _ hw'
                        obtain ⟨nq, hw''⟩ := hw'
                        subst hw''
                        go_wp2
                        first
                          | (refine ⟨HY.out _, ?_⟩; simp [intOf]; omega; done)
                                      | (go_roundw; (case measure => simp [intOf]; omega); (case rel => exact HY.out _))
                      · obtain ⟨j, hj⟩ : ∃ j, k = j + 1 := ⟨k - 1, by omega⟩
                        obtain ⟨p', f', hnr, hpc⟩ := HPR.out j hj
                        obtain ⟨j3, j4⟩ := hpc w6 HT6.out
                        have HJ : Hid (k = j + 1) := hj
                        have HNR : Hid (f' < f ∨ (f' = f ∧ p' < p)) := hnr
                        clear HPR HMB HT6 hpc hj hk0 hnr hm2
                        by_cases hff : f' = f
                        · as_aux_lemma =>
                          have HFF : Hid (f' = f) := hff
                          clear hff
                          have hfe : ∀ x : Int, (x == f') = (x == f) := fun x => by rw [HFF.out]
                          clear hfe
                          have b1 : ((p : Int) == (u : Int)) = false := HB1.out
                          have b2 : (f != f) = false := by simp
                          have hki2 : (k : Int) < (L1 : Int) := by omega
                          have hk00 : (0 : Int) ≤ (k : Int) := by omega
                          have hw1 : IntKind.i64.wrap ((k : Int) - 1) = (j : Int) := by have := HJ.out; rw [IntKind.wrap_i64]; omega
                          have hw2 : (k : Int) - 1 = (j : Int) := by have := HJ.out; omega
                          have hjL : (j : Int) < (L1 : Int) := by have := HJ.out; omega
                          have hj00 : (0 : Int) ≤ (j : Int) := by omega
                          have n1 : decide ((0 : Int) < (k : Int)) = true := decide_eq_true (by have := HJ.out; omega)
                          have n1n : decide (0 < k) = true := decide_eq_true (by have := HJ.out; omega)
                          have n1p : 0 < k := by have := HJ.out; omega
                          have n0 : (0 : Int) < (k : Int) := by have := HJ.out; omega
                          have b3 : decide (f < f') = false := decide_eq_false (by have := HFF.out; omega)
                          have b4 : (f == f') = true := by have := HFF.out; simp; omega
                          have b7 : decide ((p : Int) ≤ (p' : Int)) = false := decide_eq_false (by have := HNR.out; have := HFF.out; omega)
                          have b7n : decide (p ≤ p') = false := decide_eq_false (by have := HNR.out; have := HFF.out; omega)
                          have b6 : decide ((k : Int) < (L2 : Int)) = true := decide_eq_true (by omega)
                          have b6n : decide (k < L2) = true := decide_eq_true (by omega)
                          have b5 : (k : Int) < (L2 : Int) := by omega
                          have b8 : ((p : Int) == (p : Int)) = true := by simp
                          have b9 : (f == f) = true := by simp
                          repeat (go_big_quiet_step (fail))
                          refine wpQuiet_nil ?_
                          intro _ hw'
                          obtain ⟨nq, hw''⟩ := hw'
                          subst hw''
                          go_wp2
                          first
                            | (refine ⟨HY.out _, ?_⟩; simp [intOf]; omega; done)
                                          | (go_roundw; (case measure => simp [intOf]; omega); (case rel => exact HY.out _))
                        · as_aux_lemma =>
                          have HFF : Hid (¬ f' = f) := hff
                          clear hff
                          have b1 : ((p : Int) == (u : Int)) = false := HB1.out
                          have b2 : (f != f) = false := by simp
                          have hki2 : (k : Int) < (L1 : Int) := by omega
                          have hk00 : (0 : Int) ≤ (k : Int) := by omega
                          have hw1 : IntKind.i64.wrap ((k : Int) - 1) = (j : Int) := by have := HJ.out; rw [IntKind.wrap_i64]; omega
                          have hw2 : (k : Int) - 1 = (j : Int) := by have := HJ.out; omega
                          have hjL : (j : Int) < (L1 : Int) := by have := HJ.out; omega
                          have hj00 : (0 : Int) ≤ (j : Int) := by omega
                          have n1 : decide ((0 : Int) < (k : Int)) = true := decide_eq_true (by have := HJ.out; omega)
                          have n1n : decide (0 < k) = true := decide_eq_true (by have := HJ.out; omega)
                          have n1p : 0 < k := by have := HJ.out; omega
                          have n0 : (0 : Int) < (k : Int) := by have := HJ.out; omega
                          have b3 : decide (f < f') = false := decide_eq_false (by have := HNR.out; have := HFF.out; omega)
                          have b4 : (f == f') = false := by have := HFF.out; simp; omega
                          have b6 : decide ((k : Int) < (L2 : Int)) = true := decide_eq_true (by omega)
                          have b6n : decide (k < L2) = true := decide_eq_true (by omega)
                          have b5 : (k : Int) < (L2 : Int) := by omega
                          have b8 : ((p : Int) == (p : Int)) = true := by simp
                          have b9 : (f == f) = true := by simp
                          repeat (go_big_quiet_step (fail))
                          refine wpQuiet_nil ?_
                          intro _ hw'
                          obtain ⟨nq, hw''⟩ := hw'
                          subst hw''
                          go_wp2
                          first
                            | (refine ⟨HY.out _, ?_⟩; simp [intOf]; omega; done)
                                          | (go_roundw; (case measure => simp [intOf]; omega); (case rel => exact HY.out _))
                    · skip
                      by_cases hk0 : k = 0
                      · as_aux_lemma =>
                        have HK0 : Hid (k = 0) := hk0
                        clear HPR HMB HT6 hk0
                        have b1 : ((p : Int) == (u : Int)) = false := HB1.out
                        have b2 : (f != f) = false := by simp
                        have hki2 : (k : Int) < (L1 : Int) := by omega
                        have hk00 : (0 : Int) ≤ (k : Int) := by omega
                        have n1 : decide ((0 : Int) < (k : Int)) = false := decide_eq_false (by have := HK0.out; omega)
                        have n1n : decide (0 < k) = false := decide_eq_false (by have := HK0.out; omega)
                        have n1p : ¬ 0 < k := by have := HK0.out; omega
                        have b6 : decide ((k : Int) < (L2 : Int)) = false := decide_eq_false (by omega)
                        have b6n : decide (k < L2) = false := decide_eq_false (by omega)
                        have b5 : ¬ (k : Int) < (L2 : Int) := by omega
                        repeat (go_big_quiet_step (fail))
                        refine wpQuiet_nil ?_
                        intro _ hw'
                        obtain ⟨nq, hw''⟩ := hw'
                        subst hw''
                        go_wp2
                        first
                          | (refine ⟨HY.out _, ?_⟩; simp [intOf]; omega; done)
                                      | (go_roundw; (case measure => simp [intOf]; omega); (case rel => exact HY.out _))
                      · obtain ⟨j, hj⟩ : ∃ j, k = j + 1 := ⟨k - 1, by omega⟩
                        obtain ⟨p', f', hnr, hpc⟩ := HPR.out j hj
                        obtain ⟨j3, j4⟩ := hpc w6 HT6.out
                        have HJ : Hid (k = j + 1) := hj
                        have HNR : Hid (f' < f ∨ (f' = f ∧ p' < p)) := hnr
                        clear HPR HMB HT6 hpc hj hk0 hnr
                        by_cases hff : f' = f
                        · as_aux_lemma =>
                          have HFF : Hid (f' = f) := hff
                          clear hff
                          have hfe : ∀ x : Int, (x == f') = (x == f) := fun x => by rw [HFF.out]
                          clear hfe
                          have b1 : ((p : Int) == (u : Int)) = false := HB1.out
                          have b2 : (f != f) = false := by simp
                          have hki2 : (k : Int) < (L1 : Int) := by omega
                          have hk00 : (0 : Int) ≤ (k : Int) := by omega
                          have hw1 : IntKind.i64.wrap ((k : Int) - 1) = (j : Int) := by have := HJ.out; rw [IntKind.wrap_i64]; omega
                          have hw2 : (k : Int) - 1 = (j : Int) := by have := HJ.out; omega
                          have hjL : (j : Int) < (L1 : Int) := by have := HJ.out; omega
                          have hj00 : (0 : Int) ≤ (j : Int) := by omega
                          have n1 : decide ((0 : Int) < (k : Int)) = true := decide_eq_true (by have := HJ.out; omega)
                          have n1n : decide (0 < k) = true := decide_eq_true (by have := HJ.out; omega)
                          have n1p : 0 < k := by have := HJ.out; omega
                          have n0 : (0 : Int) < (k : Int) := by have := HJ.out; omega
                          have b3 : decide (f < f') = false := decide_eq_false (by have := HFF.out; omega)
                          have b4 : (f == f') = true := by have := HFF.out; simp; omega
                          have b7 : decide ((p : Int) ≤ (p' : Int)) = false := decide_eq_false (by have := HNR.out; have := HFF.out; omega)
                          have b7n : decide (p ≤ p') = false := decide_eq_false (by have := HNR.out; have := HFF.out; omega)
                          have b6 : decide ((k : Int) < (L2 : Int)) = false := decide_eq_false (by omega)
                          have b6n : decide (k < L2) = false := decide_eq_false (by omega)
                          have b5 : ¬ (k : Int) < (L2 : Int) := by omega
                          repeat (go_big_quiet_step (fail))
                          refine wpQuiet_nil ?_
                          intro _ hw'
                          obtain ⟨nq, hw''⟩ := hw'
                          subst hw''
                          go_wp2
                          first
                            | (refine ⟨HY.out _, ?_⟩; simp [intOf]; omega; done)
                                          | (go_roundw; (case measure => simp [intOf]; omega); (case rel => exact HY.out _))
                        · as_aux_lemma =>
                          have HFF : Hid (¬ f' = f) := hff
                          clear hff
                          have b1 : ((p : Int) == (u : Int)) = false := HB1.out
                          have b2 : (f != f) = false := by simp
                          have hki2 : (k : Int) < (L1 : Int) := by omega
                          have hk00 : (0 : Int) ≤ (k : Int) := by omega
                          have hw1 : IntKind.i64.wrap ((k : Int) - 1) = (j : Int) := by have := HJ.out; rw [IntKind.wrap_i64]; omega
                          have hw2 : (k : Int) - 1 = (j : Int) := by have := HJ.out; omega
                          have hjL : (j : Int) < (L1 : Int) := by have := HJ.out; omega
                          have hj00 : (0 : Int) ≤ (j : Int) := by omega
                          have n1 : decide ((0 : Int) < (k : Int)) = true := decide_eq_true (by have := HJ.out; omega)
                          have n1n : decide (0 < k) = true := decide_eq_true (by have := HJ.out; omega)
                          have n1p : 0 < k := by have := HJ.out; omega
                          have n0 : (0 : Int) < (k : Int) := by have := HJ.out; omega
                          have b3 : decide (f < f') = false := decide_eq_false (by have := HNR.out; have := HFF.out; omega)
                          have b4 : (f == f') = false := by have := HFF.out; simp; omega
                          have b6 : decide ((k : Int) < (L2 : Int)) = false := decide_eq_false (by omega)
                          have b6n : decide (k < L2) = false := decide_eq_false (by omega)
                          have b5 : ¬ (k : Int) < (L2 : Int) := by omega
                          repeat (go_big_quiet_step (fail))
                          refine wpQuiet_nil ?_
                          intro _ hw'
                          obtain ⟨nq, hw''⟩ := hw'
                          subst hw''
                          go_wp2
                          first
                            | (refine ⟨HY.out _, ?_⟩; simp [intOf]; omega; done)
                                          | (go_roundw; (case measure => simp [intOf]; omega); (case rel => exact HY.out _))
                · have hki : ¬ (k : Int) < (L1 : Int) := by omega
                  have HO : Hid (One wb wr g og oc sg sc O st S c kv2 A2) := H2.out.1.turns0 HI.out
                  have HB2 : Hid (A2.2 ≤ 300000 * (u + 1)) := H2.out.2.1
                  clear HI H2
                  go_wp2
                  go_roundw
                  case measure => simp [intOf]; omega
                  case rel => exact ⟨u + 1, kv2, A2, wr, by go_num, by omega, rfl, HO.out, HB2.out⟩
            · as_aux_lemma =>
              go_wp2_with fail
              go_loopw [41] (fun iv wr' => ∃ (k : Nat) (wy : World), iv = .int .i64 (k : Int) ∧ k ≤ L1 ∧ wy = wr' ∧ Hid (Turns (fun _ => False) wc wy)) (fun iv _ => L1 - (intOf iv).toNat)
              case atStart => exact ⟨0, wc, rfl, by omega, rfl, Turns.refl _ _⟩
              case round =>
                as_aux_lemma =>
                clear t1 tl
                obtain ⟨k, wr, rfl, hkl, hwy, HI⟩ := hrel
                subst hwy
                by_cases hk : k < L1
                · have hki : (k : Int) < (L1 : Int) := by omega
                  obtain ⟨y, hy⟩ : ∃ y, sN[k]? = some y := ⟨_, List.getElem?_eq_getElem (by rw [← HL.out.1]; exact hk)⟩
                  obtain ⟨p, f⟩ := y
                  obtain ⟨hpn, hpu, hpf, hpd⟩ := HSF.out (p, f) (List.mem_of_getElem? hy)
                  simp only at hpn hpu hpf hpd
                  obtain ⟨g1, ha1, e1, e2⟩ := (H2.out.2.2.1.turns HI.out) k p f hy
                  subst ha1
                  have t0 := (HTB2.out.turns (HTB.out.trans (H2.out.1.t.trans HI.out)) (fun x => x)).c0
                  have tl := (HTB2.out.turns (HTB.out.trans (H2.out.1.t.trans HI.out)) (fun x => x)).lt
                  have CR : Hid (∀ wx, Turns (fun _ => False) wr wx → Calls Tryz.prog 19 #[.string txt, .int .i64 (u : Int), .int .i64 (p : Int)] wx fun e w' => (∃ a l c, e = .returned (.tuple #[.slice a l c, .int .i64 f, .int .i64 0, .int .i64 0])) ∧ Turns (fun _ => False) wr w') := fun wx hx => by
                    have h8 := HRT.out u p hlt hpn wx (HTB.out.trans (H2.out.1.t.trans (HI.out.trans hx)))
                    have hrd : Pu.rtD D u p = f := by unfold Pu.rtD; rw [if_neg hpd, hpf]
                    have hre : Pu.rtE D u p = 0 := by unfold Pu.rtE; rw [if_neg hpd]
                    rw [hrd, hre] at h8
                    exact h8.mono fun e w' hh => ⟨hh.1, hx.trans hh.2⟩
                  have hgl : g1 < wr.heap.size := World.block_lt_of_cell? _ _ e1
                  have HPR : Hid (∀ j, k = j + 1 → ∃ (p' : Nat) (f' : Int), (f' < f ∨ (f' = f ∧ p' < p)) ∧ ∀ wx, Turns (fun _ => False) wr wx → wx.cell? ⟨g1, j * 2, none⟩ = some (.int .i64 (p' : Int)) ∧ wx.cell? ⟨g1, j * 2 + 1, none⟩ = some (.int .i64 f')) := fun j hj => by
                    obtain ⟨y', hy'⟩ : ∃ y, sN[j]? = some y := ⟨_, List.getElem?_eq_getElem (by rw [← HL.out.1]; omega)⟩
                    obtain ⟨p', f'⟩ := y'
                    obtain ⟨g1', ha', e3, e4⟩ := (H2.out.2.2.1.turns HI.out) j p' f' hy'
                    injection ha' with ha'
                    injection ha' with ha'
                    subst ha'
                    have hnr := (List.pairwise_iff_getElem.1 HPW.out) j k (List.getElem?_eq_some_iff.1 hy').1 (List.getElem?_eq_some_iff.1 hy).1 (by omega)
                    rw [(List.getElem?_eq_some_iff.1 hy').2, (List.getElem?_eq_some_iff.1 hy).2] at hnr
                    refine ⟨p', f', hnr, fun wx hx => ⟨(hx.cell (a := ⟨g1, j * 2, none⟩) hgl (fun x => x)).trans e3, (hx.cell (a := ⟨g1, j * 2 + 1, none⟩) hgl (fun x => x)).trans e4⟩⟩
                  have HMB : Hid (k < L2 → ∃ g2, a2 = some ⟨g2, 0, none⟩ ∧ ∀ wx, Turns (fun _ => False) wr wx → wx.cell? ⟨g2, k * 2, none⟩ = some (.int .i64 (p : Int)) ∧ wx.cell? ⟨g2, k * 2 + 1, none⟩ = some (.int .i64 f)) := fun hk2 => by
                    have hy2 : (sN.take mn)[k]? = some (p, f) := by
                      have h9 := HL.out.2
                      rw [List.length_take] at h9
                      rw [List.getElem?_take_of_lt (by omega)]; exact hy
                    obtain ⟨g2, ha', e3, e4⟩ := (H2.out.2.2.2.turns HI.out) k p f hy2
                    have hgl2 : g2 < wr.heap.size := World.block_lt_of_cell? _ _ e3
                    exact ⟨g2, ha', fun wx hx => ⟨(hx.cell (a := ⟨g2, k * 2, none⟩) hgl2 (fun x => x)).trans e3, (hx.cell (a := ⟨g2, k * 2 + 1, none⟩) hgl2 (fun x => x)).trans e4⟩⟩
                  have HB1 : Hid (((p : Int) == (u : Int)) = false) := by show _ = _; simp; omega
                  have HNX : Hid (∀ wx, Turns (fun _ => False) wr wx → Turns (fun _ => False) wc wx) := fun wx hx => HI.out.trans hx
                  clear hpn hpf hpd hy HI hpu
                  go_wp2_with fail
                  go_region_held3 (fun w' => w'.cell? ⟨gg, 0, none⟩ = some (.string txt) ∧ w'.cell? ⟨g1, k * 2, none⟩ = some (.int .i64 (p : Int)) ∧ w'.cell? ⟨g1, k * 2 + 1, none⟩ = some (.int .i64 f)) (go_keep)
                    (first | (go_at_call 19; refine (CR.out _ (by first | exact Turns.refl _ _ | exact (Turns.refl _ _).drew)).mono ?_; rintro e w6 ⟨⟨a8, l8, c8, rfl⟩, hT6⟩; have j0 : w6.cell? ⟨gg, 0, none⟩ = some (.string txt) := (hT6.cell (a := ⟨gg, 0, none⟩) tl (fun x => x)).trans t0; have j1 : w6.cell? ⟨g1, k * 2, none⟩ = some (.int .i64 (p : Int)) := (hT6.cell (a := ⟨g1, k * 2, none⟩) hgl (fun x => x)).trans e1; have j2 : w6.cell? ⟨g1, k * 2 + 1, none⟩ = some (.int .i64 f) := (hT6.cell (a := ⟨g1, k * 2 + 1, none⟩) hgl (fun x => x)).trans e2))
                  all_goals
                    as_aux_lemma =>
                    have HY : Hid (∀ q, ∃ (k' : Nat) (wy : World), (Value.int .i64 ((k : Int) + 1)) = .int .i64 (k' : Int) ∧ k' ≤ L1 ∧ wy = w6.drewN q ∧ Hid (Turns (fun _ => False) wc wy)) := fun q => ⟨k + 1, _, by go_num, by omega, rfl, (HNX.out _ hT6).drewN q⟩
                    have HT6 : Hid (Turns (fun _ => False) wr w6) := hT6
                    clear CR t0 tl e1 e2 hT6 hgl HNX
                    go_wp2
                    try simp only [List.append]
                    refine wp_region_quiet_lit (by as_aux_lemma => kernel_rfl) (by as_aux_lemma => kernel_rfl) ?_
                    by_cases hk2 : k < L2
                    · obtain ⟨g2, ha2, hm2⟩ := HMB.out hk2
                      subst ha2
                      obtain ⟨m1, m2⟩ := hm2 w6 HT6.out
                      by_cases hk0 : k = 0
                      · as_aux_lemma =>
                        have HK0 : Hid (k = 0) := hk0
                        clear HPR HMB HT6 hk0 hm2
                        have b1 : ((p : Int) == (u : Int)) = false := HB1.out
                        have b2 : (f != f) = false := by simp
                        have hki2 : (k : Int) < (L1 : Int) := by omega
                        have hk00 : (0 : Int) ≤ (k : Int) := by omega
                        have n1 : decide ((0 : Int) < (k : Int)) = false := decide_eq_false (by have := HK0.out; omega)
                        have n1n : decide (0 < k) = false := decide_eq_false (by have := HK0.out; omega)
                        have n1p : ¬ 0 < k := by have := HK0.out; omega
                        have b6 : decide ((k : Int) < (L2 : Int)) = true := decide_eq_true (by omega)
                        have b6n : decide (k < L2) = true := decide_eq_true (by omega)
                        have b5 : (k : Int) < (L2 : Int) := by omega
                        have b8 : ((p : Int) == (p : Int)) = true := by simp
                        have b9 : (f == f) = true := by simp
                        repeat (go_big_quiet_step (fail))
                        refine wpQuiet_nil ?_
                        intro _ hw'
                        obtain ⟨nq, hw''⟩ := hw'
                        subst hw''
                        go_wp2
                        first
                          | (refine ⟨HY.out _, ?_⟩; simp [intOf]; omega; done)
                                      | (go_roundw; (case measure => simp [intOf]; omega); (case rel => exact HY.out _))
                      · obtain ⟨j, hj⟩ : ∃ j, k = j + 1 := ⟨k - 1, by omega⟩
                        obtain ⟨p', f', hnr, hpc⟩ := HPR.out j hj
                        obtain ⟨j3, j4⟩ := hpc w6 HT6.out
                        have HJ : Hid (k = j + 1) := hj
                        have HNR : Hid (f' < f ∨ (f' = f ∧ p' < p)) := hnr
                        clear HPR HMB HT6 hpc hj hk0 hnr hm2
                        by_cases hff : f' = f
                        · as_aux_lemma =>
                          have HFF : Hid (f' = f) := hff
                          clear hff
                          have hfe : ∀ x : Int, (x == f') = (x == f) := fun x => by rw [HFF.out]
                          clear hfe
                          have b1 : ((p : Int) == (u : Int)) = false := HB1.out
                          have b2 : (f != f) = false := by simp
                          have hki2 : (k : Int) < (L1 : Int) := by omega
                          have hk00 : (0 : Int) ≤ (k : Int) := by omega
                          have hw1 : IntKind.i64.wrap ((k : Int) - 1) = (j : Int) := by have := HJ.out; rw [IntKind.wrap_i64]; omega
                          have hw2 : (k : Int) - 1 = (j : Int) := by have := HJ.out; omega
                          have hjL : (j : Int) < (L1 : Int) := by have := HJ.out; omega
                          have hj00 : (0 : Int) ≤ (j : Int) := by omega
                          have n1 : decide ((0 : Int) < (k : Int)) = true := decide_eq_true (by have := HJ.out; omega)
                          have n1n : decide (0 < k) = true := decide_eq_true (by have := HJ.out; omega)
                          have n1p : 0 < k := by have := HJ.out; omega
                          have n0 : (0 : Int) < (k : Int) := by have := HJ.out; omega
                          have b3 : decide (f < f') = false := decide_eq_false (by have := HFF.out; omega)
                          have b4 : (f == f') = true := by have := HFF.out; simp; omega
                          have b7 : decide ((p : Int) ≤ (p' : Int)) = false := decide_eq_false (by have := HNR.out; have := HFF.out; omega)
                          have b7n : decide (p ≤ p') = false := decide_eq_false (by have := HNR.out; have := HFF.out; omega)
                          have b6 : decide ((k : Int) < (L2 : Int)) = true := decide_eq_true (by omega)
                          have b6n : decide (k < L2) = true := decide_eq_true (by omega)
                          have b5 : (k : Int) < (L2 : Int) := by omega
                          have b8 : ((p : Int) == (p : Int)) = true := by simp
                          have b9 : (f == f) = true := by simp
                          repeat (go_big_quiet_step (fail))
                          refine wpQuiet_nil ?_
                          intro _ hw'
                          obtain ⟨nq, hw''⟩ := hw'
                          subst hw''
                          go_wp2
                          first
                            | (refine ⟨HY.out _, ?_⟩; simp [intOf]; omega; done)
                                          | (go_roundw; (case measure => simp [intOf]; omega); (case rel => exact HY.out _))
                        · as_aux_lemma =>
                          have HFF : Hid (¬ f' = f) := hff
                          clear hff
                          have b1 : ((p : Int) == (u : Int)) = false := HB1.out
                          have b2 : (f != f) = false := by simp
                          have hki2 : (k : Int) < (L1 : Int) := by omega
                          have hk00 : (0 : Int) ≤ (k : Int) := by omega
                          have hw1 : IntKind.i64.wrap ((k : Int) - 1) = (j : Int) := by have := HJ.out; rw [IntKind.wrap_i64]; omega
                          have hw2 : (k : Int) - 1 = (j : Int) := by have := HJ.out; omega
                          have hjL : (j : Int) < (L1 : Int) := by have := HJ.out; omega
                          have hj00 : (0 : Int) ≤ (j : Int) := by omega
                          have n1 : decide ((0 : Int) < (k : Int)) = true := decide_eq_true (by have := HJ.out; omega)
                          have n1n : decide (0 < k) = true := decide_eq_true (by have := HJ.out; omega)
                          have n1p : 0 < k := by have := HJ.out; omega
                          have n0 : (0 : Int) < (k : Int) := by have := HJ.out; omega
                          have b3 : decide (f < f') = false := decide_eq_false (by have := HNR.out; have := HFF.out; omega)
                          have b4 : (f == f') = false := by have := HFF.out; simp; omega
                          have b6 : decide ((k : Int) < (L2 : Int)) = true := decide_eq_true (by omega)
                          have b6n : decide (k < L2) = true := decide_eq_true (by omega)
                          have b5 : (k : Int) < (L2 : Int) := by omega
                          have b8 : ((p : Int) == (p : Int)) = true := by simp
                          have b9 : (f == f) = true := by simp
                          repeat (go_big_quiet_step (fail))
                          refine wpQuiet_nil ?_
                          intro _ hw'
                          obtain ⟨nq, hw''⟩ := hw'
                          subst hw''
                          go_wp2
                          first
                            | (refine ⟨HY.out _, ?_⟩; simp [intOf]; omega; done)
                                          | (go_roundw; (case measure => simp [intOf]; omega); (case rel => exact HY.out _))
                    · exfalso; omega
                · have hki : ¬ (k : Int) < (L1 : Int) := by omega
                  have HO : Hid (One wb wr g og oc sg sc O st S c kv2 A2) := H2.out.1.turns0 HI.out
                  have HB2 : Hid (A2.2 ≤ 300000 * (u + 1)) := H2.out.2.1
                  clear HI H2
                  go_wp2
                  go_roundw
                  case measure => simp [intOf]; omega
                  case rel => exact ⟨u + 1, kv2, A2, wr, by go_num, by omega, rfl, HO.out, HB2.out⟩
      · have hui : ¬ (u : Int) < (n : Int) := by omega
        have HX : Hid (Turns (fun _ => False) w wr) := HTW2.out.trans (HTB.out.trans HI.out.1.t)
        clear HI
        go_wp2
        go_ret
        exact ⟨rfl, HX.out⟩
#print axioms kept_any
end Go.Proofs.YtdogncjcainhlaaGreatDoor
/- Proved: for every input bywaykeep.Kept returns true, and each argument reads afterwards as it read before: a store that was saved tells of any two places how far it is on the map, by a hub that lies between; Around tells those next to a place, by how far they are. Conditions: none but the row's own; Go's two listed tables of unicode/utf8 start as their texts lay them (the card ties them). -/
namespace Go.Proofs.YtdogncjcainhlaaGreatDoor
open Go.ChangeShapes Go.WideShapes Go.ChangeAt Go.RowKit
open Mem

/-- A slice of numbers that came in, as the walk is told of it. -/
theorem nums_of2 {H : Type} {enc : TypeId × Value → H} {W : World} {ra : Option Addr} {K cap : Nat} {d : DataW H} {p : List MemPlace} (h : DataW.Trod enc Tryz.prog W 0 (fun _ => true) true 55 (Value.slice ra K cap) d p) : K ≤ 9223372036854775807 ∧ ∃ nums, Nums W ra K nums := by
  obtain ⟨fuel, hf⟩ := h
  rcases Deep.open_slice Tryz.underlying55 hf with ⟨hcs, _⟩ | ⟨a, len, cap', m, n, D, Pl, hcs, _, hl, hm, hmm, _, hx⟩
  · simp [Value.cells] at hcs
    obtain ⟨rfl, rfl, rfl⟩ := hcs
    exact ⟨by omega, fun _ => 0, fun h => absurd h (by omega), fun i h => absurd h (by omega)⟩
  · simp [Value.cells] at hcs
    obtain ⟨rfl, rfl, rfl⟩ := hcs
    have hlm : K ≤ m := by rw [hmm]; split <;> omega
    refine ⟨by unfold maxLen at hm; omega, ?_⟩
    rw [cells3] at hx
    have each : ∀ i, i < K → ∃ t : Int, W.cell? (a.add i) = some (.int .i64 t) ∧ (Lit.int .i64 t).wf = true := by
      intro i hi
      obtain ⟨cs', h1, h2⟩ := hx i (by omega)
      obtain ⟨_, hlen, hcell⟩ := World.cells?_some h1
      obtain ⟨x0, e0, _, w0⟩ := DataW.trod_int Tryz.underlying3 h2
      subst e0
      have c0 := hcell 0 (by simp)
      rw [Deep.add_add] at c0
      exact ⟨x0, by simpa using c0, w0⟩
    obtain ⟨nums, hr⟩ := Deep.choose_lt each
    refine ⟨nums, fun h0 => ?_, fun i hi => wf_i64 (hr i hi).2⟩
    have hsp := spot_none (hr 0 h0).1
    obtain ⟨b, o, sp⟩ := a
    simp [Addr.add] at hsp
    subst hsp
    refine ⟨b, o, rfl, World.block_lt_of_cell? W _ (hr 0 h0).1, fun i hi => ?_⟩
    have hh := (hr i hi).1
    rw [add_none] at hh
    exact hh

set_option maxRecDepth 100000 in
theorem kept_contract (ht : TownSaid) (H : Type) (enc : TypeId × Value → H) (W : World) (base : Nat) (args : Array Value) (ds gs : List (DataW H)) (before : List MemPlace)
    (hval : ∀ (j : Nat) t v, Tryz.f5.params[j]? = some t → args[j]? = some v → Value.okWide Tryz.prog W .any base t v)
    (hW : DataW.Whole enc Tryz.prog Tryz.f5.params.toList Rows.keptSpec.vars false W args.toList ds gs before) (hsh : W.ShapedOpen Tryz.prog) :
    Calls Tryz.prog 5 args W fun e W' => ∃ v, e = .returned v ∧ Rows.keptSpec.post enc Tryz.prog Tryz.f5 false true false false W args v W' := by
  have hW' := hW
  obtain ⟨p, q, hA0, hV, rfl, hfz, hnd⟩ := hW
  have hA : DataW.TrodAll enc Tryz.prog W 0 (fun _ => true) true Tryz.f5.params.toList args.toList ds p := hA0
  rw [Tryz.params5] at hA hval
  obtain ⟨v0, vs0, d0, ds0, p0, q0, hargs, rfl, rfl, h0, r0⟩ := trodAll_cons hA
  obtain ⟨v1, vs1, d1, ds1, p1, q1, rfl, rfl, rfl, h1, r1⟩ := trodAll_cons r0
  obtain ⟨v2, vs2, d2, ds2, p2, q2, rfl, rfl, rfl, h2, r2⟩ := trodAll_cons r1
  obtain ⟨v3, vs3, d3, ds3, p3, q3, rfl, rfl, rfl, h3, r3⟩ := trodAll_cons r2
  obtain ⟨v4, vs4, d4, ds4, p4, q4, rfl, rfl, rfl, h4, r4⟩ := trodAll_cons r3
  obtain ⟨rfl, rfl, rfl⟩ := trodAll_nil r4
  obtain rfl : args = #[v0, v1, v2, v3, v4] := by cases args; simp_all
  obtain ⟨rfl, rfl⟩ := trodVars_none hV
  obtain ⟨ra, K, cap, rfl⟩ := okWide_slice Tryz.underlying22 (hval 1 22 v1 rfl rfl)
  obtain ⟨rn, KN, capN, rfl⟩ := okWide_slice Tryz.underlying55 (hval 2 55 v2 rfl rfl)
  have k1 := h1
  have k2 := h2
  have lt2 : ∀ x ∈ p2, x.block < W.heap.size := by obtain ⟨m, hm⟩ := k2; exact DataW.trod_lt m _ _ _ hm
  obtain ⟨hKN, nums, hNums⟩ := nums_of2 h2
  have lt1 : ∀ x ∈ p1, x.block < W.heap.size := by obtain ⟨m, hm⟩ := k1; exact DataW.trod_lt m _ _ _ hm
  obtain ⟨hK, raw, hRaw⟩ := raw_of h1
  obtain ⟨a0, rfl, rfl, rfl, w0⟩ := open_int Tryz.underlying3 (hval 0 3 v0 rfl rfl) h0
  obtain ⟨a3, rfl, rfl, rfl, w3⟩ := open_int Tryz.underlying3 (hval 3 3 v3 rfl rfl) h3
  obtain ⟨a4, rfl, rfl, rfl, w4⟩ := open_int Tryz.underlying3 (hval 4 3 v4 rfl rfl) h4
  clear hA0
  refine (kept_any ht W a0 a3 a4 ra rn K cap KN capN raw nums (wf_i64 w0).1 (wf_i64 w0).2 hK hRaw hKN hNums (wf_i64 w3).1 (wf_i64 w3).2 (wf_i64 w4).1 (wf_i64 w4).2 (ml_of_shaped hsh)).mono fun e W' ⟨he, hT⟩ => ?_
  subst he
  have bel := hT.below
  exact ⟨_, rfl, _, _, _, [], _, [], hW', trodAll_mk1 (shut_bool Tryz.underlying4 _), (trodAll_cons_mk (shut_int Tryz.underlying3 w0) (trodAll_cons_mk (Below.trod laidOut (by kernel_rfl) (of_decide_eq_true (by kernel_rfl)) k1 bel lt1) (trodAll_cons_mk (Below.trod laidOut (by kernel_rfl) (of_decide_eq_true (by kernel_rfl)) k2 bel lt2) (trodAll_cons_mk (shut_int Tryz.underlying3 w3) (trodAll_cons_mk (shut_int Tryz.underlying3 w4) trodAll_mk0))))), rfl, bel.frame _, fun h => by cases h⟩

theorem kept_laid (os : Os) : laidMet Tryz.prog Rows.keptRow.laid ((laidWorld os).forCall (fun _ _ => 0) ⟨#[], #[.int .i64 0, .slice none 0 0, .slice none 0 0, .int .i64 0, .int .i64 0], []⟩).memory :=
  laidMet_of_run' 8 (by kernel_rfl) (by kernel_rfl)
theorem kept_reads (os : Os) {H : Type} (enc : TypeId × Value → H) : ∃ places, DataW.whole enc Tryz.prog ((laidWorld os).forCall (fun _ _ => 0) ⟨#[], #[.int .i64 0, .slice none 0 0, .slice none 0 0, .int .i64 0, .int .i64 0], []⟩).memory Tryz.f5.params.toList Rows.keptSpec.vars false #[Value.int .i64 0, .slice none 0 0, .slice none 0 0, .int .i64 0, .int .i64 0].toList 8 = some ([.lit (.int .i64 0), .nil, .nil, .lit (.int .i64 0), .lit (.int .i64 0)], [], places) :=
  ⟨[], by kernel_rfl⟩

set_option maxRecDepth 100000 in
theorem kept_lifted (ht : TownSaid) (os : Os) (started : os.Started) (H : Type) (enc : TypeId × Value → H) (F : Stop.Interp) :
    ReturnsInHanded {} Tryz.checked os 5 .any ((OpenSpec.ofChange Rows.keptSpec).preRow enc Tryz.prog Tryz.f5 Rows.keptRow.domain false Rows.keptRow.laid) (((OpenSpec.ofChange Rows.keptSpec).at F).post enc Tryz.prog Tryz.f5 false true false false) := by
  obtain ⟨places, hx⟩ := kept_reads os enc
  refine returnsInHanded_of_row (C := Tryz.checked) (s := OpenSpec.ofChange Rows.keptSpec) own started (by kernel_rfl) Tryz.func5
    (witness_row_at (enc := enc) (C := Tryz.checked) false (laidWorld os) #[.int .i64 0, .slice none 0 0, .slice none 0 0, .int .i64 0, .int .i64 0] rfl (by kernel_rfl) (by kernel_rfl) (by kernel_rfl)
      (OpenSpec.preRow_of_cond 8 hx (by kernel_rfl) (fun k hk => by cases hk) (by kernel_rfl) (kept_laid os))) ?_
  intro W base args ds gs before hval hW _ _ _ _ hsh _
  exact kept_contract ht H enc W base args ds gs before hval hW hsh

theorem kept_said (ht : TownSaid) : Rows.KeptSaid :=
  OpenClaim.holds_of_cond 5 Tryz.f5 rfl rfl rfl rfl rfl rfl rfl ⟨rfl, rfl, rfl, rfl, rfl⟩ rfl rfl rfl rfl rfl (by kernel_rfl) Tryz.func5 (by kernel_rfl)
    (of_decide_eq_true (by kernel_rfl)) (by unfold Func.isWrapper; first | (rw [if_pos (by decide +kernel)]; kernel_rfl) | (rw [if_neg (by decide +kernel)]; exact ⟨rfl, rfl⟩))
    (fun os started H enc _ F => by rw [OpenClaim.pre_eq_preRow]; exact kept_lifted ht os started H enc F)

/-- No parameter wants a stand-in; the program's own looks are off. -/
theorem kept_plain (f : FuncId) (fn : Func) (hf : Tryz.pinned.checked.prog.funcNamed "byway/bywaykeep.Kept" = some f) (hfn : Tryz.pinned.checked.prog.funcs[f]? = some fn) :
    false = Tryz.pinned.checked.prog.looks [] ∧ ∀ (j : Nat) t, fn.params[j]? = some t → Tryz.pinned.checked.prog.wantsStandIn t = false := by
  obtain rfl : f = 5 := Option.some.inj ((show Tryz.prog.funcNamed "byway/bywaykeep.Kept" = some 5 by kernel_rfl).symm.trans hf) |>.symm
  obtain rfl : fn = Tryz.f5 := (Option.some.inj (Tryz.func5.symm.trans hfn)).symm
  refine ⟨by kernel_rfl, fun j t ht => ?_⟩
  rw [Tryz.params5] at ht
  have h : t = 3 ∨ t = 22 ∨ t = 55 ∨ t = 3 := by simpa using Array.mem_of_getElem? ht
  rcases h with rfl | rfl | rfl | rfl
  · exact (show Tryz.prog.wantsStandIn 3 = false by kernel_rfl)
  · exact (show Tryz.prog.wantsStandIn 22 = false by kernel_rfl)
  · exact (show Tryz.prog.wantsStandIn 55 = false by kernel_rfl)
  · exact (show Tryz.prog.wantsStandIn 3 = false by kernel_rfl)

theorem kept_card_of (ht : TownSaid) : Rows.KeptCardSaid :=
  Claim7.holds_tied_plain_at .later [] _ _ _ _ (kept_said ht) (fun _ h => by cases h) (by kernel_rfl) (fun _ h => by cases h) kept_row_tie rfl ⟨rfl, rfl⟩ (by kernel_rfl) rfl kept_plain (by kernel_rfl)
#print axioms kept_card_of
end Go.Proofs.YtdogncjcainhlaaGreatDoor
