/- The walk of hubs.Labels. -/
import Derived.Test.YtdogncjcainhlaaGreatDoorHub
import Derived.Test.YtdogncjcainhlaaGreatDoorPlain
namespace Go.Proofs.YtdogncjcainhlaaGreatDoor
open Go.RowKit Go.Deep
open Mem

theorem infoL41 : (Tryz.prog.info? 55).map (fun i => (i.zero, i.size, i.bytes)) = some (some (.slice none 0 0), 1, 24) := by kernel_rfl
theorem infoL54 : (Tryz.prog.info? 120).map (fun i => (i.zero, i.size, i.bytes)) = some (some (.agg #[.int .i64 0, .int .i64 0, .int .i64 0]), 3, 24) := by kernel_rfl

/-- The cells of an order. -/
def Ord (w : World) (ob n : Nat) (O : List Nat) : Prop := O.length = n ∧ ∀ (j m : Nat), O[j]? = some m → m < n ∧ w.cell? ⟨ob, j, none⟩ = some (.int .i64 (m : Int))
theorem Ord.turns {w w' : World} {ob n : Nat} {O : List Nat} (h : Ord w ob n O) (t : Turns (fun _ => False) w w') : Ord w' ob n O :=
  ⟨h.1, fun j m hm => ⟨(h.2 j m hm).1, (t.cell (World.block_lt_of_cell? _ _ (h.2 j m hm).2) (fun x => x)).trans (h.2 j m hm).2⟩⟩

/-- What holds ahead of each round of the first loop: the rows of the first k places stand. -/
def Lab1 (w : World) (n : Nat) (D : Nat → Nat → Int) (iv : Value) (wr : World) : Prop :=
  ∃ k : Nat, iv = .int .i64 k ∧ k ≤ n ∧ (∀ i, i < k → ∃ r, w.heap.size < r ∧ wr.cell? ⟨w.heap.size, i, none⟩ = some (.slice (some ⟨r, 0, none⟩) n n) ∧ ∀ j, j < n → wr.cell? ⟨r, j, none⟩ = some (.int .i64 (D i j))) ∧
    (∀ i, k ≤ i → i < n → wr.cell? ⟨w.heap.size, i, none⟩ = some (.slice none 0 0)) ∧ (∀ i, wr.frozen? ⟨w.heap.size, i, none⟩ = false) ∧ w.heap.size < wr.heap.size ∧ Turns (fun _ => False) w wr
/-- What holds ahead of each round of the second loop: the labels so far. -/
def Lab2 (w w2 : World) (L : List Pu.Rd) (v : Value) (wr : World) : Prop :=
  wr.ownsRow w2.heap.size 120 3 v L.length (Pu.rdVals L) ∧ Turns (fun _ => False) w2 wr ∧ Turns (fun _ => False) w wr

set_option maxRecDepth 100000 in
set_option maxHeartbeats 2000000 in
theorem hubs_any (w : World) (b n ob ocap : Nat) (R : Int) (len D : Nat → Nat → Int) (O : List Nat) (hn1 : 1 ≤ n) (hn : n ≤ 40) (hM : MapAt w b n R len) (L : Pu.Lens len) (hD : ∀ i, i < n → Pu.Dist n len i (D i)) (hO : Ord w ob n O) (hoc : n ≤ ocap) :
    Calls Tryz.prog 55 #[.pointer (some ⟨b, 0, none⟩), .slice (some ⟨ob, 0, none⟩) n ocap] w fun e w' => Turns (fun _ => False) w w' ∧ ∃ v, e = .returned v ∧ w'.ownsRow w.heap.size 120 3 v (Pu.labP D O n).length (Pu.rdVals (Pu.labP D O n)) := by
  have hmk := run_make_row' (P := Tryz.prog) 23 55 (.slice none 0 0) 24 Tryz.underlying23 infoL41 rfl .i64 .i64 n (by omega) (by omega)
  obtain ⟨i0, hi, hz0, hz1, hz2⟩ := info_parts infoL54
  have hp := hM.places
  have hS : Small n D := fun i j hi hj => (hD i hi).rng j hj
  have HM : Hid (MapAt w b n R len) := hM
  have h0 : Hid (Lab1 w n D (.int .i64 0) (w.alloc (.cells (madeCells #[.slice none 0 0] n) 55))) :=
    ⟨0, rfl, Nat.zero_le _, fun i hi => by omega, fun i _ hi => by rw [World.cell?_alloc_new]; exact made_get _ _ _ hi, fun i => World.frozen?_alloc_new _ _ _ _, by simp, (Turns.refl _ _).alloc _⟩
  have hbl := hM.lt
  go_enter Tryz.func55, Tryz.ntmps55
  go_wp2
  go_loopw [18] (fun iv wr => Lab1 w n D iv wr) (fun iv _ => n - (intOf iv).toNat)
  case atStart => exact h0.out
  case round =>
    clear h0
    obtain ⟨k, rfl, hk, hrow, hnil, hfr, hsz, hT⟩ := hrel
    by_cases hlt : k < n
    · have hki : (k : Int) < (n : Int) := by omega
      have hMr := HM.out.turns hT (fun x => x)
      have c3 := farFrom_any wr b n k R len hn hlt hMr L
      have HA : Hid (∀ (far : Nat → Int) (w3 : World), Ints w3 wr.heap.size n far → Pu.Dist n len k far → Turns (fun _ => False) wr w3 → w3.cell? ⟨w.heap.size, k, none⟩ = some (.slice none 0 0) ∧ w3.frozen? ⟨w.heap.size, k, none⟩ = false ∧
          Lab1 w n D (.int .i64 ((k : Int) + 1)) (w3.setCell ⟨w.heap.size, k, none⟩ (.slice (some ⟨wr.heap.size, 0, none⟩) n n))) := by
        intro far w3 hI hDf hT3
        have hc : w3.cell? ⟨w.heap.size, k, none⟩ = some (.slice none 0 0) := (hT3.cell (a := ⟨w.heap.size, k, none⟩) hsz (fun x => x)).trans (hnil k (Nat.le_refl _) hlt)
        refine ⟨hc, (hT3.frozen (a := ⟨w.heap.size, k, none⟩) hsz (fun x => x)).trans (hfr k), k + 1, by go_num, by omega, ?_, ?_, ?_, ?_, ?_⟩
        · intro i hi
          have oth : ∀ (r j : Nat), w.heap.size < r → (w3.setCell ⟨w.heap.size, k, none⟩ (.slice (some ⟨wr.heap.size, 0, none⟩) n n)).cell? ⟨r, j, none⟩ = w3.cell? ⟨r, j, none⟩ := fun r j hr => World.cell?_setCell_other _ _ _ _ (by intro c; injection c with c; omega)
          by_cases e : i = k
          · subst e
            refine ⟨wr.heap.size, hsz, World.cell?_setCell_same _ _ _ hc, fun j hj => ?_⟩
            rw [oth _ _ hsz, hI.cell j hj, Pu.Dist.unique L hDf (hD i hlt) j hj]
          · obtain ⟨r, h1, h2, h3⟩ := hrow i (by omega)
            refine ⟨r, h1, ?_, fun j hj => ?_⟩
            · rw [World.cell?_setCell_other _ _ _ _ (by intro c; injection c with _ c; omega)]
              exact (hT3.cell (a := ⟨w.heap.size, i, none⟩) hsz (fun x => x)).trans h2
            · rw [oth _ _ h1]
              exact (hT3.cell (World.block_lt_of_cell? _ _ (h3 j hj)) (fun x => x)).trans (h3 j hj)
        · intro i h1 h2
          rw [World.cell?_setCell_other _ _ _ _ (by intro c; injection c with _ c; omega)]
          exact (hT3.cell (a := ⟨w.heap.size, i, none⟩) hsz (fun x => x)).trans (hnil i (by omega) h2)
        · intro i
          rw [World.frozen?_setCell]
          exact (hT3.frozen (a := ⟨w.heap.size, i, none⟩) hsz (fun x => x)).trans (hfr i)
        · have := hT3.size; simp; omega
        · exact (hT.trans hT3).setCell (Or.inl (Nat.le_refl _)) _
      clear hMr hrow hnil hfr hT hM hD hO
      go_wp2_with fail
      refine c3.mono ?_
      rintro e w3 ⟨far, rfl, hI, hDf, hT3⟩
      obtain ⟨d1, d2, d3⟩ := HA.out far w3 hI hDf hT3
      have HX : Hid (Lab1 w n D (.int .i64 ((k : Int) + 1)) (w3.setCell ⟨w.heap.size, k, none⟩ (.slice (some ⟨wr.heap.size, 0, none⟩) n n))) := d3
      clear c3 HA hI hDf hT3 d3
      go_wp2
      go_roundw
      case measure => simp [intOf]; omega
      case rel => exact HX.out
    · have hkn : k = n := by omega
      subst hkn
      obtain ⟨w2, hw2⟩ : ∃ w2, w2 = wr := ⟨_, rfl⟩
      subst hw2
      have hTab : Tab w2 w.heap.size k D := fun i hi => by obtain ⟨r, _, h2, h3⟩ := hrow i hi; exact ⟨r, h2, h3⟩
      have hOr := hO.turns hT
      have c0 : w2.cell? ⟨b, 0, none⟩ = some (.int .i64 k) := (hT.cell (a := ⟨b, 0, none⟩) hbl (fun x => x)).trans hp
      have HT : Hid (Turns (fun _ => False) w w2) := hT
      have hsz2 := hT.size
      have HT2 : Hid (Tab w2 w.heap.size k D ∧ Ord w2 ob k O) := ⟨hTab, hOr⟩
      clear hrow hnil hfr hT hTab hOr hM hO hmk
      have hS0 : Hid (Lab2 w w2 [] (.slice none 0 0) w2) := ⟨World.ownsRow_nil _ _ _ _, Turns.refl _ _, HT.out⟩
      have hOl := HT2.out.2.1
      go_wp2
      go_loopw [7, 32] (fun v pv wr => ∃ (p : Nat) (vv : Value), vv = v ∧ pv = .int .i64 p ∧ p ≤ k ∧ Lab2 w w2 (Pu.labP D O p) vv wr) (fun _ pv _ => k - (intOf pv).toNat)
      case atStart => exact ⟨0, _, rfl, rfl, Nat.zero_le _, hS0.out⟩
      case round =>
        clear hS0
        obtain ⟨p, v, hv, rfl, hp', hLb⟩ := hrel
        subst hv
        by_cases hpk : p < k
        · have hpi : (p : Int) < (k : Int) := by omega
          have hL0 : Hid (Lab2 w w2 (Pu.labP D O p ++ Pu.labK D O p 0) v wr) := by rw [Pu.labK, List.append_nil]; exact hLb
          have hpl := Pu.labP_len D O p
          have hpm : (Pu.labP D O p).length ≤ 1600 := by
            have : p * O.length ≤ 40 * 40 := Nat.mul_le_mul (by omega) (by omega)
            omega
          clear hLb hpl
          go_wp2
          go_loopw [7, 37] (fun v jv wr => ∃ (j : Nat) (vv : Value), vv = v ∧ jv = .int .i64 j ∧ j ≤ k ∧ Lab2 w w2 (Pu.labP D O p ++ Pu.labK D O p j) vv wr) (fun _ jv _ => k - (intOf jv).toNat)
          case atStart => exact ⟨0, _, rfl, rfl, Nat.zero_le _, hL0.out⟩
          case round =>
            clear hL0
            obtain ⟨j, v', hv', rfl, hj, hown, hTr, hTw⟩ := hrel
            subst hv'
            by_cases hjk : j < k
            · have hji : (j : Int) < (k : Int) := by omega
              have hjc : (j : Int) ≤ (ocap : Int) := by omega
              obtain ⟨h, hh⟩ : ∃ h, O[j]? = some h := ⟨_, List.getElem?_eq_getElem (by omega)⟩
              have hTab := HT2.out.1.turns hTr
              have hOr := HT2.out.2.turns hTr
              obtain ⟨hhn, hch⟩ := hOr.2 j h hh
              obtain ⟨rp, t1, t2⟩ := hTab p hpk
              have t3 := t2 h hhn
              have c4 := isHub_any wr w.heap.size k k p h ob j ocap D (O.take j) hTab hS hpk hhn (by rw [List.length_take]; omega) (by omega)
                (fun i m hm => by
                  have hij : i < j := by
                    have := (List.getElem?_eq_some_iff.1 hm).1
                    rw [List.length_take] at this; omega
                  rw [List.getElem?_take_of_lt hij] at hm
                  exact hOr.2 i m hm)
              have hkl := Pu.labK_len D O p j
              have hhi : (h : Int) < (k : Int) := by omega
              have bD := hS p h hpk hhn
              have HO : Hid (wr.ownsRow w2.heap.size 120 3 v' (Pu.labP D O p ++ Pu.labK D O p j).length (Pu.rdVals (Pu.labP D O p ++ Pu.labK D O p j)) ∧ Turns (fun _ => False) w2 wr ∧ Turns (fun _ => False) w wr) := ⟨hown, hTr, hTw⟩
              cases hb : Pu.isHub D p h (O.take j) with
              | false =>
                rw [hb] at c4
                have HX : Hid (∀ q, ∃ (j' : Nat) (vv : Value), vv = v' ∧ (Value.int .i64 ((j : Int) + 1)) = .int .i64 j' ∧ j' ≤ k ∧ Lab2 w w2 (Pu.labP D O p ++ Pu.labK D O p j') vv (wr.drewN q)) := fun q => ⟨j + 1, v', rfl, by go_num, by omega, by rw [Pu.labK_miss hh hb]; exact ⟨HO.out.1, HO.out.2.1.drewN q, HO.out.2.2.drewN q⟩⟩
                clear hown hTr hTw hTab hOr t2 hb HO
                go_wp2_with fail
                refine c4.mono ?_
                rintro e w3 ⟨rfl, q, hw3⟩
                subst hw3
                clear c4
                go_wp2
                go_roundw
                case measure => simp [intOf]; omega
                case rel => exact HX.out _
              | true =>
                rw [hb] at c4
                have HV : Hid (Pu.rdVals (Pu.labP D O p ++ Pu.labK D O p j) ++ [.int .i64 p, .int .i64 h, .int .i64 (D p h)] = Pu.rdVals (Pu.labP D O p ++ Pu.labK D O p (j + 1))) := by
                  show _ = _
                  rw [Pu.labK_hit hh hb, ← List.append_assoc, Pu.rdVals_append (Pu.labP D O p ++ Pu.labK D O p j)]; rfl
                have HLn : Hid ((Pu.labP D O p ++ Pu.labK D O p (j + 1)).length = (Pu.labP D O p ++ Pu.labK D O p j).length + 1) := by
                  show _ = _
                  rw [Pu.labK_hit hh hb]; simp; try omega
                have hll : (Pu.labP D O p ++ Pu.labK D O p j).length ≤ 2000 := by rw [List.length_append]; omega
                obtain ⟨LL, hLL⟩ : ∃ LL, (Pu.labP D O p ++ Pu.labK D O p j) = LL := ⟨_, rfl⟩
                obtain ⟨x, hx⟩ : ∃ x, D p h = x := ⟨_, rfl⟩
                rw [hLL] at HV HLn hll HO
                rw [hx] at t3 HV
                clear hown hTr hTw hTab hOr t2 hb hLL hkl bD hx
                go_wp2_with fail
                refine c4.mono ?_
                rintro e w3 ⟨rfl, q, hw3⟩
                have e1 : w3.cell? ⟨w.heap.size, p, none⟩ = some (.slice (some ⟨rp, 0, none⟩) k k) := by rw [hw3]; exact t1
                have e2 : w3.cell? ⟨rp, h, none⟩ = some (.int .i64 x) := by rw [hw3]; exact t3
                have hown3 : w3.ownsRow w2.heap.size 120 3 v' LL.length (Pu.rdVals LL) := by rw [hw3]; exact HO.out.1
                have hT3 : Turns (fun _ => False) w2 w3 := by rw [hw3]; exact HO.out.2.1.drewN q
                have hTw3 : Turns (fun _ => False) w w3 := by rw [hw3]; exact HO.out.2.2.drewN q
                have hs3 := hT3.size
                clear c4 hw3 HO
                go_wp2_with (at_builtin; refine wpList_append_own _ rfl _ _ 72 rfl w2.heap.size 120 i0 _ 3 24 Tryz.underlying72 hi hz0 hz1 hz2 rfl (by decide) _ _ _ rfl (hown3.alloc _) ⟨w3.heap.size, 0, none⟩ 1 1 [.int .i64 p, .int .i64 h, .int .i64 x] rfl rfl ?c1 ?c2 ?c3 ?c4 ?c5 ?_)
                case c1 => exact World.news_of_block (cs := #[.int .i64 p, .int .i64 h, .int .i64 x]) (heap_alloc_new w3 _)
                case c2 => intro u hu; simp at hu; rcases hu with rfl | rfl | rfl <;> rfl
                case c3 => unfold maxLen; omega
                case c4 => omega
                case c5 => simp; omega
                intro v'' w4 hown4 hgrow _
                have hT4 : Turns (fun _ => False) w2 w4 := (hT3.alloc _).grown hgrow (fun q hq => Or.inl (hown3.lt q hq).1)
                have hTw4 : Turns (fun _ => False) w w4 := (hTw3.alloc _).grown hgrow (fun q hq => Or.inl (by have := (hown3.lt q hq).1; omega))
                rw [HV.out] at hown4
                rw [← HLn.out] at hown4
                have HX : Hid (∃ (j' : Nat) (vv : Value), vv = v'' ∧ (Value.int .i64 ((j : Int) + 1)) = .int .i64 j' ∧ j' ≤ k ∧ Lab2 w w2 (Pu.labP D O p ++ Pu.labK D O p j') vv w4) := ⟨j + 1, v'', rfl, by go_num, by omega, hown4, hT4, hTw4⟩
                clear hown4 hgrow hT4 hTw4 hT3 hTw3 hown3 HV HLn
                go_wp2
                go_roundw
                case measure => simp [intOf]; omega
                case rel => exact HX.out
            · have hjk' : j = k := by omega
              have HX : Hid (∃ (p' : Nat) (vv : Value), vv = v' ∧ (Value.int .i64 ((p : Int) + 1)) = .int .i64 p' ∧ p' ≤ k ∧ Lab2 w w2 (Pu.labP D O p') vv wr) := ⟨p + 1, v', rfl, by go_num, by omega, by rw [Pu.labP, hOl, ← hjk']; exact ⟨hown, hTr, hTw⟩⟩
              clear hown hTr hTw
              subst hjk'
              go_wp2
              go_roundw
              case measure => simp [intOf]; omega
              case rel => exact HX.out
        · have hpk' : p = k := by omega
          obtain ⟨h1, h2, h3⟩ := hLb
          have HX : Hid (Turns (fun _ => False) w wr ∧ wr.ownsRow w.heap.size 120 3 v (Pu.labP D O k).length (Pu.rdVals (Pu.labP D O k))) := ⟨h3, by rw [← hpk']; exact owns_mono h1 hsz2⟩
          clear h1 h2 h3
          subst hpk'
          go_wp2
          go_ret
          exact ⟨HX.out.1, v, rfl, HX.out.2⟩
#print axioms hubs_any
end Go.Proofs.YtdogncjcainhlaaGreatDoor
