/- The walks of records.hubsOf, records.writeLabel, records.Write. -/
import Derived.Test.YtdogncjcainhlaaGreatDoorCnt
import Derived.Test.YtdogncjcainhlaaGreatDoorPlain
import Derived.Test.YtdogncjcainhlaaGreatDoorHubL
import Derived.Test.YtdogncjcainhlaaGreatDoorRSave
namespace Go.Proofs.YtdogncjcainhlaaGreatDoor
open Go.RowKit Go.Deep
open Mem

/-- The labels that lie behind a slice. -/
def RdAt (w : World) (a : Option Addr) (L : List Pu.Rd) : Prop := ∀ (i p h : Nat) (f : Int), L[i]? = some (p, h, f) → ∃ g, a = some ⟨g, 0, none⟩ ∧ w.cell? ⟨g, i * 3, none⟩ = some (.int .i64 (p : Int)) ∧ w.cell? ⟨g, i * 3 + 1, none⟩ = some (.int .i64 (h : Int)) ∧ w.cell? ⟨g, i * 3 + 2, none⟩ = some (.int .i64 f)

theorem rdAt_own {w : World} {base : Nat} {v : Value} {L : List Pu.Rd} (h : w.ownsRow base 120 3 v L.length (Pu.rdVals L)) : ∃ a c, v = .slice a L.length c ∧ RdAt w a L := by
  rcases h.2 with ⟨h1, h2⟩ | ⟨g, cap, _, h1, _⟩
  · refine ⟨none, 0, by rw [h1, h2], fun i p q f hi => ?_⟩
    have := (List.getElem?_eq_some_iff.1 hi).1
    omega
  · refine ⟨some ⟨g, 0, none⟩, cap, h1, fun i p q f hi => ?_⟩
    subst h1
    have hil := (List.getElem?_eq_some_iff.1 hi).1
    obtain ⟨r1, r2, r3⟩ := Pu.rdVals_get _ i p q f hi
    exact ⟨g, rfl, by rw [h.cellAt _ (by omega)]; exact r1, by rw [h.cellAt _ (by omega)]; exact r2, by rw [h.cellAt _ (by omega)]; exact r3⟩
theorem RdAt.turns {w w' : World} {a : Option Addr} {L : List Pu.Rd} (h : RdAt w a L) (t : Turns (fun _ => False) w w') : RdAt w' a L := by
  intro i p q f hi
  obtain ⟨g, h0, h1, h2, h3⟩ := h i p q f hi
  exact ⟨g, h0, (t.cell (World.block_lt_of_cell? _ _ h1) (fun x => x)).trans h1, (t.cell (World.block_lt_of_cell? _ _ h2) (fun x => x)).trans h2, (t.cell (World.block_lt_of_cell? _ _ h3) (fun x => x)).trans h3⟩
namespace Pu
theorem nodup_idx {O : List Nat} (h : O.Nodup) {i j m : Nat} (hi : O[i]? = some m) (hj : O[j]? = some m) : i = j := by
  obtain ⟨a1, a2⟩ := List.getElem?_eq_some_iff.1 hi
  obtain ⟨b1, b2⟩ := List.getElem?_eq_some_iff.1 hj
  rcases Nat.lt_trichotomy i j with c | c | c
  · exact absurd (a2.trans b2.symm) (List.pairwise_iff_getElem.1 h i j a1 b1 c)
  · exact c
  · exact absurd (b2.trans a2.symm) (List.pairwise_iff_getElem.1 h j i b1 a1 c)
theorem labK_place {D : Nat → Nat → Int} {O : List Nat} {v k : Nat} : ∀ x ∈ labK D O v k, x.1 = v := fun x hx => by
  obtain ⟨j, h, _, _, _, rfl⟩ := (labK_mem k).1 hx
  rfl
/-- Of all labels those of one place. -/
theorem labP_filter (D : Nat → Nat → Int) (O : List Nat) (v : Nat) : ∀ p, (labP D O p).filter (fun r => r.1 == v) = if v < p then labK D O v O.length else []
  | 0 => by simp [labP]
  | p + 1 => by
    rw [labP, List.filter_append, labP_filter D O v p]
    by_cases e : v = p
    · subst e
      rw [if_neg (by omega), if_pos (by omega), List.nil_append, List.filter_eq_self.2]
      intro x hx
      simp [labK_place x hx]
    · have : (labK D O p O.length).filter (fun r => r.1 == v) = [] := by
        rw [List.filter_eq_nil_iff]
        intro x hx
        simp [labK_place x hx]
        omega
      rw [this, List.append_nil]
      by_cases h : v < p
      · rw [if_pos h, if_pos (by omega)]
      · rw [if_neg h, if_neg (by omega)]
end Pu
set_option maxRecDepth 100000 in
set_option maxHeartbeats 2000000 in
/-- records.hubsOf: those of one place. -/
theorem hubsOf_any (w : World) (v cap : Nat) (a : Option Addr) (L : List Pu.Rd) (hL : L.length ≤ 1600) (hR : RdAt w a L) :
    Calls Tryz.prog 62 #[.int .i64 v, .slice a L.length cap] w fun e w' => Turns (fun _ => False) w w' ∧ ∃ x, e = .returned x ∧ w'.ownsRow w.heap.size 120 3 x (L.filter fun r => r.1 == v).length (Pu.rdVals (L.filter fun r => r.1 == v)) := by
  obtain ⟨ll, hll⟩ : ∃ ll, L.length = ll := ⟨_, rfl⟩
  have HLL : Hid (L.length = ll) := hll
  rw [hll] at hL ⊢
  have HR : Hid (RdAt w a L) := hR
  clear hR hll
  have H0 : Hid (OwnG w (.slice none 0 0) w.heap.size 120 3 (.slice none 0 0) ((L.take 0).filter fun r => r.1 == v).length (Pu.rdVals ((L.take 0).filter fun r => r.1 == v)) w) := OwnG.nil _ _ _ _
  go_enter Tryz.func62, Tryz.ntmps62
  go_wp2
  go_loopw [5, 10] (fun xv iv wr => ∃ (i : Nat) (x : Value) (wy : World), x = xv ∧ iv = .int .i64 i ∧ i ≤ ll ∧ wy = wr ∧ Hid (OwnG w (.slice none 0 0) w.heap.size 120 3 x ((L.take i).filter fun r => r.1 == v).length (Pu.rdVals ((L.take i).filter fun r => r.1 == v)) wy)) (fun _ iv _ => ll - (intOf iv).toNat)
  case atStart => exact ⟨0, _, w, rfl, rfl, Nat.zero_le _, rfl, H0.out⟩
  case round =>
    clear H0
    obtain ⟨i, x, wr, hx, rfl, hil, hwy, HI⟩ := hrel
    subst hwy hx
    by_cases hlt : i < ll
    · have hii : (i : Int) < (ll : Int) := by omega
      obtain ⟨⟨p, q, f⟩, hph⟩ : ∃ y, L[i]? = some y := ⟨_, List.getElem?_eq_getElem (by rw [HLL.out]; exact hlt)⟩
      obtain ⟨g, hag, g1, g2, g3⟩ := HR.out i p q f hph
      have hT := HI.out.turns0
      have e1 := (hT.cell (a := ⟨g, i * 3, none⟩) (World.block_lt_of_cell? _ _ g1) (fun x => x)).trans g1
      have e2 := (hT.cell (a := ⟨g, i * 3 + 1, none⟩) (World.block_lt_of_cell? _ _ g2) (fun x => x)).trans g2
      have e3 := (hT.cell (a := ⟨g, i * 3 + 2, none⟩) (World.block_lt_of_cell? _ _ g3) (fun x => x)).trans g3
      subst hag
      have hfl : Hid (((L.take i).filter fun r => r.1 == v).length ≤ 1600) := by
        have := List.length_filter_le (fun r : Pu.Rd => r.1 == v) (L.take i)
        have h2 := List.length_take_le i L
        have h3 := HLL.out
        show _ ≤ _
        rw [List.length_take] at this
        omega
      by_cases hpv : p = v
      · subst hpv
        have HN : Hid ((L.take (i + 1)).filter (fun r => r.1 == p) = (L.take i).filter (fun r => r.1 == p) ++ [(p, q, f)]) := by
          show _ = _
          rw [List.take_add_one, hph, Option.toList_some, List.filter_append]
          simp
        obtain ⟨xs, hxs⟩ : ∃ xs, xs = Pu.rdVals ((L.take i).filter fun r => r.1 == p) := ⟨_, rfl⟩
        obtain ⟨nn, hnn⟩ : ∃ nn, nn = ((L.take i).filter fun r => r.1 == p).length := ⟨_, rfl⟩
        have HO : Hid (OwnG w (.slice none 0 0) w.heap.size 120 3 x nn xs wr) := by rw [hxs, hnn]; exact HI.out
        have HX : Hid (∀ v' w3, OwnG w (.slice none 0 0) w.heap.size 120 3 v' (nn + 1) (xs ++ (#[Value.int .i64 (p : Int), .int .i64 (q : Int), .int .i64 f] : Array Value).toList) w3 → OwnG w (.slice none 0 0) w.heap.size 120 3 v' ((L.take (i + 1)).filter fun r => r.1 == p).length (Pu.rdVals ((L.take (i + 1)).filter fun r => r.1 == p)) w3) := by
          intro v' w3 h3
          rw [HN.out, Pu.rdVals_append, List.length_append, ← hxs, ← hnn]
          exact h3
        have hnl : nn ≤ 1600 := by rw [hnn]; exact hfl.out
        have hsz : w.heap.size ≤ wr.heap.size := hT.size
        clear hxs hnn HI HN hph g1 g2 g3 hT hfl
        go_wp2_with (at_builtin; refine wpList_append_one rfl _ _ 72 rfl 120 3 24 _ Tryz.underlying72 infoL54 rfl (by decide) w (wr.alloc _) (.slice none 0 0) x w.heap.size nn xs _ rfl (by intro u hu; simp at hu; rcases hu with rfl | rfl | rfl <;> rfl) (HO.out.alloc _) (by simp; omega) (by omega) (by omega) rfl _ rfl (by simp) ?_)
        intro v' w3 hB
        have HY := HX.out v' w3 hB
        have HZ : Hid (OwnG w (.slice none 0 0) w.heap.size 120 3 v' ((L.take (i + 1)).filter fun r => r.1 == p).length (Pu.rdVals ((L.take (i + 1)).filter fun r => r.1 == p)) w3) := HY
        clear HX HY hB HO
        go_wp2
        go_roundw
        case rel => exact ⟨i + 1, v', w3, rfl, by go_num, by omega, rfl, HZ.out⟩
        case measure => simp [intOf]; omega
      · have hpi : ((p : Int) == (v : Int)) = false := by simp; omega
        have HN : Hid ((L.take (i + 1)).filter (fun r => r.1 == v) = (L.take i).filter (fun r => r.1 == v)) := by
          show _ = _
          rw [List.take_add_one, hph, Option.toList_some, List.filter_append]
          simp [hpv]
        have HX : Hid (∀ o, OwnG w (.slice none 0 0) w.heap.size 120 3 x ((L.take (i + 1)).filter fun r => r.1 == v).length (Pu.rdVals ((L.take (i + 1)).filter fun r => r.1 == v)) (wr.alloc o)) := by
          intro o
          rw [HN.out]
          exact HI.out.alloc o
        clear HI HN hph g1 g2 g3 hT hfl
        go_wp2
        go_roundw
        case rel => exact ⟨i + 1, x, _, rfl, by go_num, by omega, rfl, HX.out _⟩
        case measure => simp [intOf]; omega
    · have hii : ¬ (i : Int) < (ll : Int) := by omega
      have HN : Hid ((L.take i) = L) := List.take_of_length_le (by rw [HLL.out]; omega)
      have o1 := HI.out
      rw [HN.out] at o1
      have HX : Hid (Turns (fun _ => False) w wr ∧ ∃ y, Ending.returned x = .returned y ∧ wr.ownsRow w.heap.size 120 3 y (L.filter fun r => r.1 == v).length (Pu.rdVals (L.filter fun r => r.1 == v))) := ⟨o1.turns0, x, rfl, o1.own⟩
      clear HI o1 HN
      go_wp2
      exact bodyPost_ret (v := x) (by simp [results, Tryz.results62, go_sem]) rfl HX.out
set_option maxRecDepth 100000 in
set_option maxHeartbeats 2000000 in
/-- records.writeLabel. -/
theorem writeLabel_any (w : World) (rb n rcap lcap v : Nat) (a : Option Addr) (H : List (Nat × Int)) (pl : Nat → Nat) (hH : H.length ≤ 40) (hn : n ≤ 40) (hR : RdAt w a (H.map fun x => (v, pl x.1, x.2)))
    (hF : ∀ (i r : Nat) (f : Int), H[i]? = some (r, f) → r < n ∧ Pu.nxt 0 (H.take i) ≤ r ∧ 0 ≤ f ∧ f ≤ 40000) (hK : ∀ (i r : Nat) (f : Int), H[i]? = some (r, f) → pl r < n ∧ w.cell? ⟨rb, pl r, none⟩ = some (.int .i64 (r : Int))) :
    Calls Tryz.prog 61 #[.slice a H.length lcap, .slice (some ⟨rb, 0, none⟩) n rcap] w fun e w' => ∃ x, e = .returned x ∧ OwnB w (.slice none 0 0) w.heap.size x (Pu.labB H) w' := by
  have c0 := cappend_any (.slice none 0 0) H.length w.heap.size [] w (World.ownsRow_nil _ _ _ _) (Nat.le_refl _) (by simp) (by omega)
  have HC0 : Hid ([] ++ Pu.countB H.length = Pu.labT2 H 0) := by show _ = _; rw [Pu.labT2_zero]; rfl
  rw [HC0.out] at c0
  obtain ⟨ll, hll⟩ : ∃ ll, H.length = ll := ⟨_, rfl⟩
  have HLL : Hid (H.length = ll) := hll
  rw [hll] at hH c0 ⊢
  have HR : Hid (RdAt w a (H.map fun x => (v, pl x.1, x.2))) := hR
  have HF : Hid (∀ (i r : Nat) (f : Int), H[i]? = some (r, f) → r < n ∧ Pu.nxt 0 (H.take i) ≤ r ∧ 0 ≤ f ∧ f ≤ 40000) := hF
  have HK : Hid (∀ (i r : Nat) (f : Int), H[i]? = some (r, f) → pl r < n ∧ w.cell? ⟨rb, pl r, none⟩ = some (.int .i64 (r : Int))) := hK
  clear hR hF hK hll HC0
  go_enter Tryz.func61, Tryz.ntmps61
  go_wp2_with fail
  refine c0.mono ?_
  rintro e w1 ⟨x1, rfl, hB1⟩
  have H1 : Hid (OwnB w (.slice none 0 0) w.heap.size x1 (Pu.labT2 H 0) w1) := hB1
  clear hB1 c0
  go_wp2
  go_loopw [5, 6, 15] (fun xv nv iv wr => ∃ (i nx : Nat) (x : Value) (wy : World), x = xv ∧ nv = .int .i64 nx ∧ iv = .int .i64 i ∧ i ≤ ll ∧ nx ≤ 40 ∧ wy = wr ∧ Hid (OwnB w (.slice none 0 0) w.heap.size x (Pu.labT2 H i) wy ∧ nx = Pu.nxt 0 (H.take i))) (fun _ _ iv _ => ll - (intOf iv).toNat)
  case atStart => exact ⟨0, 0, _, w1, rfl, rfl, rfl, Nat.zero_le _, by omega, rfl, H1.out, rfl⟩
  case round =>
    clear H1
    obtain ⟨i, nx, x, wr, hx, rfl, rfl, hil, hnx, hwy, HI⟩ := hrel
    subst hwy hx
    by_cases hlt : i < ll
    · have hii : (i : Int) < (ll : Int) := by omega
      obtain ⟨⟨r, f⟩, hrf⟩ : ∃ y, H[i]? = some y := ⟨_, List.getElem?_eq_getElem (by rw [HLL.out]; exact hlt)⟩
      obtain ⟨g, hag, g1, g2, g3⟩ := HR.out i v (pl r) f (by rw [List.getElem?_map, hrf]; rfl)
      obtain ⟨f1, f2, f3, f4⟩ := HF.out i r f hrf
      obtain ⟨k1, k2⟩ := HK.out i r f hrf
      have hnr : nx ≤ r := by rw [HI.out.2]; exact f2
      have hT := HI.out.1.turns0
      have e1 := (hT.cell (a := ⟨g, i * 3, none⟩) (World.block_lt_of_cell? _ _ g1) (fun x => x)).trans g1
      have e2 := (hT.cell (a := ⟨g, i * 3 + 1, none⟩) (World.block_lt_of_cell? _ _ g2) (fun x => x)).trans g2
      have e3 := (hT.cell (a := ⟨g, i * 3 + 2, none⟩) (World.block_lt_of_cell? _ _ g3) (fun x => x)).trans g3
      have e4 := (hT.cell (a := ⟨rb, pl r, none⟩) (World.block_lt_of_cell? _ _ k2) (fun x => x)).trans k2
      have hrl : rb < wr.heap.size := World.block_lt_of_cell? _ _ e4
      have hrc : pl r ≤ rcap ∨ True := Or.inr trivial
      subst hag
      have hsub : (r : Int) - (nx : Int) = ((r - nx : Nat) : Int) := by omega
      have hff : (f.toNat : Int) = f := by omega
      have HLB : Hid ((Pu.labT2 H i).length ≤ 300) := by
        have := Pu.labT2_len H i
        rw [HLL.out] at this
        show _ ≤ _
        omega
      obtain ⟨n1, n2⟩ := Pu.labT2_next hrf
      have HNX : Hid (Pu.labT2 H (i + 1) = (Pu.labT2 H i ++ Pu.countB (r - nx)) ++ Pu.countB f.toNat ∧ r + 1 = Pu.nxt 0 (H.take (i + 1))) := ⟨by rw [n1, HI.out.2], n2.symm⟩
      have HO : Hid (OwnB w (.slice none 0 0) w.heap.size x (Pu.labT2 H i) wr) := HI.out.1
      have hwsz : Hid (w.heap.size ≤ wr.heap.size) := hT.size
      clear g1 g2 g3 hT k2 n1 n2 HI hrf f2
      go_wp2_with fail
      obtain ⟨wb, hwb⟩ : ∃ wb, wb = wr.alloc (.cells #[.int .i64 (v : Int), .int .i64 (pl r : Int), .int .i64 f] 120) := ⟨_, rfl⟩
      have HOb : Hid (OwnB w (.slice none 0 0) w.heap.size x (Pu.labT2 H i) wb) := by rw [hwb]; exact HO.out.then ((Turns.refl _ _).alloc _)
      have hbs : wb.heap.size = wr.heap.size + 1 := by rw [hwb]; simp
      have hfb : wb.cell? ⟨wr.heap.size, 2, none⟩ = some (.int .i64 f) := by rw [hwb, World.cell?_alloc_new]; rfl
      rw [← hwb]
      refine (cappend_any x (r - nx) w.heap.size (Pu.labT2 H i) wb HOb.out.own (by have := hwsz.out; omega) (by have := HLB.out; omega) (by omega)).mono ?_
      rintro e w2 ⟨x2, rfl, hB2⟩
      have hf2 : w2.cell? ⟨wr.heap.size, 2, none⟩ = some (.int .i64 f) := by
        refine (hB2.turns.cell (a := ⟨wr.heap.size, 2, none⟩) (by show wr.heap.size < _; omega) ?_).trans hfb
        intro c
        have : wr.heap.size < wr.heap.size := (HO.out.own.lt _ c).2
        omega
      have hl2 : wr.heap.size < w2.heap.size := by have := hB2.turns.size; omega
      have HO2 : Hid (OwnB w (.slice none 0 0) w.heap.size x2 (Pu.labT2 H i ++ Pu.countB (r - nx)) w2) := HOb.out.more hB2
      clear hB2 HOb hwb hfb hbs HO
      go_wp2_with fail
      rw [← hff]
      refine (cappend_any x2 f.toNat w.heap.size (Pu.labT2 H i ++ Pu.countB (r - nx)) w2 HO2.out.own HO2.out.turns0.size (by have := HLB.out; have := Pu.countB_len (r - nx); rw [List.length_append]; omega) (by omega)).mono ?_
      rintro e w3 ⟨x3, rfl, hB3⟩
      have HO3 : Hid (OwnB w (.slice none 0 0) w.heap.size x3 (Pu.labT2 H (i + 1)) w3) := by
        have := HO2.out.more hB3
        rwa [← HNX.out.1] at this
      clear hB3 HO2 hf2 hl2
      rw [hff]
      go_wp2
      go_roundw
      case rel => exact ⟨i + 1, r + 1, x3, w3, rfl, by go_num, by go_num, by omega, by omega, rfl, HO3.out, HNX.out.2⟩
      case measure => simp [intOf]; omega
    · have hii : ¬ (i : Int) < (ll : Int) := by omega
      have hE : Pu.labT2 H i = Pu.labB H := by rw [show i = H.length by rw [HLL.out]; omega, Pu.labT2_all]
      have o1 := HI.out.1
      rw [hE] at o1
      have HX : Hid (∃ y, Ending.returned x = .returned y ∧ OwnB w (.slice none 0 0) w.heap.size y (Pu.labB H) wr) := ⟨x, rfl, o1⟩
      clear HI o1 hE
      go_wp2
      exact bodyPost_ret (v := x) (by simp [results, Tryz.results61, go_sem]) rfl HX.out
end Go.Proofs.YtdogncjcainhlaaGreatDoor
