/- Pack4: texts of one proof, one behind the other. -/
import Derived.Test.YtdogncjcainhlaaGreatDoorPack3
import Derived.Test.YtdogncjcainhlaaGreatDoorPlain
import Derived.Deep.QuietTactic
import Derived.BigQuiet
import Derived.Shelf.Strings.Trim
import Derived.Shelf.Small.Wraps
import Derived.Test.YtdogncjcainhlaaGreatDoorProg
import Derived.Test.YtdogncjcainhlaaGreatDoorPack2
import Derived.Deep.Cut
import Derived.Deep.CutRange
/- The walk of hubs.Labels. -/
namespace Go.Proofs.YtdogncjcainhlaaGreatDoor
open Go.RowKit Go.Deep
open Mem

theorem infoL41 : (Tryz.prog.info? 55).map (fun i => (i.zero, i.size, i.bytes)) = some (some (.slice none 0 0), 1, 24) := by kernel_rfl
theorem infoL54 : (Tryz.prog.info? 120).map (fun i => (i.zero, i.size, i.bytes)) = some (some (.agg #[.int .i64 0, .int .i64 0, .int .i64 0]), 3, 24) := by kernel_rfl

/-- The cells of an order. -/
def Ord (w : World) (ob n : Nat) (O : List Nat) : Prop := O.length = n ∧ ∀ (j m : Nat), O[j]? = some m → m < n ∧ w.cell? ⟨ob, j, none⟩ = some (.int .i64 (m : Int))
theorem Ord.turns {w w' : World} {ob n : Nat} {O : List Nat} (h : Ord w ob n O) (t : Turns (fun _ => False) w w') : Ord w' ob n O :=
  ⟨h.1, fun j m hm => ⟨(h.2 j m hm).1, (t.cell (World.block_lt_of_cell? _ _ (h.2 j m hm).2) (fun x => x)).trans (h.2 j m hm).2⟩⟩

/-- What holds ahead of each round of the first loop: the rows of the first k places stand. -/
def Lab1 (w : World) (n : Nat) (D : Nat → Nat → Int) (iv : Value) (wr : World) : Prop :=
  ∃ k : Nat, iv = .int .i64 k ∧ k ≤ n ∧ (∀ i, i < k → ∃ r, w.heap.size < r ∧ wr.cell? ⟨w.heap.size, i, none⟩ = some (.slice (some ⟨r, 0, none⟩) n n) ∧ ∀ j, j < n → wr.cell? ⟨r, j, none⟩ = some (.int .i64 (D i j))) ∧
    (∀ i, k ≤ i → i < n → wr.cell? ⟨w.heap.size, i, none⟩ = some (.slice none 0 0)) ∧ (∀ i, wr.frozen? ⟨w.heap.size, i, none⟩ = false) ∧ w.heap.size < wr.heap.size ∧ Turns (fun _ => False) w wr
/-- What holds ahead of each round of the second loop: the labels so far. -/
def Lab2 (w w2 : World) (L : List Pu.Rd) (v : Value) (wr : World) : Prop :=
  wr.ownsRow w2.heap.size 120 3 v L.length (Pu.rdVals L) ∧ Turns (fun _ => False) w2 wr ∧ Turns (fun _ => False) w wr

set_option maxRecDepth 100000 in
set_option maxHeartbeats 2000000 in
theorem hubs_any (w : World) (b n ob ocap : Nat) (R : Int) (len D : Nat → Nat → Int) (O : List Nat) (hn1 : 1 ≤ n) (hn : n ≤ 40) (hM : MapAt w b n R len) (L : Pu.Lens len) (hD : ∀ i, i < n → Pu.Dist n len i (D i)) (hO : Ord w ob n O) (hoc : n ≤ ocap) :
    Calls Tryz.prog 55 #[.pointer (some ⟨b, 0, none⟩), .slice (some ⟨ob, 0, none⟩) n ocap] w fun e w' => Turns (fun _ => False) w w' ∧ ∃ v, e = .returned v ∧ w'.ownsRow w.heap.size 120 3 v (Pu.labP D O n).length (Pu.rdVals (Pu.labP D O n)) := by
  have hmk := run_make_row' (P := Tryz.prog) 23 55 (.slice none 0 0) 24 Tryz.underlying23 infoL41 rfl .i64 .i64 n (by omega) (by omega)
  obtain ⟨i0, hi, hz0, hz1, hz2⟩ := info_parts infoL54
  have hp := hM.places
  have hS : Small n D := fun i j hi hj => (hD i hi).rng j hj
  have HM : Hid (MapAt w b n R len) := hM
  have h0 : Hid (Lab1 w n D (.int .i64 0) (w.alloc (.cells (madeCells #[.slice none 0 0] n) 55))) :=
    ⟨0, rfl, Nat.zero_le _, fun i hi => by omega, fun i _ hi => by rw [World.cell?_alloc_new]; exact made_get _ _ _ hi, fun i => World.frozen?_alloc_new _ _ _ _, by simp, (Turns.refl _ _).alloc _⟩
  have hbl := hM.lt
  go_enter Tryz.func55, Tryz.ntmps55
  go_wp2
  go_loopw [18] (fun iv wr => Lab1 w n D iv wr) (fun iv _ => n - (intOf iv).toNat)
  case atStart => exact h0.out
  case round =>
    clear h0
    obtain ⟨k, rfl, hk, hrow, hnil, hfr, hsz, hT⟩ := hrel
    by_cases hlt : k < n
    · have hki : (k : Int) < (n : Int) := by omega
      have hMr := HM.out.turns hT (fun x => x)
      have c3 := farFrom_any wr b n k R len hn hlt hMr L
      have HA : Hid (∀ (far : Nat → Int) (w3 : World), Ints w3 wr.heap.size n far → Pu.Dist n len k far → Turns (fun _ => False) wr w3 → w3.cell? ⟨w.heap.size, k, none⟩ = some (.slice none 0 0) ∧ w3.frozen? ⟨w.heap.size, k, none⟩ = false ∧
          Lab1 w n D (.int .i64 ((k : Int) + 1)) (w3.setCell ⟨w.heap.size, k, none⟩ (.slice (some ⟨wr.heap.size, 0, none⟩) n n))) := by
        intro far w3 hI hDf hT3
        have hc : w3.cell? ⟨w.heap.size, k, none⟩ = some (.slice none 0 0) := (hT3.cell (a := ⟨w.heap.size, k, none⟩) hsz (fun x => x)).trans (hnil k (Nat.le_refl _) hlt)
        refine ⟨hc, (hT3.frozen (a := ⟨w.heap.size, k, none⟩) hsz (fun x => x)).trans (hfr k), k + 1, by go_num, by omega, ?_, ?_, ?_, ?_, ?_⟩
        · intro i hi
          have oth : ∀ (r j : Nat), w.heap.size < r → (w3.setCell ⟨w.heap.size, k, none⟩ (.slice (some ⟨wr.heap.size, 0, none⟩) n n)).cell? ⟨r, j, none⟩ = w3.cell? ⟨r, j, none⟩ := fun r j hr => World.cell?_setCell_other _ _ _ _ (by intro c; injection c with c; omega)
          by_cases e : i = k
          · subst e
            refine ⟨wr.heap.size, hsz, World.cell?_setCell_same _ _ _ hc, fun j hj => ?_⟩
            rw [oth _ _ hsz, hI.cell j hj, Pu.Dist.unique L hDf (hD i hlt) j hj]
          · obtain ⟨r, h1, h2, h3⟩ := hrow i (by omega)
            refine ⟨r, h1, ?_, fun j hj => ?_⟩
            · rw [World.cell?_setCell_other _ _ _ _ (by intro c; injection c with _ c; omega)]
              exact (hT3.cell (a := ⟨w.heap.size, i, none⟩) hsz (fun x => x)).trans h2
            · rw [oth _ _ h1]
              exact (hT3.cell (World.block_lt_of_cell? _ _ (h3 j hj)) (fun x => x)).trans (h3 j hj)
        · intro i h1 h2
          rw [World.cell?_setCell_other _ _ _ _ (by intro c; injection c with _ c; omega)]
          exact (hT3.cell (a := ⟨w.heap.size, i, none⟩) hsz (fun x => x)).trans (hnil i (by omega) h2)
        · intro i
          rw [World.frozen?_setCell]
          exact (hT3.frozen (a := ⟨w.heap.size, i, none⟩) hsz (fun x => x)).trans (hfr i)
        · have := hT3.size; simp; omega
        · exact (hT.trans hT3).setCell (Or.inl (Nat.le_refl _)) _
      clear hMr hrow hnil hfr hT hM hD hO
      go_wp2_with fail
      refine c3.mono ?_
      rintro e w3 ⟨far, rfl, hI, hDf, hT3⟩
      obtain ⟨d1, d2, d3⟩ := HA.out far w3 hI hDf hT3
      have HX : Hid (Lab1 w n D (.int .i64 ((k : Int) + 1)) (w3.setCell ⟨w.heap.size, k, none⟩ (.slice (some ⟨wr.heap.size, 0, none⟩) n n))) := d3
      clear c3 HA hI hDf hT3 d3
      go_wp2
      go_roundw
      case measure => simp [intOf]; omega
      case rel => exact HX.out
    · have hkn : k = n := by omega
      subst hkn
      obtain ⟨w2, hw2⟩ : ∃ w2, w2 = wr := ⟨_, rfl⟩
      subst hw2
      have hTab : Tab w2 w.heap.size k D := fun i hi => by obtain ⟨r, _, h2, h3⟩ := hrow i hi; exact ⟨r, h2, h3⟩
      have hOr := hO.turns hT
      have c0 : w2.cell? ⟨b, 0, none⟩ = some (.int .i64 k) := (hT.cell (a := ⟨b, 0, none⟩) hbl (fun x => x)).trans hp
      have HT : Hid (Turns (fun _ => False) w w2) := hT
      have hsz2 := hT.size
      have HT2 : Hid (Tab w2 w.heap.size k D ∧ Ord w2 ob k O) := ⟨hTab, hOr⟩
      clear hrow hnil hfr hT hTab hOr hM hO hmk
      have hS0 : Hid (Lab2 w w2 [] (.slice none 0 0) w2) := ⟨World.ownsRow_nil _ _ _ _, Turns.refl _ _, HT.out⟩
      have hOl := HT2.out.2.1
      go_wp2
      go_loopw [7, 32] (fun v pv wr => ∃ (p : Nat) (vv : Value), vv = v ∧ pv = .int .i64 p ∧ p ≤ k ∧ Lab2 w w2 (Pu.labP D O p) vv wr) (fun _ pv _ => k - (intOf pv).toNat)
      case atStart => exact ⟨0, _, rfl, rfl, Nat.zero_le _, hS0.out⟩
      case round =>
        clear hS0
        obtain ⟨p, v, hv, rfl, hp', hLb⟩ := hrel
        subst hv
        by_cases hpk : p < k
        · have hpi : (p : Int) < (k : Int) := by omega
          have hL0 : Hid (Lab2 w w2 (Pu.labP D O p ++ Pu.labK D O p 0) v wr) := by rw [Pu.labK, List.append_nil]; exact hLb
          have hpl := Pu.labP_len D O p
          have hpm : (Pu.labP D O p).length ≤ 1600 := by
            have : p * O.length ≤ 40 * 40 := Nat.mul_le_mul (by omega) (by omega)
            omega
          clear hLb hpl
          go_wp2
          go_loopw [7, 37] (fun v jv wr => ∃ (j : Nat) (vv : Value), vv = v ∧ jv = .int .i64 j ∧ j ≤ k ∧ Lab2 w w2 (Pu.labP D O p ++ Pu.labK D O p j) vv wr) (fun _ jv _ => k - (intOf jv).toNat)
          case atStart => exact ⟨0, _, rfl, rfl, Nat.zero_le _, hL0.out⟩
          case round =>
            clear hL0
            obtain ⟨j, v', hv', rfl, hj, hown, hTr, hTw⟩ := hrel
            subst hv'
            by_cases hjk : j < k
            · have hji : (j : Int) < (k : Int) := by omega
              have hjc : (j : Int) ≤ (ocap : Int) := by omega
              obtain ⟨h, hh⟩ : ∃ h, O[j]? = some h := ⟨_, List.getElem?_eq_getElem (by omega)⟩
              have hTab := HT2.out.1.turns hTr
              have hOr := HT2.out.2.turns hTr
              obtain ⟨hhn, hch⟩ := hOr.2 j h hh
              obtain ⟨rp, t1, t2⟩ := hTab p hpk
              have t3 := t2 h hhn
              have c4 := isHub_any wr w.heap.size k k p h ob j ocap D (O.take j) hTab hS hpk hhn (by rw [List.length_take]; omega) (by omega)
                (fun i m hm => by
                  have hij : i < j := by
                    have := (List.getElem?_eq_some_iff.1 hm).1
                    rw [List.length_take] at this; omega
                  rw [List.getElem?_take_of_lt hij] at hm
                  exact hOr.2 i m hm)
              have hkl := Pu.labK_len D O p j
              have hhi : (h : Int) < (k : Int) := by omega
              have bD := hS p h hpk hhn
              have HO : Hid (wr.ownsRow w2.heap.size 120 3 v' (Pu.labP D O p ++ Pu.labK D O p j).length (Pu.rdVals (Pu.labP D O p ++ Pu.labK D O p j)) ∧ Turns (fun _ => False) w2 wr ∧ Turns (fun _ => False) w wr) := ⟨hown, hTr, hTw⟩
              cases hb : Pu.isHub D p h (O.take j) with
              | false =>
                rw [hb] at c4
                have HX : Hid (∀ q, ∃ (j' : Nat) (vv : Value), vv = v' ∧ (Value.int .i64 ((j : Int) + 1)) = .int .i64 j' ∧ j' ≤ k ∧ Lab2 w w2 (Pu.labP D O p ++ Pu.labK D O p j') vv (wr.drewN q)) := fun q => ⟨j + 1, v', rfl, by go_num, by omega, by rw [Pu.labK_miss hh hb]; exact ⟨HO.out.1, HO.out.2.1.drewN q, HO.out.2.2.drewN q⟩⟩
                clear hown hTr hTw hTab hOr t2 hb HO
                go_wp2_with fail
                refine c4.mono ?_
                rintro e w3 ⟨rfl, q, hw3⟩
                subst hw3
                clear c4
                go_wp2
                go_roundw
                case measure => simp [intOf]; omega
                case rel => exact HX.out _
              | true =>
                rw [hb] at c4
                have HV : Hid (Pu.rdVals (Pu.labP D O p ++ Pu.labK D O p j) ++ [.int .i64 p, .int .i64 h, .int .i64 (D p h)] = Pu.rdVals (Pu.labP D O p ++ Pu.labK D O p (j + 1))) := by
                  show _ = _
                  rw [Pu.labK_hit hh hb, ← List.append_assoc, Pu.rdVals_append (Pu.labP D O p ++ Pu.labK D O p j)]; rfl
                have HLn : Hid ((Pu.labP D O p ++ Pu.labK D O p (j + 1)).length = (Pu.labP D O p ++ Pu.labK D O p j).length + 1) := by
                  show _ = _
                  rw [Pu.labK_hit hh hb]; simp; try omega
                have hll : (Pu.labP D O p ++ Pu.labK D O p j).length ≤ 2000 := by rw [List.length_append]; omega
                obtain ⟨LL, hLL⟩ : ∃ LL, (Pu.labP D O p ++ Pu.labK D O p j) = LL := ⟨_, rfl⟩
                obtain ⟨x, hx⟩ : ∃ x, D p h = x := ⟨_, rfl⟩
                rw [hLL] at HV HLn hll HO
                rw [hx] at t3 HV
                clear hown hTr hTw hTab hOr t2 hb hLL hkl bD hx
                go_wp2_with fail
                refine c4.mono ?_
                rintro e w3 ⟨rfl, q, hw3⟩
                have e1 : w3.cell? ⟨w.heap.size, p, none⟩ = some (.slice (some ⟨rp, 0, none⟩) k k) := by rw [hw3]; exact t1
                have e2 : w3.cell? ⟨rp, h, none⟩ = some (.int .i64 x) := by rw [hw3]; exact t3
                have hown3 : w3.ownsRow w2.heap.size 120 3 v' LL.length (Pu.rdVals LL) := by rw [hw3]; exact HO.out.1
                have hT3 : Turns (fun _ => False) w2 w3 := by rw [hw3]; exact HO.out.2.1.drewN q
                have hTw3 : Turns (fun _ => False) w w3 := by rw [hw3]; exact HO.out.2.2.drewN q
                have hs3 := hT3.size
                clear c4 hw3 HO
                go_wp2_with (at_builtin; refine wpList_append_own _ rfl _ _ 72 rfl w2.heap.size 120 i0 _ 3 24 Tryz.underlying72 hi hz0 hz1 hz2 rfl (by decide) _ _ _ rfl (hown3.alloc _) ⟨w3.heap.size, 0, none⟩ 1 1 [.int .i64 p, .int .i64 h, .int .i64 x] rfl rfl ?c1 ?c2 ?c3 ?c4 ?c5 ?_)
                case c1 => exact World.news_of_block (cs := #[.int .i64 p, .int .i64 h, .int .i64 x]) (heap_alloc_new w3 _)
                case c2 => intro u hu; simp at hu; rcases hu with rfl | rfl | rfl <;> rfl
                case c3 => unfold maxLen; omega
                case c4 => omega
                case c5 => simp; omega
                intro v'' w4 hown4 hgrow _
                have hT4 : Turns (fun _ => False) w2 w4 := (hT3.alloc _).grown hgrow (fun q hq => Or.inl (hown3.lt q hq).1)
                have hTw4 : Turns (fun _ => False) w w4 := (hTw3.alloc _).grown hgrow (fun q hq => Or.inl (by have := (hown3.lt q hq).1; omega))
                rw [HV.out] at hown4
                rw [← HLn.out] at hown4
                have HX : Hid (∃ (j' : Nat) (vv : Value), vv = v'' ∧ (Value.int .i64 ((j : Int) + 1)) = .int .i64 j' ∧ j' ≤ k ∧ Lab2 w w2 (Pu.labP D O p ++ Pu.labK D O p j') vv w4) := ⟨j + 1, v'', rfl, by go_num, by omega, hown4, hT4, hTw4⟩
                clear hown4 hgrow hT4 hTw4 hT3 hTw3 hown3 HV HLn
                go_wp2
                go_roundw
                case measure => simp [intOf]; omega
                case rel => exact HX.out
            · have hjk' : j = k := by omega
              have HX : Hid (∃ (p' : Nat) (vv : Value), vv = v' ∧ (Value.int .i64 ((p : Int) + 1)) = .int .i64 p' ∧ p' ≤ k ∧ Lab2 w w2 (Pu.labP D O p') vv wr) := ⟨p + 1, v', rfl, by go_num, by omega, by rw [Pu.labP, hOl, ← hjk']; exact ⟨hown, hTr, hTw⟩⟩
              clear hown hTr hTw
              subst hjk'
              go_wp2
              go_roundw
              case measure => simp [intOf]; omega
              case rel => exact HX.out
        · have hpk' : p = k := by omega
          obtain ⟨h1, h2, h3⟩ := hLb
          have HX : Hid (Turns (fun _ => False) w wr ∧ wr.ownsRow w.heap.size 120 3 v (Pu.labP D O k).length (Pu.rdVals (Pu.labP D O k))) := ⟨h3, by rw [← hpk']; exact owns_mono h1 hsz2⟩
          clear h1 h2 h3
          subst hpk'
          go_wp2
          go_ret
          exact ⟨HX.out.1, v, rfl, HX.out.2⟩
#print axioms hubs_any
end Go.Proofs.YtdogncjcainhlaaGreatDoor
/- The walks of records.startsBehind and records.readOrder. -/
namespace Go.Proofs.YtdogncjcainhlaaGreatDoor
open Go.RowKit Go.Deep
open Mem

namespace Pu
/-- Where each label begins, and where the last one ends. -/
def starts : Nat → List Nat → List Nat
  | a, [] => [a]
  | a, s :: t => a :: starts (a + s) t
theorem starts_len : ∀ (l : List Nat) (a : Nat), (starts a l).length = l.length + 1
  | [], _ => rfl
  | s :: t, a => by rw [starts, List.length_cons, starts_len t, List.length_cons]
def sumL : List Nat → Nat
  | [] => 0
  | s :: t => s + sumL t
theorem starts_snoc : ∀ (l : List Nat) (a s : Nat), starts a (l ++ [s]) = starts a l ++ [a + sumL l + s]
  | [], a, s => by simp [starts, sumL]
  | x :: t, a, s => by rw [List.cons_append, starts, starts_snoc t, starts, sumL, List.cons_append, Nat.add_assoc a x]
theorem starts_last : ∀ (l : List Nat) (a : Nat), (starts a l)[l.length]? = some (a + sumL l)
  | [], a => by simp [starts, sumL]
  | x :: t, a => by rw [starts, List.length_cons, List.getElem?_cons_succ, starts_last t, sumL, Nat.add_assoc]
theorem sumL_snoc : ∀ (l : List Nat) (s : Nat), sumL (l ++ [s]) = sumL l + s
  | [], s => by simp [sumL]
  | x :: t, s => by rw [List.cons_append, sumL, sumL_snoc t, sumL, Nat.add_assoc]
theorem sumL_le {m : Nat} : ∀ (l : List Nat), (∀ x ∈ l, x ≤ m) → sumL l ≤ m * l.length
  | [], _ => by simp [sumL]
  | x :: t, h => by
    have h1 := h x (by simp)
    have h2 := sumL_le t (fun y hy => h y (by simp [hy]))
    rw [sumL, List.length_cons, Nat.mul_add]; omega
end Pu

set_option maxRecDepth 100000 in
set_option maxHeartbeats 1000000 in
/-- records.startsBehind. -/
theorem starts_any (w : World) (a n cap : Nat) (sb : Nat) (S : List Nat) (hn : S.length = n) (hn1 : n ≤ 40) (ha : a ≤ 100000) (hS : ∀ x ∈ S, x ≤ 2097152) (hI : ∀ (j x : Nat), S[j]? = some x → w.cell? ⟨sb, j, none⟩ = some (.int .i64 (x : Int))) (hsb : sb < w.heap.size) :
    Calls Tryz.prog 102 #[.int .i64 (a : Int), .slice (some ⟨sb, 0, none⟩) n cap] w fun e w' => ∃ v, e = .returned v ∧ OwnG w (.slice none 0 0) w.heap.size 3 1 v (n + 1) (natV (Pu.starts a S)) w' := by
  have H0 : Hid (OwnG w (.slice none 0 0) w.heap.size 3 1 (.slice (some ⟨w.heap.size, 0, none⟩) 1 1) 1 (natV (Pu.starts a (S.take 0))) (w.alloc (.cells #[.int .i64 (a : Int)] 3))) := by
    refine ⟨⟨rfl, Or.inr ⟨w.heap.size, 1, #[.int .i64 (a : Int)], rfl, Nat.le_refl _, Array.getElem?_push_size, Nat.le_refl _, by decide, rfl, rfl⟩⟩, (Turns.refl _ _).alloc _, fun b hb => ?_⟩
    have hb : some w.heap.size = some b := hb
    injection hb with hb
    exact Or.inr (by omega)
  have HS : Hid (S.length = n ∧ (∀ x ∈ S, x ≤ 2097152) ∧ ∀ (j x : Nat), S[j]? = some x → w.cell? ⟨sb, j, none⟩ = some (.int .i64 (x : Int))) := ⟨hn, hS, hI⟩
  clear hn hS hI
  go_enter Tryz.func102, Tryz.ntmps102
  go_wp2
  go_loopw [5, 12] (fun xv iv wr => ∃ (i : Nat) (x : Value) (wy : World), x = xv ∧ iv = .int .i64 (i : Int) ∧ i ≤ n ∧ wy = wr ∧ Hid (OwnG w (.slice none 0 0) w.heap.size 3 1 x (i + 1) (natV (Pu.starts a (S.take i))) wy)) (fun _ iv _ => n - (intOf iv).toNat)
  case atStart => exact ⟨0, _, _, rfl, rfl, Nat.zero_le _, rfl, H0.out⟩
  case round =>
    clear H0
    obtain ⟨i, x, wr, hx, rfl, hin, hwy, HI⟩ := hrel
    subst hwy
    obtain ⟨g, c, hg⟩ := owns_form HI.out.own
    by_cases hlt : i < n
    · have hii : (i : Int) < (n : Int) := by omega
      have hii1 : (i : Int) < (i : Int) + 1 := by omega
      obtain ⟨z, hz⟩ : ∃ z, S[i]? = some z := ⟨_, List.getElem?_eq_getElem (by rw [HS.out.1]; exact hlt)⟩
      have hzb := HS.out.2.1 z (List.mem_of_getElem? hz)
      have e1 := (HI.out.turns0.cell (a := ⟨sb, i, none⟩) hsb (fun x => x)).trans (HS.out.2.2 i z hz)
      have hl : (S.take i).length = i := by rw [List.length_take, HS.out.1]; omega
      obtain ⟨y, hy⟩ : ∃ y, y = a + Pu.sumL (S.take i) := ⟨_, rfl⟩
      have hyb : y ≤ 100000 + 2097152 * 40 := by
        have h1 := Pu.sumL_le (S.take i) (m := 2097152) (fun x hx => HS.out.2.1 x (List.mem_of_mem_take hx))
        rw [hl] at h1
        have h2 : 2097152 * i ≤ 2097152 * 40 := Nat.mul_le_mul_left _ (by omega)
        omega
      subst hg
      subst hx
      have e2 : wr.cell? ⟨g, i, none⟩ = some (.int .i64 (y : Int)) := by
        have h1 := Pu.starts_last (S.take i) a
        rw [hl, ← hy] at h1
        have := HI.out.own.cells (g := g) rfl i (.int .i64 (y : Int)) (by rw [natV, List.getElem?_map, h1]; rfl)
        rwa [addr_add] at this
      have hgl : g < wr.heap.size := World.block_lt_of_cell? _ _ e2
      have hsl : sb < wr.heap.size := Nat.lt_of_lt_of_le hsb HI.out.turns0.size
      have hsz : w.heap.size ≤ wr.heap.size := HI.out.turns0.size
      obtain ⟨yz, hyz⟩ : ∃ yz, yz = y + z := ⟨_, rfl⟩
      have hyzi : (y : Int) + (z : Int) = (yz : Int) := by omega
      obtain ⟨xs, hxs⟩ : ∃ xs, xs = natV (Pu.starts a (S.take i)) := ⟨_, rfl⟩
      have HO : Hid (OwnG w (.slice none 0 0) w.heap.size 3 1 (.slice (some ⟨g, 0, none⟩) (i + 1) c) (i + 1) xs wr) := by rw [hxs]; exact HI.out
      have HX : Hid (∀ v' w3, OwnG w (.slice none 0 0) w.heap.size 3 1 v' (i + 1 + 1) (xs ++ (#[Value.int .i64 (yz : Int)] : Array Value).toList) w3 → OwnG w (.slice none 0 0) w.heap.size 3 1 v' (i + 1 + 1) (natV (Pu.starts a (S.take (i + 1)))) w3) := by
        intro v' w3 h3
        rw [List.take_add_one, hz, Option.toList_some, Pu.starts_snoc, natV_append, ← hxs, ← hy, ← hyz]
        exact h3
      clear HI hz hy hyz hxs hl
      go_wp2_with (at_builtin; refine wpList_append_one rfl _ _ 55 rfl 3 1 8 _ Tryz.underlying55 info3n rfl (by decide) w wr (.slice none 0 0) _ w.heap.size (i + 1) xs _ rfl (by intro u hu; simp at hu; subst hu; rfl) HO.out hsz (by omega) (by omega) rfl _ rfl rfl ?_)
      intro v' w3 hB
      have HY := HX.out v' w3 hB
      have HZ : Hid (OwnG w (.slice none 0 0) w.heap.size 3 1 v' (i + 1 + 1) (natV (Pu.starts a (S.take (i + 1)))) w3) := HY
      clear HX HY hB HO
      go_wp2
      go_roundw
      case rel => exact ⟨i + 1, v', w3, rfl, by go_num, by omega, rfl, HZ.out⟩
      case measure => simp [intOf]; omega
    · have hii : ¬ (i : Int) < (n : Int) := by omega
      subst hx
      have HX : Hid (∃ v, Ending.returned x = .returned v ∧ OwnG w (.slice none 0 0) w.heap.size 3 1 v (n + 1) (natV (Pu.starts a S)) wr) := by
        have h := HI.out
        rw [show i = n by omega, List.take_of_length_le (by rw [HS.out.1]; omega)] at h
        exact ⟨x, rfl, h⟩
      clear HI hg
      go_wp2
      exact bodyPost_ret (v := x) (by simp [results, Tryz.results102, go_sem]) rfl HX.out
#print axioms starts_any

namespace Pu
/-- An order that bytes tell: all places, each once. -/
def ordGoB (n : Nat) : List UInt8 → List Nat → Option (List Nat)
  | [], acc => some acc
  | b :: r, acc => if n ≤ b.toNat ∨ b.toNat ∈ acc then none else ordGoB n r (acc ++ [b.toNat])
def ordB (l : List UInt8) : Option (List Nat) := ordGoB l.length l []
theorem ordGoB_some {n : Nat} : ∀ (l : List UInt8) (acc O : List Nat), acc.Nodup → (∀ m ∈ acc, m < n) → ordGoB n l acc = some O → O = acc ++ l.map UInt8.toNat ∧ O.Nodup ∧ ∀ m ∈ O, m < n
  | [], acc, O, h1, h2, h => by
    injection h with h
    subst h
    exact ⟨by simp, h1, h2⟩
  | b :: r, acc, O, h1, h2, h => by
    rw [ordGoB] at h
    split at h
    · cases h
    · rename_i hb
      have hb1 : b.toNat < n := by omega
      have hb2 : b.toNat ∉ acc := fun c => hb (Or.inr c)
      obtain ⟨e1, e2, e3⟩ := ordGoB_some r (acc ++ [b.toNat]) O (by
        rw [List.nodup_append]
        refine ⟨h1, by simp, fun x hx y hy => ?_⟩
        rw [List.mem_singleton] at hy
        subst hy
        rintro rfl
        exact hb2 hx) (fun m hm => by
        rcases List.mem_append.1 hm with hm | hm
        · exact h2 m hm
        · rw [List.mem_singleton] at hm; subst hm; exact hb1) h
      exact ⟨by rw [e1, List.map_cons, List.append_assoc]; rfl, e2, e3⟩
theorem ordGoB_back {n : Nat} : ∀ (l : List UInt8) (acc : List Nat), (acc ++ l.map UInt8.toNat).Nodup → (∀ m ∈ l.map UInt8.toNat, m < n) → ordGoB n l acc = some (acc ++ l.map UInt8.toNat)
  | [], acc, _, _ => by simp [ordGoB]
  | b :: r, acc, h1, h2 => by
    have hb1 := h2 b.toNat (by simp)
    have hb2 : b.toNat ∉ acc := fun c => (List.nodup_append.1 h1).2.2 b.toNat c b.toNat (by simp) rfl
    rw [ordGoB, if_neg (by rintro (c | c); omega; exact hb2 c), ordGoB_back r (acc ++ [b.toNat]) (by rw [List.append_assoc]; exact h1) (fun m hm => h2 m (by rw [List.map_cons]; exact List.mem_cons_of_mem _ hm)), List.append_assoc]
    rfl
end Pu
/-- What records.readOrder hands back. -/
def RdoPost (w : World) (r : Option (List Nat)) (e : Ending) (w' : World) : Prop := match r with
  | none => e = .returned (.tuple #[.slice none 0 0, .bool false]) ∧ Turns (fun _ => False) w w'
  | some O => ∃ v, e = .returned (.tuple #[v, .bool true]) ∧ OwnG w (.slice none 0 0) w.heap.size 3 1 v O.length (natV O) w'
set_option maxHeartbeats 1000000 in
theorem index_nil (x : Int) (w : World) : Calls Tryz.prog 143 #[.slice none 0 0, .int .i64 x] w fun e w' => e = .returned (.int .i64 (-1)) ∧ w' = w := by
  go_enter Tryz.func143, Tryz.ntmps143
  go_wp2
  go_loop [8] (fun i => i = .int .i64 0) (fun _ => 0)
  case atStart => rfl
  case round =>
    subst hrel
    go_wp2
    go_ret
    exact ⟨rfl, rfl⟩
set_option maxHeartbeats 1000000 in
theorem contains_nil (x : Int) (w : World) : Calls Tryz.prog 90 #[.slice none 0 0, .int .i64 x] w fun e w' => e = .returned (.bool false) ∧ w' = w := by
  go_enter Tryz.func90, Tryz.ntmps90
  go_wp2_with (go_at_call 143; refine (index_nil x _).mono ?_; rintro e w3 ⟨rfl, hw3⟩; subst w3)
  go_ret
  exact ⟨rfl, rfl⟩
/-- slices.Contains, of a row of one's own. -/
theorem contains_own {w : World} {base : Nat} {v : Value} {O : List Nat} (h : w.ownsRow base 3 1 v O.length (natV O)) (hb : O.length ≤ 100000) (x : Nat) :
    Calls Tryz.prog 90 #[v, .int .i64 (x : Int)] w fun e w' => e = .returned (.bool (decide (x ∈ O))) ∧ w' = w := by
  rcases h.2 with ⟨h1, h2⟩ | ⟨g, cap, _, h1, _⟩
  · have : O = [] := List.eq_nil_of_length_eq_zero h2
    subst this h1
    simpa using contains_nil (x : Int) w
  · subst h1
    have hzs : ∀ j, j < (O.map fun (m : Nat) => (m : Int)).length → w.cell? ⟨g, 0 + j, none⟩ = some (.int .i64 ((O.map fun (m : Nat) => (m : Int)).getD j 0)) := by
      intro j hj
      simp only [List.length_map] at hj
      rw [Nat.zero_add, h.cellAt j (by omega)]
      simp [natV, List.getD, hj]
    have c4 := slices_Contains_int g 0 O.length cap (O.map fun (m : Nat) => (m : Int)) (x : Int) w (by simp) (by omega) hzs
    have hct : ((O.map fun (m : Nat) => (m : Int)).take O.length).contains (x : Int) = decide (x ∈ O) := by
      rw [List.take_of_length_le (by simp)]
      by_cases hx : x ∈ O
      · rw [decide_eq_true hx]; simp; exact ⟨x, hx, rfl⟩
      · rw [decide_eq_false hx]
        simp
        intro m hm' c
        have e : m = x := by omega
        rw [e] at hm'
        exact hx hm'
    rwa [hct] at c4
set_option maxRecDepth 100000 in
set_option maxHeartbeats 1000000 in
/-- records.readOrder. -/
theorem readOrder_any (s : ByteArray) (w : World) (hs : s.size ≤ 40) :
    Calls Tryz.prog 100 #[.string s] w (RdoPost w (Pu.ordB s.data.toList)) := by
  have H0 : Hid (OwnG w (.slice none 0 0) w.heap.size 3 1 (.slice none 0 0) ([] : List Nat).length (natV []) w ∧ Pu.ordB s.data.toList = Pu.ordGoB s.size (s.data.toList.drop 0) []) := ⟨OwnG.nil _ _ _ _, by rw [Pu.ordB, ← size_list]; rfl⟩
  go_enter Tryz.func100, Tryz.ntmps100
  go_wp2
  go_loopw [4, 9] (fun xv iv wr => ∃ (i : Nat) (x : Value) (d : List Nat) (wy : World), x = xv ∧ iv = .int .i64 (i : Int) ∧ i ≤ s.size ∧ wy = wr ∧ d.length = i ∧ Hid (OwnG w (.slice none 0 0) w.heap.size 3 1 x d.length (natV d) wy ∧ Pu.ordB s.data.toList = Pu.ordGoB s.size (s.data.toList.drop i) d)) (fun _ iv _ => s.size - (intOf iv).toNat)
  case atStart => exact ⟨0, _, [], w, rfl, rfl, Nat.zero_le _, rfl, rfl, H0.out⟩
  case round =>
    clear H0
    obtain ⟨i, x, d, wr, hx, rfl, his, hwy, hdi, HI⟩ := hrel
    subst hwy hx
    by_cases hlt : i < s.size
    · have hii : (i : Int) < (s.size : Int) := by omega
      obtain ⟨b, hb⟩ : ∃ b, s[i].toNat = b := ⟨_, rfl⟩
      have hstep : Pu.ordGoB s.size (s.data.toList.drop i) d = if s.size ≤ b ∨ b ∈ d then none else Pu.ordGoB s.size (s.data.toList.drop (i + 1)) (d ++ [b]) := by
        rw [List.drop_eq_getElem_cons (by rw [← size_list]; exact hlt), Pu.ordGoB]
        have : (s.data.toList[i]'(by rw [← size_list]; exact hlt)).toNat = b := hb
        rw [this]
      have hbb : b < 256 := by rw [← hb]; exact s[i].toNat_lt
      have cc := fun w h => contains_own (w := w) (base := w.heap.size) (v := x) (O := d) h (by omega) b
      have c1 := contains_own HI.out.1.own (by omega) b
      clear cc
      by_cases hge : s.size ≤ b
      · have hgi : (s.size : Int) ≤ (b : Int) := by omega
        have HX : Hid (RdoPost w (Pu.ordB s.data.toList) (.returned (.tuple #[.slice none 0 0, .bool false])) wr) := by
          show RdoPost _ _ _ _
          rw [HI.out.2, hstep, if_pos (Or.inl hge)]
          exact ⟨rfl, HI.out.1.turns0⟩
        clear HI hstep c1
        go_wp2
        exact bodyPost_ret (v := .tuple #[.slice none 0 0, .bool false]) (by simp [results, Tryz.results100, go_sem]) rfl HX.out
      · have hgi : ¬ (s.size : Int) ≤ (b : Int) := by omega
        by_cases hmem : b ∈ d
        · rw [decide_eq_true hmem] at c1
          have HX : Hid (RdoPost w (Pu.ordB s.data.toList) (.returned (.tuple #[.slice none 0 0, .bool false])) wr) := by
            show RdoPost _ _ _ _
            rw [HI.out.2, hstep, if_pos (Or.inr hmem)]
            exact ⟨rfl, HI.out.1.turns0⟩
          clear HI hstep hmem
          go_wp2_with (go_at_call 90; refine c1.mono ?_; rintro e w3 ⟨rfl, hw3⟩; subst w3)
          exact bodyPost_ret (v := .tuple #[.slice none 0 0, .bool false]) (by simp [results, Tryz.results100, go_sem]) rfl HX.out
        · rw [decide_eq_false hmem] at c1
          have HO : Hid (OwnG w (.slice none 0 0) w.heap.size 3 1 x d.length (natV d) wr) := HI.out.1
          have hsz : w.heap.size ≤ wr.heap.size := HI.out.1.turns0.size
          have HN : Hid (Pu.ordB s.data.toList = Pu.ordGoB s.size (s.data.toList.drop (i + 1)) (d ++ [b])) := by
            show _ = _
            rw [HI.out.2, hstep, if_neg (by rintro (c | c); exact hge c; exact hmem c)]
          obtain ⟨xs, hxs⟩ : ∃ xs, xs = natV d := ⟨_, rfl⟩
          rw [← hxs] at HO
          rw [hdi] at HO
          have HX : Hid (xs = natV d) := hxs
          clear HI hstep hmem hxs
          go_wp2_with (first
            | (go_at_call 90; refine c1.mono ?_; rintro e w3 ⟨rfl, hw3⟩; subst w3)
            | (at_builtin; refine wpList_append_one rfl _ _ 55 rfl 3 1 8 _ Tryz.underlying55 info3n rfl (by decide) w wr (.slice none 0 0) x w.heap.size i xs _ rfl (by intro u hu; simp at hu; subst hu; rfl) HO.out hsz (by omega) (by omega) rfl _ rfl rfl ?_))
          intro v' w3 hB
          have HY : Hid (OwnG w (.slice none 0 0) w.heap.size 3 1 v' (d ++ [b]).length (natV (d ++ [b])) w3) := by
            show OwnG _ _ _ _ _ _ _ _ _
            rw [natV_append, List.length_append, ← HX.out, hdi]
            exact hB
          clear hB HO HX c1
          go_wp2
          go_roundw
          case rel => exact ⟨i + 1, v', d ++ [b], w3, rfl, by go_num, by omega, rfl, by rw [List.length_append, hdi]; rfl, HY.out, HN.out⟩
          case measure => simp [intOf]; omega
    · have hii : ¬ (i : Int) < (s.size : Int) := by omega
      have HX : Hid (RdoPost w (Pu.ordB s.data.toList) (.returned (.tuple #[x, .bool true])) wr) := by
        show RdoPost _ _ _ _
        rw [HI.out.2, List.drop_of_length_le (by rw [← size_list]; omega), Pu.ordGoB]
        exact ⟨x, rfl, HI.out.1⟩
      clear HI
      go_wp2
      exact bodyPost_ret (v := .tuple #[x, .bool true]) (by simp [results, Tryz.results100, go_sem]) rfl HX.out
#print axioms readOrder_any
end Go.Proofs.YtdogncjcainhlaaGreatDoor
/- strings.Trim at one byte, strings.CutPrefix -/
namespace Go.Proofs.YtdogncjcainhlaaGreatDoor
open Go.Shelf Go.RowKit Go.Lib
def lays160_ren : Go.Shelf.Ren := ⟨fun | 160 => 151 | 232 => 172 | 231 => 171 | 227 => 173 | 234 => 175 | 233 => 174 | 236 => 177 | 235 => 176 | 228 => 195 | 271 => 197 | 151 => 196 | 197 => 182 | 120 => 205 | 152 => 204 | 260 => 200 | 137 => 207 | 119 => 208 | 224 => 180 | 225 => 179 | 217 => 178 | 266 => 198 | n => n, fun | 9 => 9 | 4 => 4 | 3 => 3 | 5 => 5 | 117 => 276 | 116 => 275 | 0 => 0 | 124 => 279 | 21 => 21 | 105 => 280 | 46 => 194 | 119 => 298 | 139 => 301 | 138 => 300 | n => n, fun | 3 => 1 | 4 => 2 | n => n⟩
theorem lays160 : Go.Proofs.Lays.n160 Tryz.prog lays160_ren := {
  mixed := by kernel_rfl
  f119 := Tryz.func208.trans (congrArg some (by kernel_rfl))
  f120 := Tryz.func205.trans (congrArg some (by kernel_rfl))
  f137 := Tryz.func207.trans (congrArg some (by kernel_rfl))
  f151 := Tryz.func196.trans (congrArg some (by kernel_rfl))
  f152 := Tryz.func204.trans (congrArg some (by kernel_rfl))
  f160 := Tryz.func151.trans (congrArg some (by kernel_rfl))
  f197 := Tryz.func182.trans (congrArg some (by kernel_rfl))
  f217 := Tryz.func178.trans (congrArg some (by kernel_rfl))
  f224 := Tryz.func180.trans (congrArg some (by kernel_rfl))
  f225 := Tryz.func179.trans (congrArg some (by kernel_rfl))
  f227 := Tryz.func173.trans (congrArg some (by kernel_rfl))
  f228 := Tryz.func195.trans (congrArg some (by kernel_rfl))
  f231 := Tryz.func171.trans (congrArg some (by kernel_rfl))
  f232 := Tryz.func172.trans (congrArg some (by kernel_rfl))
  f233 := Tryz.func174.trans (congrArg some (by kernel_rfl))
  f234 := Tryz.func175.trans (congrArg some (by kernel_rfl))
  f235 := Tryz.func176.trans (congrArg some (by kernel_rfl))
  f236 := Tryz.func177.trans (congrArg some (by kernel_rfl))
  f260 := Tryz.func200.trans (congrArg some (by kernel_rfl))
  f266 := Tryz.func198.trans (congrArg some (by kernel_rfl))
  f271 := Tryz.func197.trans (congrArg some (by kernel_rfl))
  t0 := Tryz.underlying0
  a0 := Tryz.isAgg0
  z0 := Tryz.sizeOf0
  v0 := Tryz.zeroValue0
  t3 := Tryz.underlying3
  a3 := Tryz.isAgg3
  z3 := Tryz.sizeOf3
  v3 := Tryz.zeroValue3
  t4 := Tryz.underlying4
  a4 := Tryz.isAgg4
  z4 := Tryz.sizeOf4
  v4 := Tryz.zeroValue4
  t5 := Tryz.underlying5
  a5 := Tryz.isAgg5
  z5 := Tryz.sizeOf5
  v5 := Tryz.zeroValue5
  t9 := Tryz.underlying9
  a9 := Tryz.isAgg9
  z9 := Tryz.sizeOf9
  v9 := Tryz.zeroValue9
  t21 := Tryz.underlying21
  a21 := Tryz.isAgg21
  z21 := Tryz.sizeOf21
  v21 := Tryz.zeroValue21
  t46 := Tryz.underlying194
  a46 := Tryz.isAgg194
  z46 := Tryz.sizeOf194
  v46 := Tryz.zeroValue194
  t105 := Tryz.underlying280
  a105 := Tryz.isAgg280
  z105 := Tryz.sizeOf280
  v105 := Tryz.zeroValue280
  t116 := Tryz.underlying275
  a116 := Tryz.isAgg275
  z116 := Tryz.sizeOf275
  t117 := Tryz.underlying276
  a117 := Tryz.isAgg276
  z117 := Tryz.sizeOf276
  v117 := Tryz.zeroValue276
  t119 := Tryz.underlying298
  a119 := Tryz.isAgg298
  z119 := Tryz.sizeOf298
  t124 := Tryz.underlying279
  a124 := Tryz.isAgg279
  z124 := Tryz.sizeOf279
  v124 := Tryz.zeroValue279
  t138 := Tryz.underlying300
  a138 := Tryz.isAgg300
  z138 := Tryz.sizeOf300
  v138 := Tryz.zeroValue300
  t139 := Tryz.underlying301
  a139 := Tryz.isAgg301
  z139 := Tryz.sizeOf301
  v139 := Tryz.zeroValue301
  g3 := by kernel_rfl
  g4 := by kernel_rfl }
theorem strings_Trim_one (s : ByteArray) (c : UInt8) (hc : c.toNat < 128) (w : World) (hs : s.size ≤ 9223372036854775807) :
    Calls Tryz.prog 151 #[.string s, .string ⟨#[c]⟩] w fun e w' => e = .returned (.string ⟨(Lib.trimB s.data.toList c).toArray⟩) ∧ (w' = w ∨ w' = w.drew) := Any.strings_Trim_one lays160 s c hc w hs
def lays103_ren : Go.Shelf.Ren := ⟨fun | 103 => 99 | 210 => 150 | 206 => 147 | n => n, fun | 9 => 9 | 4 => 4 | 24 => 205 | 3 => 3 | n => n, fun | n => n⟩
theorem lays103 : Go.Proofs.Lays.n103 Tryz.prog lays103_ren := {
  mixed := by kernel_rfl
  f103 := Tryz.func99.trans (congrArg some (by kernel_rfl))
  f206 := Tryz.func147.trans (congrArg some (by kernel_rfl))
  f210 := Tryz.func150.trans (congrArg some (by kernel_rfl))
  t3 := Tryz.underlying3
  a3 := Tryz.isAgg3
  z3 := Tryz.sizeOf3
  v3 := Tryz.zeroValue3
  t4 := Tryz.underlying4
  a4 := Tryz.isAgg4
  z4 := Tryz.sizeOf4
  v4 := Tryz.zeroValue4
  t9 := Tryz.underlying9
  a9 := Tryz.isAgg9
  z9 := Tryz.sizeOf9
  v9 := Tryz.zeroValue9
  t24 := Tryz.underlying205
  a24 := Tryz.isAgg205
  z24 := Tryz.sizeOf205
  v24 := Tryz.zeroValue205 }
theorem strings_CutPrefix (s p : ByteArray) (w : World) :
    Calls Tryz.prog 99 #[.string s, .string p] w fun e w' => e = .returned (.tuple #[.string ⟨(Lib.trimPrefix s.data.toList p.data.toList).toArray⟩, .bool (Lib.hasPrefix s.data.toList p.data.toList)]) ∧ w' = w := Any.strings_CutPrefix lays103 s p w
end Go.Proofs.YtdogncjcainhlaaGreatDoor
/- The walk of records.isFill. -/
namespace Go.Proofs.YtdogncjcainhlaaGreatDoor
open Go.RowKit Go.Deep
open Mem

namespace Pu
/-- Whether bytes do no more than fill a page. -/
def fillB (l : List UInt8) : Bool := decide (l.length < 28) && l.all (· == 0)
theorem dw_nil {p : UInt8 → Bool} : ∀ (l : List UInt8), l.dropWhile p = [] → ∀ x ∈ l, p x = true
  | [], _ => fun x hx => by simp at hx
  | a :: l, h => by
    rw [List.dropWhile_cons] at h
    cases e : p a with
    | false => rw [e] at h; simp at h
    | true =>
      rw [e] at h
      intro x hx
      rcases List.mem_cons.1 hx with rfl | hx
      · exact e
      · exact dw_nil l (by simpa using h) x hx
theorem dw_all {p : UInt8 → Bool} : ∀ (l : List UInt8), (∀ x ∈ l, p x = true) → l.dropWhile p = []
  | [], _ => rfl
  | a :: l, h => by
    rw [List.dropWhile_cons, h a (by simp)]
    exact dw_all l (fun x hx => h x (by simp [hx]))
theorem dw_head {p : UInt8 → Bool} : ∀ (l : List UInt8) (a : UInt8) (r : List UInt8), l.dropWhile p = a :: r → p a = false
  | [], _, _, h => by simp at h
  | b :: l, a, r, h => by
    rw [List.dropWhile_cons] at h
    cases e : p b with
    | false =>
      rw [e] at h
      simp at h
      rw [← h.1]; exact e
    | true => rw [e] at h; exact dw_head l a r (by simpa using h)
theorem trimB_empty (l : List UInt8) (c : UInt8) : (Lib.trimB l c).isEmpty = l.all (· == c) := by
  unfold Lib.trimB Lib.trimLeftB Lib.trimRightB
  cases h : l.reverse.dropWhile (· == c) with
  | nil =>
    have h1 := dw_nil _ h
    have : l.all (· == c) = true := by
      rw [List.all_eq_true]
      intro x hx
      exact h1 x (List.mem_reverse.2 hx)
    rw [this]; rfl
  | cons a r =>
    have h1 := dw_head _ _ _ h
    have h2 : l.all (· == c) = false := by
      rw [Bool.eq_false_iff]
      intro h3
      rw [List.all_eq_true] at h3
      have h4 : a ∈ l := by
        have : a ∈ l.reverse.dropWhile (· == c) := by rw [h]; simp
        exact List.mem_reverse.1 ((List.dropWhile_sublist _).subset this)
      rw [h3 a h4] at h1
      cases h1
    rw [h2]
    cases e : (a :: r).reverse.dropWhile (· == c) with
    | nil =>
      have := dw_nil _ e a (by simp)
      rw [this] at h1
      cases h1
    | cons x y => rfl
end Pu
set_option maxRecDepth 100000 in
set_option maxHeartbeats 1000000 in
theorem isFill_any (s : ByteArray) (w : World) (hs : s.size ≤ 100000) :
    Calls Tryz.prog 104 #[.string s] w fun e w' => e = .returned (.bool (Pu.fillB s.data.toList)) ∧ Turns (fun _ => False) w w' := by
  obtain ⟨T, hT⟩ : ∃ T : ByteArray, T = ⟨(Lib.trimB s.data.toList 0).toArray⟩ := ⟨_, rfl⟩
  have ct := fun w => strings_Trim_one s 0 (by decide) w (by omega)
  rw [← hT] at ct
  obtain ⟨RES, hRES⟩ : ∃ RES, RES = Pu.fillB s.data.toList := ⟨_, rfl⟩
  rw [← hRES]
  have hemp : T.toList.isEmpty = s.data.toList.all (· == 0) := by
    rw [ByteArray.toList_eq, hT]
    exact Pu.trimB_empty _ _
  by_cases h28 : s.size < 28
  · have h28i : (s.size : Int) < 28 := by omega
    have hR0 : RES = T.toList.isEmpty := by rw [hRES, Pu.fillB, hemp, ← size_list, decide_eq_true h28, Bool.true_and]
    cases he : T.toList.isEmpty with
    | true =>
      rw [he] at hR0
      have hR : Hid (RES = true) := hR0
      clear hR0
      clear hemp hRES hT
      go_enter Tryz.func104, Tryz.ntmps104
      go_wp2_with fail
      refine (ct _).mono ?_
      rintro e w1 ⟨rfl, hw1⟩
      have HT : Hid (Turns (fun _ => False) w w1) := by rcases hw1 with rfl | rfl; exact Turns.refl _ _; exact (Turns.refl _ _).drew
      clear ct hw1
      go_wp2
      go_ret
      exact ⟨by rw [hR.out]; rfl, HT.out⟩
    | false =>
      rw [he] at hR0
      have hR : Hid (RES = false) := hR0
      clear hR0
      clear hemp hRES hT
      go_enter Tryz.func104, Tryz.ntmps104
      go_wp2_with fail
      refine (ct _).mono ?_
      rintro e w1 ⟨rfl, hw1⟩
      have HT : Hid (Turns (fun _ => False) w w1) := by rcases hw1 with rfl | rfl; exact Turns.refl _ _; exact (Turns.refl _ _).drew
      clear ct hw1
      go_wp2
      go_ret
      exact ⟨by rw [hR.out]; rfl, HT.out⟩
  · have h28i : ¬ (s.size : Int) < 28 := by omega
    have hR : Hid (RES = false) := by show _ = _; rw [hRES, Pu.fillB, ← size_list, decide_eq_false h28, Bool.false_and]
    clear hemp hRES hT ct
    go_enter Tryz.func104, Tryz.ntmps104
    go_wp2
    go_ret
    exact ⟨by rw [hR.out]; rfl, Turns.refl _ _⟩
#print axioms isFill_any
end Go.Proofs.YtdogncjcainhlaaGreatDoor
/- The walk of records.readHead. -/
namespace Go.Proofs.YtdogncjcainhlaaGreatDoor
open Go.RowKit Go.Deep
open Mem

namespace Pu
/-- So many counts at the front, and what is behind them. -/
def readSz : Nat → List UInt8 → Option (List Nat × List UInt8)
  | 0, l => some ([], l)
  | k + 1, l => match cntR l with
    | none => none
    | some (m, j) => match readSz k (l.drop j) with
      | none => none
      | some (S, r) => some (m :: S, r)
/-- What stands ahead of the labels: the order, the labels' sizes, where the first label begins. -/
def hdOf (l : List UInt8) : Option (List Nat × List Nat × Nat) := match l with
  | a :: b :: c :: rest => if a = 98 ∧ b = 119 ∧ 1 ≤ c.toNat ∧ c.toNat ≤ 40 ∧ c.toNat ≤ rest.length then
      match ordB (rest.take c.toNat) with
      | none => none
      | some O => match readSz c.toNat (rest.drop c.toNat) with
        | none => none
        | some (S, r) => some (O, S, l.length - r.length)
    else none
  | _ => none
theorem hdOf_c (c : UInt8) (rest : List UInt8) : hdOf (98 :: 119 :: c :: rest) = if 1 ≤ c.toNat ∧ c.toNat ≤ 40 ∧ c.toNat ≤ rest.length then
      match ordB (rest.take c.toNat) with
      | none => none
      | some O => match readSz c.toNat (rest.drop c.toNat) with
        | none => none
        | some (S, r) => some (O, S, rest.length + 3 - r.length)
    else none := by
  rw [hdOf]
  simp only [true_and, List.length_cons]
/-- The head, out of its sizes. -/
def finH (O : List Nat) (t : Nat) : Option (List Nat × List UInt8) → Option (List Nat × List Nat × Nat)
  | none => none
  | some (S, r) => some (O, S, t - r.length)
theorem readSz_len : ∀ (k : Nat) {l r : List UInt8} {S : List Nat}, readSz k l = some (S, r) → S.length = k ∧ r.length ≤ l.length ∧ Small S ∧ l = flatB S ++ r
  | 0, l, r, S, h => by
    injection h with h
    injection h with h1 h2
    subst h1 h2
    exact ⟨rfl, Nat.le_refl _, fun n hn => by simp at hn, rfl⟩
  | k + 1, l, r, S, h => by
    rw [readSz] at h
    split at h
    · cases h
    · rename_i m j hc
      split at h
      · cases h
      · rename_i S' r' h'
        injection h with h
        injection h with h1 h2
        subst h1 h2
        obtain ⟨e1, e2, e3, e4⟩ := readSz_len k h'
        obtain ⟨c1, c2, c3⟩ := cntR_some hc
        have hj := cntR_pos hc
        rw [List.length_drop] at e2
        refine ⟨by rw [List.length_cons, e1], by omega, fun n hn => ?_, ?_⟩
        · rcases List.mem_cons.1 hn with rfl | hn
          · exact c1
          · exact e3 n hn
        · rw [flatB, List.flatMap_cons, List.append_assoc, ← flatB, ← e4]; exact c3
theorem readSz_back : ∀ (S : List Nat) (r : List UInt8), Small S → readSz S.length (flatB S ++ r) = some (S, r)
  | [], r, _ => rfl
  | n :: S, r, h => by
    have e : flatB (n :: S) ++ r = countB n ++ (flatB S ++ r) := by rw [flatB, List.flatMap_cons, List.append_assoc, ← flatB]
    rw [e, List.length_cons, readSz, cntR_back (h n (by simp))]
    simp only
    rw [List.drop_left, readSz_back S r (fun x hx => h x (by simp [hx]))]
end Pu
/-- What records.readHead hands back. -/
def HdPost (w : World) (r : Option (List Nat × List Nat × Nat)) (e : Ending) (w' : World) : Prop := match r with
  | none => e = .returned (.tuple #[.agg #[.slice none 0 0, .slice none 0 0], .bool false]) ∧ Turns (fun _ => False) w w'
  | some (O, S, a) => ∃ ov sv, e = .returned (.tuple #[.agg #[ov, sv], .bool true]) ∧ w'.ownsRow w.heap.size 3 1 ov O.length (natV O) ∧ w'.ownsRow w.heap.size 3 1 sv (S.length + 1) (natV (Pu.starts a S)) ∧ Turns (fun _ => False) w w'

theorem box_two {w w2 : World} {t : TypeId} {u v : Value} (h : Turns (fun _ => False) (w.alloc (.cells #[u, v] t)) w2) : w2.cell? ⟨w.heap.size, 0, none⟩ = some u ∧ w2.cell? ⟨w.heap.size, 1, none⟩ = some v ∧ w2.frozen? ⟨w.heap.size, 0, none⟩ = false ∧ w2.frozen? ⟨w.heap.size, 1, none⟩ = false := by
  refine ⟨(h.cell (a := ⟨w.heap.size, 0, none⟩) (by simp) (fun x => x)).trans ?_, (h.cell (a := ⟨w.heap.size, 1, none⟩) (by simp) (fun x => x)).trans ?_, (h.frozen (a := ⟨w.heap.size, 0, none⟩) (by simp) (fun x => x)).trans ?_, (h.frozen (a := ⟨w.heap.size, 1, none⟩) (by simp) (fun x => x)).trans ?_⟩
  · rw [World.cell?_alloc_new]; rfl
  · rw [World.cell?_alloc_new]; rfl
  · exact World.frozen?_alloc_new _ _ _ _
  · exact World.frozen?_alloc_new _ _ _ _
theorem owns_low {w : World} {base base' : Nat} {e : TypeId} {size : Nat} {v : Value} {n : Nat} {xs : List Value} (h : w.ownsRow base e size v n xs) (hb : base' ≤ base) : w.ownsRow base' e size v n xs := by
  obtain ⟨h1, h2⟩ := h
  refine ⟨h1, ?_⟩
  rcases h2 with h2 | ⟨g, cap, cur, hv, hg, r⟩
  · exact Or.inl h2
  · exact Or.inr ⟨g, cap, cur, hv, Nat.le_trans hb hg, r⟩
theorem owns_set2 {w : World} {b : Nat} {e : TypeId} {size : Nat} {v : Value} {n : Nat} {xs : List Value} (h : w.ownsRow (b + 1) e size v n xs) (x y : Value) : ((w.setCell ⟨b, 0, none⟩ x).setCell ⟨b, 1, none⟩ y).ownsRow (b + 1) e size v n xs := by
  obtain ⟨h1, h2⟩ := h
  refine ⟨h1, ?_⟩
  rcases h2 with h2 | ⟨g, cap, cur, hv, hg, hb, r⟩
  · exact Or.inl h2
  · have t : Turns (fun k => k = b) w ((w.setCell ⟨b, 0, none⟩ x).setCell ⟨b, 1, none⟩ y) := ((Turns.refl (fun k => k = b) w).setCell (x := ⟨b, 0, none⟩) (Or.inr rfl) x).setCell (x := ⟨b, 1, none⟩) (Or.inr rfl) y
    exact Or.inr ⟨g, cap, cur, hv, hg, (t.block g (lt_of_block hb) (fun c => by omega)).trans hb, r⟩
set_option maxRecDepth 100000 in
set_option maxHeartbeats 2000000 in
theorem readHead_any (s : ByteArray) (w : World) (hs : s.size ≤ 60000) :
    Calls Tryz.prog 64 #[.string s] w (HdPost w (Pu.hdOf s.data.toList)) := by
  have cp := fun w => strings_CutPrefix s ⟨#[98, 119]⟩ w
  by_cases hpre : Lib.hasPrefix s.data.toList [98, 119] = true
  · have e0 : Lib.hasPrefix s.data.toList (ByteArray.mk #[98, 119]).data.toList = true := hpre
    simp only [Lib.trimPrefix, e0, if_true] at cp
    obtain ⟨rest, hrest⟩ : ∃ rest, s.data.toList = 98 :: 119 :: rest := by
      unfold Lib.hasPrefix at hpre
      match h : s.data.toList, hpre with
      | a :: b :: r, hpre =>
        simp [List.isPrefixOf] at hpre
        exact ⟨r, by rw [← hpre.1, ← hpre.2]⟩
      | [a], hpre => simp [List.isPrefixOf] at hpre
      | [], hpre => simp [List.isPrefixOf] at hpre
    obtain ⟨R, hR⟩ : ∃ R : ByteArray, R = ⟨(s.data.toList.drop (ByteArray.mk #[98, 119]).data.toList.length).toArray⟩ := ⟨_, rfl⟩
    rw [← hR] at cp
    have hRl : R.data.toList = rest := by rw [hR]; show s.data.toList.drop 2 = rest; rw [hrest]; rfl
    have hRs : R.size = rest.length := by rw [size_list, hRl]
    have hsl : s.size = rest.length + 2 := by rw [size_list, hrest]; rfl
    rw [hrest]
    clear hR e0 hpre
    have HTN : Hid (∀ o, Turns (fun _ => False) w (w.alloc o)) := fun o => (Turns.refl _ _).alloc o
    cases rest with
    | nil =>
      have hR0 := empty_of hRs
      show Calls Tryz.prog _ _ w (fun e w' => e = .returned (.tuple #[.agg #[.slice none 0 0, .slice none 0 0], .bool false]) ∧ Turns (fun _ => False) w w')
      go_enter Tryz.func64, Tryz.ntmps64
      go_wp2_with fail
      refine (cp _).mono ?_
      rintro e w1 ⟨rfl, hw1⟩
      subst w1
      clear cp
      go_wp2
      exact bodyPost_ret (v := .tuple #[.agg #[.slice none 0 0, .slice none 0 0], .bool false]) (by simp [results, Tryz.results64, go_sem]) rfl ⟨rfl, HTN.out _⟩
    | cons c rest =>
      rw [Pu.hdOf_c]
      have hR0 := nonempty_of (s := R) (by rw [hRs, List.length_cons]; omega)
      rw [List.length_cons] at hRs
      have hR1 : 0 < R.size := by omega
      have hc0 : R[0].toNat = c.toNat := by
        have : R.data.toList[0]? = some c := by rw [hRl]; rfl
        rw [List.getElem?_eq_getElem (by rw [hRl]; simp)] at this
        injection this with this
        rw [← this]; rfl
      have hcb := c.toNat_lt
      obtain ⟨n, hn⟩ : ∃ n, n = c.toNat := ⟨_, rfl⟩
      rw [← hn] at hc0 hcb ⊢
      have HNC : Hid (n = c.toNat) := hn
      clear hn
      obtain ⟨R1, hR1e⟩ : ∃ R1, R1 = R.extract 1 R.size := ⟨_, rfl⟩
      have hR1s : R1.size = rest.length := by rw [hR1e, ByteArray.size_extract]; omega
      have hR1l : R1.data.toList = rest := by rw [hR1e, extract_list, List.take_of_length_le (by rw [← size_list]; omega), hRl]; rfl
      have hR1x := hR1e.symm
      have hR1i : (0 : Int) < (R.size : Int) := by omega
      have hR1j : (1 : Int) ≤ (R.size : Int) := by omega
      have HRS : Hid (R.size = rest.length + 1 ∧ s.size = rest.length + 3 ∧ R1.size = rest.length) := ⟨hRs, by rw [hsl, List.length_cons], hR1s⟩
      by_cases hok : 1 ≤ n ∧ n ≤ 40 ∧ n ≤ rest.length
      · rw [if_pos hok]
        have h1i : ((n : Int) < 1) = False := by simp; omega
        have h2i : ((40 : Int) < (n : Int)) = False := by simp; omega
        have h3i : ((R1.size : Int) < (n : Int)) = False := by simp; omega
        have h4i : (n : Int) ≤ (R1.size : Int) := by omega
        have hR1b : R1.size ≤ 60000 := by have := HRS.out; omega
        have hnb : n ≤ 40 := by omega
        have hn1 : 1 ≤ n := by omega
        have hnR : n ≤ R1.size := by omega
        obtain ⟨R2, hR2e⟩ : ∃ R2, R2 = R1.extract 0 n := ⟨_, rfl⟩
        have hR2x := hR2e.symm
        have hR2s : R2.size = n := by rw [hR2e, ByteArray.size_extract]; omega
        have hR2l : R2.data.toList = rest.take n := by rw [hR2e, extract_list, hR1l]; rfl
        have co := fun w => readOrder_any R2 w (by omega)
        rw [hR2l] at co
        obtain ⟨R3, hR3e⟩ : ∃ R3, R3 = R1.extract n R1.size := ⟨_, rfl⟩
        have hR3x := hR3e.symm
        have hR3s : R3.size = rest.length - n := by rw [hR3e, ByteArray.size_extract]; omega
        have hR3l : R3.data.toList = rest.drop n := by rw [hR3e, extract_list, List.take_of_length_le (by rw [← size_list]; omega), hR1l]
        cases ho : Pu.ordB (rest.take n) with
        | none =>
          rw [ho] at co
          show Calls Tryz.prog _ _ w (fun e w' => e = .returned (.tuple #[.agg #[.slice none 0 0, .slice none 0 0], .bool false]) ∧ Turns (fun _ => False) w w')
          clear hrest hRl hR1l hR1e hR2e hR2l hR3e hR3l ho hRs hsl hR1s hR2s hR3s hok
          go_enter Tryz.func64, Tryz.ntmps64
          go_wp2_with fail
          refine (cp _).mono ?_
          rintro e w1 ⟨rfl, hw1⟩
          subst w1
          clear cp
          go_wp2_with fail
          refine (co _).mono ?_
          rintro e w2 ⟨rfl, hT2⟩
          have HT2 : Hid (Turns (fun _ => False) w w2) := (HTN.out _).trans hT2
          obtain ⟨d1, d2, f1, f2⟩ := box_two hT2
          have hbl : w.heap.size < w2.heap.size := World.block_lt_of_cell? _ _ d1
          have HTF : Hid (∀ u v : Value, Turns (fun _ => False) w ((w2.setCell ⟨w.heap.size, 0, none⟩ u).setCell ⟨w.heap.size, 1, none⟩ v)) := fun u v => (HT2.out.setCell (Or.inl (Nat.le_refl _)) u).setCell (Or.inl (Nat.le_refl _)) v
          clear hT2 co
          go_wp2
          exact bodyPost_ret (v := .tuple #[.agg #[.slice none 0 0, .slice none 0 0], .bool false]) (by simp [results, Tryz.results64, go_sem, d1, d2]) rfl ⟨rfl, HTF.out _ _⟩
        | some O =>
          rw [ho] at co
          have hOl : O.length = n ∧ O.Nodup ∧ ∀ m ∈ O, m < n := by
            have h := Pu.ordGoB_some (n := (rest.take n).length) _ [] O (by simp) (by simp) ho
            have hl : (rest.take n).length = n := by rw [List.length_take]; omega
            refine ⟨by rw [h.1]; simp; omega, h.2.1, fun m hm => by have := h.2.2 m hm; omega⟩
          have HOL : Hid (O.length = n) := hOl.1
          have hmk := run_make_row' (P := Tryz.prog) 55 3 (.int .i64 0) 8 Tryz.underlying55 info3n rfl .i64 .i64 n (by omega) (by omega)
          show Calls Tryz.prog _ _ w (HdPost w (Pu.finH O (rest.length + 3) (Pu.readSz n (rest.drop n))))
          obtain ⟨RS, hRS⟩ : ∃ RS, RS = Pu.readSz n (rest.drop n) := ⟨_, rfl⟩
          have HRSZ : Hid (RS = Pu.readSz n (rest.drop n)) := hRS
          rw [← hRS]
          clear hRS
          obtain ⟨FH, hFH⟩ : ∃ FH, FH = Pu.finH O (rest.length + 3) RS := ⟨_, rfl⟩
          have HFH : Hid (FH = Pu.finH O (rest.length + 3) RS) := hFH
          rw [← hFH]
          clear hFH
          have HSZ : Hid (R3.data.toList = rest.drop n ∧ R3.size ≤ s.size) := ⟨hR3l, by have := HRS.out; omega⟩
          clear hrest hRl hR1l hR1e hR2e hR2l hR3e hR3l ho hRs hsl hR1s hR2s hR3s hok hOl
          go_enter Tryz.func64, Tryz.ntmps64
          go_wp2_with fail
          refine (cp _).mono ?_
          rintro e w1 ⟨rfl, hw1⟩
          subst w1
          clear cp
          go_wp2_with fail
          refine (co _).mono ?_
          rintro e w2 ⟨ov, rfl, hO2⟩
          have HO2 : Hid (OwnG (w.alloc (.cells #[.slice none 0 0, .slice none 0 0] 79)) (.slice none 0 0) (w.heap.size + 1) 3 1 ov O.length (natV O) w2) := by
            have : (w.alloc (.cells #[.slice none 0 0, .slice none 0 0] 79)).heap.size = w.heap.size + 1 := by simp
            rw [← this]; exact hO2
          obtain ⟨d1, d2, f1, f2⟩ := box_two HO2.out.turns0
          have hbl : w.heap.size < w2.heap.size := World.block_lt_of_cell? _ _ d1
          obtain ⟨og, oc, hog⟩ : ∃ og oc, ov = .slice (some ⟨og, 0, none⟩) n oc := by
            obtain ⟨n', hn'⟩ : ∃ n', n = n' + 1 := ⟨n - 1, by omega⟩
            have h := HO2.out.own
            rw [HOL.out, hn'] at h
            rw [hn']
            exact owns_form h
          clear hO2 co
          subst hog
          have H0 : Hid (∃ (i : Nat) (R' : ByteArray) (D : List Nat) (wy : World) (g : Nat → Int), Value.string R3 = .string R' ∧ Value.int .i64 0 = .int .i64 (i : Int) ∧ i ≤ n ∧ R'.size ≤ s.size ∧ wy = w2.alloc (.cells (madeCells #[.int .i64 0] n) 3) ∧ D.length = i ∧ Hid (Ints wy w2.heap.size n g ∧ (∀ (j x : Nat), D[j]? = some x → g j = x) ∧ (∀ x ∈ D, x < 2097152) ∧ Turns (fun _ => False) w2 wy ∧ RS = (Pu.readSz (n - i) R'.data.toList).map (fun p => (D ++ p.1, p.2)))) := by
            refine ⟨0, R3, [], _, fun _ => 0, rfl, rfl, Nat.zero_le _, HSZ.out.2, rfl, rfl, Ints.made _ _ _ _, fun j x h => by simp at h, fun x h => by simp at h, (Turns.refl _ _).alloc _, ?_⟩
            rw [HRSZ.out, HSZ.out.1, Nat.sub_zero]
            cases Pu.readSz n (rest.drop n) <;> simp
          clear HSZ HRSZ
          go_wp2
          go_loopw [4, 60] (fun rv iv wr => ∃ (i : Nat) (R' : ByteArray) (D : List Nat) (wy : World) (g : Nat → Int), rv = .string R' ∧ iv = .int .i64 (i : Int) ∧ i ≤ n ∧ R'.size ≤ s.size ∧ wy = wr ∧ D.length = i ∧ Hid (Ints wy w2.heap.size n g ∧ (∀ (j x : Nat), D[j]? = some x → g j = x) ∧ (∀ x ∈ D, x < 2097152) ∧ Turns (fun _ => False) w2 wy ∧ RS = (Pu.readSz (n - i) R'.data.toList).map (fun p => (D ++ p.1, p.2)))) (fun _ iv _ => n - (intOf iv).toNat)
          case atStart => exact H0.out
          case round =>
            clear H0 hmk
            obtain ⟨i, R', D, wr, g, rfl, rfl, hin, hR', hwy, hDi, HI⟩ := hrel
            subst hwy
            obtain ⟨o1, o2, o3, o4, o5⟩ := HI.out
            have d1' := (o4.cell (a := ⟨w.heap.size, 0, none⟩) hbl (fun x => x)).trans d1
            have d2' := (o4.cell (a := ⟨w.heap.size, 1, none⟩) hbl (fun x => x)).trans d2
            have f1' := (o4.frozen (a := ⟨w.heap.size, 0, none⟩) hbl (fun x => x)).trans f1
            have f2' := (o4.frozen (a := ⟨w.heap.size, 1, none⟩) hbl (fun x => x)).trans f2
            have hTw : Turns (fun _ => False) w wr := ((HTN.out _).trans HO2.out.turns0).trans o4
            by_cases hlt : i < n
            · have hii : (i : Int) < (n : Int) := by omega
              have cr := fun w => cread_any R' w (by omega)
              obtain ⟨q, hq⟩ : ∃ q, n - i = q + 1 := ⟨n - i - 1, by omega⟩
              rw [hq, Pu.readSz] at o5
              cases hc : Pu.cntR R'.data.toList with
              | none =>
                rw [hc] at cr o5
                simp only [cntV] at cr
                have HX : Hid (∀ u v : Value, HdPost w FH (.returned (.tuple #[.agg #[.slice none 0 0, .slice none 0 0], .bool false])) ((wr.setCell ⟨w.heap.size, 0, none⟩ u).setCell ⟨w.heap.size, 1, none⟩ v)) := by
                  intro u v
                  have o6 : RS = none := o5
                  rw [HFH.out, o6]
                  exact ⟨rfl, (hTw.setCell (Or.inl (Nat.le_refl _)) u).setCell (Or.inl (Nat.le_refl _)) v⟩
                clear HI o1 o2 o3 o4 o5 hc hTw hq
                go_wp2_with fail
                refine (cr _).mono ?_
                rintro e w4 ⟨rfl, hw4⟩
                subst w4
                clear cr
                go_wp2
                exact bodyPost_ret (v := .tuple #[.agg #[.slice none 0 0, .slice none 0 0], .bool false]) (by simp [results, Tryz.results64, go_sem, d1', d2']) rfl (HX.out _ _)
              | some y =>
                obtain ⟨m, k⟩ := y
                rw [hc] at cr o5
                simp only [cntV] at cr
                have hk := Pu.cntR_pos hc
                have hm := (Pu.cntR_some hc).1
                have hk2 : k ≤ R'.size := by rw [size_list]; exact hk.2.2
                have hki : (k : Int) ≤ (R'.size : Int) := by omega
                have hkn : ¬ (k : Int) < 0 := by omega
                have e1 := o1.cell i hlt
                have e2 := o1.free i hlt
                have HN : Hid (∃ (i' : Nat) (R'' : ByteArray) (D' : List Nat) (wy : World) (g' : Nat → Int), Value.string (R'.extract k R'.size) = .string R'' ∧ Value.int .i64 ((i : Int) + 1) = .int .i64 (i' : Int) ∧ i' ≤ n ∧ R''.size ≤ s.size ∧ wy = wr.setCell ⟨w2.heap.size, i, none⟩ (.int .i64 (m : Int)) ∧ D'.length = i' ∧ Hid (Ints wy w2.heap.size n g' ∧ (∀ (j x : Nat), D'[j]? = some x → g' j = x) ∧ (∀ x ∈ D', x < 2097152) ∧ Turns (fun _ => False) w2 wy ∧ RS = (Pu.readSz (n - i') R''.data.toList).map (fun p => (D' ++ p.1, p.2)))) := by
                  refine ⟨i + 1, R'.extract k R'.size, D ++ [m], _, upd g i m, rfl, by go_num, by omega, by rw [ByteArray.size_extract]; omega, rfl, by rw [List.length_append, hDi]; rfl, o1.set hlt _, ?_, ?_, o4.setCell (Or.inl (Nat.le_refl _)) _, ?_⟩
                  · intro j x hj
                    by_cases e : j = i
                    · subst e
                      rw [upd_same]
                      rw [← hDi, List.getElem?_append_right (Nat.le_refl _), Nat.sub_self] at hj
                      injection hj with hj
                      rw [hj]
                    · have hjl := (List.getElem?_eq_some_iff.1 hj).1
                      rw [List.length_append, hDi, List.length_singleton] at hjl
                      rw [List.getElem?_append_left (by omega)] at hj
                      rw [upd_other _ _ _ _ e]
                      exact o2 j x hj
                  · intro x hx
                    rcases List.mem_append.1 hx with hx | hx
                    · exact o3 x hx
                    · rw [List.mem_singleton] at hx; subst hx; exact hm
                  · rw [o5, extract_list, List.take_of_length_le (by rw [← size_list]; omega), show n - (i + 1) = q by omega]
                    simp only
                    cases Pu.readSz q (R'.data.toList.drop k) with
                    | none => rfl
                    | some z => simp
                clear HI o1 o2 o3 o4 o5 hc hTw hq
                go_wp2_with fail
                refine (cr _).mono ?_
                rintro e w4 ⟨rfl, hw4⟩
                subst w4
                clear cr
                go_wp2
                go_roundw
                case rel => exact HN.out
                case measure => simp [intOf]; omega
            · have hii : ¬ (i : Int) < (n : Int) := by omega
              have hRSv : RS = some (D, R'.data.toList) := by
                rw [o5, show n - i = 0 by omega, Pu.readSz]; simp
              have hsR : s.size - R'.size ≤ 60000 := by omega
              have hsub : (s.size : Int) - (R'.size : Int) = ((s.size - R'.size : Nat) : Int) := by omega
              have cst := starts_any wr (s.size - R'.size) n n w2.heap.size D (by omega) hnb (by omega) (fun x hx => by have := o3 x hx; omega) (fun j x hj => by
                have hjl := (List.getElem?_eq_some_iff.1 hj).1
                rw [o1.cell j (by omega), o2 j x hj]) o1.lt
              have HOV : Hid (wr.ownsRow (w.heap.size + 1) 3 1 (.slice (some ⟨og, 0, none⟩) n oc) O.length (natV O)) := owns_turns HO2.out.own o4
              have HTw : Hid (Turns (fun _ => False) w wr) := hTw
              have HRV : Hid (RS = some (D, R'.data.toList)) := hRSv
              have HDn : Hid (D.length = n) := by rw [Hid]; omega
              have hsR' : s.size - R'.size = rest.length + 3 - R'.data.toList.length := by rw [HRS.out.2.1, size_list]
              have HSR : Hid (s.size - R'.size = rest.length + 3 - R'.data.toList.length) := hsR'
              have hbw : w.heap.size < wr.heap.size := World.block_lt_of_cell? _ _ d1'
              clear HI o1 o2 o3 o4 o5 hTw hRSv hDi hsR' hsR
              go_wp2_with fail
              refine cst.mono ?_
              rintro e w5 ⟨sv, rfl, hS5⟩
              obtain ⟨sg, sc, hsg⟩ := owns_form hS5.own
              subst hsg
              have d1'' := (hS5.turns0.cell (a := ⟨w.heap.size, 0, none⟩) hbw (fun x => x)).trans d1'
              have d2'' := (hS5.turns0.cell (a := ⟨w.heap.size, 1, none⟩) hbw (fun x => x)).trans d2'
              have f1'' := (hS5.turns0.frozen (a := ⟨w.heap.size, 0, none⟩) hbw (fun x => x)).trans f1'
              have f2'' := (hS5.turns0.frozen (a := ⟨w.heap.size, 1, none⟩) hbw (fun x => x)).trans f2'
              have HX : Hid (∀ u v : Value, HdPost w FH (.returned (.tuple #[.agg #[.slice (some ⟨og, 0, none⟩) n oc, .slice (some ⟨sg, 0, none⟩) (n + 1) sc], .bool true])) ((w5.setCell ⟨w.heap.size, 0, none⟩ u).setCell ⟨w.heap.size, 1, none⟩ v)) := by
                intro u v
                rw [HFH.out, HRV.out, Pu.finH, ← HSR.out]
                have hw5 : w.heap.size < w5.heap.size := World.block_lt_of_cell? _ _ d1''
                refine ⟨_, _, rfl, ?_, ?_, ((HTw.out.trans hS5.turns0).setCell (Or.inl (Nat.le_refl _)) u).setCell (Or.inl (Nat.le_refl _)) v⟩
                · exact owns_low (owns_set2 (owns_turns HOV.out hS5.turns0) u v) (Nat.le_succ _)
                · have h := hS5.own
                  rw [HDn.out]
                  have h2 : w5.ownsRow (w.heap.size + 1) 3 1 _ (n + 1) _ := owns_low h hbw
                  exact owns_low (owns_set2 h2 u v) (Nat.le_succ _)
              clear HOV HTw HRV HSR hS5 cst HDn d1' d2' f1' f2' d1 d2 f1 f2
              go_wp2
              exact bodyPost_ret (v := .tuple #[.agg #[.slice (some ⟨og, 0, none⟩) n oc, .slice (some ⟨sg, 0, none⟩) (n + 1) sc], .bool true]) (by simp [results, Tryz.results64, go_sem, d1'', d2'']) rfl (HX.out _ _)
      · rw [if_neg hok]
        show Calls Tryz.prog _ _ w (fun e w' => e = .returned (.tuple #[.agg #[.slice none 0 0, .slice none 0 0], .bool false]) ∧ Turns (fun _ => False) w w')
        have h5 : n < 1 ∨ 40 < n ∨ R1.size < n := by omega
        clear hrest hRl hR1l hR1e hRs hsl hR1s
        by_cases h1 : n < 1
        · have h1i : (n : Int) < 1 := by omega
          clear hok
          go_enter Tryz.func64, Tryz.ntmps64
          go_wp2_with fail
          refine (cp _).mono ?_
          rintro e w1 ⟨rfl, hw1⟩
          subst w1
          clear cp
          go_wp2
          exact bodyPost_ret (v := .tuple #[.agg #[.slice none 0 0, .slice none 0 0], .bool false]) (by simp [results, Tryz.results64, go_sem]) rfl ⟨rfl, HTN.out _⟩
        · have h1i : ¬ (n : Int) < 1 := by omega
          by_cases h2 : 40 < n
          · have h2i : (40 : Int) < (n : Int) := by omega
            clear hok
            go_enter Tryz.func64, Tryz.ntmps64
            go_wp2_with fail
            refine (cp _).mono ?_
            rintro e w1 ⟨rfl, hw1⟩
            subst w1
            clear cp
            go_wp2
            exact bodyPost_ret (v := .tuple #[.agg #[.slice none 0 0, .slice none 0 0], .bool false]) (by simp [results, Tryz.results64, go_sem]) rfl ⟨rfl, HTN.out _⟩
          · have h2i : ¬ (40 : Int) < (n : Int) := by omega
            have h3i : (R1.size : Int) < (n : Int) := by omega
            clear hok
            go_enter Tryz.func64, Tryz.ntmps64
            go_wp2_with fail
            refine (cp _).mono ?_
            rintro e w1 ⟨rfl, hw1⟩
            subst w1
            clear cp
            go_wp2
            exact bodyPost_ret (v := .tuple #[.agg #[.slice none 0 0, .slice none 0 0], .bool false]) (by simp [results, Tryz.results64, go_sem]) rfl ⟨rfl, HTN.out _⟩
  · have e0 : Lib.hasPrefix s.data.toList (ByteArray.mk #[98, 119]).data.toList = false := by simpa using hpre
    have hno : Pu.hdOf s.data.toList = none := by
      unfold Pu.hdOf
      split
      · rename_i a b c r h
        rw [if_neg]
        rintro ⟨rfl, rfl, _⟩
        apply hpre
        rw [h]
        rfl
      · rfl
    rw [hno]
    simp only [Lib.trimPrefix, e0] at cp
    show Calls Tryz.prog _ _ w (fun e w' => e = .returned (.tuple #[.agg #[.slice none 0 0, .slice none 0 0], .bool false]) ∧ Turns (fun _ => False) w w')
    clear hno hpre e0
    go_enter Tryz.func64, Tryz.ntmps64
    go_wp2_with fail
    refine (cp _).mono ?_
    rintro e w1 ⟨rfl, hw1⟩
    subst w1
    clear cp
    have HTN : Hid (∀ o, Turns (fun _ => False) w (w.alloc o)) := fun o => (Turns.refl _ _).alloc o
    go_wp2
    exact bodyPost_ret (v := .tuple #[.agg #[.slice none 0 0, .slice none 0 0], .bool false]) (by simp [results, Tryz.results64, go_sem]) rfl ⟨rfl, HTN.out _⟩
end Go.Proofs.YtdogncjcainhlaaGreatDoor
/- The walk of records.ReadLabel. -/
namespace Go.Proofs.YtdogncjcainhlaaGreatDoor
open Go.RowKit Go.Deep
open Mem

namespace Pu
/-- The hubs that a label's bytes tell. -/
def labOf (l : List UInt8) : Option (List (Nat × Int)) := match cntsR l with
  | none => none
  | some [] => none
  | some (m :: t) => if t.length = 2 * m then some (unflat 0 t) else none
theorem unflat_get : ∀ (j x : Nat) (t : List Nat), 2 * j + 1 < t.length → ∃ g f, t[2 * j]? = some g ∧ t[2 * j + 1]? = some f ∧ (unflat x t)[j]? = some (nxt x ((unflat x t).take j) + g, (f : Int))
  | 0, x, t, h => by
    match t, h with
    | g :: f :: t, _ => exact ⟨g, f, rfl, rfl, rfl⟩
    | [_], h => simp at h
  | j + 1, x, t, h => by
    match t, h with
    | g :: f :: t, h =>
      obtain ⟨g', f', h1, h2, h3⟩ := unflat_get j (x + g + 1) t (by simp at h; omega)
      refine ⟨g', f', ?_, ?_, ?_⟩
      · rw [show 2 * (j + 1) = 2 * j + 1 + 1 by omega, List.getElem?_cons_succ, List.getElem?_cons_succ]; exact h1
      · rw [show 2 * (j + 1) + 1 = 2 * j + 1 + 1 + 1 by omega, List.getElem?_cons_succ, List.getElem?_cons_succ]; exact h2
      · rw [unflat, List.getElem?_cons_succ, List.take_succ_cons, nxt]; exact h3
    | [_], h => simp at h
theorem flatB_len : ∀ (ns : List Nat), ns.length ≤ (flatB ns).length
  | [] => Nat.le_refl _
  | n :: ns => by
    have h1 := (countB_len n).1
    have h2 := flatB_len ns
    rw [flatB, List.flatMap_cons, List.length_append, List.length_cons, ← flatB]; omega
theorem unflat_len2 (k x : Nat) (t : List Nat) (h : t.length = 2 * k) : (unflat x t).length = k := (unflat_B k x t h).2
theorem labOf_eq {l : List UInt8} {H : List (Nat × Int)} : labOf l = some H ↔ l = labB H ∧ Rise 0 H ∧ H.length < 2097152 := by
  constructor
  · intro h
    unfold labOf at h
    split at h
    · cases h
    · cases h
    · rename_i m t e
      split at h
      · rename_i hl
        injection h with h
        subst h
        obtain ⟨h1, h2⟩ := cnts_some _ e
        obtain ⟨h3, h4⟩ := unflat_B m 0 t hl
        have hm := h1 m (by simp)
        refine ⟨?_, unflat_rise m 0 t hl (fun y hy => h1 y (by simp [hy])), by omega⟩
        rw [h2, labB, h3, h4, flatB, flatB, List.flatMap_cons]
      · cases h
  · rintro ⟨rfl, h1, h2⟩
    have sm : Small (H.length :: flatH 0 H) := fun n hn => by
      rcases List.mem_cons.1 hn with rfl | hn
      · exact h2
      · exact flatH_small H 0 h1 n hn
    have e : cntsR (labB H) = some (H.length :: flatH 0 H) := by
      rw [labB_flat, cntsR]; exact cnts_back _ _ sm (Nat.le_refl _)
    unfold labOf
    rw [e]
    simp only
    rw [if_pos (flatH_len H 0), flatH_back H 0 h1]
end Pu
/-- The cells of hubs. -/
def hubV (l : List (Nat × Int)) : List Value := l.flatMap fun x => [Value.int .i64 (x.1 : Int), Value.int .i64 x.2]
theorem hubV_append (a b : List (Nat × Int)) : hubV (a ++ b) = hubV a ++ hubV b := List.flatMap_append
theorem infoHub : (Tryz.prog.info? 131).map (fun i => (i.zero, i.size, i.bytes)) = some (some (.agg #[.int .i64 0, .int .i64 0]), 2, 16) := by kernel_rfl
/-- What records.ReadLabel hands back. -/
def RdlPost (w : World) (r : Option (List (Nat × Int))) (e : Ending) (w' : World) : Prop := match r with
  | none => e = .returned (.tuple #[.slice none 0 0, .bool false]) ∧ Turns (fun _ => False) w w'
  | some H => ∃ v, e = .returned (.tuple #[v, .bool true]) ∧ OwnG w (.slice none 0 0) w.heap.size 131 2 v H.length (hubV H) w'

set_option maxRecDepth 100000 in
set_option maxHeartbeats 1000000 in
theorem readLabel_any (s : ByteArray) (w : World) (hs : s.size ≤ 100000) :
    Calls Tryz.prog 82 #[.string s] w (RdlPost w (Pu.labOf s.data.toList)) := by
  have ca := creadAll_any s w hs
  unfold AllPost at ca
  cases hc : Pu.cntsR s.data.toList with
  | none =>
    have e : Pu.labOf s.data.toList = none := by unfold Pu.labOf; rw [hc]
    rw [e]
    rw [hc] at ca
    simp only at ca
    show Calls Tryz.prog _ _ w (fun e w' => e = .returned (.tuple #[.slice none 0 0, .bool false]) ∧ Turns (fun _ => False) w w')
    clear hc e
    go_enter Tryz.func82, Tryz.ntmps82
    go_wp2_with fail
    refine ca.mono ?_
    rintro e w1 ⟨rfl, hT⟩
    have HT : Hid (Turns (fun _ => False) w w1) := hT
    clear ca hT
    go_wp2
    exact bodyPost_ret (v := .tuple #[.slice none 0 0, .bool false]) (by simp [results, Tryz.results82, go_sem]) rfl ⟨rfl, HT.out⟩
  | some ns =>
    rw [hc] at ca
    simp only at ca
    cases ns with
    | nil =>
      have e : Pu.labOf s.data.toList = none := by unfold Pu.labOf; rw [hc]
      rw [e]
      show Calls Tryz.prog _ _ w (fun e w' => e = .returned (.tuple #[.slice none 0 0, .bool false]) ∧ Turns (fun _ => False) w w')
      clear hc e
      go_enter Tryz.func82, Tryz.ntmps82
      go_wp2_with fail
      refine ca.mono ?_
      rintro e w1 ⟨v, rfl, hO⟩
      have HT : Hid (Turns (fun _ => False) w w1) := hO.turns0
      obtain ⟨a, c, hv⟩ : ∃ a c, v = .slice a 0 c := by
        rcases hO.own.2 with ⟨h1, _⟩ | ⟨g, cap, _, h1, _⟩
        · exact ⟨none, 0, h1⟩
        · exact ⟨_, cap, h1⟩
      subst hv
      clear ca hO
      go_wp2
      exact bodyPost_ret (v := .tuple #[.slice none 0 0, .bool false]) (by simp [results, Tryz.results82, go_sem]) rfl ⟨rfl, HT.out⟩
    | cons m t =>
      have hsm := (Pu.cnts_some _ hc).1
      have hlen : (m :: t).length ≤ 100000 := by
        have h1 := (Pu.cnts_some _ hc).2
        have h2 := Pu.flatB_len (m :: t)
        rw [← h1, ← size_list] at h2
        omega
      have hm := hsm m (by simp)
      by_cases hl : t.length = 2 * m
      · have e : Pu.labOf s.data.toList = some (Pu.unflat 0 t) := by unfold Pu.labOf; rw [hc]; simp only; rw [if_pos hl]
        rw [e]
        obtain ⟨H, hH⟩ : ∃ H, H = Pu.unflat 0 t := ⟨_, rfl⟩
        have hHl : H.length = m := by rw [hH]; exact Pu.unflat_len2 m 0 t hl
        have HG : Hid (∀ j, j < m → ∃ g f : Nat, t[2 * j]? = some g ∧ t[2 * j + 1]? = some f ∧ H[j]? = some (Pu.nxt 0 (H.take j) + g, (f : Int)) ∧ g < 2097152 ∧ f < 2097152) := by
          intro j hj
          obtain ⟨g, f, h1, h2, h3⟩ := Pu.unflat_get j 0 t (by omega)
          rw [← hH] at h3
          exact ⟨g, f, h1, h2, h3, hsm g (by simp [List.mem_of_getElem? h1]), hsm f (by simp [List.mem_of_getElem? h2])⟩
        rw [← hH]
        have HHl : Hid (H.length = m) := hHl
        have HLT : Hid (t.length = 2 * m) := hl
        have hmb : m ≤ 50000 := by rw [List.length_cons] at hlen; omega
        have heq : ((2 * (m : Int) + 1) != 1 + 2 * (m : Int)) = false := by simp; omega
        have hz0 : (2 * (m : Int) + 1 == 0) = false := by rw [beq_eq_false_iff_ne]; omega
        clear hc e hH hHl
        go_enter Tryz.func82, Tryz.ntmps82
        go_wp2_with fail
        refine ca.mono ?_
        rintro e w1 ⟨v, rfl, hO⟩
        have hT1 := hO.turns0
        have hown := hO.own
        rw [List.length_cons, hl] at hown
        obtain ⟨g, cap, hv⟩ := owns_form hown
        subst hv
        have HCell : Hid (∀ (j x : Nat), (m :: t)[j]? = some x → w1.cell? ⟨g, j, none⟩ = some (.int .i64 (x : Int))) := by
          intro j x hj
          have := hown.cells (g := g) rfl j (.int .i64 (x : Int)) (by rw [natV, List.getElem?_map, hj]; rfl)
          rwa [addr_add] at this
        have hcell := HCell.out 0 m rfl
        have hgl : g < w1.heap.size := World.block_lt_of_cell? _ _ hcell
        have HT1 : Hid (Turns (fun _ => False) w w1) := hT1
        clear ca hO hown hT1
        have H0 : Hid (OwnG w1 (.slice none 0 0) w1.heap.size 131 2 (.slice none 0 0) (H.take 0).length (hubV (H.take 0)) w1) := OwnG.nil _ _ _ _
        go_wp2
        go_loopw [6, 7, 8] (fun xv nv iv wr => ∃ (j i nx : Nat) (x : Value) (wy : World), x = xv ∧ nv = .int .i64 (nx : Int) ∧ iv = .int .i64 (i : Int) ∧ i ≤ 100001 ∧ nx ≤ 2097152 * i ∧ wy = wr ∧ Hid (i = 2 * j + 1 ∧ j ≤ m ∧ OwnG w1 (.slice none 0 0) w1.heap.size 131 2 x (H.take j).length (hubV (H.take j)) wy ∧ nx = Pu.nxt 0 (H.take j))) (fun _ _ iv _ => 2 * m + 2 - (intOf iv).toNat)
        case atStart => exact ⟨0, 1, 0, _, w1, rfl, rfl, rfl, by omega, by omega, rfl, rfl, Nat.zero_le _, H0.out, rfl⟩
        case round =>
          clear H0
          obtain ⟨j, i, nx, x, wr, hx, rfl, rfl, hib, hnb, hwy, HI⟩ := hrel
          subst hwy hx
          obtain ⟨hij, hjm, hO, hnx⟩ := HI.out
          by_cases hlt : j < m
          · have hii : (i : Int) < 2 * (m : Int) + 1 := by omega
            have hii2 : (i : Int) + 1 < 2 * (m : Int) + 1 := by omega
            obtain ⟨gg, f, t1, t2, t3, t4, t5⟩ := HG.out j hlt
            have hTr := hO.turns0
            have e1 := (hTr.cell (a := ⟨g, i, none⟩) hgl (fun x => x)).trans (HCell.out i gg (by rw [hij, List.getElem?_cons_succ]; exact t1))
            have e2 := (hTr.cell (a := ⟨g, i + 1, none⟩) hgl (fun x => x)).trans (HCell.out (i + 1) f (by rw [hij, List.getElem?_cons_succ]; exact t2))
            have hgl2 : g < wr.heap.size := Nat.lt_of_lt_of_le hgl hTr.size
            have hsz : w1.heap.size ≤ wr.heap.size := hTr.size
            obtain ⟨r, hr⟩ : ∃ r, r = nx + gg := ⟨_, rfl⟩
            have hrv : (nx : Int) + (gg : Int) = (r : Int) := by omega
            have hrb : r ≤ 2097152 * i + 2097152 := by omega
            obtain ⟨xs, hxs⟩ : ∃ xs, xs = hubV (H.take j) := ⟨_, rfl⟩
            obtain ⟨nn, hnn⟩ : ∃ nn, nn = (H.take j).length := ⟨_, rfl⟩
            have hnnb : nn ≤ 100000 := by rw [hnn, List.length_take]; omega
            have HO : Hid (OwnG w1 (.slice none 0 0) w1.heap.size 131 2 x nn xs wr) := by rw [hxs, hnn]; exact hO
            have HX : Hid (∀ v' w3, OwnG w1 (.slice none 0 0) w1.heap.size 131 2 v' (nn + 1) (xs ++ (#[Value.int .i64 (r : Int), .int .i64 (f : Int)] : Array Value).toList) w3 → OwnG w1 (.slice none 0 0) w1.heap.size 131 2 v' (H.take (j + 1)).length (hubV (H.take (j + 1))) w3) := by
              intro v' w3 h3
              rw [List.take_add_one, t3, Option.toList_some, hubV_append, List.length_append, ← hxs, ← hnn, ← hnx, ← hr]
              exact h3
            have HN : Hid (r + 1 = Pu.nxt 0 (H.take (j + 1)) ∧ i + 2 = 2 * (j + 1) + 1 ∧ j + 1 ≤ m) := by
              refine ⟨?_, by omega, by omega⟩
              rw [List.take_add_one, t3, Option.toList_some, Pu.nxt_snoc, hr, hnx]
            clear hO hxs hnn HI hnx hr t1 t2 t3 hTr hij hjm hlt
            go_wp2_with (at_builtin; refine wpList_append_one rfl _ _ 129 rfl 131 2 16 _ Tryz.underlying129 infoHub rfl (by decide) w1 wr (.slice none 0 0) x w1.heap.size nn xs _ rfl (by intro u hu; simp at hu; rcases hu with rfl | rfl <;> rfl) HO.out hsz (by omega) (by omega) rfl _ rfl rfl ?_)
            intro v' w3 hB
            have HY := HX.out v' w3 hB
            have HZ : Hid (OwnG w1 (.slice none 0 0) w1.heap.size 131 2 v' (H.take (j + 1)).length (hubV (H.take (j + 1))) w3) := HY
            clear HX HY hB HO
            go_wp2
            go_roundw
            case rel => exact ⟨j + 1, i + 2, r + 1, v', w3, rfl, by go_num, by go_num, by omega, by omega, rfl, HN.out.2.1, HN.out.2.2, HZ.out, HN.out.1⟩
            case measure => simp [intOf]; omega
          · have hii : ¬ (i : Int) < 2 * (m : Int) + 1 := by omega
            have HX : Hid (RdlPost w (some H) (.returned (.tuple #[x, .bool true])) wr) := by
              rw [List.take_of_length_le (by rw [HHl.out]; omega)] at hO
              exact ⟨x, rfl, owns_mono hO.own HT1.out.size, (HT1.out.trans hO.turns0).mono (fun _ _ c => c.elim), fun b hb => Or.inr (Nat.le_trans HT1.out.size (hO.fresh b hb))⟩
            clear HI hO
            go_wp2
            exact bodyPost_ret (v := .tuple #[x, .bool true]) (by simp [results, Tryz.results82, go_sem]) rfl HX.out
      · have e : Pu.labOf s.data.toList = none := by unfold Pu.labOf; rw [hc]; simp only; rw [if_neg hl]
        rw [e]
        show Calls Tryz.prog _ _ w (fun e w' => e = .returned (.tuple #[.slice none 0 0, .bool false]) ∧ Turns (fun _ => False) w w')
        have hne : ((t.length : Int) + 1 != 1 + 2 * (m : Int)) = true := by simp; omega
        have hz0 : ((t.length : Int) + 1 == 0) = false := by rw [beq_eq_false_iff_ne]; omega
        clear hc e
        go_enter Tryz.func82, Tryz.ntmps82
        go_wp2_with fail
        refine ca.mono ?_
        rintro e w1 ⟨v, rfl, hO⟩
        have HT : Hid (Turns (fun _ => False) w w1) := hO.turns0
        have hown := hO.own
        rw [List.length_cons] at hown
        obtain ⟨g, cap, hv⟩ := owns_form hown
        subst hv
        have hcell : w1.cell? ⟨g, 0, none⟩ = some (.int .i64 (m : Int)) := by
          have := hown.cells (g := g) rfl 0 (.int .i64 (m : Int)) rfl
          rwa [addr_add] at this
        clear ca hO hown
        go_wp2
        exact bodyPost_ret (v := .tuple #[.slice none 0 0, .bool false]) (by simp [results, Tryz.results82, go_sem]) rfl ⟨rfl, HT.out⟩
#print axioms readLabel_any
end Go.Proofs.YtdogncjcainhlaaGreatDoor
