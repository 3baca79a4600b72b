/- The walk of bywaykeep.order: an order's text out of raw numbers. -/
import Derived.Test.YtdogncjcainhlaaDoorDec
import Derived.Test.YtdogncjcainhlaaDoorPJoin
import Derived.Test.YtdogncjcainhlaaDoorWFirst
import Derived.Maps.AppendAt
import Derived.Deep.AppendLies
namespace Go.Proofs.YtdogncjcainhlaaDoor
open Go.RowKit Go.Deep
open Mem

/-- Raw numbers that came in. -/
def Nums (w : World) (ra : Option Addr) (K : Nat) (raw : Nat → Int) : Prop :=
  (0 < K → ∃ b o, ra = some ⟨b, o, none⟩ ∧ b < w.heap.size ∧ ∀ i, i < K → w.cell? ⟨b, o + i, none⟩ = some (.int .i64 (raw i))) ∧ ∀ i, i < K → -9223372036854775808 ≤ raw i ∧ raw i ≤ 9223372036854775807

/-- What holds ahead of each round of order's second loop: the places acc are written, those of lft are left. -/
def OrdInv (w : World) (n : Nat) (lv sv iv : Value) (wr : World) : Prop :=
  ∃ (acc lft : List Nat) (sb : ByteArray) (la : Option Addr) (lc : Nat), iv = .int .i64 acc.length ∧ sv = .string sb ∧ lv = .slice la lft.length lc ∧ sb.data.toList = Pu.joinT acc ∧ wr.ownsRow w.heap.size 3 1 (.slice la lft.length lc) lft.length (vals lft) ∧
    (acc ++ lft).Nodup ∧ acc.length + lft.length = n ∧ (∀ m ∈ acc ++ lft, m < n) ∧ Turns (fun _ => False) w wr

/-- decimal's text under a name. -/
theorem dec_lit (x : Nat) (hx : x < 10000) : ∃ D : ByteArray, Hid (D.data.toList = Pu.dec x) ∧ D.size ≤ 4 ∧ Hid (∀ w, Calls Tryd.prog 27 #[.int .i64 (x : Int)] w fun e w' => e = .returned (.string D) ∧ Turns (fun _ => False) w w') :=
  ⟨⟨(Pu.dec x).toArray⟩, rfl, Pu.dec_len4 hx, dec_any x (by omega)⟩
theorem vals_range (k : Nat) : vals (List.range k) ++ [Value.int .i64 (k : Int)] = vals (List.range (k + 1)) := by rw [vals_snoc, List.range_succ]

theorem ord_txt1 {sb DX : ByteArray} {x : Nat} (h : DX.data.toList = Pu.dec x) : sb.data.toList = Pu.joinT [] → (sb ++ DX).data.toList = Pu.joinT ([] ++ [x]) := by
  intro h1
  rw [ByteArray.data_append, Array.toList_append, h, h1]
  simp [Pu.joinT, Pu.tailT]
theorem ord_txt2 {sb DX : ByteArray} {x : Nat} {acc : List Nat} (_ : sb.data.toList = Pu.joinT acc) (h : DX.data.toList = Pu.dec x) (hne : acc ≠ []) : sb.data.toList = Pu.joinT acc → (sb ++ ⟨#[32]⟩ ++ DX).data.toList = Pu.joinT (acc ++ [x]) := by
  intro h1
  rw [ByteArray.data_append, Array.toList_append, ByteArray.data_append, Array.toList_append, h, h1, Pu.joinT_snoc hne]
  simp
/-- The place number k is written, and no more left. -/
theorem ord_step {w w5 : World} {n k x : Nat} {acc lft : List Nat} {sb s' : ByteArray} {v5 : Value} {iv : Int} (h1 : sb.data.toList = Pu.joinT acc) (h2 : (acc ++ lft).Nodup) (h3 : acc.length + lft.length = n) (h4 : ∀ m ∈ acc ++ lft, m < n) (hk : lft[k]? = some x)
    (hown5 : w5.ownsRow w.heap.size 3 1 v5 (k + (lft.length - (k + 1))) (vals (lft.take k) ++ vals (lft.drop (k + 1)))) (hT5 : Turns (fun _ => False) w w5) (htx : sb.data.toList = Pu.joinT acc → s'.data.toList = Pu.joinT (acc ++ [x])) (hiv : iv = (acc.length : Int) + 1 := by simp) :
    OrdInv w n v5 (.string s') (.int .i64 iv) w5 := by
  obtain ⟨t1, t2⟩ := Pu.take_out hk
  have hkl := (List.getElem?_eq_some_iff.1 hk).1
  have hlen5 : (lft.take k ++ lft.drop (k + 1)).length = k + (lft.length - (k + 1)) := by rw [List.length_append, List.length_take, List.length_drop]; omega
  have hown5' : w5.ownsRow w.heap.size 3 1 v5 (lft.take k ++ lft.drop (k + 1)).length (vals (lft.take k ++ lft.drop (k + 1))) := by
    rw [hlen5, show vals (lft.take k ++ lft.drop (k + 1)) = vals (lft.take k) ++ vals (lft.drop (k + 1)) by simp [vals]]
    exact hown5
  obtain ⟨la, lc', hv⟩ : ∃ la lc', v5 = .slice la (lft.take k ++ lft.drop (k + 1)).length lc' := by
    rcases hown5'.2 with ⟨h5, h6⟩ | ⟨g', cap', _, h5, _⟩
    · exact ⟨none, 0, by rw [h5, h6]⟩
    · exact ⟨_, _, h5⟩
  subst hv
  refine ⟨acc ++ [x], lft.take k ++ lft.drop (k + 1), s', la, lc', by rw [hiv]; simp, rfl, rfl, htx h1, hown5', t2 acc h2, by rw [List.length_append, List.length_singleton]; omega, fun m hm => h4 m ?_, hT5⟩
  rcases List.mem_append.1 hm with hm | hm
  · rcases List.mem_append.1 hm with hm | hm
    · simp [hm]
    · rw [List.mem_singleton] at hm; subst hm; simp [List.mem_of_getElem? hk]
  · rcases List.mem_append.1 hm with hm | hm
    · simp [List.mem_of_mem_take hm]
    · simp [List.mem_of_mem_drop hm]

set_option maxRecDepth 100000 in
set_option maxHeartbeats 2000000 in
theorem order_any (w : World) (n K cap : Nat) (ra : Option Addr) (raw : Nat → Int) (hn1 : 1 ≤ n) (hn : n ≤ 14) (hK : K ≤ 9223372036854775807) (hR : Nums w ra K raw) :
    Calls Tryd.prog 19 #[.int .i64 n, .slice ra K cap] w fun e w' => Turns (fun _ => False) w w' ∧ ∃ (s : ByteArray) (O : List Nat), e = .returned (.string s) ∧ Pu.Perm n O ∧ s.data.toList = Pu.joinT O := by
  obtain ⟨i0, hi, hz0, hz1, hz2⟩ := info_parts info3
  have HR : Hid (Nums w ra K raw) := hR
  clear hR
  go_enter Tryd.func19, Tryd.ntmps19
  go_wp2
  go_loopw [5, 6] (fun lv iv wr => ∃ (k : Nat) (v : Value), v = lv ∧ iv = .int .i64 k ∧ k ≤ n ∧ wr.ownsRow w.heap.size 3 1 v k (vals (List.range k)) ∧ Turns (fun _ => False) w wr) (fun _ iv _ => n - (intOf iv).toNat)
  case atStart => exact ⟨0, _, rfl, rfl, Nat.zero_le _, World.ownsRow_nil _ _ _ _, Turns.refl _ _⟩
  case round =>
    obtain ⟨k, v, hv, rfl, hk, hown, hT⟩ := hrel
    subst hv
    have hsz := hT.size
    by_cases hlt : k < n
    · go_wp2_with (at_builtin; refine wpList_append_own _ rfl _ _ 41 rfl w.heap.size 3 i0 (.int .i64 0) 1 8 Tryd.underlying41 hi hz0 hz1 hz2 rfl (by decide) _ _ _ rfl (hown.alloc _) ⟨wr.heap.size, 0, none⟩ 1 1 [.int .i64 (k : Int)] rfl rfl ?c1 ?c2 ?c3 ?c4 ?c5 ?_)
      case c1 => exact cell_one_new _ _ _
      case c2 => intro u hu; simp at hu; subst hu; rfl
      case c3 => unfold maxLen; omega
      case c4 => omega
      case c5 => simp; omega
      intro v' w3 hown3 hgrow _
      have hT3 : Turns (fun _ => False) w w3 := (hT.alloc _).grown hgrow (fun q hq => Or.inl (hown.lt q hq).1)
      rw [vals_range] at hown3
      have HX : Hid (∃ (k' : Nat) (v : Value), v = v' ∧ (Value.int .i64 ((k : Int) + 1)) = .int .i64 k' ∧ k' ≤ n ∧ w3.ownsRow w.heap.size 3 1 v k' (vals (List.range k')) ∧ Turns (fun _ => False) w w3) := ⟨k + 1, v', rfl, by go_num, by omega, hown3, hT3⟩
      clear hown3 hgrow hT3 hown hT
      go_wp2
      go_roundw
      case measure => simp [intOf]; omega
      case rel => exact HX.out
    · have hkn : k = n := by omega
      have HS : Hid (OrdInv w n v (.string ⟨#[]⟩) (.int .i64 0) wr) := by
        obtain ⟨la, lc, hv⟩ : ∃ la lc, v = .slice la (List.range k).length lc := by
          rcases hown.2 with ⟨h3, h4⟩ | ⟨g, cap, _, h3, _⟩
          · exact ⟨none, 0, by rw [h3, List.length_range, h4]⟩
          · exact ⟨_, _, by rw [h3, List.length_range]⟩
        subst hv
        refine ⟨[], List.range k, ⟨#[]⟩, la, lc, rfl, rfl, rfl, rfl, by simpa using hown, by simpa using List.nodup_range, by simp [hkn], fun m hm => by simp at hm; omega, hT⟩
      clear hown hT hkn
      have hki : ¬ (k : Int) < (n : Int) := by omega
      go_wp2
      go_loopw [5, 7, 8] (fun lv sv iv wr => OrdInv w n lv sv iv wr) (fun _ _ iv _ => n - (intOf iv).toNat)
      case atStart => exact HS.out
      case round =>
        clear HS
        obtain ⟨acc, lft, sb, la, lc, rfl, rfl, rfl, hsb, hown, hnd, hlen, hlt', hT⟩ := hrel
        have hsz := hT.size
        by_cases h0 : lft.length = 0
        · have HX : Hid (Turns (fun _ => False) w wr ∧ Pu.Perm n acc ∧ sb.data.toList = Pu.joinT acc) := by
            have hl : lft = [] := List.eq_nil_of_length_eq_zero h0
            subst hl
            exact ⟨hT, ⟨by simpa using hlen, by simpa using hnd, fun m hm => hlt' m (by simp [hm])⟩, hsb⟩
          have h0i : ¬ (0 : Int) < (lft.length : Int) := by omega
          clear hsb hown hnd hlen hlt' hT
          go_wp2
          go_ret
          exact ⟨HX.out.1, sb, rfl, acc, HX.out.2⟩
        · obtain ⟨g, lcap, hg, hgl, hgh⟩ := World.ownsRow.form hown (by omega)
          injection hg with e1 _ e2
          subst e1 e2
          have h0i : (0 : Int) < (lft.length : Int) := by omega
          have hlcap : lft.length ≤ lc := by
            rcases hown.2 with ⟨h', _⟩ | ⟨_, _, _, h', _, _, h'', _⟩
            · cases h'
            · injection h' with _ _ h3; omega
          have hl14 : lft.length ≤ 14 := by omega
          have hcells : ∀ (j x : Nat), lft[j]? = some x → wr.cell? ⟨g, j, none⟩ = some (.int .i64 (x : Int)) := fun j x hx => by
            have := (List.getElem?_eq_some_iff.1 hx).1
            rw [World.ownsRow.cellAt hown j (by omega)]; simp [vals, hx]
          have HINV : Hid (sb.data.toList = Pu.joinT acc ∧ (acc ++ lft).Nodup ∧ acc.length + lft.length = n ∧ (∀ m ∈ acc ++ lft, m < n) ∧ Turns (fun _ => False) w wr) := ⟨hsb, hnd, hlen, hlt', hT⟩
          have hsbl : sb.size ≤ 100 := by
            have h1 := Pu.joinT_len acc (fun m hm => by have := hlt' m (by simp [hm]); omega)
            rw [← hsb] at h1
            simp at h1; omega
          have hal : acc.length ≤ 14 := by omega
          have HCELLS : Hid (∀ (j x : Nat), lft[j]? = some x → wr.cell? ⟨g, j, none⟩ = some (.int .i64 (x : Int))) := hcells
          have hlt'' : ∀ (k x : Nat), lft[k]? = some x → x < n := fun k x hx => hlt' x (by simp [List.mem_of_getElem? hx])
          have haln : acc.length < n := by omega
          clear hsb hnd hlen hlt' hT hcells hown
          by_cases hr : acc.length < K
          · obtain ⟨⟨rb, ro, hra, hrl, hrc⟩, hbd⟩ := And.intro (HR.out.1 (by omega)) (HR.out.2 acc.length hr)
            subst hra
            have hrc' : wr.cell? ⟨rb, ro + acc.length, none⟩ = some (.int .i64 (raw acc.length)) := (HINV.out.2.2.2.2.cell (a := ⟨rb, ro + acc.length, none⟩) hrl (fun x => x)).trans (hrc acc.length hr)
            have hri : (acc.length : Int) < (K : Int) := by omega
            have hpk := Pu.pick_lt (raw acc.length) (n := lft.length) (by omega)
            have cp := pick_any (raw acc.length) lft.length wr hbd.1 hbd.2 (by omega) (by omega)
            generalize Pu.pick (raw acc.length) lft.length = kk at *
            clear hrc hbd
            obtain ⟨x, hx⟩ : ∃ x, lft[kk]? = some x := ⟨_, List.getElem?_eq_getElem hpk⟩
            have hxn := hlt'' kk x hx
            have HXK : Hid (lft[kk]? = some x) := hx
            have hkki : (kk : Int) < (lft.length : Int) := by omega
            have hkc : (kk : Int) ≤ (lc : Int) := by omega
            have hk1 : (kk : Int) + 1 ≤ (lft.length : Int) := by omega
            have HLC : Hid (lft.length ≤ lc ∧ kk < lft.length ∧ acc.length < n) := ⟨hlcap, hpk, haln⟩
            clear hx hlt''
            by_cases hac : acc.length = 0
            · obtain rfl : acc = [] := List.eq_nil_of_length_eq_zero hac
              simp only [List.length_nil, Nat.add_zero] at hrc' cp hri hr hal ⊢
              have hri' : (0 : Int) < (K : Int) := by omega
              clear hac
              obtain ⟨DX, HDX, lDX, cd⟩ := dec_lit x (by omega)
              have hcx := HCELLS.out kk x HXK.out
              have b1 : (9223372036854775807 < sb.size + 1) = False := by simp; omega
              have b2 : (9223372036854775807 < sb.size + DX.size) = False := by simp; omega
              have b3 : (9223372036854775807 < sb.size + 1 + DX.size) = False := by simp; omega
              go_wp2_with (go_at_call 15; refine cp.mono ?_; rintro e w1 ⟨rfl, hw1⟩; subst w1)
              refine (cd.out _).mono ?_
              rintro e w3 ⟨rfl, hT3⟩
              have hs3 := hT3.size
              have hC3 : Hid (∀ (j x : Nat), lft[j]? = some x → w3.cell? ⟨g, j, none⟩ = some (.int .i64 (x : Int))) := fun j x hx => (hT3.cell (a := ⟨g, j, none⟩) hgh (fun x => x)).trans (HCELLS.out j x hx)
              have HT3 : Hid (Turns (fun _ => False) w w3) := HINV.out.2.2.2.2.trans hT3
              clear cd hT3 hcx
              go_wp2_with (at_builtin; refine wpList_append_own_at _ rfl _ _ 41 rfl w.heap.size 3 i0 (.int .i64 0) 1 8 Tryd.underlying41 hi hz0 hz1 hz2 rfl (by decide) _ 0 [] rfl (World.ownsRow_nil _ _ _ _) ⟨g, 0, none⟩ kk lc (vals (lft.take kk)) rfl ?c0X1 ?c1X1 ?c2X1 ?c3X1 ?c4X1 ?c5X1 ?_)
              case c0X1 => first | (rw [vals_length, List.length_take]; omega) | simp [vals]
              case c1X1 =>
                intro j y hy
                rw [vals, List.getElem?_map] at hy
                have hadd : (⟨g, 0, none⟩ : Addr).add j = ⟨g, j, none⟩ := by unfold Addr.add; split <;> simp_all
                rw [hadd]
                cases hj : (lft.take kk)[j]? with
                | none => rw [hj] at hy; simp at hy
                | some m =>
                  rw [hj] at hy
                  simp at hy
                  subst hy
                  have hjl := (List.getElem?_eq_some_iff.1 hj).1
                  rw [List.length_take] at hjl
                  rw [List.getElem?_take_of_lt (by omega)] at hj
                  exact hC3.out j m hj
              case c2X1 => intro y hy; rw [vals, List.mem_map] at hy; obtain ⟨m, _, rfl⟩ := hy; rfl
              case c3X1 => unfold maxLen; omega
              case c4X1 => omega
              case c5X1 => omega
              intro v4 w4 hown4 hgrow4 _ _
              have hT4 : Turns (fun _ => False) w3 w4 := (Turns.refl _ _).grown hgrow4 (fun q hq => by cases hq)
              have hs4 := hT4.size
              have hC4 : Hid (∀ (j x : Nat), lft[j]? = some x → w4.cell? ⟨g, j, none⟩ = some (.int .i64 (x : Int))) := fun j x hx => (hT4.cell (a := ⟨g, j, none⟩) (by show g < w3.heap.size; omega) (fun x => x)).trans (hC3.out j x hx)
              have HT4 : Hid (Turns (fun _ => False) w w4) := HT3.out.trans hT4
              have hown4' : w4.ownsRow w.heap.size 3 1 v4 kk (vals (lft.take kk)) := by simpa [vals] using hown4
              clear hown4 hgrow4 hT4 hC3 HT3
              rcases Nat.lt_or_ge (kk + 1) lc with hcz | hcz
              · have hlcx := HLC.out
                have hcz1 : (lc - (kk + 1) = 0) = False := by simp; omega
                have hcz2 : ¬ lc ≤ kk + 1 := by omega
                go_wp2_with (at_builtin; refine wpList_append_own_at _ rfl _ _ 41 rfl w.heap.size 3 i0 (.int .i64 0) 1 8 Tryd.underlying41 hi hz0 hz1 hz2 rfl (by decide) _ _ _ rfl hown4' ⟨g, kk + 1, none⟩ (lft.length - (kk + 1)) (lc - (kk + 1)) (vals (lft.drop (kk + 1))) rfl ?d0X2 ?d1X2 ?d2X2 ?d3X2 ?d4X2 ?d5X2 ?_)
                case d0X2 => rw [vals_length, List.length_drop]; omega
                case d1X2 =>
                  intro j y hy
                  rw [vals, List.getElem?_map, List.getElem?_drop] at hy
                  have hadd : (⟨g, kk + 1, none⟩ : Addr).add j = ⟨g, kk + 1 + j, none⟩ := by unfold Addr.add; split <;> simp_all
                  rw [hadd]
                  cases hj : lft[kk + 1 + j]? with
                  | none => rw [hj] at hy; simp at hy
                  | some m =>
                    rw [hj] at hy
                    simp at hy
                    subst hy
                    exact hC4.out _ m hj
                case d2X2 => intro y hy; rw [vals, List.mem_map] at hy; obtain ⟨m, _, rfl⟩ := hy; rfl
                case d3X2 => unfold maxLen; omega
                case d4X2 => omega
                case d5X2 => omega
                intro v5 w5 hown5 hgrow5 _ _
                have hT5 : Turns (fun _ => False) w w5 := HT4.out.grown hgrow5 (fun q hq => by first | exact Or.inl (hown4'.lt q hq).1 | cases hq)
                have HX : Hid (OrdInv w n v5 (.string (sb ++ DX)) (.int .i64 1) w5) := ord_step HINV.out.1 HINV.out.2.1 HINV.out.2.2.1 HINV.out.2.2.2.1 HXK.out (by first | exact hown5 | simpa [vals] using hown5 | (rw [show lft.length - (kk + 1) = 0 by omega]; simpa [vals] using hown5)) hT5 (ord_txt1 HDX.out)
                clear hown5 hgrow5 hT5 hown4' hC4 HT4 HINV HXK HDX HCELLS
                go_wp2
                go_roundw
                case measure => simp [intOf]; have := HLC.out; first | omega | (simp at this; omega)
                case rel => exact HX.out
              · have hlcx := HLC.out
                have hcz1 : lc = kk + 1 := by omega
                have hcz2 : lft.length = kk + 1 := by omega
                subst hcz1
                go_wp2_with (at_builtin; refine wpList_append_own_at _ rfl _ _ 41 rfl w.heap.size 3 i0 (.int .i64 0) 1 8 Tryd.underlying41 hi hz0 hz1 hz2 rfl (by decide) _ _ _ rfl hown4' ⟨g, 0, none⟩ 0 0 (vals (lft.drop (kk + 1))) rfl ?d0X3 ?d1X3 ?d2X3 ?d3X3 ?d4X3 ?d5X3 ?_)
                case d0X3 => rw [vals_length, List.length_drop]; omega
                case d1X3 =>
                  intro j y hy
                  rw [vals, List.getElem?_map, List.getElem?_drop, List.getElem?_eq_none (by omega)] at hy
                  simp at hy
                case d2X3 => intro y hy; rw [vals, List.mem_map] at hy; obtain ⟨m, _, rfl⟩ := hy; rfl
                case d3X3 => unfold maxLen; omega
                case d4X3 => omega
                case d5X3 => omega
                intro v5 w5 hown5 hgrow5 _ _
                have hT5 : Turns (fun _ => False) w w5 := HT4.out.grown hgrow5 (fun q hq => by first | exact Or.inl (hown4'.lt q hq).1 | cases hq)
                have HX : Hid (OrdInv w n v5 (.string (sb ++ DX)) (.int .i64 1) w5) := ord_step HINV.out.1 HINV.out.2.1 HINV.out.2.2.1 HINV.out.2.2.2.1 HXK.out (by first | exact hown5 | simpa [vals] using hown5 | (rw [show lft.length - (kk + 1) = 0 by omega]; simpa [vals] using hown5)) hT5 (ord_txt1 HDX.out)
                clear hown5 hgrow5 hT5 hown4' hC4 HT4 HINV HXK HDX HCELLS
                go_wp2
                go_roundw
                case measure => simp [intOf]; have := HLC.out; first | omega | (simp at this; omega)
                case rel => exact HX.out
            · have hai : (0 : Int) < (acc.length : Int) := by omega
              clear hac
              obtain ⟨DX, HDX, lDX, cd⟩ := dec_lit x (by omega)
              have hcx := HCELLS.out kk x HXK.out
              have b1 : (9223372036854775807 < sb.size + 1) = False := by simp; omega
              have b2 : (9223372036854775807 < sb.size + DX.size) = False := by simp; omega
              have b3 : (9223372036854775807 < sb.size + 1 + DX.size) = False := by simp; omega
              go_wp2_with (go_at_call 15; refine cp.mono ?_; rintro e w1 ⟨rfl, hw1⟩; subst w1)
              refine (cd.out _).mono ?_
              rintro e w3 ⟨rfl, hT3⟩
              have hs3 := hT3.size
              have hC3 : Hid (∀ (j x : Nat), lft[j]? = some x → w3.cell? ⟨g, j, none⟩ = some (.int .i64 (x : Int))) := fun j x hx => (hT3.cell (a := ⟨g, j, none⟩) hgh (fun x => x)).trans (HCELLS.out j x hx)
              have HT3 : Hid (Turns (fun _ => False) w w3) := HINV.out.2.2.2.2.trans hT3
              clear cd hT3 hcx
              go_wp2_with (at_builtin; refine wpList_append_own_at _ rfl _ _ 41 rfl w.heap.size 3 i0 (.int .i64 0) 1 8 Tryd.underlying41 hi hz0 hz1 hz2 rfl (by decide) _ 0 [] rfl (World.ownsRow_nil _ _ _ _) ⟨g, 0, none⟩ kk lc (vals (lft.take kk)) rfl ?c0X4 ?c1X4 ?c2X4 ?c3X4 ?c4X4 ?c5X4 ?_)
              case c0X4 => first | (rw [vals_length, List.length_take]; omega) | simp [vals]
              case c1X4 =>
                intro j y hy
                rw [vals, List.getElem?_map] at hy
                have hadd : (⟨g, 0, none⟩ : Addr).add j = ⟨g, j, none⟩ := by unfold Addr.add; split <;> simp_all
                rw [hadd]
                cases hj : (lft.take kk)[j]? with
                | none => rw [hj] at hy; simp at hy
                | some m =>
                  rw [hj] at hy
                  simp at hy
                  subst hy
                  have hjl := (List.getElem?_eq_some_iff.1 hj).1
                  rw [List.length_take] at hjl
                  rw [List.getElem?_take_of_lt (by omega)] at hj
                  exact hC3.out j m hj
              case c2X4 => intro y hy; rw [vals, List.mem_map] at hy; obtain ⟨m, _, rfl⟩ := hy; rfl
              case c3X4 => unfold maxLen; omega
              case c4X4 => omega
              case c5X4 => omega
              intro v4 w4 hown4 hgrow4 _ _
              have hT4 : Turns (fun _ => False) w3 w4 := (Turns.refl _ _).grown hgrow4 (fun q hq => by cases hq)
              have hs4 := hT4.size
              have hC4 : Hid (∀ (j x : Nat), lft[j]? = some x → w4.cell? ⟨g, j, none⟩ = some (.int .i64 (x : Int))) := fun j x hx => (hT4.cell (a := ⟨g, j, none⟩) (by show g < w3.heap.size; omega) (fun x => x)).trans (hC3.out j x hx)
              have HT4 : Hid (Turns (fun _ => False) w w4) := HT3.out.trans hT4
              have hown4' : w4.ownsRow w.heap.size 3 1 v4 kk (vals (lft.take kk)) := by simpa [vals] using hown4
              clear hown4 hgrow4 hT4 hC3 HT3
              rcases Nat.lt_or_ge (kk + 1) lc with hcz | hcz
              · have hlcx := HLC.out
                have hcz1 : (lc - (kk + 1) = 0) = False := by simp; omega
                have hcz2 : ¬ lc ≤ kk + 1 := by omega
                go_wp2_with (at_builtin; refine wpList_append_own_at _ rfl _ _ 41 rfl w.heap.size 3 i0 (.int .i64 0) 1 8 Tryd.underlying41 hi hz0 hz1 hz2 rfl (by decide) _ _ _ rfl hown4' ⟨g, kk + 1, none⟩ (lft.length - (kk + 1)) (lc - (kk + 1)) (vals (lft.drop (kk + 1))) rfl ?d0X5 ?d1X5 ?d2X5 ?d3X5 ?d4X5 ?d5X5 ?_)
                case d0X5 => rw [vals_length, List.length_drop]; omega
                case d1X5 =>
                  intro j y hy
                  rw [vals, List.getElem?_map, List.getElem?_drop] at hy
                  have hadd : (⟨g, kk + 1, none⟩ : Addr).add j = ⟨g, kk + 1 + j, none⟩ := by unfold Addr.add; split <;> simp_all
                  rw [hadd]
                  cases hj : lft[kk + 1 + j]? with
                  | none => rw [hj] at hy; simp at hy
                  | some m =>
                    rw [hj] at hy
                    simp at hy
                    subst hy
                    exact hC4.out _ m hj
                case d2X5 => intro y hy; rw [vals, List.mem_map] at hy; obtain ⟨m, _, rfl⟩ := hy; rfl
                case d3X5 => unfold maxLen; omega
                case d4X5 => omega
                case d5X5 => omega
                intro v5 w5 hown5 hgrow5 _ _
                have hT5 : Turns (fun _ => False) w w5 := HT4.out.grown hgrow5 (fun q hq => by first | exact Or.inl (hown4'.lt q hq).1 | cases hq)
                have HX : Hid (OrdInv w n v5 (.string ((sb ++ ⟨#[32]⟩) ++ DX)) (.int .i64 ((acc.length : Int) + 1)) w5) := ord_step HINV.out.1 HINV.out.2.1 HINV.out.2.2.1 HINV.out.2.2.2.1 HXK.out (by first | exact hown5 | simpa [vals] using hown5 | (rw [show lft.length - (kk + 1) = 0 by omega]; simpa [vals] using hown5)) hT5 (ord_txt2 HINV.out.1 HDX.out (by intro c; rw [c] at hai; simp at hai))
                clear hown5 hgrow5 hT5 hown4' hC4 HT4 HINV HXK HDX HCELLS
                go_wp2
                go_roundw
                case measure => simp [intOf]; have := HLC.out; first | omega | (simp at this; omega)
                case rel => exact HX.out
              · have hlcx := HLC.out
                have hcz1 : lc = kk + 1 := by omega
                have hcz2 : lft.length = kk + 1 := by omega
                subst hcz1
                go_wp2_with (at_builtin; refine wpList_append_own_at _ rfl _ _ 41 rfl w.heap.size 3 i0 (.int .i64 0) 1 8 Tryd.underlying41 hi hz0 hz1 hz2 rfl (by decide) _ _ _ rfl hown4' ⟨g, 0, none⟩ 0 0 (vals (lft.drop (kk + 1))) rfl ?d0X6 ?d1X6 ?d2X6 ?d3X6 ?d4X6 ?d5X6 ?_)
                case d0X6 => rw [vals_length, List.length_drop]; omega
                case d1X6 =>
                  intro j y hy
                  rw [vals, List.getElem?_map, List.getElem?_drop, List.getElem?_eq_none (by omega)] at hy
                  simp at hy
                case d2X6 => intro y hy; rw [vals, List.mem_map] at hy; obtain ⟨m, _, rfl⟩ := hy; rfl
                case d3X6 => unfold maxLen; omega
                case d4X6 => omega
                case d5X6 => omega
                intro v5 w5 hown5 hgrow5 _ _
                have hT5 : Turns (fun _ => False) w w5 := HT4.out.grown hgrow5 (fun q hq => by first | exact Or.inl (hown4'.lt q hq).1 | cases hq)
                have HX : Hid (OrdInv w n v5 (.string ((sb ++ ⟨#[32]⟩) ++ DX)) (.int .i64 ((acc.length : Int) + 1)) w5) := ord_step HINV.out.1 HINV.out.2.1 HINV.out.2.2.1 HINV.out.2.2.2.1 HXK.out (by first | exact hown5 | simpa [vals] using hown5 | (rw [show lft.length - (kk + 1) = 0 by omega]; simpa [vals] using hown5)) hT5 (ord_txt2 HINV.out.1 HDX.out (by intro c; rw [c] at hai; simp at hai))
                clear hown5 hgrow5 hT5 hown4' hC4 HT4 HINV HXK HDX HCELLS
                go_wp2
                go_roundw
                case measure => simp [intOf]; have := HLC.out; first | omega | (simp at this; omega)
                case rel => exact HX.out
          · have hri : ¬ (acc.length : Int) < (K : Int) := by omega
            obtain ⟨x, hx⟩ : ∃ x, lft[0]? = some x := ⟨_, List.getElem?_eq_getElem (by omega)⟩
            have hxn := hlt'' 0 x hx
            have HXK : Hid (lft[0]? = some x) := hx
            clear hx hlt''
            have hk1 : (1 : Int) ≤ (lft.length : Int) := by omega
            have HLC : Hid (lft.length ≤ lc ∧ 0 < lft.length ∧ acc.length < n) := ⟨hlcap, by omega, haln⟩
            by_cases hac : acc.length = 0
            · obtain rfl : acc = [] := List.eq_nil_of_length_eq_zero hac
              simp only [List.length_nil] at hri hr hal ⊢
              have hri' : ¬ (0 : Int) < (K : Int) := by omega
              clear hac
              obtain ⟨DX, HDX, lDX, cd⟩ := dec_lit x (by omega)
              have hcx := HCELLS.out 0 x HXK.out
              have b1 : (9223372036854775807 < sb.size + 1) = False := by simp; omega
              have b2 : (9223372036854775807 < sb.size + DX.size) = False := by simp; omega
              have b3 : (9223372036854775807 < sb.size + 1 + DX.size) = False := by simp; omega
              go_wp2_with fail
              refine (cd.out _).mono ?_
              rintro e w3 ⟨rfl, hT3⟩
              have hs3 := hT3.size
              have hC3 : Hid (∀ (j x : Nat), lft[j]? = some x → w3.cell? ⟨g, j, none⟩ = some (.int .i64 (x : Int))) := fun j x hx => (hT3.cell (a := ⟨g, j, none⟩) hgh (fun x => x)).trans (HCELLS.out j x hx)
              have HT3 : Hid (Turns (fun _ => False) w w3) := HINV.out.2.2.2.2.trans hT3
              clear cd hT3 hcx
              go_wp2_with (at_builtin; refine wpList_append_own_at _ rfl _ _ 41 rfl w.heap.size 3 i0 (.int .i64 0) 1 8 Tryd.underlying41 hi hz0 hz1 hz2 rfl (by decide) _ 0 [] rfl (World.ownsRow_nil _ _ _ _) ⟨g, 0, none⟩ 0 lc (vals (lft.take 0)) rfl ?c0X7 ?c1X7 ?c2X7 ?c3X7 ?c4X7 ?c5X7 ?_)
              case c0X7 => first | (rw [vals_length, List.length_take]; omega) | simp [vals]
              case c1X7 =>
                intro j y hy
                rw [vals, List.getElem?_map] at hy
                have hadd : (⟨g, 0, none⟩ : Addr).add j = ⟨g, j, none⟩ := by unfold Addr.add; split <;> simp_all
                rw [hadd]
                cases hj : (lft.take 0)[j]? with
                | none => rw [hj] at hy; simp at hy
                | some m =>
                  rw [hj] at hy
                  simp at hy
                  subst hy
                  have hjl := (List.getElem?_eq_some_iff.1 hj).1
                  rw [List.length_take] at hjl
                  rw [List.getElem?_take_of_lt (by omega)] at hj
                  exact hC3.out j m hj
              case c2X7 => intro y hy; rw [vals, List.mem_map] at hy; obtain ⟨m, _, rfl⟩ := hy; rfl
              case c3X7 => unfold maxLen; omega
              case c4X7 => omega
              case c5X7 => omega
              intro v4 w4 hown4 hgrow4 _ _
              have hT4 : Turns (fun _ => False) w3 w4 := (Turns.refl _ _).grown hgrow4 (fun q hq => by cases hq)
              have hs4 := hT4.size
              have hC4 : Hid (∀ (j x : Nat), lft[j]? = some x → w4.cell? ⟨g, j, none⟩ = some (.int .i64 (x : Int))) := fun j x hx => (hT4.cell (a := ⟨g, j, none⟩) (by show g < w3.heap.size; omega) (fun x => x)).trans (hC3.out j x hx)
              have HT4 : Hid (Turns (fun _ => False) w w4) := HT3.out.trans hT4
              have hown4' : w4.ownsRow w.heap.size 3 1 v4 0 (vals (lft.take 0)) := by simpa [vals] using hown4
              clear hown4 hgrow4 hT4 hC3 HT3
              rcases Nat.lt_or_ge (0 + 1) lc with hcz | hcz
              · have hlcx := HLC.out
                have hcz1 : (lc - (0 + 1) = 0) = False := by simp; omega
                have hcz2 : ¬ lc ≤ 0 + 1 := by omega
                go_wp2_with (at_builtin; refine wpList_append_own_at _ rfl _ _ 41 rfl w.heap.size 3 i0 (.int .i64 0) 1 8 Tryd.underlying41 hi hz0 hz1 hz2 rfl (by decide) _ _ _ rfl hown4' ⟨g, 0 + 1, none⟩ (lft.length - (0 + 1)) (lc - (0 + 1)) (vals (lft.drop (0 + 1))) rfl ?d0X8 ?d1X8 ?d2X8 ?d3X8 ?d4X8 ?d5X8 ?_)
                case d0X8 => rw [vals_length, List.length_drop]; omega
                case d1X8 =>
                  intro j y hy
                  rw [vals, List.getElem?_map, List.getElem?_drop] at hy
                  have hadd : (⟨g, 0 + 1, none⟩ : Addr).add j = ⟨g, 0 + 1 + j, none⟩ := by unfold Addr.add; split <;> simp_all
                  rw [hadd]
                  cases hj : lft[0 + 1 + j]? with
                  | none => rw [hj] at hy; simp at hy
                  | some m =>
                    rw [hj] at hy
                    simp at hy
                    subst hy
                    exact hC4.out _ m hj
                case d2X8 => intro y hy; rw [vals, List.mem_map] at hy; obtain ⟨m, _, rfl⟩ := hy; rfl
                case d3X8 => unfold maxLen; omega
                case d4X8 => omega
                case d5X8 => omega
                intro v5 w5 hown5 hgrow5 _ _
                have hT5 : Turns (fun _ => False) w w5 := HT4.out.grown hgrow5 (fun q hq => by first | exact Or.inl (hown4'.lt q hq).1 | cases hq)
                have HX : Hid (OrdInv w n v5 (.string (sb ++ DX)) (.int .i64 1) w5) := ord_step HINV.out.1 HINV.out.2.1 HINV.out.2.2.1 HINV.out.2.2.2.1 HXK.out (by first | exact hown5 | simpa [vals] using hown5 | (rw [show lft.length - (0 + 1) = 0 by omega]; simpa [vals] using hown5)) hT5 (ord_txt1 HDX.out)
                clear hown5 hgrow5 hT5 hown4' hC4 HT4 HINV HXK HDX HCELLS
                go_wp2
                go_roundw
                case measure => simp [intOf]; have := HLC.out; first | omega | (simp at this; omega)
                case rel => exact HX.out
              · have hlcx := HLC.out
                have hcz1 : lc = 0 + 1 := by omega
                have hcz2 : lft.length = 0 + 1 := by omega
                subst hcz1
                have HX : Hid (OrdInv w n (.slice none 0 0) (.string (sb ++ DX)) (.int .i64 1) w4) := ord_step HINV.out.1 HINV.out.2.1 HINV.out.2.2.1 HINV.out.2.2.2.1 HXK.out (by rw [List.drop_eq_nil_of_le (by omega), hcz2]; exact World.ownsRow_nil _ _ _ _) HT4.out (ord_txt1 HDX.out)
                clear hown4' hC4 HT4 HINV HXK HDX HCELLS
                go_wp2
                go_roundw
                case measure => simp [intOf]; have := HLC.out; first | omega | (simp at this; omega)
                case rel => exact HX.out
            · have hai : (0 : Int) < (acc.length : Int) := by omega
              clear hac
              obtain ⟨DX, HDX, lDX, cd⟩ := dec_lit x (by omega)
              have hcx := HCELLS.out 0 x HXK.out
              have b1 : (9223372036854775807 < sb.size + 1) = False := by simp; omega
              have b2 : (9223372036854775807 < sb.size + DX.size) = False := by simp; omega
              have b3 : (9223372036854775807 < sb.size + 1 + DX.size) = False := by simp; omega
              go_wp2_with fail
              refine (cd.out _).mono ?_
              rintro e w3 ⟨rfl, hT3⟩
              have hs3 := hT3.size
              have hC3 : Hid (∀ (j x : Nat), lft[j]? = some x → w3.cell? ⟨g, j, none⟩ = some (.int .i64 (x : Int))) := fun j x hx => (hT3.cell (a := ⟨g, j, none⟩) hgh (fun x => x)).trans (HCELLS.out j x hx)
              have HT3 : Hid (Turns (fun _ => False) w w3) := HINV.out.2.2.2.2.trans hT3
              clear cd hT3 hcx
              go_wp2_with (at_builtin; refine wpList_append_own_at _ rfl _ _ 41 rfl w.heap.size 3 i0 (.int .i64 0) 1 8 Tryd.underlying41 hi hz0 hz1 hz2 rfl (by decide) _ 0 [] rfl (World.ownsRow_nil _ _ _ _) ⟨g, 0, none⟩ 0 lc (vals (lft.take 0)) rfl ?c0X9 ?c1X9 ?c2X9 ?c3X9 ?c4X9 ?c5X9 ?_)
              case c0X9 => first | (rw [vals_length, List.length_take]; omega) | simp [vals]
              case c1X9 =>
                intro j y hy
                rw [vals, List.getElem?_map] at hy
                have hadd : (⟨g, 0, none⟩ : Addr).add j = ⟨g, j, none⟩ := by unfold Addr.add; split <;> simp_all
                rw [hadd]
                cases hj : (lft.take 0)[j]? with
                | none => rw [hj] at hy; simp at hy
                | some m =>
                  rw [hj] at hy
                  simp at hy
                  subst hy
                  have hjl := (List.getElem?_eq_some_iff.1 hj).1
                  rw [List.length_take] at hjl
                  rw [List.getElem?_take_of_lt (by omega)] at hj
                  exact hC3.out j m hj
              case c2X9 => intro y hy; rw [vals, List.mem_map] at hy; obtain ⟨m, _, rfl⟩ := hy; rfl
              case c3X9 => unfold maxLen; omega
              case c4X9 => omega
              case c5X9 => omega
              intro v4 w4 hown4 hgrow4 _ _
              have hT4 : Turns (fun _ => False) w3 w4 := (Turns.refl _ _).grown hgrow4 (fun q hq => by cases hq)
              have hs4 := hT4.size
              have hC4 : Hid (∀ (j x : Nat), lft[j]? = some x → w4.cell? ⟨g, j, none⟩ = some (.int .i64 (x : Int))) := fun j x hx => (hT4.cell (a := ⟨g, j, none⟩) (by show g < w3.heap.size; omega) (fun x => x)).trans (hC3.out j x hx)
              have HT4 : Hid (Turns (fun _ => False) w w4) := HT3.out.trans hT4
              have hown4' : w4.ownsRow w.heap.size 3 1 v4 0 (vals (lft.take 0)) := by simpa [vals] using hown4
              clear hown4 hgrow4 hT4 hC3 HT3
              rcases Nat.lt_or_ge (0 + 1) lc with hcz | hcz
              · have hlcx := HLC.out
                have hcz1 : (lc - (0 + 1) = 0) = False := by simp; omega
                have hcz2 : ¬ lc ≤ 0 + 1 := by omega
                go_wp2_with (at_builtin; refine wpList_append_own_at _ rfl _ _ 41 rfl w.heap.size 3 i0 (.int .i64 0) 1 8 Tryd.underlying41 hi hz0 hz1 hz2 rfl (by decide) _ _ _ rfl hown4' ⟨g, 0 + 1, none⟩ (lft.length - (0 + 1)) (lc - (0 + 1)) (vals (lft.drop (0 + 1))) rfl ?d0X10 ?d1X10 ?d2X10 ?d3X10 ?d4X10 ?d5X10 ?_)
                case d0X10 => rw [vals_length, List.length_drop]; omega
                case d1X10 =>
                  intro j y hy
                  rw [vals, List.getElem?_map, List.getElem?_drop] at hy
                  have hadd : (⟨g, 0 + 1, none⟩ : Addr).add j = ⟨g, 0 + 1 + j, none⟩ := by unfold Addr.add; split <;> simp_all
                  rw [hadd]
                  cases hj : lft[0 + 1 + j]? with
                  | none => rw [hj] at hy; simp at hy
                  | some m =>
                    rw [hj] at hy
                    simp at hy
                    subst hy
                    exact hC4.out _ m hj
                case d2X10 => intro y hy; rw [vals, List.mem_map] at hy; obtain ⟨m, _, rfl⟩ := hy; rfl
                case d3X10 => unfold maxLen; omega
                case d4X10 => omega
                case d5X10 => omega
                intro v5 w5 hown5 hgrow5 _ _
                have hT5 : Turns (fun _ => False) w w5 := HT4.out.grown hgrow5 (fun q hq => by first | exact Or.inl (hown4'.lt q hq).1 | cases hq)
                have HX : Hid (OrdInv w n v5 (.string ((sb ++ ⟨#[32]⟩) ++ DX)) (.int .i64 ((acc.length : Int) + 1)) w5) := ord_step HINV.out.1 HINV.out.2.1 HINV.out.2.2.1 HINV.out.2.2.2.1 HXK.out (by first | exact hown5 | simpa [vals] using hown5 | (rw [show lft.length - (0 + 1) = 0 by omega]; simpa [vals] using hown5)) hT5 (ord_txt2 HINV.out.1 HDX.out (by intro c; rw [c] at hai; simp at hai))
                clear hown5 hgrow5 hT5 hown4' hC4 HT4 HINV HXK HDX HCELLS
                go_wp2
                go_roundw
                case measure => simp [intOf]; have := HLC.out; first | omega | (simp at this; omega)
                case rel => exact HX.out
              · have hlcx := HLC.out
                have hcz1 : lc = 0 + 1 := by omega
                have hcz2 : lft.length = 0 + 1 := by omega
                subst hcz1
                have HX : Hid (OrdInv w n (.slice none 0 0) (.string ((sb ++ ⟨#[32]⟩) ++ DX)) (.int .i64 ((acc.length : Int) + 1)) w4) := ord_step HINV.out.1 HINV.out.2.1 HINV.out.2.2.1 HINV.out.2.2.2.1 HXK.out (by rw [List.drop_eq_nil_of_le (by omega), hcz2]; exact World.ownsRow_nil _ _ _ _) HT4.out (ord_txt2 HINV.out.1 HDX.out (by intro c; rw [c] at hai; simp at hai))
                clear hown4' hC4 HT4 HINV HXK HDX HCELLS
                go_wp2
                go_roundw
                case measure => simp [intOf]; have := HLC.out; first | omega | (simp at this; omega)
                case rel => exact HX.out
#print axioms order_any
end Go.Proofs.YtdogncjcainhlaaDoor
