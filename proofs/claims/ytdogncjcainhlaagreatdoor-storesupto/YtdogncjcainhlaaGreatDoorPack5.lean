/- Pack5: texts of one proof, one behind the other. -/
import Derived.Test.YtdogncjcainhlaaGreatDoorPack4
import Derived.Deep.Cut
import Derived.Deep.CutRange
import Derived.Deep.RegionWith
import Derived.BigRegion
import Derived.Deep.QuietTactic
import Derived.BigQuiet
import Derived.Deep.RegionHeld3
import Derived.Deep.RegionLaw
import Derived.Lib.SliceRun
import Derived.Test.YtdogncjcainhlaaGreatDoorPlain
/- The walk of records.isLabelOf. -/
namespace Go.Proofs.YtdogncjcainhlaaGreatDoor
open Go.RowKit Go.Deep
open Mem

/-- The hubs that lie behind a slice. -/
def HubAt (w : World) (a : Option Addr) (L : List (Nat × Int)) : Prop := ∀ (i r : Nat) (f : Int), L[i]? = some (r, f) → ∃ g, a = some ⟨g, 0, none⟩ ∧ w.cell? ⟨g, i * 2, none⟩ = some (.int .i64 (r : Int)) ∧ w.cell? ⟨g, i * 2 + 1, none⟩ = some (.int .i64 f)
theorem hubV_len : ∀ (l : List (Nat × Int)), (hubV l).length = l.length * 2
  | [] => rfl
  | (r, f) :: t => by
    have := hubV_len t
    show (_ :: _ :: hubV t).length = _
    simp only [List.length_cons]
    omega
theorem hubV_get : ∀ (l : List (Nat × Int)) (i r : Nat) (f : Int), l[i]? = some (r, f) → (hubV l)[i * 2]? = some (.int .i64 (r : Int)) ∧ (hubV l)[i * 2 + 1]? = some (.int .i64 f)
  | [], _, _, _, h => by simp at h
  | (a, b) :: t, 0, r, f, h => by
    simp only [List.getElem?_cons_zero, Option.some.injEq, Prod.mk.injEq] at h
    obtain ⟨rfl, rfl⟩ := h
    exact ⟨rfl, rfl⟩
  | (a, b) :: t, i + 1, r, f, h => by
    rw [List.getElem?_cons_succ] at h
    obtain ⟨h1, h2⟩ := hubV_get t i r f h
    show (_ :: _ :: hubV t)[(i + 1) * 2]? = _ ∧ (_ :: _ :: hubV t)[(i + 1) * 2 + 1]? = _
    rw [show (i + 1) * 2 = i * 2 + 1 + 1 by omega, List.getElem?_cons_succ, List.getElem?_cons_succ, List.getElem?_cons_succ, List.getElem?_cons_succ]
    exact ⟨h1, h2⟩
theorem hubAt_own {w : World} {base : Nat} {v : Value} {L : List (Nat × Int)} (h : w.ownsRow base 131 2 v L.length (hubV L)) : ∃ a c, v = .slice a L.length c ∧ HubAt w a L := by
  rcases h.2 with ⟨h1, h2⟩ | ⟨g, cap, _, h1, _⟩
  · refine ⟨none, 0, by rw [h1, h2], fun i r f hi => ?_⟩
    have := (List.getElem?_eq_some_iff.1 hi).1
    omega
  · refine ⟨some ⟨g, 0, none⟩, cap, h1, fun i r f hi => ?_⟩
    subst h1
    have hil := (List.getElem?_eq_some_iff.1 hi).1
    obtain ⟨r1, r2⟩ := hubV_get _ i r f hi
    exact ⟨g, rfl, by rw [h.cellAt _ (by omega)]; exact r1, by rw [h.cellAt _ (by omega)]; exact r2⟩
theorem HubAt.turns {w w' : World} {a : Option Addr} {L : List (Nat × Int)} (h : HubAt w a L) (t : Turns (fun _ => False) w w') : HubAt w' a L := by
  intro i r f hi
  obtain ⟨g, h0, h1, h2⟩ := h i r f hi
  exact ⟨g, h0, (t.cell (World.block_lt_of_cell? _ _ h1) (fun x => x)).trans h1, (t.cell (World.block_lt_of_cell? _ _ h2) (fun x => x)).trans h2⟩
namespace Pu
/-- Whether hubs are a label of a place: the last one is the place itself, the others are as far as may be. -/
def isLab (v : Nat) (O : List Nat) (H : List (Nat × Int)) : Bool := match H.getLast? with
  | none => false
  | some (r, f) => decide (O[r]? = some v) && decide (f = 0) && H.dropLast.all fun x => decide (1 ≤ x.2) && decide (x.2 ≤ 39000)
end Pu

theorem Pu.isLab_snoc (v : Nat) (O : List Nat) (H : List (Nat × Int)) (r : Nat) (f : Int) : Pu.isLab v O (H ++ [(r, f)]) = (decide (O[r]? = some v) && decide (f = 0) && H.all fun x => decide (1 ≤ x.2) && decide (x.2 ≤ 39000)) := by
  unfold Pu.isLab
  rw [List.getLast?_append, List.getLast?_singleton]
  simp only [Option.some_or, List.dropLast_concat]
set_option maxRecDepth 100000 in
set_option maxHeartbeats 2000000 in
theorem isLabelOf_nil (w : World) (v hc ob ocap n : Nat) (a : Option Addr) (O : List Nat) :
    Calls Tryz.prog 103 #[.int .i64 (v : Int), .slice a 0 hc, .slice (some ⟨ob, 0, none⟩) n ocap] w fun e w' => e = .returned (.bool (Pu.isLab v O [])) ∧ Turns (fun _ => False) w w' := by
  go_enter Tryz.func103, Tryz.ntmps103
  go_wp2
  go_ret
  exact ⟨rfl, Turns.refl _ _⟩
set_option maxRecDepth 100000 in
set_option maxHeartbeats 2000000 in
theorem isLabelOf_snoc (w : World) (v hc ob ocap n k g r : Nat) (f : Int) (H : List (Nat × Int)) (O : List Nat) (hk : H.length = k) (hkb : k ≤ 100000) (hc1 : k + 1 ≤ hc) (hA : HubAt w (some ⟨g, 0, none⟩) (H ++ [(r, f)])) (hO : Ord w ob n O) (hf0 : 0 ≤ f) (hf1 : f < 2097152) (hF : ∀ (i q : Nat) (x : Int), H[i]? = some (q, x) → 0 ≤ x ∧ x < 2097152) :
    Calls Tryz.prog 103 #[.int .i64 (v : Int), .slice (some ⟨g, 0, none⟩) (k + 1) hc, .slice (some ⟨ob, 0, none⟩) n ocap] w fun e w' => e = .returned (.bool (Pu.isLab v O (H ++ [(r, f)]))) ∧ Turns (fun _ => False) w w' := by
  obtain ⟨g0, hg0, e1, e2⟩ := hA k r f (by rw [← hk]; simp)
  injection hg0 with hg0
  injection hg0 with hg0
  subst hg0
  have hgl : g < w.heap.size := World.block_lt_of_cell? _ _ e1
  have HA : Hid (HubAt w (some ⟨g, 0, none⟩) (H ++ [(r, f)])) := hA
  have HO : Hid (Ord w ob n O) := hO
  have HK : Hid (H.length = k) := hk
  have hw1 : IntKind.i64.wrap ((k : Int) + 1 - 1) = (k : Int) := by rw [IntKind.wrap_i64]; omega
  have hw2 : IntKind.i64.wrap (((k + 1 : Nat) : Int) - 1) = (k : Int) := by rw [IntKind.wrap_i64]; omega
  have hw3 : IntKind.i64.wrap (k : Int) = (k : Int) := by rw [IntKind.wrap_i64]; omega
  have hkc : (k : Int) < (k : Int) + 1 := by omega
  have hkc2 : (k : Int) < ((k + 1 : Nat) : Int) := by omega
  have hkc3 : ¬ (k : Int) < 0 := by omega
  have hkc4 : (0 : Int) ≤ (k : Int) := by omega
  have hkh : (k : Int) ≤ (hc : Int) := by omega
  have hz0 : ((k : Int) + 1 == 0) = false := by rw [beq_eq_false_iff_ne]; omega
  clear hA hO hk
  go_enter Tryz.func103, Tryz.ntmps103
  obtain ⟨RES, hRES⟩ : ∃ RES, RES = Pu.isLab v O (H ++ [(r, f)]) := ⟨_, rfl⟩
  rw [← hRES]
  rw [Pu.isLab_snoc] at hRES
  have HRES : Hid (RES = (decide (O[r]? = some v) && decide (f = 0) && H.all fun x => decide (1 ≤ x.2) && decide (x.2 ≤ 39000))) := hRES
  clear hRES
  obtain ⟨bx, hbx⟩ : ∃ bx, bx = w.heap.size := ⟨_, rfl⟩
  have HBX : Hid (bx = w.heap.size) := hbx
  go_upto_region 3 with fail
  go_cut [7, 8] from 14 to 24 (fun s7 s8 wx => s7 = .pointer (some ⟨bx, 0, none⟩) ∧ s8 = .slice (some ⟨g, 0, none⟩) k hc ∧ Turns (fun _ => False) w wx ∧ wx.cell? ⟨bx, 0, none⟩ = some (.int .i64 (r : Int)) ∧ wx.cell? ⟨bx, 1, none⟩ = some (.int .i64 f))
  case first =>
    subst hbx
    go_region_with fail
    all_goals
      go_wp2_with fail
      go_meet
      case rel => exact ⟨rfl, rfl, by first | exact (Turns.refl _ _).alloc _ | exact ((Turns.refl _ _).alloc _).drew | exact ((Turns.refl _ _).drew).alloc _, by simp, by simp⟩
  case rest =>
    obtain ⟨rfl, rfl, hT, d1, d2⟩ := hcut
    have HT : Hid (Turns (fun _ => False) w wc) := hT
    clear hbx hT e1 e2
    by_cases hrn : r < n
    · have hri : ¬ (n : Int) ≤ (r : Int) := by omega
      have hri2 : (r : Int) < (n : Int) := by omega
      obtain ⟨m, hm⟩ : ∃ m, O[r]? = some m := ⟨_, List.getElem?_eq_getElem (by have := HO.out.1; omega)⟩
      obtain ⟨hmn, hcm⟩ := HO.out.2 r m hm
      have e3 := (HT.out.cell (a := ⟨ob, r, none⟩) (World.block_lt_of_cell? _ _ hcm) (fun x => x)).trans hcm
      by_cases hmv : m = v
      · subst hmv
        by_cases hf : f = 0
        · subst hf
          have HALL : Hid (RES = H.all fun x => decide (1 ≤ x.2) && decide (x.2 ≤ 39000)) := by show _ = _; rw [HRES.out]; simp [hm]
          clear HRES hm hcm
          go_wp2
          go_loopw [46] (fun iv wr => ∃ (i : Nat) (wy : World), iv = .int .i64 (i : Int) ∧ i ≤ k ∧ wy = wr ∧ Hid ((∀ (j q : Nat) (y : Int), j < i → H[j]? = some (q, y) → 1 ≤ y ∧ y ≤ 39000) ∧ Turns (fun _ => False) w wy)) (fun iv _ => k - (intOf iv).toNat)
          case atStart => exact ⟨0, wc, rfl, Nat.zero_le _, rfl, fun j q y hj => by omega, HT.out⟩
          case round =>
            clear d1 d2 e3
            obtain ⟨i, wr, rfl, hik, hwy, HI⟩ := hrel
            subst hwy
            by_cases hlt : i < k
            · have hii : (i : Int) < (k : Int) := by omega
              obtain ⟨⟨q, y⟩, hqy⟩ : ∃ z, H[i]? = some z := ⟨_, List.getElem?_eq_getElem (by rw [HK.out]; exact hlt)⟩
              obtain ⟨g0, hg0, k1, k2⟩ := HA.out i q y (by rw [List.getElem?_append_left (by rw [HK.out]; exact hlt)]; exact hqy)
              injection hg0 with hg0
              injection hg0 with hg0 _ _
              subst hg0
              have e1 := (HI.out.2.cell (a := ⟨g, i * 2, none⟩) hgl (fun x => x)).trans k1
              have e2 := (HI.out.2.cell (a := ⟨g, i * 2 + 1, none⟩) hgl (fun x => x)).trans k2
              have hgl2 : g < wr.heap.size := Nat.lt_of_lt_of_le hgl HI.out.2.size
              obtain ⟨hy0, hy1⟩ := hF i q y hqy
              have HX : Hid (∀ o, Turns (fun _ => False) w (wr.alloc o)) := fun o => HI.out.2.alloc o
              by_cases hy : 1 ≤ y ∧ y ≤ 39000
              · have hya : ¬ y < 1 := by omega
                have hyb : ¬ (39000 : Int) < y := by omega
                have HN : Hid (∀ (j q' : Nat) (y' : Int), j < i + 1 → H[j]? = some (q', y') → 1 ≤ y' ∧ y' ≤ 39000) := by
                  intro j q' y' hj hjq
                  by_cases e : j = i
                  · subst e
                    rw [hqy] at hjq
                    injection hjq with hjq
                    injection hjq with _ hjq
                    subst hjq
                    exact hy
                  · exact HI.out.1 j q' y' (by omega) hjq
                clear HI hqy k1 k2 hy
                go_wp2
                go_roundw
                case rel => exact ⟨i + 1, _, by go_num, by omega, rfl, HN.out, HX.out _⟩
                case measure => simp [intOf]; omega
              · have HFA : Hid (RES = false) := by
                  show _ = _
                  rw [HALL.out, Bool.eq_false_iff]
                  intro c
                  rw [List.all_eq_true] at c
                  have := c (q, y) (List.mem_of_getElem? hqy)
                  simp at this
                  omega
                clear HI hqy k1 k2
                by_cases hya : y < 1
                · clear hy
                  go_wp2
                  go_ret
                  exact ⟨by rw [HFA.out]; rfl, HX.out _⟩
                · have hyb : (39000 : Int) < y := by omega
                  clear hy
                  go_wp2
                  go_ret
                  exact ⟨by rw [HFA.out]; rfl, HX.out _⟩
            · have hii : ¬ (i : Int) < (k : Int) := by omega
              have HTR : Hid (RES = true ∧ Turns (fun _ => False) w wr) := by
                refine ⟨?_, HI.out.2⟩
                rw [HALL.out, List.all_eq_true]
                intro x hx
                obtain ⟨j, hj, hxj⟩ := List.getElem_of_mem hx
                have := HI.out.1 j x.1 x.2 (by have := HK.out; omega) (by rw [← hxj]; exact List.getElem?_eq_getElem hj)
                simp [this.1, this.2]
              clear HI
              go_wp2
              go_ret
              exact ⟨by rw [HTR.out.1]; rfl, HTR.out.2⟩
        · have hfi : (f != 0) = true := by simpa using hf
          have HFA : Hid (RES = false) := by show _ = _; rw [HRES.out]; simp [hf]
          clear HRES hm hcm
          go_wp2
          go_ret
          exact ⟨by rw [HFA.out]; rfl, HT.out⟩
      · have hmi : ((m : Int) != (v : Int)) = true := by simp; omega
        have HFA : Hid (RES = false) := by show _ = _; rw [HRES.out]; simp [hm, hmv]
        clear HRES hm hcm
        go_wp2
        go_ret
        exact ⟨by rw [HFA.out]; rfl, HT.out⟩
    · have hri : (n : Int) ≤ (r : Int) := by omega
      have HFA : Hid (RES = false) := by
        have : O[r]? = none := List.getElem?_eq_none (by have := HO.out.1; omega)
        show _ = _
        rw [HRES.out]
        simp [this]
      clear HRES
      go_wp2
      go_ret
      exact ⟨by rw [HFA.out]; rfl, HT.out⟩
#print axioms isLabelOf_snoc
end Go.Proofs.YtdogncjcainhlaaGreatDoor
/- The walk of records.areLabels. -/
namespace Go.Proofs.YtdogncjcainhlaaGreatDoor
open Go.RowKit Go.Deep
open Mem

namespace Pu
theorem Rise.far : ∀ {x : Nat} {l : List (Nat × Int)}, Rise x l → ∀ y ∈ l, 0 ≤ y.2 ∧ y.2 < 2097152
  | _, [], _, y, hy => by simp at hy
  | _, (r, f) :: t, ⟨_, _, h1, h2, h3⟩, y, hy => by
    rcases List.mem_cons.1 hy with rfl | hy
    · exact ⟨h1, h2⟩
    · exact h3.far y hy
/-- Whether the bytes between two places are a label of a place. -/
def labAt (l : List UInt8) (O : List Nat) (st : Nat → Nat) (v : Nat) : Bool := match labOf ((l.take (st (v + 1))).drop (st v)) with
  | none => false
  | some H => isLab v O H
/-- Whether the labels stand where they should, and behind them nothing. -/
def areB (l : List UInt8) (n : Nat) (O : List Nat) (st : Nat → Nat) : Bool := decide (st n ≤ l.length) && (List.range n).all (labAt l O st) && fillB (l.drop (st n))
theorem areB_bad {l : List UInt8} {n : Nat} {O : List Nat} {st : Nat → Nat} {v : Nat} (hv : v < n) (h : labAt l O st v = false) : areB l n O st = false := by
  have : (List.range n).all (labAt l O st) = false := by
    rw [List.all_eq_false]
    exact ⟨v, List.mem_range.2 hv, by rw [h]; simp⟩
  rw [areB, this, Bool.and_false, Bool.false_and]
end Pu
theorem isLabelOf_any (w : World) (v hc ob ocap n : Nat) (a : Option Addr) (H : List (Nat × Int)) (O : List Nat) (hk : H.length ≤ 100000) (hc1 : H.length ≤ hc) (hA : HubAt w a H) (hO : Ord w ob n O) (hF : ∀ y ∈ H, 0 ≤ y.2 ∧ y.2 < 2097152) :
    Calls Tryz.prog 103 #[.int .i64 (v : Int), .slice a H.length hc, .slice (some ⟨ob, 0, none⟩) n ocap] w fun e w' => e = .returned (.bool (Pu.isLab v O H)) ∧ Turns (fun _ => False) w w' := by
  rcases List.eq_nil_or_concat H with rfl | ⟨L, ⟨r, f⟩, rfl⟩
  · exact isLabelOf_nil w v hc ob ocap n a O
  · rw [List.concat_eq_append] at *
    obtain ⟨g, rfl, _⟩ := hA L.length r f (by simp)
    rw [List.length_append, List.length_singleton] at *
    have h0 := hF (r, f) (by simp)
    exact isLabelOf_snoc w v hc ob ocap n L.length g r f L O rfl (by omega) hc1 hA hO h0.1 h0.2 (fun i q x hi => hF (q, x) (by
      have := List.mem_of_getElem? hi
      simp [this]))

set_option maxRecDepth 100000 in
set_option maxHeartbeats 2000000 in
theorem areLabels_any (s : ByteArray) (w : World) (n og oc sg sc : Nat) (O : List Nat) (st : Nat → Nat) (hs : s.size ≤ 60000) (hn1 : 1 ≤ n) (hn : n ≤ 40) (hO : Ord w og n O) (hS : ∀ j, j ≤ n → w.cell? ⟨sg, j, none⟩ = some (.int .i64 (st j : Int))) (hm : ∀ i j, i ≤ j → j ≤ n → st i ≤ st j) :
    Calls Tryz.prog 65 #[.string s, .agg #[.slice (some ⟨og, 0, none⟩) n oc, .slice (some ⟨sg, 0, none⟩) (n + 1) sc]] w fun e w' => e = .returned (.bool (Pu.areB s.data.toList n O st)) ∧ Turns (fun _ => False) w w' := by
  have e0 := hS n (Nat.le_refl _)
  have hsl : sg < w.heap.size := World.block_lt_of_cell? _ _ e0
  have h0 : (n : Int) < (n : Int) + 1 := by omega
  have h0' : (n : Int) < ((n + 1 : Nat) : Int) := by omega
  obtain ⟨RES, hRES⟩ : ∃ RES, RES = Pu.areB s.data.toList n O st := ⟨_, rfl⟩
  rw [← hRES]
  have HRES : Hid (RES = Pu.areB s.data.toList n O st) := hRES
  have HO : Hid (Ord w og n O) := hO
  have HS : Hid (∀ j, j ≤ n → w.cell? ⟨sg, j, none⟩ = some (.int .i64 (st j : Int))) := hS
  have HM : Hid (∀ i j, i ≤ j → j ≤ n → st i ≤ st j) := hm
  clear hRES hO hS hm
  by_cases hend : st n ≤ s.size
  · have hei : ((s.size : Int) < (st n : Int)) = False := by simp; omega
    have hei2 : (st n : Int) ≤ (s.size : Int) := by omega
    obtain ⟨F, hF⟩ : ∃ F, F = s.extract (st n) s.size := ⟨_, rfl⟩
    have hFx := hF.symm
    have cf := fun w => isFill_any F w (by rw [hF, ByteArray.size_extract]; omega)
    have hFl : F.data.toList = s.data.toList.drop (st n) := by rw [hF, extract_list, List.take_of_length_le (by rw [← size_list]; omega)]
    rw [hFl] at cf
    clear hF hFl
    go_enter Tryz.func65, Tryz.ntmps65
    obtain ⟨w1, hw1⟩ : ∃ w1, w1 = w.alloc (.cells #[.slice (some ⟨og, 0, none⟩) n oc, .slice (some ⟨sg, 0, none⟩) (n + 1) sc] 79) := ⟨_, rfl⟩
    have HT1 : Hid (Turns (fun _ => False) w w1) := by show Turns _ _ _; rw [hw1]; exact (Turns.refl _ _).alloc _
    have HB1 : Hid (w1.cell? ⟨w.heap.size, 0, none⟩ = some (.slice (some ⟨og, 0, none⟩) n oc) ∧ w1.cell? ⟨w.heap.size, 1, none⟩ = some (.slice (some ⟨sg, 0, none⟩) (n + 1) sc)) := by
      show _ ∧ _; rw [hw1]; exact ⟨by rw [World.cell?_alloc_new]; rfl, by rw [World.cell?_alloc_new]; rfl⟩
    have HW1 : Hid (w.alloc (.cells #[.slice (some ⟨og, 0, none⟩) n oc, .slice (some ⟨sg, 0, none⟩) (n + 1) sc] 79) = w1) := hw1.symm
    clear hw1
    go_wp2
    rw [HW1.out]
    go_loopw [23] (fun iv wr => ∃ (i : Nat) (wy : World), iv = .int .i64 (i : Int) ∧ i ≤ n ∧ wy = wr ∧ Hid ((∀ v, v < i → Pu.labAt s.data.toList O st v = true) ∧ Turns (fun _ => False) w1 wy)) (fun iv _ => n - (intOf iv).toNat)
    case atStart => exact ⟨0, w1, rfl, Nat.zero_le _, rfl, fun v hv => by omega, Turns.refl _ _⟩
    case round =>
      obtain ⟨i, wr, rfl, hin, hwy, HI⟩ := hrel
      subst hwy
      have hb1 := World.block_lt_of_cell? _ _ HB1.out.1
      have d1 := (HI.out.2.cell (a := ⟨w.heap.size, 0, none⟩) hb1 (fun x => x)).trans HB1.out.1
      have d2 := (HI.out.2.cell (a := ⟨w.heap.size, 1, none⟩) hb1 (fun x => x)).trans HB1.out.2
      have HTw : Hid (Turns (fun _ => False) w wr) := HT1.out.trans HI.out.2
      by_cases hlt : i < n
      · have hii : (i : Int) < (n : Int) := by omega
        have hii2 : (i : Int) < (n : Int) + 1 := by omega
        obtain ⟨i1, hi1⟩ : ∃ i1, i1 = i + 1 := ⟨_, rfl⟩
        have hwi : IntKind.i64.wrap ((i : Int) + 1) = (i1 : Int) := by rw [IntKind.wrap_i64]; omega
        have hii4 : (i1 : Int) < (n : Int) + 1 := by omega
        have HI1 : Hid (i1 = i + 1) := hi1
        have c1 := (HTw.out.cell (a := ⟨sg, i, none⟩) hsl (fun x => x)).trans (HS.out i (by omega))
        have c2 := (HTw.out.cell (a := ⟨sg, i1, none⟩) hsl (fun x => x)).trans (HS.out i1 (by omega))
        have m1 := HM.out i i1 (by omega) (by omega)
        have m2 := HM.out i1 n (by omega) (Nat.le_refl _)
        have m1i : (st i : Int) ≤ (st i1 : Int) := by omega
        have m2i : (st i1 : Int) ≤ (s.size : Int) := by omega
        obtain ⟨T, hT⟩ : ∃ T, T = s.extract (st i) (st i1) := ⟨_, rfl⟩
        have hTx := hT.symm
        have hTl : T.data.toList = (s.data.toList.take (st (i + 1))).drop (st i) := by rw [hT, extract_list, hi1]
        have hTs : T.size ≤ 60000 := by rw [hT, ByteArray.size_extract]; omega
        have cl := fun w => readLabel_any T w (by omega)
        clear hT hi1
        have HTL : Hid (T.data.toList = (s.data.toList.take (st (i + 1))).drop (st i)) := hTl
        cases hlo : Pu.labOf T.data.toList with
        | none =>
          rw [hlo] at cl
          have hR : Hid (RES = false) := by
            show _ = _; rw [HRES.out]
            refine Pu.areB_bad hlt ?_
            rw [Pu.labAt, ← hTl, hlo]
          clear hlo hTl HI
          have HCL : Hid (∀ w', Turns (fun _ => False) wr w' → Calls Tryz.prog 82 #[.string T] w' fun e w4 => e = .returned (.tuple #[.slice none 0 0, .bool false]) ∧ Turns (fun _ => False) wr w4) := fun w' t => (cl w').mono fun e w4 h => ⟨h.1, t.trans h.2⟩
          clear cl
          go_wp2_with fail
          go_region_held3 (fun w' => w'.cell? ⟨w.heap.size, 1, none⟩ = some (.slice (some ⟨sg, 0, none⟩) (n + 1) sc) ∧ w'.cell? ⟨sg, i, none⟩ = some (.int .i64 (st i : Int)) ∧ w'.cell? ⟨sg, i1, none⟩ = some (.int .i64 (st i1 : Int))) (go_keep)
            (first | (go_at_call 82; refine (HCL.out _ (by first | exact Turns.refl _ _ | exact (Turns.refl _ _).drew)).mono ?_; rintro e w4 ⟨rfl, hT4⟩; have k0 := (hT4.cell (a := ⟨w.heap.size, 1, none⟩) (World.block_lt_of_cell? _ _ d2) (fun x => x)).trans d2; have k1 := (hT4.cell (a := ⟨sg, i, none⟩) (World.block_lt_of_cell? _ _ c1) (fun x => x)).trans c1; have k2 := (hT4.cell (a := ⟨sg, i1, none⟩) (World.block_lt_of_cell? _ _ c2) (fun x => x)).trans c2))
          all_goals
            have HT4 : Hid (∀ q, Turns (fun _ => False) w (w4.drewN q)) := fun q => HTw.out.trans (hT4.drewN q)
            clear HCL hT4 d1 d2 c1 c2 k0 k1 k2
            go_wp2
            go_ret
            exact ⟨by rw [hR.out]; rfl, HT4.out 0⟩
        | some H =>
          rw [hlo] at cl
          have hlE := Pu.labOf_eq.1 hlo
          have HLB : Hid (∀ b, Pu.isLab i O H = b → Pu.labAt s.data.toList O st i = b) := by
            intro b hb
            rw [Pu.labAt, ← hTl, hlo]; exact hb
          have hHl : H.length ≤ 60000 := by
            have h1 : T.data.toList.length = _ := congrArg List.length hlE.1
            have h2 : H.length ≤ (Pu.labB H).length := by have h3 := Pu.flatB_len (H.length :: Pu.flatH 0 H); have h4 := Pu.flatH_len H 0; rw [← Pu.labB_flat, List.length_cons] at h3; omega
            rw [← size_list] at h1
            omega
          have HHF : Hid (∀ y ∈ H, 0 ≤ y.2 ∧ y.2 < 2097152) := hlE.2.1.far
          clear hlo hTl hlE
          obtain ⟨k, hk⟩ : ∃ k, k = H.length := ⟨_, rfl⟩
          have HCL : Hid (∀ w', Turns (fun _ => False) wr w' → Calls Tryz.prog 82 #[.string T] w' fun e w4 => ∃ a c, e = .returned (.tuple #[.slice a k c, .bool true]) ∧ (∀ w5, Turns (fun _ => False) w4 w5 → Calls Tryz.prog 103 #[.int .i64 (i : Int), .slice a k c, .slice (some ⟨og, 0, none⟩) n oc] w5 fun e w' => e = .returned (.bool (Pu.isLab i O H)) ∧ Turns (fun _ => False) w5 w') ∧ Turns (fun _ => False) wr w4) := by
            intro w' t
            refine (cl w').mono ?_
            rintro e w4 ⟨v, rfl, hO4⟩
            obtain ⟨a, c, hv, hA⟩ := hubAt_own hO4.own
            subst hv
            have hT4 := hO4.turns0
            have hHc : H.length ≤ c := by
              rcases hO4.own.2 with ⟨h1, h2⟩ | ⟨g, cap, cur, h1, h2, h3, h4, _⟩
              · omega
              · injection h1 with h1 h5 h6; omega
            rw [hk]
            exact ⟨a, c, rfl, fun w5 t5 => isLabelOf_any w5 i c og oc n a H O (by omega) hHc (hA.turns t5) (HO.out.turns (HTw.out.trans ((t.trans hT4).trans t5))) HHF.out, t.trans hT4⟩
          clear cl hk hHl
          cases hb : Pu.isLab i O H with
          | false =>
            rw [hb] at HCL
            have hR : Hid (RES = false) := by
              show _ = _; rw [HRES.out]
              exact Pu.areB_bad hlt (HLB.out _ hb)
            clear hb
            go_wp2_with fail
            go_region_held3 (fun w' => w'.cell? ⟨w.heap.size, 1, none⟩ = some (.slice (some ⟨sg, 0, none⟩) (n + 1) sc) ∧ w'.cell? ⟨sg, i, none⟩ = some (.int .i64 (st i : Int)) ∧ w'.cell? ⟨sg, i1, none⟩ = some (.int .i64 (st i1 : Int))) (go_keep)
              (first | (go_at_call 82; refine (HCL.out _ (by first | exact Turns.refl _ _ | exact (Turns.refl _ _).drew)).mono ?_; rintro e w4 ⟨a, c, rfl, ci, hT4⟩; have k0 := (hT4.cell (a := ⟨w.heap.size, 1, none⟩) (World.block_lt_of_cell? _ _ d2) (fun x => x)).trans d2; have k1 := (hT4.cell (a := ⟨sg, i, none⟩) (World.block_lt_of_cell? _ _ c1) (fun x => x)).trans c1; have k2 := (hT4.cell (a := ⟨sg, i1, none⟩) (World.block_lt_of_cell? _ _ c2) (fun x => x)).trans c2))
            all_goals
              have d1' := (hT4.cell (a := ⟨w.heap.size, 0, none⟩) (World.block_lt_of_cell? _ _ d1) (fun x => x)).trans d1
              have HT4 : Hid (Turns (fun _ => False) w w4) := HTw.out.trans hT4
              have HCI : Hid (∀ w5, Turns (fun _ => False) w4 w5 → Calls Tryz.prog 103 #[.int .i64 (i : Int), .slice a k c, .slice (some ⟨og, 0, none⟩) n oc] w5 fun e w' => e = .returned (.bool false) ∧ Turns (fun _ => False) w5 w') := ci
              clear HCL hT4 d1 d2 c1 c2 k0 k1 k2 ci
              go_wp2_with fail
              refine (HCI.out _ (Turns.refl _ _)).mono ?_
              rintro e w5 ⟨rfl, hT5⟩
              have HT5 : Hid (Turns (fun _ => False) w w5) := HT4.out.trans hT5
              clear HCI hT5
              go_wp2
              go_ret
              exact ⟨by rw [hR.out]; rfl, HT5.out⟩
          | true =>
            rw [hb] at HCL
            have HG : Hid (∀ v, v < i + 1 → Pu.labAt s.data.toList O st v = true) := by
              intro v hv
              by_cases e : v = i
              · subst e; exact HLB.out _ hb
              · exact HI.out.1 v (by omega)
            clear hb
            go_wp2_with fail
            go_region_held3 (fun w' => w'.cell? ⟨w.heap.size, 1, none⟩ = some (.slice (some ⟨sg, 0, none⟩) (n + 1) sc) ∧ w'.cell? ⟨sg, i, none⟩ = some (.int .i64 (st i : Int)) ∧ w'.cell? ⟨sg, i1, none⟩ = some (.int .i64 (st i1 : Int))) (go_keep)
              (first | (go_at_call 82; refine (HCL.out _ (by first | exact Turns.refl _ _ | exact (Turns.refl _ _).drew)).mono ?_; rintro e w4 ⟨a, c, rfl, ci, hT4⟩; have k0 := (hT4.cell (a := ⟨w.heap.size, 1, none⟩) (World.block_lt_of_cell? _ _ d2) (fun x => x)).trans d2; have k1 := (hT4.cell (a := ⟨sg, i, none⟩) (World.block_lt_of_cell? _ _ c1) (fun x => x)).trans c1; have k2 := (hT4.cell (a := ⟨sg, i1, none⟩) (World.block_lt_of_cell? _ _ c2) (fun x => x)).trans c2))
            all_goals
              have d1' := (hT4.cell (a := ⟨w.heap.size, 0, none⟩) (World.block_lt_of_cell? _ _ d1) (fun x => x)).trans d1
              have HT4 : Hid (Turns (fun _ => False) w1 w4) := HI.out.2.trans hT4
              have HCI : Hid (∀ w5, Turns (fun _ => False) w4 w5 → Calls Tryz.prog 103 #[.int .i64 (i : Int), .slice a k c, .slice (some ⟨og, 0, none⟩) n oc] w5 fun e w' => e = .returned (.bool true) ∧ Turns (fun _ => False) w5 w') := ci
              clear HCL hT4 d1 d2 c1 c2 k0 k1 k2 ci HI
              go_wp2_with fail
              refine (HCI.out _ (Turns.refl _ _)).mono ?_
              rintro e w5 ⟨rfl, hT5⟩
              have HT5 : Hid (Turns (fun _ => False) w1 w5) := HT4.out.trans hT5
              clear HCI hT5
              go_wp2
              go_roundw
              case rel => exact ⟨i1, w5, by go_num, by have := HI1.out; omega, rfl, by rw [HI1.out]; exact HG.out, HT5.out⟩
              case measure => have := HI1.out; simp [intOf]; omega
      · have hii : ¬ (i : Int) < (n : Int) := by omega
        have hR : Hid (RES = Pu.fillB (s.data.toList.drop (st n))) := by
          show _ = _
          have h1 : (List.range n).all (Pu.labAt s.data.toList O st) = true := by
            rw [List.all_eq_true]
            intro v hv
            exact HI.out.1 v (by have := List.mem_range.1 hv; omega)
          rw [HRES.out, Pu.areB, h1, decide_eq_true (by rw [← size_list]; exact hend), Bool.true_and, Bool.true_and]
        clear HI
        go_wp2_with fail
        refine (cf _).mono ?_
        rintro e w5 ⟨rfl, hT5⟩
        have HT5 : Hid (Turns (fun _ => False) w w5) := HTw.out.trans hT5
        clear cf hT5
        go_wp2
        go_ret
        exact ⟨by rw [hR.out]; rfl, HT5.out⟩
  · have hei : (s.size : Int) < (st n : Int) := by omega
    have hR : Hid (RES = false) := by show _ = _; rw [HRES.out, Pu.areB, decide_eq_false (by rw [← size_list]; exact hend), Bool.false_and, Bool.false_and]
    go_enter Tryz.func65, Tryz.ntmps65
    go_wp2
    go_ret
    exact ⟨by rw [hR.out]; rfl, (Turns.refl _ _).alloc _⟩
end Go.Proofs.YtdogncjcainhlaaGreatDoor
/- The walk of records.Read. -/
namespace Go.Proofs.YtdogncjcainhlaaGreatDoor
open Go.RowKit Go.Deep
open Mem

namespace Pu
theorem map_toNat_ofNat : ∀ (l : List UInt8), (l.map UInt8.toNat).map UInt8.ofNat = l
  | [] => rfl
  | a :: l => by rw [List.map_cons, List.map_cons, map_toNat_ofNat l]; simp
theorem map_ofNat_toNat : ∀ (l : List Nat), (∀ m ∈ l, m < 256) → (l.map UInt8.ofNat).map UInt8.toNat = l
  | [], _ => rfl
  | a :: l, h => by
    rw [List.map_cons, List.map_cons, map_ofNat_toNat l (fun m hm => h m (by simp [hm])), toNat_ofNat8 (h a (by simp))]
theorem ordB_some {l : List UInt8} {O : List Nat} (h : ordB l = some O) : O = l.map UInt8.toNat ∧ O.Nodup ∧ ∀ m ∈ O, m < l.length := by
  have := ordGoB_some (n := l.length) l [] O (by simp) (by simp) h
  simpa using this
theorem ordB_back {O : List Nat} (h1 : O.Nodup) (h2 : ∀ m ∈ O, m < O.length) (h3 : O.length ≤ 40) : ordB (O.map UInt8.ofNat) = some O := by
  have e := map_ofNat_toNat O (fun m hm => by have := h2 m hm; omega)
  have := ordGoB_back (n := O.length) (O.map UInt8.ofNat) [] (by rw [e]; exact h1) (by rw [e]; exact h2)
  rw [e] at this
  rw [ordB, List.length_map]
  exact this
theorem hdOf_some {l : List UInt8} {O S : List Nat} {a : Nat} (h : hdOf l = some (O, S, a)) : ∃ r, 1 ≤ O.length ∧ O.length ≤ 40 ∧ O.Nodup ∧ (∀ m ∈ O, m < O.length) ∧ S.length = O.length ∧ Small S ∧ l = headB O ++ (flatB S ++ r) ∧ a + r.length = l.length := by
  unfold hdOf at h
  split at h
  · rename_i x y c rest
    split at h
    · rename_i hc
      obtain ⟨rfl, rfl, h1, h2, h3⟩ := hc
      split at h
      · cases h
      · rename_i O' ho
        split at h
        · cases h
        · rename_i S' r hs
          injection h with h
          injection h with e1 h
          injection h with e2 e3
          subst e1 e2
          obtain ⟨o1, o2, o3⟩ := ordB_some ho
          have hl : (rest.take c.toNat).length = c.toNat := by rw [List.length_take]; omega
          have hOl : O'.length = c.toNat := by rw [o1, List.length_map, hl]
          obtain ⟨s1, s2, s3, s4⟩ := readSz_len _ hs
          rw [hl] at o3
          rw [List.length_drop] at s2
          refine ⟨r, by omega, by omega, o2, fun m hm => by have := o3 m hm; omega, by omega, s3, ?_, ?_⟩
          · rw [headB, hOl, ofNat_toNat8 c rfl, o1, map_toNat_ofNat, ← s4]
            simp
          · simp only [List.length_cons] at e3 ⊢; omega
    · cases h
  · cases h
theorem hdOf_back {O S : List Nat} {r : List UInt8} (h0 : 1 ≤ O.length) (h1 : O.length ≤ 40) (h2 : O.Nodup) (h3 : ∀ m ∈ O, m < O.length) (h4 : S.length = O.length) (h5 : Small S) : hdOf (headB O ++ (flatB S ++ r)) = some (O, S, (headB O ++ flatB S).length) := by
  have e : headB O ++ (flatB S ++ r) = 98 :: 119 :: UInt8.ofNat O.length :: (O.map UInt8.ofNat ++ (flatB S ++ r)) := rfl
  rw [e, hdOf_c, toNat_ofNat8 (by omega), if_pos ⟨h0, h1, by rw [List.length_append, List.length_map]; omega⟩]
  have l1 : (O.map UInt8.ofNat).length = O.length := List.length_map ..
  rw [List.take_append_of_le_length (by omega), List.take_of_length_le (by omega), ordB_back h2 h3 h1]
  simp only
  rw [List.drop_append_of_le_length (by omega), List.drop_of_length_le (by omega), List.nil_append, ← h4, readSz_back S r h5]
  simp only [headB, List.length_append, List.length_cons, List.length_map]
  congr 3
  omega
/-- Where labels begin, as a function. -/
def stF (a : Nat) (S : List Nat) (j : Nat) : Nat := a + sumL (S.take j)
theorem starts_get : ∀ (S : List Nat) (a j : Nat), j ≤ S.length → (starts a S)[j]? = some (stF a S j)
  | [], a, j, h => by
    have : j = 0 := by simpa using h
    subst this
    simp [starts, stF, sumL]
  | x :: t, a, 0, _ => by simp [starts, stF, sumL]
  | x :: t, a, j + 1, h => by
    rw [starts, List.getElem?_cons_succ, starts_get t (a + x) j (by simpa using h)]
    simp only [stF, List.take_succ_cons, sumL]
    congr 1; omega
theorem sumL_take_mono : ∀ (S : List Nat) {i j : Nat}, i ≤ j → sumL (S.take i) ≤ sumL (S.take j)
  | [], i, j, _ => by simp
  | x :: t, 0, j, _ => by simp [sumL]
  | x :: t, i + 1, 0, h => by omega
  | x :: t, i + 1, j + 1, h => by
    have := sumL_take_mono t (i := i) (j := j) (by omega)
    simp only [List.take_succ_cons, sumL]; omega
theorem stF_mono (a : Nat) (S : List Nat) {i j : Nat} (h : i ≤ j) : stF a S i ≤ stF a S j := by
  have := sumL_take_mono S h
  unfold stF; omega
/-- What a store's bytes are read as: its order, the labels' sizes, where the first label begins. -/
def rdOf (l : List UInt8) : Option (List Nat × List Nat × Nat) := match hdOf l with
  | none => none
  | some (O, S, a) => if areB l O.length O (stF a S) then some (O, S, a) else none
end Pu
theorem ord_own {w : World} {base og oc n : Nat} {O : List Nat} (h : w.ownsRow base 3 1 (.slice (some ⟨og, 0, none⟩) n oc) O.length (natV O)) (hn : O.length = n) (hO : ∀ m ∈ O, m < n) : Ord w og n O := by
  refine ⟨hn, fun j m hj => ⟨hO m (List.mem_of_getElem? hj), ?_⟩⟩
  have hjl := (List.getElem?_eq_some_iff.1 hj).1
  subst hn
  have hx : j < O.length * 1 := by omega
  have := World.ownsRow.cellAt h j hx
  rw [this]
  simp [natV, hj]
theorem own_some {w : World} {base : Nat} {e : TypeId} {size : Nat} {v : Value} {n : Nat} {xs : List Value} (h : w.ownsRow base e size v n xs) (hn : 1 ≤ n) : ∃ g c, v = .slice (some ⟨g, 0, none⟩) n c ∧ n ≤ c := by
  rcases h.2 with ⟨_, h2⟩ | ⟨g, cap, cur, hv, h1, h2, h3, _⟩
  · omega
  · exact ⟨g, cap, hv, h3⟩

set_option maxRecDepth 100000 in
set_option maxHeartbeats 2000000 in
theorem recRead_any (s : ByteArray) (w : World) (hs : s.size ≤ 60000) :
    Calls Tryz.prog 28 #[.string s] w (HdPost w (Pu.rdOf s.data.toList)) := by
  have ch := fun w => readHead_any s w hs
  unfold Pu.rdOf
  cases hh : Pu.hdOf s.data.toList with
  | none =>
    rw [hh] at ch
    show Calls Tryz.prog _ _ w (fun e w' => e = .returned (.tuple #[.agg #[.slice none 0 0, .slice none 0 0], .bool false]) ∧ Turns (fun _ => False) w w')
    clear hh
    have HTN : Hid (∀ o, Turns (fun _ => False) w (w.alloc o)) := fun o => (Turns.refl _ _).alloc o
    go_enter Tryz.func28, Tryz.ntmps28
    go_wp2_with fail
    refine (ch _).mono ?_
    rintro e w1 ⟨rfl, hT1⟩
    have HT1 : Hid (Turns (fun _ => False) w w1) := (HTN.out _).trans hT1
    obtain ⟨d1, d2, f1, f2⟩ := box_two hT1
    have hbl : w.heap.size < w1.heap.size := World.block_lt_of_cell? _ _ d1
    clear ch hT1
    have HTF : Hid (∀ (u v : Value) (o : Obj), Turns (fun _ => False) w (((w1.setCell ⟨w.heap.size, 0, none⟩ u).setCell ⟨w.heap.size, 1, none⟩ v).alloc o)) := fun u v o => ((HT1.out.setCell (Or.inl (Nat.le_refl _)) u).setCell (Or.inl (Nat.le_refl _)) v).alloc o
    have q1 : ∀ (o : Obj), (((w1.setCell ⟨w.heap.size, 0, none⟩ (.slice none 0 0)).setCell ⟨w.heap.size, 1, none⟩ (.slice none 0 0)).alloc o).cell? ⟨w.heap.size, 0, none⟩ = some (.slice none 0 0) := fun o => (((Turns.refl (fun _ => False) _).alloc o).cell (a := ⟨w.heap.size, 0, none⟩) (by simp [hbl]) (fun x => x)).trans (by simp [go_sem, d1])
    have q2 : ∀ (o : Obj), (((w1.setCell ⟨w.heap.size, 0, none⟩ (.slice none 0 0)).setCell ⟨w.heap.size, 1, none⟩ (.slice none 0 0)).alloc o).cell? ⟨w.heap.size, 1, none⟩ = some (.slice none 0 0) := fun o => (((Turns.refl (fun _ => False) _).alloc o).cell (a := ⟨w.heap.size, 1, none⟩) (by simp [hbl]) (fun x => x)).trans (by simp [go_sem, d2])
    have HQ := (show Hid (_ ∧ _) from And.intro q1 q2)
    clear q1 q2
    go_wp2
    exact bodyPost_ret (v := .tuple #[.agg #[.slice none 0 0, .slice none 0 0], .bool false]) (by simp [results, Tryz.results28, go_sem, HQ.out.1, HQ.out.2]) rfl ⟨rfl, HTF.out _ _ _⟩
  | some z =>
    obtain ⟨O, S, a⟩ := z
    rw [hh] at ch
    obtain ⟨r, h1, h2, h3, h4, h5, h6, h7, h8⟩ := Pu.hdOf_some hh
    obtain ⟨n, hn⟩ : ∃ n, n = O.length := ⟨_, rfl⟩
    have HC : Hid (∀ w1, Calls Tryz.prog 64 #[.string s] w1 fun e w' => ∃ og oc sg sc, e = .returned (.tuple #[.agg #[.slice (some ⟨og, 0, none⟩) n oc, .slice (some ⟨sg, 0, none⟩) (n + 1) sc], .bool true]) ∧ w'.ownsRow w1.heap.size 3 1 (.slice (some ⟨og, 0, none⟩) n oc) O.length (natV O) ∧ w'.ownsRow w1.heap.size 3 1 (.slice (some ⟨sg, 0, none⟩) (n + 1) sc) (n + 1) (natV (Pu.starts a S)) ∧ Turns (fun _ => False) w1 w' ∧ ∀ w2, Turns (fun _ => False) w' w2 → Calls Tryz.prog 65 #[.string s, .agg #[.slice (some ⟨og, 0, none⟩) n oc, .slice (some ⟨sg, 0, none⟩) (n + 1) sc]] w2 fun e w' => e = .returned (.bool (Pu.areB s.data.toList n O (Pu.stF a S))) ∧ Turns (fun _ => False) w2 w') := by
      intro w1
      refine (ch w1).mono ?_
      rintro e w' ⟨ov, sv, rfl, ho, hsv, hT⟩
      rw [h5, ← hn] at hsv
      obtain ⟨og, oc, e1, _⟩ := own_some ho h1
      obtain ⟨sg, sc, e2, _⟩ := own_some hsv (by omega)
      rw [← hn] at e1
      subst e1 e2
      refine ⟨og, oc, sg, sc, rfl, ho, hsv, hT, fun w2 t => ?_⟩
      refine areLabels_any s w2 n og oc sg sc O (Pu.stF a S) hs (by omega) (by omega) ((ord_own ho hn.symm (fun m hm => by rw [hn]; exact h4 m hm)).turns t) ?_ (fun i j h _ => Pu.stF_mono a S h)
      intro j hj
      have hx : j < (n + 1) * 1 := by omega
      have e3 := World.ownsRow.cellAt hsv j hx
      rw [natV, List.getElem?_map, Pu.starts_get S a j (by omega)] at e3
      exact (t.cell (World.block_lt_of_cell? _ _ e3) (fun x => x)).trans e3
    have hn1 : 1 ≤ n := by omega
    have hSl : S.length = n := by omega
    have hn2 : n ≤ 40 := by omega
    have HTN : Hid (∀ o, Turns (fun _ => False) w (w.alloc o)) := fun o => (Turns.refl _ _).alloc o
    show Calls Tryz.prog _ _ w (HdPost w (if Pu.areB s.data.toList O.length O (Pu.stF a S) then some (O, S, a) else none))
    rw [← hn]
    clear ch hh h1 h2 h3 h4 h5 h6 h7 h8 hn
    cases hb : Pu.areB s.data.toList n O (Pu.stF a S) with
    | false =>
      rw [hb] at HC
      show Calls Tryz.prog _ _ w (fun e w' => e = .returned (.tuple #[.agg #[.slice none 0 0, .slice none 0 0], .bool false]) ∧ Turns (fun _ => False) w w')
      clear hb
      go_enter Tryz.func28, Tryz.ntmps28
      go_wp2_with fail
      refine (HC.out _).mono ?_
      rintro e w1 ⟨og, oc, sg, sc, rfl, ho, hsv, hT1, ca⟩
      have HT1 : Hid (Turns (fun _ => False) w w1) := (HTN.out _).trans hT1
      obtain ⟨d1, d2, f1, f2⟩ := box_two hT1
      have hbl : w.heap.size < w1.heap.size := World.block_lt_of_cell? _ _ d1
      have HCA : Hid (∀ w2, Turns (fun _ => False) w1 w2 → Calls Tryz.prog 65 #[.string s, .agg #[.slice (some ⟨og, 0, none⟩) n oc, .slice (some ⟨sg, 0, none⟩) (n + 1) sc]] w2 fun e w' => e = .returned (.bool false) ∧ Turns (fun _ => False) w2 w') := ca
      clear HC hT1 ca ho hsv
      go_wp2_with fail
      refine (HCA.out _ ((Turns.refl _ _).alloc _)).mono ?_
      rintro e w2 ⟨rfl, hT2⟩
      have t12 := ((Turns.refl (fun _ => False) w1).alloc (.cells #[.slice (some ⟨og, 0, none⟩) n oc, .slice (some ⟨sg, 0, none⟩) (n + 1) sc] 79)).trans hT2
      have d1' := (t12.cell (a := ⟨w.heap.size, 0, none⟩) hbl (fun x => x)).trans d1
      have d2' := (t12.cell (a := ⟨w.heap.size, 1, none⟩) hbl (fun x => x)).trans d2
      have f1' := (t12.frozen (a := ⟨w.heap.size, 0, none⟩) hbl (fun x => x)).trans f1
      have f2' := (t12.frozen (a := ⟨w.heap.size, 1, none⟩) hbl (fun x => x)).trans f2
      have HTF : Hid (∀ (u v : Value), Turns (fun _ => False) w ((w2.setCell ⟨w.heap.size, 0, none⟩ u).setCell ⟨w.heap.size, 1, none⟩ v)) := fun u v => ((HT1.out.trans t12).setCell (Or.inl (Nat.le_refl _)) u).setCell (Or.inl (Nat.le_refl _)) v
      clear HCA hT2 t12 d1 d2 f1 f2
      go_wp2
      exact bodyPost_ret (v := .tuple #[.agg #[.slice none 0 0, .slice none 0 0], .bool false]) (by simp [results, Tryz.results28, go_sem, d1', d2']) rfl ⟨rfl, HTF.out _ _⟩
    | true =>
      rw [hb] at HC
      have HSL : Hid (S.length = n) := hSl
      show Calls Tryz.prog _ _ w (HdPost w (some (O, S, a)))
      obtain ⟨FH, hFH⟩ : ∃ FH, FH = some (O, S, a) := ⟨_, rfl⟩
      have HFH : Hid (FH = some (O, S, a)) := hFH
      rw [← hFH]
      clear hb hFH hSl
      go_enter Tryz.func28, Tryz.ntmps28
      go_wp2_with fail
      refine (HC.out _).mono ?_
      rintro e w1 ⟨og, oc, sg, sc, rfl, ho, hsv, hT1, ca⟩
      have HT1 : Hid (Turns (fun _ => False) w w1) := (HTN.out _).trans hT1
      have hbase : (w.alloc (.cells #[.slice none 0 0, .slice none 0 0] 79)).heap.size = w.heap.size + 1 := by simp
      rw [hbase] at ho hsv
      have HO : Hid (w1.ownsRow (w.heap.size + 1) 3 1 (.slice (some ⟨og, 0, none⟩) n oc) O.length (natV O) ∧ w1.ownsRow (w.heap.size + 1) 3 1 (.slice (some ⟨sg, 0, none⟩) (n + 1) sc) (n + 1) (natV (Pu.starts a S))) := ⟨ho, hsv⟩
      obtain ⟨d1, d2, f1, f2⟩ := box_two hT1
      have hbl : w.heap.size < w1.heap.size := World.block_lt_of_cell? _ _ d1
      have HCA : Hid (∀ w2, Turns (fun _ => False) w1 w2 → Calls Tryz.prog 65 #[.string s, .agg #[.slice (some ⟨og, 0, none⟩) n oc, .slice (some ⟨sg, 0, none⟩) (n + 1) sc]] w2 fun e w' => e = .returned (.bool true) ∧ Turns (fun _ => False) w2 w') := ca
      clear HC hT1 ca ho hsv hbase
      go_wp2_with fail
      refine (HCA.out _ ((Turns.refl _ _).alloc _)).mono ?_
      rintro e w2 ⟨rfl, hT2⟩
      have t12 := ((Turns.refl (fun _ => False) w1).alloc (.cells #[.slice (some ⟨og, 0, none⟩) n oc, .slice (some ⟨sg, 0, none⟩) (n + 1) sc] 79)).trans hT2
      obtain ⟨b1, b2, _, _⟩ := box_two hT2
      have d1' := (t12.cell (a := ⟨w.heap.size, 0, none⟩) hbl (fun x => x)).trans d1
      have d2' := (t12.cell (a := ⟨w.heap.size, 1, none⟩) hbl (fun x => x)).trans d2
      have f1' := (t12.frozen (a := ⟨w.heap.size, 0, none⟩) hbl (fun x => x)).trans f1
      have f2' := (t12.frozen (a := ⟨w.heap.size, 1, none⟩) hbl (fun x => x)).trans f2
      have HX : Hid (∀ (u v : Value), HdPost w FH (.returned (.tuple #[.agg #[.slice (some ⟨og, 0, none⟩) n oc, .slice (some ⟨sg, 0, none⟩) (n + 1) sc], .bool true])) ((w2.setCell ⟨w.heap.size, 0, none⟩ u).setCell ⟨w.heap.size, 1, none⟩ v)) := by
        intro u v
        rw [HFH.out]
        refine ⟨_, _, rfl, owns_low (owns_set2 (owns_turns HO.out.1 t12) u v) (Nat.le_succ _), ?_, ((HT1.out.trans t12).setCell (Or.inl (Nat.le_refl _)) u).setCell (Or.inl (Nat.le_refl _)) v⟩
        rw [HSL.out]
        exact owns_low (owns_set2 (owns_turns HO.out.2 t12) u v) (Nat.le_succ _)
      clear HCA hT2 t12 d1 d2 f1 f2 HO
      go_wp2
      exact bodyPost_ret (v := .tuple #[.agg #[.slice (some ⟨og, 0, none⟩) n oc, .slice (some ⟨sg, 0, none⟩) (n + 1) sc], .bool true]) (by simp [results, Tryz.results28, go_sem, d1', d2']) rfl (HX.out _ _)
end Go.Proofs.YtdogncjcainhlaaGreatDoor
/- A store in memory. -/
namespace Go.Proofs.YtdogncjcainhlaaGreatDoor
open Go.RowKit Go.Deep
open Mem

/-- What a page holds. -/
def pgOf (S : ByteArray) (k : Nat) : ByteArray := S.extract (28 * k) (28 * k + 28)
/-- The pages that are kept, as cells. -/
def pgV (S : ByteArray) : List Nat → List Value
  | [] => []
  | k :: t => .int .i64 (k : Int) :: .string (pgOf S k) :: pgV S t
theorem pgV_len (S : ByteArray) : ∀ (K : List Nat), (pgV S K).length = K.length * 2
  | [] => rfl
  | k :: t => by rw [pgV, List.length_cons, List.length_cons, pgV_len S t, List.length_cons]; omega
theorem pgV_append (S : ByteArray) : ∀ (a b : List Nat), pgV S (a ++ b) = pgV S a ++ pgV S b
  | [], _ => rfl
  | k :: t, b => by rw [List.cons_append, pgV, pgV_append S t b]; rfl
theorem pgV_get (S : ByteArray) : ∀ (K : List Nat) (i k : Nat), K[i]? = some k → (pgV S K)[i * 2]? = some (.int .i64 (k : Int)) ∧ (pgV S K)[i * 2 + 1]? = some (.string (pgOf S k))
  | [], _, _, h => by simp at h
  | a :: t, 0, k, h => by
    simp only [List.getElem?_cons_zero, Option.some.injEq] at h
    subst h
    exact ⟨rfl, rfl⟩
  | a :: t, i + 1, k, h => by
    rw [List.getElem?_cons_succ] at h
    obtain ⟨h1, h2⟩ := pgV_get S t i k h
    rw [pgV, show (i + 1) * 2 = i * 2 + 1 + 1 by omega, List.getElem?_cons_succ, List.getElem?_cons_succ, List.getElem?_cons_succ, List.getElem?_cons_succ]
    exact ⟨h1, h2⟩
/-- The block of a store. -/
def SBox (w : World) (b : Nat) (m : Int) (ov sv : Value) (S : ByteArray) (c : Int) (kv : Value) (r : Int) : Prop :=
  w.heap[b]? = some (.cells #[.int .i32 m, .int .u32 0, ov, sv, .string S, .int .i64 c, kv, .int .i64 r] 94 (0, 0))
theorem SBox.new (w : World) (m : Int) (ov sv : Value) (S : ByteArray) (c : Int) (kv : Value) (r : Int) : SBox (w.alloc (.cells #[.int .i32 m, .int .u32 0, ov, sv, .string S, .int .i64 c, kv, .int .i64 r] 94)) w.heap.size m ov sv S c kv r := by
  show (w.heap.push _)[w.heap.size]? = _
  simp
section
variable {w : World} {b : Nat} {m : Int} {ov sv : Value} {S : ByteArray} {c : Int} {kv : Value} {r : Int}
theorem SBox.lt (h : SBox w b m ov sv S c kv r) : b < w.heap.size := lt_of_block h
theorem SBox.free (h : SBox w b m ov sv S c kv r) (j : Nat) : w.frozen? ⟨b, j, none⟩ = false := by unfold SBox at h; simp [World.frozen?, h]
theorem SBox.c0 (h : SBox w b m ov sv S c kv r) : w.cell? ⟨b, 0, none⟩ = some (.int .i32 m) := by unfold SBox at h; simp [World.cell?, h]
theorem SBox.c1 (h : SBox w b m ov sv S c kv r) : w.cell? ⟨b, 1, none⟩ = some (.int .u32 0) := by unfold SBox at h; simp [World.cell?, h]
theorem SBox.c2 (h : SBox w b m ov sv S c kv r) : w.cell? ⟨b, 2, none⟩ = some ov := by unfold SBox at h; simp [World.cell?, h]
theorem SBox.c3 (h : SBox w b m ov sv S c kv r) : w.cell? ⟨b, 3, none⟩ = some sv := by unfold SBox at h; simp [World.cell?, h]
theorem SBox.c4 (h : SBox w b m ov sv S c kv r) : w.cell? ⟨b, 4, none⟩ = some (.string S) := by unfold SBox at h; simp [World.cell?, h]
theorem SBox.c5 (h : SBox w b m ov sv S c kv r) : w.cell? ⟨b, 5, none⟩ = some (.int .i64 c) := by unfold SBox at h; simp [World.cell?, h]
theorem SBox.c6 (h : SBox w b m ov sv S c kv r) : w.cell? ⟨b, 6, none⟩ = some kv := by unfold SBox at h; simp [World.cell?, h]
theorem SBox.c7 (h : SBox w b m ov sv S c kv r) : w.cell? ⟨b, 7, none⟩ = some (.int .i64 r) := by unfold SBox at h; simp [World.cell?, h]
theorem SBox.turns {p : Nat → Prop} {w' : World} (h : SBox w b m ov sv S c kv r) (t : Turns p w w') (hp : ¬ p b) : SBox w' b m ov sv S c kv r := (t.block b h.lt hp).trans h
theorem SBox.set0 (h : SBox w b m ov sv S c kv r) (x : Int) : SBox (w.setCell ⟨b, 0, none⟩ (.int .i32 x)) b x ov sv S c kv r := Mem.heap_setCell_same h _
theorem SBox.set6 (h : SBox w b m ov sv S c kv r) (x : Value) : SBox (w.setCell ⟨b, 6, none⟩ x) b m ov sv S c x r := Mem.heap_setCell_same h _
theorem SBox.set7 (h : SBox w b m ov sv S c kv r) (x : Int) : SBox (w.setCell ⟨b, 7, none⟩ (.int .i64 x)) b m ov sv S c kv x := Mem.heap_setCell_same h _
end
/-- A store: its order, where its labels begin, what its pages hold, its room, the pages that are kept, how many were read. -/
structure StoreAt (w : World) (b og oc sg sc : Nat) (O : List Nat) (st : Nat → Nat) (S : ByteArray) (c : Nat) (m : Int) (kv : Value) (K : List Nat) (r : Nat) : Prop where
  box : SBox w b m (.slice (some ⟨og, 0, none⟩) O.length oc) (.slice (some ⟨sg, 0, none⟩) (O.length + 1) sc) S c kv r
  ord : Ord w og O.length O
  sts : ∀ j, j ≤ O.length → w.cell? ⟨sg, j, none⟩ = some (.int .i64 (st j : Int))
  kept : w.ownsRow 0 261 2 kv K.length (pgV S K)
  ne : ∀ q, kv.ownBlock = some q → q ≠ b ∧ q ≠ og ∧ q ≠ sg
  og : og ≠ b
  sg : sg ≠ b
theorem owns_turns_p {p : Nat → Prop} {w w' : World} {base : Nat} {e : TypeId} {size : Nat} {v : Value} {n : Nat} {xs : List Value} (h : w.ownsRow base e size v n xs) (t : Turns p w w') (hp : ∀ q, v.ownBlock = some q → ¬ p q) : w'.ownsRow base e size v n xs := by
  obtain ⟨h1, h2⟩ := h
  refine ⟨h1, ?_⟩
  rcases h2 with h2 | ⟨g, cap, cur, hv, hg, hb, r⟩
  · exact Or.inl h2
  · exact Or.inr ⟨g, cap, cur, hv, hg, (t.block g (lt_of_block hb) (hp g (by rw [hv]; rfl))).trans hb, r⟩
theorem Ord.turns_p {p : Nat → Prop} {w w' : World} {ob n : Nat} {O : List Nat} (h : Ord w ob n O) (t : Turns p w w') (hp : ¬ p ob) : Ord w' ob n O :=
  ⟨h.1, fun j m hj => ⟨(h.2 j m hj).1, (t.cell (a := ⟨ob, j, none⟩) (World.block_lt_of_cell? _ _ (h.2 j m hj).2) hp).trans (h.2 j m hj).2⟩⟩
theorem StoreAt.turns {p : Nat → Prop} {w w' : World} {b og oc sg sc : Nat} {O : List Nat} {st : Nat → Nat} {S : ByteArray} {c : Nat} {m : Int} {kv : Value} {K : List Nat} {r : Nat} (h : StoreAt w b og oc sg sc O st S c m kv K r) (t : Turns p w w') (h1 : ¬ p b) (h2 : ¬ p og) (h3 : ¬ p sg) (h4 : ∀ q, kv.ownBlock = some q → ¬ p q) : StoreAt w' b og oc sg sc O st S c m kv K r :=
  ⟨h.box.turns t h1, h.ord.turns_p t h2, fun j hj => (t.cell (a := ⟨sg, j, none⟩) (World.block_lt_of_cell? _ _ (h.sts j hj)) h3).trans (h.sts j hj), owns_turns_p h.kept t h4, h.ne, h.og, h.sg⟩
theorem StoreAt.turns0 {w w' : World} {b og oc sg sc : Nat} {O : List Nat} {st : Nat → Nat} {S : ByteArray} {c : Nat} {m : Int} {kv : Value} {K : List Nat} {r : Nat} (h : StoreAt w b og oc sg sc O st S c m kv K r) (t : Turns (fun _ => False) w w') : StoreAt w' b og oc sg sc O st S c m kv K r :=
  h.turns t (fun x => x) (fun x => x) (fun x => x) (fun _ _ x => x)
end Go.Proofs.YtdogncjcainhlaaGreatDoor
/- The walk of slices.Delete at pages. -/
namespace Go.Proofs.YtdogncjcainhlaaGreatDoor
open Go.RowKit Go.Deep
open Mem

theorem list_set_mid {α : Type} : ∀ (l : List α) (o : Nat) (v : α), o < l.length → l.set o v = l.take o ++ v :: l.drop (o + 1)
  | [], o, v, h => by simp at h
  | a :: l, 0, v, _ => by simp
  | a :: l, o + 1, v, h => by
    rw [List.set_cons_succ, list_set_mid l o v (by simpa using h)]
    simp
theorem heap_setCells (g : Nat) (t : TypeId) : ∀ (vs : List Value) (o : Nat) (w : World) (cur : Array Value), w.heap[g]? = some (.cells cur t (0, 0)) → o + vs.length ≤ cur.size →
    (w.setCells g o vs).heap[g]? = some (.cells (cur.toList.take o ++ vs ++ cur.toList.drop (o + vs.length)).toArray t (0, 0))
  | [], o, w, cur, h, _ => by
    rw [World.setCells]
    simpa using h
  | v :: vs, o, w, cur, h, hl => by
    rw [List.length_cons] at hl
    rw [World.setCells, heap_setCells g t vs (o + 1) _ _ (Mem.heap_setCell_same h v) (by simp; omega)]
    have e : (cur.setIfInBounds o v).toList = cur.toList.take o ++ v :: cur.toList.drop (o + 1) := by
      rw [Array.toList_setIfInBounds, list_set_mid _ _ _ (by rw [Array.length_toList]; omega)]
    rw [e]
    have hlen : (cur.toList.take o).length = o := by rw [List.length_take, Array.length_toList]; omega
    congr 2
    rw [List.length_cons]
    rw [List.take_append, hlen, List.take_of_length_le (l := cur.toList.take o) (by omega), show o + 1 - o = 1 by omega, List.drop_append, hlen, List.drop_of_length_le (l := cur.toList.take o) (by omega), List.nil_append, show o + 1 + vs.length - o = vs.length + 1 by omega, List.drop_succ_cons, List.drop_drop, show o + 1 + vs.length = o + (vs.length + 1) by omega]
    simp
theorem turns_setCells (g : Nat) : ∀ (vs : List Value) (o : Nat) (a w : World), Turns (fun q => q = g) a w → Turns (fun q => q = g) a (w.setCells g o vs)
  | [], _, _, _, h => h
  | v :: vs, o, a, _, h => turns_setCells g vs (o + 1) a _ (h.setCell (x := ⟨g, o, none⟩) (Or.inr rfl) v)
theorem owns_erase {w : World} {base g cap n i : Nat} {S : ByteArray} {K : List Nat} (x y : Value) (h : w.ownsRow base 261 2 (.slice (some ⟨g, 0, none⟩) (n + 1) cap) (n + 1) (pgV S K)) (hn : K.length = n + 1) (hi : i ≤ n) :
    ((w.setCells g (i * 2) (pgV S (K.drop (i + 1)))).setCells g (n * 2) [x, y]).ownsRow base 261 2 (.slice (some ⟨g, 0, none⟩) n cap) n (pgV S (K.eraseIdx i)) := by
  obtain ⟨h1, h2⟩ := h
  have hel : (K.eraseIdx i).length = n := by rw [List.length_eraseIdx, if_pos (by omega), hn]; rfl
  refine ⟨by rw [pgV_len, hel], ?_⟩
  rcases h2 with ⟨h2, _⟩ | ⟨g', cap', cur, hv, hg, hb, hc1, hc2, hc3, hc4⟩
  · cases h2
  · injection hv with e1 e2 e3
    injection e1 with e1
    injection e1 with e1
    subst e1 e3
    have hm : (pgV S (K.drop (i + 1))).length = (n - i) * 2 := by rw [pgV_len, List.length_drop, hn]; congr 1; omega
    have b1 := heap_setCells g 261 (pgV S (K.drop (i + 1))) (i * 2) w cur hb (by rw [hm]; omega)
    have hcl : cur.toList.length = cap * 2 := by rw [Array.length_toList]; exact hc3
    have hsz : (cur.toList.take (i * 2) ++ pgV S (K.drop (i + 1)) ++ cur.toList.drop (i * 2 + (pgV S (K.drop (i + 1))).length)).length = cap * 2 := by
      rw [List.length_append, List.length_append, List.length_take, List.length_drop, hm, hcl]; omega
    have b2 := heap_setCells g 261 [x, y] (n * 2) _ _ b1 (by
      show n * 2 + 2 ≤ _
      rw [List.size_toArray, hsz]; omega)
    refine Or.inr ⟨g, cap, _, rfl, hg, b2, by omega, hc2, ?_, ?_⟩
    · simp only [List.size_toArray, List.length_append, List.length_take, List.length_drop, hm, hcl, List.length_cons, List.length_nil]; omega
    · simp only [List.append_assoc]
      have t0 : cur.toList.take (i * 2) = pgV S (K.take i) := by
        have e : pgV S K = pgV S (K.take i) ++ pgV S (K.drop i) := by rw [← pgV_append, List.take_append_drop]
        have e2 := congrArg (List.take (i * 2)) hc4
        rw [List.take_take, show min (i * 2) ((n + 1) * 2) = i * 2 by omega, e, List.take_append_of_le_length (by rw [pgV_len, List.length_take, hn]; omega), List.take_of_length_le (l := pgV S (K.take i)) (by rw [pgV_len, List.length_take, hn]; omega)] at e2
        exact e2
      rw [List.take_append_of_le_length (by rw [List.length_take]; simp only [List.length_append, List.length_take, List.length_drop, hm, hcl]; omega), List.take_take, Nat.min_self, t0, ← List.append_assoc, ← pgV_append, List.take_append_of_le_length (by rw [pgV_len]; simp only [List.length_append, List.length_take, List.length_drop, hn]; omega), List.take_of_length_le (by rw [pgV_len]; simp only [List.length_append, List.length_take, List.length_drop, hn]; omega), List.eraseIdx_eq_take_drop_succ]
theorem run_clear2 {P : Program} (w : World) (t e ty : TypeId) (x y : Value) (ht : P.underlying t = some (.slice e)) (hv : ∀ w, (zeroValue e).run P w = .ok (.agg #[x, y]) w) (h1 : x.oneCell' = true) (h2 : y.oneCell' = true) (b o c : Nat)
    (hc : ∀ j, j < 2 → (w.cell? ⟨b, o + j, none⟩).isSome = true) (hf : ∀ j, j < 2 → w.frozen? ⟨b, o + j, none⟩ = false) :
    (Builtin.clear_ #[t] ty #[.slice (some ⟨b, o, none⟩) 1 c]).run P w = .ok (.tuple #[]) (w.setCells b o [x, y]) := by
  have hzc : (Builtin.zeroCells (Value.agg #[x, y]).cells 1).toList = [x, y] := by
    simp [Builtin.zeroCells, Value.cells]
    rfl
  have hst := run_storeCells_cells (P := P) b o [x, y] 0 w (by simpa using hc) (by simpa using hf) (by intro v hv'; simp at hv'; rcases hv' with rfl | rfl; exact h1; exact h2)
  simp only [Nat.add_zero] at hst
  simp [Builtin.clear_, run_underlying ht, hv, hzc, hst]
theorem pgV_one (S : ByteArray) : ∀ (K : List Nat), ∀ u ∈ pgV S K, u.oneCell' = true
  | [], u, h => by cases h
  | k :: t, u, h => by
    rw [pgV] at h
    rcases List.mem_cons.1 h with rfl | h
    · rfl
    · rcases List.mem_cons.1 h with rfl | h
      · rfl
      · exact pgV_one S t u h
theorem info261 : (Tryz.prog.info? 261).map (fun i => (i.zero, i.size, i.bytes)) = some (some (.agg #[.int .i64 0, .string ⟨#[]⟩]), 2, 24) := by kernel_rfl

set_option maxRecDepth 100000 in
set_option maxHeartbeats 2000000 in
theorem delete_any (S : ByteArray) (K : List Nat) (base g cap i j n : Nat) (w : World) (h : w.ownsRow base 261 2 (.slice (some ⟨g, 0, none⟩) (n + 1) cap) (n + 1) (pgV S K)) (hn : K.length = n + 1) (hj : j = i + 1) (hi : i ≤ n) (hnb : n ≤ 100) :
    Calls Tryz.prog 185 #[.slice (some ⟨g, 0, none⟩) (n + 1) cap, .int .i64 (i : Int), .int .i64 (j : Int)] w fun e w' => e = .returned (.slice (some ⟨g, 0, none⟩) n cap) ∧ w'.ownsRow base 261 2 (.slice (some ⟨g, 0, none⟩) n cap) n (pgV S (K.eraseIdx i)) ∧ Turns (fun q => q = g) w w' := by
  obtain ⟨i0, hi0, hz0, hz1, hz2⟩ := info_parts info261
  obtain ⟨cur, hb, hcap, hcs, hct, hcm⟩ : ∃ cur, w.heap[g]? = some (.cells cur 261 (0, 0)) ∧ n + 1 ≤ cap ∧ cur.size = cap * 2 ∧ cur.toList.take ((n + 1) * 2) = pgV S K ∧ cap ≤ 9223372036854775807 := by
    rcases h.2 with ⟨h2, _⟩ | ⟨g', cap', cur, hv, hg, hb, hc1, hc2, hc3, hc4⟩
    · cases h2
    · injection hv with e1 e2 e3
      injection e1 with e1
      injection e1 with e1
      subst e1 e3
      exact ⟨cur, hb, hc1, hc3, hc4, by unfold maxLen at hc2; omega⟩
  have hcell : ∀ t, t < cap * 2 → (w.cell? ⟨g, t, none⟩).isSome = true ∧ w.frozen? ⟨g, t, none⟩ = false := fun t ht => by
    refine ⟨?_, ?_⟩
    · simp [World.cell?, hb, hcs, ht]
    · simp [World.frozen?, hb]
  obtain ⟨news, hnews⟩ : ∃ news, news = pgV S (K.drop (i + 1)) := ⟨_, rfl⟩
  have hlen : news.length = (n + 1 - j) * 2 := by rw [hnews, pgV_len, List.length_drop, hn, hj]
  have hat : ∀ t u, news[t]? = some u → w.cell? ⟨g, j * 2 + t, none⟩ = some u := fun t u hu => by
    have ht := (List.getElem?_eq_some_iff.1 hu).1
    rw [World.ownsRow.cellAt h (j * 2 + t) (by omega)]
    have e : pgV S K = pgV S (K.take (i + 1)) ++ news := by rw [hnews, ← pgV_append, List.take_append_drop]
    have hl : (pgV S (K.take (i + 1))).length = j * 2 := by rw [pgV_len, List.length_take, hn, hj]; congr 1; omega
    rw [e, List.getElem?_append_right (by omega), hl, Nat.add_sub_cancel_left]
    exact hu
  obtain ⟨A, hA, hsrc⟩ : ∃ A : Addr, (if cap = j then some (⟨g, 0, none⟩ : Addr) else some ⟨g, j * 2, none⟩) = some A ∧ Hid (∀ t u, news[t]? = some u → w.drew.cell? (A.add t) = some u) := by
    by_cases h : cap = j
    · refine ⟨⟨g, 0, none⟩, by simp [h], fun t u hu => ?_⟩
      have h0 : news.length = 0 := by rw [hlen]; omega
      rw [List.length_eq_zero_iff.1 h0] at hu
      simp at hu
    · refine ⟨⟨g, j * 2, none⟩, by simp [h], fun t u hu => ?_⟩
      rw [Addr.add_lit]
      exact hat t u hu
  have s1 : Hid (news.length = (n + 1 - j) * 2) := hlen
  have s2 : Hid (∀ u ∈ news, u.oneCell' = true) := by rw [hnews]; exact pgV_one S _
  have s3 : Hid (∀ t, t < news.length → (w.drew.cell? ⟨g, 0 + i * 2 + t, none⟩).isSome = true ∧ w.drew.frozen? ⟨g, 0 + i * 2 + t, none⟩ = false) := fun t ht => hcell _ (by omega)
  obtain ⟨W1, hW1⟩ : ∃ W1, W1 = w.drew.setCells g (0 + i * 2) news := ⟨_, rfl⟩
  have hW : Hid (W1 = w.drew.setCells g (0 + i * 2) news) := hW1
  have hcl : ∀ ty, (Builtin.clear_ #[82] ty #[.slice (some ⟨g, n * 2, none⟩) 1 (cap - n)]).run Tryz.prog W1 = .ok (.tuple #[]) (W1.setCells g (n * 2) [.int .i64 0, .string ⟨#[]⟩]) := fun ty =>
    run_clear2 W1 82 261 ty (.int .i64 0) (.string ⟨#[]⟩) Tryz.underlying82 Tryz.zeroValue261 rfl rfl g (n * 2) (cap - n) (fun t ht => by
      rw [hW1]
      exact World.isSome_setCells g news (0 + i * 2) w.drew ⟨g, n * 2 + t, none⟩ (hcell _ (by omega)).1) (fun t ht => by
      rw [hW1, World.frozen?_setCells]
      exact (hcell _ (by omega)).2)
  have HE : Hid ((W1.setCells g (n * 2) [.int .i64 0, .string ⟨#[]⟩]).ownsRow base 261 2 (.slice (some ⟨g, 0, none⟩) n cap) n (pgV S (K.eraseIdx i)) ∧ Turns (fun q => q = g) w (W1.setCells g (n * 2) [.int .i64 0, .string ⟨#[]⟩])) := by
    refine ⟨?_, ?_⟩
    · rw [hW1, hnews, Nat.zero_add]
      exact owns_erase (w := w.drew) _ _ h hn hi
    · rw [hW1]
      exact turns_setCells g _ _ _ _ (turns_setCells g _ _ _ _ (Turns.refl _ _).drew)
  have hij : ((i : Int) == (j : Int)) = false := by simp; omega
  have hic : (i : Int) ≤ (cap : Int) := by omega
  have hjc : (j : Int) ≤ (cap : Int) := by omega
  have hjn : (j : Int) ≤ (n : Int) + 1 := by omega
  have hijl : (i : Int) ≤ (j : Int) := by omega
  have hnc : (n : Int) + 1 ≤ (cap : Int) := by omega
  have HIM : Hid (i + (n + 1 - j) = n) := by show _ = _; omega
  have HIC : Hid (i + (n + 1 - j) ≤ cap) := by show _ ≤ _; omega
  clear h hb hcs hct hcell hat hnews hlen hW1 hj
  go_enter Tryz.func185, Tryz.ntmps185
  go_wp2_with fail
  go_region_law (refine step_append_room rfl (.tmp 22) (.tmp 25) 82 rfl 261 i0 2 Tryz.underlying82 hi0 hz1 g 0 i cap (by simp [Act.eval, Act.put]) A (n + 1 - j) (cap - j) news (by simp [Act.eval, Act.put]) s1.out hsrc.out s2.out HIC.out s3.out ?_; rw [← hW.out, HIM.out])
  go_wp2
  go_ret
  exact ⟨rfl, HE.out⟩
end Go.Proofs.YtdogncjcainhlaaGreatDoor
/- The walks of the shelf: Reads, read, makeRoom. -/
namespace Go.Proofs.YtdogncjcainhlaaGreatDoor
open Go.RowKit Go.Deep
open Mem

section
variable {w : World} {b : Nat} {m : Int} {ov sv : Value} {S : ByteArray} {c : Int} {kv : Value}
set_option maxRecDepth 100000 in
theorem shReads_any {r : Int} (h : SBox w b m ov sv S c kv r) : Calls Tryz.prog 40 #[.pointer (some ⟨b, 4, none⟩)] w fun e w' => e = .returned (.int .i64 r) ∧ w' = w := by
  have e7 := h.c7
  clear h
  go_enter Tryz.func40, Tryz.ntmps40
  go_wp2
  go_ret
  exact ⟨rfl, rfl⟩
set_option maxRecDepth 100000 in
set_option maxHeartbeats 1000000 in
theorem shRead_any {r p : Nat} (h : SBox w b m ov sv S c kv r) (hr : r ≤ 100000000000000000) (hp : p ≤ 100000) (hS : 28 * p + 28 ≤ S.size) : Calls Tryz.prog 163 #[.pointer (some ⟨b, 4, none⟩), .int .i64 (p : Int)] w fun e w' => e = .returned (.agg #[.int .i64 (p : Int), .string (pgOf S p)]) ∧ SBox w' b m ov sv S c kv ((r : Int) + 1) ∧ Turns (fun q => q = b) w w' := by
  have e7 := h.c7
  have e4 := h.c4
  have f7 := h.free 7
  have hbl := h.lt
  have HX : Hid (∀ o, SBox ((w.setCell ⟨b, 7, none⟩ (.int .i64 ((r : Int) + 1))).alloc o) b m ov sv S c kv ((r : Int) + 1) ∧ Turns (fun q => q = b) w ((w.setCell ⟨b, 7, none⟩ (.int .i64 ((r : Int) + 1))).alloc o)) := by
    intro o
    exact ⟨(h.set7 _).turns ((Turns.refl (fun _ => False) _).alloc o) (fun x => x), ((Turns.refl (fun q => q = b) w).setCell (x := ⟨b, 7, none⟩) (Or.inr rfl) _).alloc o⟩
  obtain ⟨p28, hp28⟩ : ∃ q, q = 28 * p := ⟨_, rfl⟩
  have hw1 : IntKind.i64.wrap ((p : Int) * 28) = (p28 : Int) := by rw [IntKind.wrap_i64]; omega
  have hw2 : IntKind.i64.wrap ((p28 : Int) + 28) = (p28 : Int) + 28 := by rw [IntKind.wrap_i64]; omega
  have hw3 : IntKind.i64.wrap ((r : Int) + 1) = (r : Int) + 1 := by rw [IntKind.wrap_i64]; omega
  have hS1 : (p28 : Int) + 28 ≤ (S.size : Int) := by omega
  have hS2 : (p28 : Int) ≤ (p28 : Int) + 28 := by omega
  have hpg : S.extract p28 (p28 + 28) = pgOf S p := by rw [pgOf, hp28]
  clear h hp28
  go_enter Tryz.func163, Tryz.ntmps163
  go_wp2
  exact bodyPost_ret (v := .agg #[.int .i64 (p : Int), .string (pgOf S p)]) (by simp [results, Tryz.results163, go_sem]) rfl ⟨rfl, HX.out _⟩
set_option maxRecDepth 100000 in
set_option maxHeartbeats 1000000 in
theorem shMakeRoom_any {r : Int} {n : Nat} {K : List Nat} (h : SBox w b m ov sv S (n : Int) kv r) (hk : w.ownsRow 0 261 2 kv K.length (pgV S K)) (hne : ∀ q, kv.ownBlock = some q → q ≠ b) (hn : 1 ≤ n) (hn8 : n ≤ 8) (hKn : K.length ≤ n) :
    Calls Tryz.prog 162 #[.pointer (some ⟨b, 4, none⟩)] w fun e w' => e = .returned (.tuple #[]) ∧ ∃ kv', SBox w' b m ov sv S (n : Int) kv' r ∧ w'.ownsRow 0 261 2 kv' (if K.length = n then K.tail else K).length (pgV S (if K.length = n then K.tail else K)) ∧ (∀ q, kv'.ownBlock = some q → kv.ownBlock = some q) ∧ Turns (fun q => q = b ∨ kv.ownBlock = some q) w w' := by
  have e5 := h.c5
  have e6 := h.c6
  by_cases hl : K.length = n
  · rw [if_pos hl]
    obtain ⟨n', rfl⟩ : ∃ n', n = n' + 1 := ⟨n - 1, by omega⟩
    rw [hl] at hk
    obtain ⟨g, cap, rfl⟩ := owns_form hk
    have HCD : Hid (∀ wd, Turns (fun _ => False) w wd → Calls Tryz.prog 185 #[.slice (some ⟨g, 0, none⟩) (n' + 1) cap, .int .i64 0, .int .i64 1] wd fun e w2 => e = .returned (.slice (some ⟨g, 0, none⟩) n' cap) ∧ (w2.ownsRow 0 261 2 (.slice (some ⟨g, 0, none⟩) n' cap) n' (pgV S (K.eraseIdx 0)) ∧ Turns (fun q => q = g) w w2)) := fun wd t => (delete_any S K 0 g cap 0 1 n' wd (owns_turns hk t) hl rfl (Nat.zero_le _) (by omega)).mono fun e w2 hh => ⟨hh.1, hh.2.1, (t.mono (fun _ _ x => x.elim)).trans hh.2.2⟩
    have hgb : g ≠ b := hne g rfl
    have HX : Hid (∀ w2, (w2.ownsRow 0 261 2 (.slice (some ⟨g, 0, none⟩) n' cap) n' (pgV S (K.eraseIdx 0)) ∧ Turns (fun q => q = g) w w2) → w2.frozen? ⟨b, 6, none⟩ = false ∧ w2.cell? ⟨b, 6, none⟩ = some (.slice (some ⟨g, 0, none⟩) (n' + 1) cap) ∧ b < w2.heap.size ∧ Hid (SBox (w2.setCell ⟨b, 6, none⟩ (.slice (some ⟨g, 0, none⟩) n' cap)) b m ov sv S ((n' + 1 : Nat) : Int) (.slice (some ⟨g, 0, none⟩) n' cap) r ∧ (w2.setCell ⟨b, 6, none⟩ (.slice (some ⟨g, 0, none⟩) n' cap)).ownsRow 0 261 2 (.slice (some ⟨g, 0, none⟩) n' cap) K.tail.length (pgV S K.tail) ∧ Turns (fun q => q = b ∨ (Value.slice (some ⟨g, 0, none⟩) (n' + 1) cap).ownBlock = some q) w (w2.setCell ⟨b, 6, none⟩ (.slice (some ⟨g, 0, none⟩) n' cap)))) := by
      rintro w2 ⟨ho, ht⟩
      have hb2 := h.turns ht (fun c => hgb c.symm)
      refine ⟨hb2.free 6, hb2.c6, hb2.lt, hb2.set6 _, ?_, ?_⟩
      · have hKt : K.eraseIdx 0 = K.tail := by cases K <;> rfl
        rw [hKt] at ho
        rw [show K.tail.length = n' by rw [List.length_tail, hl]; rfl]
        exact owns_turns_p ho ((Turns.refl (fun q => q = b) w2).setCell (x := ⟨b, 6, none⟩) (Or.inr rfl) _) (fun q hq c => by
          have hq : some g = some q := hq
          injection hq with hq
          omega)
      · have hm : Turns (fun q => q = b ∨ (Value.slice (some ⟨g, 0, none⟩) (n' + 1) cap).ownBlock = some q) w w2 := ht.mono (fun q _ c => Or.inr (by subst c; rfl))
        exact hm.setCell (x := ⟨b, 6, none⟩) (Or.inr (Or.inl rfl)) _
    have hbl := h.lt
    clear h hk hne hl
    go_enter Tryz.func162, Tryz.ntmps162
    go_wp2_with fail
    go_quiet (fail)
    go_wp2_with fail
    refine (HCD.out _ ((Turns.refl _ _).drewN _)).mono ?_
    rintro e w2 ⟨rfl, h2⟩
    obtain ⟨f6', c6', hb2, HY⟩ := HX.out w2 h2
    clear HX h2 HCD e5 e6
    go_wp2
    go_end0
    exact ⟨rfl, _, HY.out.1, HY.out.2.1, fun q hq => hq, HY.out.2.2⟩
  · rw [if_neg hl]
    obtain ⟨a, n2, c2, rfl, hn2⟩ : ∃ a n2 c2, kv = .slice a n2 c2 ∧ n2 = K.length := by
      rcases hk.2 with ⟨h1, h2⟩ | ⟨g, cap, cur, h1, _⟩
      · exact ⟨none, 0, 0, h1, h2.symm⟩
      · exact ⟨_, _, _, h1, rfl⟩
    have hf : ((n2 : Int) == (n : Int)) = false := by simp; omega
    have HX : Hid (∀ i, ∃ kv', SBox (w.drewN i) b m ov sv S (n : Int) kv' r ∧ (w.drewN i).ownsRow 0 261 2 kv' K.length (pgV S K) ∧ (∀ q, kv'.ownBlock = some q → (Value.slice a n2 c2).ownBlock = some q) ∧ Turns (fun q => q = b ∨ (Value.slice a n2 c2).ownBlock = some q) w (w.drewN i)) := fun i => ⟨_, h, hk, fun q hq => hq, (Turns.refl _ _).drewN i⟩
    clear h hk hne hl hn2
    go_enter Tryz.func162, Tryz.ntmps162
    go_wp2_with fail
    go_quiet (fail)
    go_wp2
    go_end0
    exact ⟨rfl, HX.out _⟩
end
end Go.Proofs.YtdogncjcainhlaaGreatDoor
/- The hub by which two labels are joined; pages that are kept: no program in it. -/
namespace Go.Proofs.YtdogncjcainhlaaGreatDoor
namespace Pu

def met1 (r : Nat) (f : Int) : Int × Nat → List (Nat × Int) → Int × Nat
  | s, [] => s
  | s, (q, g) :: t => met1 r f (if r = q ∧ f + g < s.1 then (f + g, r) else s) t
/-- The least sum by looking at all pairs. -/
def metA : Int × Nat → List (Nat × Int) → List (Nat × Int) → Int × Nat
  | s, [], _ => s
  | s, (r, f) :: a, b => metA (met1 r f s b) a b
/-- The least sum by going along both. -/
def best : Option (Nat × Int) → List (Nat × Int) → List (Nat × Int) → Option (Nat × Int)
  | o, [], _ => o
  | o, _ :: _, [] => o
  | o, (r, f) :: a, (q, g) :: b =>
    if r < q then best o a ((q, g) :: b)
    else if q < r then best o ((r, f) :: a) b
    else best (match o with
      | none => some (r, f + g)
      | some (x, s) => if f + g < s then some (r, f + g) else some (x, s)) a b
termination_by _ a b => a.length + b.length
theorem best_nil (o : Option (Nat × Int)) (b : List (Nat × Int)) : best o [] b = o := by rw [best.eq_def]
theorem best_end (o : Option (Nat × Int)) (a : List (Nat × Int)) : best o a [] = o := by rw [best.eq_def]; cases a <;> rfl
theorem best_lo {o : Option (Nat × Int)} {r q : Nat} {f g : Int} {a b : List (Nat × Int)} (h : r < q) : best o ((r, f) :: a) ((q, g) :: b) = best o a ((q, g) :: b) := by
  conv => lhs; rw [best.eq_def]
  simp only [if_pos h]
theorem best_hi {o : Option (Nat × Int)} {r q : Nat} {f g : Int} {a b : List (Nat × Int)} (h : q < r) : best o ((r, f) :: a) ((q, g) :: b) = best o ((r, f) :: a) b := by
  conv => lhs; rw [best.eq_def]
  simp only [if_neg (show ¬ r < q by omega), if_pos h]
def better (r : Nat) (x : Int) : Option (Nat × Int) → Option (Nat × Int)
  | none => some (r, x)
  | some (y, s) => if x < s then some (r, x) else some (y, s)
theorem best_eq {o : Option (Nat × Int)} {r : Nat} {f g : Int} {a b : List (Nat × Int)} : best o ((r, f) :: a) ((r, g) :: b) = best (better r (f + g) o) a b := by
  conv => lhs; rw [best.eq_def]
  simp only [if_neg (Nat.lt_irrefl r)]
  cases o <;> rfl
def encO : Option (Nat × Int) → Int × Nat
  | none => (1000000000, 0)
  | some (r, s) => (s, r)
theorem Rise.up {y : Nat} : ∀ {l : List (Nat × Int)} {x : Nat}, Rise x l → y < x → ∀ p ∈ l, p.1 ≠ y
  | [], _, _, _ => fun p hp => by simp at hp
  | (r, f) :: t, x, ⟨h1, _, _, _, h5⟩, hy => fun p hp => by
    rcases List.mem_cons.1 hp with rfl | hp
    · simp only; omega
    · exact Rise.up h5 (by omega) p hp
theorem met1_none {r : Nat} {f : Int} : ∀ {b : List (Nat × Int)} {s : Int × Nat}, (∀ p ∈ b, p.1 ≠ r) → met1 r f s b = s
  | [], s, _ => rfl
  | (q, g) :: t, s, h => by
    have : ¬ (r = q ∧ f + g < s.1) := fun ⟨e, _⟩ => h (q, g) (by simp) e.symm
    rw [met1, if_neg this]
    exact met1_none fun p hp => h p (by simp [hp])
theorem metA_none {q : Nat} {g : Int} {b : List (Nat × Int)} : ∀ {a : List (Nat × Int)} {s : Int × Nat}, (∀ p ∈ a, p.1 ≠ q) → metA s a ((q, g) :: b) = metA s a b
  | [], s, _ => rfl
  | (r, f) :: t, s, h => by
    have : ¬ (r = q ∧ f + g < s.1) := fun ⟨e, _⟩ => h (r, f) (by simp) e
    rw [metA, metA, met1, if_neg this]
    exact metA_none fun p hp => h p (by simp [hp])
theorem metA_nil : ∀ {a : List (Nat × Int)} {s : Int × Nat}, metA s a [] = s
  | [], s => rfl
  | (r, f) :: t, s => by rw [metA, met1]; exact metA_nil
/-- Both ways tell the same of labels whose ranks rise. -/
theorem met_best : ∀ (a b : List (Nat × Int)) (o : Option (Nat × Int)) (x y : Nat), Rise x a → Rise y b → metA (encO o) a b = encO (best o a b)
  | [], b, o, x, y, _, _ => by rw [metA, best_nil]
  | (r, f) :: a, [], o, x, y, _, _ => by rw [metA_nil, best_end]
  | (r, f) :: a, (q, g) :: b, o, x, y, ha, hb => by
    obtain ⟨a1, a2, a3, a4, a5⟩ := ha
    obtain ⟨b1, b2, b3, b4, b5⟩ := hb
    by_cases h1 : r < q
    · rw [best_lo h1, metA, met1_none (Rise.up (l := (q, g) :: b) (x := q) ⟨Nat.le_refl _, by omega, b3, b4, b5⟩ h1)]
      exact met_best a ((q, g) :: b) o (r + 1) y a5 ⟨b1, b2, b3, b4, b5⟩
    · by_cases h2 : q < r
      · rw [best_hi h2, metA_none (Rise.up (l := (r, f) :: a) (x := r) ⟨Nat.le_refl _, by omega, a3, a4, a5⟩ h2)]
        exact met_best ((r, f) :: a) b o x (q + 1) ⟨a1, a2, a3, a4, a5⟩ b5
      · have e : r = q := by omega
        subst e
        rw [best_eq, metA, met1, met1_none (Rise.up b5 (by omega)), metA_none (Rise.up a5 (by omega)), ← met_best a b _ (r + 1) (r + 1) a5 b5]
        congr 1
        cases o with
        | none =>
          simp only [encO, better, true_and]
          rw [if_pos (by omega)]
        | some z =>
          obtain ⟨z1, z2⟩ := z
          simp only [encO, better, true_and]
          split <;> rfl
termination_by a b => a.length + b.length
theorem best_lt : ∀ (a b : List (Nat × Int)) (o : Option (Nat × Int)) (x y : Nat), Rise x a → Rise y b → (∀ r s, o = some (r, s) → s < 1000000000) → ∀ r s, best o a b = some (r, s) → s < 1000000000
  | [], b, o, x, y, _, _, h => by rw [best_nil]; exact h
  | (r, f) :: a, [], o, x, y, _, _, h => by rw [best_end]; exact h
  | (r, f) :: a, (q, g) :: b, o, x, y, ha, hb, h => by
    obtain ⟨a1, a2, a3, a4, a5⟩ := ha
    obtain ⟨b1, b2, b3, b4, b5⟩ := hb
    by_cases h1 : r < q
    · rw [best_lo h1]
      exact best_lt a ((q, g) :: b) o (r + 1) y a5 ⟨b1, b2, b3, b4, b5⟩ h
    · by_cases h2 : q < r
      · rw [best_hi h2]
        exact best_lt ((r, f) :: a) b o x (q + 1) ⟨a1, a2, a3, a4, a5⟩ b5 h
      · have e : r = q := by omega
        subst e
        rw [best_eq]
        refine best_lt a b _ (r + 1) (r + 1) a5 b5 ?_
        intro z s hz
        cases o with
        | none => simp only [better, Option.some.injEq, Prod.mk.injEq] at hz; omega
        | some w =>
          obtain ⟨w1, w2⟩ := w
          have := h w1 w2 rfl
          simp only [better] at hz
          split at hz <;> simp only [Option.some.injEq, Prod.mk.injEq] at hz <;> omega
termination_by a b => a.length + b.length

/-- A page is looked at: what is kept behind it (that which was looked at longest ago first). -/
def lookK (c : Nat) (K : List Nat) (p : Nat) : List Nat := (if p ∈ K then K.erase p else if K.length = c then K.tail else K) ++ [p]
/-- Whether it is read. -/
def lookR (K : List Nat) (p : Nat) : Nat := if p ∈ K then 0 else 1
/-- So many pages in a row are looked at: what is kept, how many were read. -/
def looks (c : Nat) : List Nat × Nat → Nat → Nat → List Nat × Nat
  | s, _, 0 => s
  | (K, r), p, k + 1 => looks c (lookK c K p, r + lookR K p) (p + 1) k
structure Keeps (c : Nat) (K : List Nat) : Prop where
  nd : K.Nodup
  le : K.length ≤ c
theorem Keeps.look {c : Nat} {K : List Nat} (h : Keeps c K) (hc : 1 ≤ c) (p : Nat) : Keeps c (lookK c K p) := by
  unfold lookK
  by_cases h1 : p ∈ K
  · rw [if_pos h1]
    refine ⟨?_, ?_⟩
    · rw [List.nodup_append]
      refine ⟨h.nd.erase p, by simp, fun a ha b hb => ?_⟩
      rw [List.mem_singleton] at hb
      subst hb
      rintro rfl
      exact (List.Nodup.not_mem_erase h.nd) ha
    · have := List.length_erase_of_mem h1
      have := List.length_pos_of_mem h1
      have := h.le
      rw [List.length_append, List.length_singleton]; omega
  · rw [if_neg h1]
    by_cases h2 : K.length = c
    · rw [if_pos h2]
      refine ⟨?_, by rw [List.length_append, List.length_tail, List.length_singleton]; omega⟩
      rw [List.nodup_append]
      refine ⟨h.nd.sublist (List.tail_sublist K), by simp, fun a ha b hb => ?_⟩
      rw [List.mem_singleton] at hb
      subst hb
      rintro rfl
      exact h1 (List.mem_of_mem_tail ha)
    · rw [if_neg h2]
      refine ⟨?_, by have := h.le; rw [List.length_append, List.length_singleton]; omega⟩
      rw [List.nodup_append]
      refine ⟨h.nd, by simp, fun a ha b hb => ?_⟩
      rw [List.mem_singleton] at hb
      subst hb
      rintro rfl
      exact h1 ha
theorem Keeps.looks {c : Nat} (hc : 1 ≤ c) : ∀ (k : Nat) {K : List Nat} {r : Nat} (p : Nat), Keeps c K → Keeps c (looks c (K, r) p k).1
  | 0, _, _, _, h => h
  | k + 1, _, _, p, h => Keeps.looks hc k (p + 1) (h.look hc p)
end Pu
end Go.Proofs.YtdogncjcainhlaaGreatDoor
/- The walk of the shelf's pick. -/
namespace Go.Proofs.YtdogncjcainhlaaGreatDoor
open Go.RowKit Go.Deep
open Mem

section
variable {w : World} {b : Nat} {m : Int} {ov sv : Value} {S : ByteArray} {c : Int} {kv : Value}
set_option maxRecDepth 100000 in
theorem pickClo_any (k p z : Nat) (v : ByteArray) (w : World) (h : w.cell? ⟨z, 0, none⟩ = some (.int .i64 (p : Int))) : Calls Tryz.prog 184 #[.agg #[.int .i64 (k : Int), .string v], .pointer (some ⟨z, 0, none⟩)] w fun e w' => e = .returned (.bool (decide (k = p))) ∧ Turns (fun _ => False) w w' := by
  have hz : z < w.heap.size := World.block_lt_of_cell? _ _ h
  have HT : Hid (∀ o, Turns (fun _ => False) w (w.alloc o)) := fun o => (Turns.refl _ _).alloc o
  by_cases e : k = p
  · subst e
    go_enter Tryz.func184, Tryz.ntmps184
    go_wp2
    go_ret
    exact ⟨by simp, HT.out _⟩
  · have he : ((k : Int) == (p : Int)) = false := by simp; omega
    go_enter Tryz.func184, Tryz.ntmps184
    go_wp2
    go_ret
    exact ⟨by simp [e], HT.out _⟩
/-- Where a number stands, or -1. -/
def Pu.idxI (K : List Nat) (p : Nat) : Int := if p ∈ K then (K.idxOf p : Int) else -1
theorem Pu.idxI_none {K : List Nat} {p : Nat} (h : ∀ j, j < K.length → K[j]? ≠ some p) : Pu.idxI K p = -1 := by
  rw [Pu.idxI, if_neg]
  intro hm
  obtain ⟨j, hj, e⟩ := List.getElem_of_mem hm
  exact h j hj (by rw [List.getElem?_eq_getElem hj, e])
theorem Pu.idxI_at {K : List Nat} {p i : Nat} (h0 : K[i]? = some p) (h : ∀ j, j < i → K[j]? ≠ some p) : Pu.idxI K p = i := by
  have hm : p ∈ K := List.mem_of_getElem? h0
  rw [Pu.idxI, if_pos hm]
  have h1 : K.idxOf p < K.length := List.idxOf_lt_length_iff.2 hm
  have h2 : K[K.idxOf p]? = some p := by rw [List.getElem?_eq_getElem h1, List.getElem_idxOf h1]
  have h3 : ¬ K.idxOf p < i := fun c => h _ c h2
  have h4 : K.idxOf p ≤ i := by
    apply Nat.le_of_not_lt
    intro c
    have hil := (List.getElem?_eq_some_iff.1 h0).1
    have := List.not_of_lt_findIdx (p := (· == p)) (xs := K) (i := i) (by simpa [List.idxOf] using c)
    rw [List.getElem?_eq_getElem hil] at h0
    injection h0 with h0
    simp [h0] at this
  have : K.idxOf p = i := by omega
  rw [this]
set_option maxRecDepth 100000 in
set_option maxHeartbeats 1000000 in
theorem idxFunc_any (p z : Nat) (K : List Nat) (w : World) (hk : w.ownsRow 0 261 2 kv K.length (pgV S K)) (hz : w.cell? ⟨z, 0, none⟩ = some (.int .i64 (p : Int))) (hK8 : K.length ≤ 8) :
    Calls Tryz.prog 183 #[kv, .func (.func 184) #[] #[.pointer (some ⟨z, 0, none⟩)]] w fun e w' => e = .returned (.int .i64 (Pu.idxI K p)) ∧ Turns (fun _ => False) w w' := by
  obtain ⟨a, n, cap, rfl, hn, hcell⟩ : ∃ a n cap, kv = .slice a n cap ∧ n = K.length ∧ Hid (∀ i k : Nat, K[i]? = some k → ∃ g, a = some ⟨g, 0, none⟩ ∧ w.cell? ⟨g, i * 2, none⟩ = some (.int .i64 (k : Int)) ∧ w.cell? ⟨g, i * 2 + 1, none⟩ = some (.string (pgOf S k))) := by
    rcases hk.2 with ⟨h1, h2⟩ | ⟨g, cap, cur, h1, _⟩
    · refine ⟨none, 0, 0, h1, h2.symm, fun i k hi => ?_⟩
      have := (List.getElem?_eq_some_iff.1 hi).1
      omega
    · subst h1
      refine ⟨_, _, _, rfl, rfl, fun i k hi => ⟨g, rfl, ?_⟩⟩
      have hil := (List.getElem?_eq_some_iff.1 hi).1
      obtain ⟨r1, r2⟩ := pgV_get S K i k hi
      exact ⟨by rw [World.ownsRow.cellAt hk (i * 2) (by omega)]; exact r1, by rw [World.ownsRow.cellAt hk (i * 2 + 1) (by omega)]; exact r2⟩
  have HZ : Hid (w.cell? ⟨z, 0, none⟩ = some (.int .i64 (p : Int))) := hz
  have HN : Hid (n = K.length) := hn
  have hn8 : n ≤ 8 := by omega
  clear hk hz hn hK8
  go_enter Tryz.func183, Tryz.ntmps183
  go_wp2
  go_loopw [8] (fun iv wr => ∃ (i : Nat) (wy : World), iv = .int .i64 (i : Int) ∧ i ≤ n ∧ wy = wr ∧ Hid ((∀ j, j < i → K[j]? ≠ some p) ∧ Turns (fun _ => False) w wy)) (fun iv _ => n - (intOf iv).toNat)
  case atStart => exact ⟨0, w, rfl, Nat.zero_le _, rfl, fun j hj => by omega, Turns.refl _ _⟩
  case round =>
    obtain ⟨i, wr, rfl, hin, hwy, HI⟩ := hrel
    subst hwy
    by_cases hlt : i < n
    · have hii : (i : Int) < (n : Int) := by omega
      obtain ⟨k, hk⟩ : ∃ k, K[i]? = some k := ⟨_, List.getElem?_eq_getElem (by have := HN.out; omega)⟩
      obtain ⟨g, rfl, c1, c2⟩ := hcell.out i k hk
      have d1 := (HI.out.2.cell (a := ⟨g, i * 2, none⟩) (World.block_lt_of_cell? _ _ c1) (fun x => x)).trans c1
      have d2 := (HI.out.2.cell (a := ⟨g, i * 2 + 1, none⟩) (World.block_lt_of_cell? _ _ c2) (fun x => x)).trans c2
      have dz := (HI.out.2.cell (a := ⟨z, 0, none⟩) (World.block_lt_of_cell? _ _ HZ.out) (fun x => x)).trans HZ.out
      have cc := pickClo_any k p z (pgOf S k) wr dz
      clear c1 c2 dz
      by_cases hkp : k = p
      · rw [decide_eq_true hkp] at cc
        have HR : Hid (Pu.idxI K p = (i : Int)) := Pu.idxI_at (by rw [hk, hkp]) HI.out.1
        clear hk hkp
        go_wp2_with fail
        refine cc.mono ?_
        rintro e w4 ⟨rfl, hT4⟩
        have HT4 : Hid (Turns (fun _ => False) w w4) := HI.out.2.trans hT4
        clear cc hT4 d1 d2
        go_wp2
        go_ret
        exact ⟨by rw [HR.out]; rfl, HT4.out⟩
      · rw [decide_eq_false hkp] at cc
        have HG : Hid (∀ j, j < i + 1 → K[j]? ≠ some p) := by
          intro j hj
          by_cases e : j = i
          · subst e; rw [hk]; intro c; injection c with c; exact hkp c
          · exact HI.out.1 j (by omega)
        clear hk hkp
        go_wp2_with fail
        refine cc.mono ?_
        rintro e w4 ⟨rfl, hT4⟩
        have HT4 : Hid (Turns (fun _ => False) w w4) := HI.out.2.trans hT4
        clear cc hT4 d1 d2
        go_wp2
        go_roundw
        case rel => exact ⟨i + 1, w4, by go_num, by omega, rfl, HG.out, HT4.out⟩
        case measure => simp [intOf]; omega
    · have hii : ¬ (i : Int) < (n : Int) := by omega
      have HR : Hid (Pu.idxI K p = -1) := Pu.idxI_none (fun j hj => HI.out.1 j (by have := HN.out; omega))
      go_wp2
      go_ret
      exact ⟨by rw [HR.out]; rfl, HI.out.2⟩
end
end Go.Proofs.YtdogncjcainhlaaGreatDoor
