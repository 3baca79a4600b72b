/- Pack6: texts of one proof, one behind the other. -/
import Derived.Test.YtdogncjcainhlaaDoorPack5
import Derived.Test.YtdogncjcainhlaaDoorPack3
import Derived.Test.YtdogncjcainhlaaDoorPack2
import Derived.Lib.SlBytesConst
import Derived.ArgAppend
import Derived.Shelf.Strings.Builder1
import Derived.Test.YtdogncjcainhlaaDoorProg
import Derived.Shelf.Strings.Repeat
/- The walk of the reference's Save. -/
namespace Go.Proofs.YtdogncjcainhlaaDoor
open Go.RowKit Go.Deep
open Mem

namespace Pu
theorem hubK_mem2 {D : Nat → Nat → Int} {O : List Nat} {v k : Nat} {f : Int} : ∀ m, (k, f) ∈ hubK D O v m → k < m ∧ ∃ h : Nat, O[k]? = some h ∧ f = D v h ∧ isHub D v h (O.take k) = true
  | 0, h => by simp [hubK] at h
  | m + 1, h => by
    rw [hubK, List.mem_append] at h
    rcases h with h | h
    · obtain ⟨h1, h2⟩ := hubK_mem2 m h; exact ⟨by omega, h2⟩
    · cases e : O[m]? with
      | none => rw [e] at h; simp at h
      | some y =>
        rw [e] at h
        simp only at h
        split at h
        · rename_i hb
          rw [List.mem_singleton] at h
          injection h with h1 h2
          subst h1
          exact ⟨by omega, y, e, h2, hb⟩
        · simp at h
theorem hubK_step (D : Nat → Nat → Int) (O : List Nat) (v m : Nat) : hubK D O v (m + 1) = hubK D O v m ∨ ∃ f, hubK D O v (m + 1) = hubK D O v m ++ [(m, f)] := by
  rw [hubK]
  cases e : O[m]? with
  | none => left; simp
  | some y =>
    simp only
    split
    · right; exact ⟨_, rfl⟩
    · left; simp
theorem hubK_rise (D : Nat → Nat → Int) (O : List Nat) (v : Nat) : ∀ m, nxt 0 (hubK D O v m) ≤ m ∧ ∀ (i k : Nat) (f : Int), (hubK D O v m)[i]? = some (k, f) → nxt 0 ((hubK D O v m).take i) ≤ k
  | 0 => ⟨Nat.le_refl _, fun i k f h => by simp [hubK] at h⟩
  | m + 1 => by
    obtain ⟨h1, h2⟩ := hubK_rise D O v m
    rcases hubK_step D O v m with e | ⟨f0, e⟩
    · rw [e]; exact ⟨by omega, h2⟩
    · rw [e]
      refine ⟨by rw [nxt_snoc]; exact Nat.le_refl _, fun i k f h => ?_⟩
      by_cases hi : i < (hubK D O v m).length
      · rw [List.getElem?_append_left hi] at h
        rw [List.take_append_of_le_length (by omega)]
        exact h2 i k f h
      · rw [List.getElem?_append_right (by omega)] at h
        have h0 := (List.getElem?_eq_some_iff.1 h).1
        simp at h0
        have : i = (hubK D O v m).length := by omega
        subst this
        simp at h
        rw [List.take_left, ← h.1]
        exact h1
/-- The bytes of the first i hubs of a label, with their count ahead. -/
def labT2 (l : List (Nat × Int)) (i : Nat) : List UInt8 := countB l.length ++ hubsB 0 (l.take i)
theorem labT2_zero (l : List (Nat × Int)) : labT2 l 0 = countB l.length := by simp [labT2, hubsB]
theorem labT2_all (l : List (Nat × Int)) : labT2 l l.length = labB l := by rw [labT2, List.take_length]; rfl
theorem labT2_next {l : List (Nat × Int)} {i k : Nat} {f : Int} (h : l[i]? = some (k, f)) : labT2 l (i + 1) = labT2 l i ++ countB (k - nxt 0 (l.take i)) ++ countB f.toNat ∧ nxt 0 (l.take (i + 1)) = k + 1 := by
  rw [labT2, labT2, List.take_add_one, h, Option.toList_some, hubsB_snoc, nxt_snoc]
  exact ⟨by simp [List.append_assoc], rfl⟩
theorem labT2_len (l : List (Nat × Int)) (i : Nat) : (labT2 l i).length ≤ 3 + 6 * l.length := by
  have h1 := countB_len l.length
  have h2 := hubsB_len (l.take i) 0
  rw [List.length_take] at h2
  rw [labT2, List.length_append]; omega
end Pu

/-- What the reference's Save hands back. -/
def RSavePost (w : World) (r : Pu.Res) (o : Nat → (Nat → Nat → Int) → Option (List Nat)) (e : Ending) (w' : World) : Prop := Turns (fun _ => False) w w' ∧ match r with
  | .err c p => e = .returned (.tuple #[.string ⟨#[]⟩, .int .i64 c, .int .i64 p])
  | .ok n _ len => match o n len with
    | none => e = .returned (.tuple #[.string ⟨#[]⟩, .int .i64 4, .int .i64 0])
    | some O => ∃ D : Nat → Nat → Int, Pu.Cov n len D O ∧ e = .returned (.tuple #[.string ⟨(Pu.paged (Pu.heldB O (fun v => Pu.hubK D O v n) n)).toArray⟩, .int .i64 0, .int .i64 0])

set_option maxHeartbeats 400000 in
theorem rsave_err (x s : ByteArray) (w : World) (c p : Int) (hne : (c != 0) = true)
    (k : Calls Tryd.prog 46 #[.string x, .string s] w fun e w' => Turns (fun _ => False) w w' ∧ e = .returned (.tuple #[.slice none 0 0, .slice none 0 0, .int .i64 c, .int .i64 p])) :
    Calls Tryd.prog 35 #[.string x, .string s] w fun e w' => Turns (fun _ => False) w w' ∧ e = .returned (.tuple #[.string ⟨#[]⟩, .int .i64 c, .int .i64 p]) := by
  go_enter Tryd.func35, Tryd.ntmps35
  go_wp2_with (go_at_call 46; refine k.mono ?_; rintro e w1 ⟨hT, rfl⟩)
  exact bodyPost_ret (v := .tuple #[.string ⟨#[]⟩, .int .i64 c, .int .i64 p]) (by simp [results, Tryd.results35, go_sem]) rfl ⟨‹_›, rfl⟩

theorem rcount_open (x : Int) (w : World) (h0 : 0 ≤ x) (h : x < 2097152) :
    Calls Tryd.prog 51 #[.int .i64 x] w fun e w' => e = .returned (.string ⟨(Pu.countB x.toNat).toArray⟩) ∧ Turns (fun _ => False) w w' := by
  have := rcount_any x.toNat w (by omega)
  rwa [Int.toNat_of_nonneg h0] at this
theorem count_size (n : Nat) : (⟨(Pu.countB n).toArray⟩ : ByteArray).size ≤ 3 := by rw [size_list]; exact (Pu.countB_len n).2

/-- What holds of the hubs' rows in memory. -/
def HubsIn (w1 : World) (og n : Nat) (L : Nat → List (Nat × Int)) : Prop := ∀ v, v < n → ∃ (a : Option Addr) (c : Nat), w1.cell? ⟨og, v, none⟩ = some (.slice a (L v).length c) ∧ ∀ (i k : Nat) (f : Int), (L v)[i]? = some (k, f) → ∃ g, a = some ⟨g, 0, none⟩ ∧ w1.cell? ⟨g, i * 2, none⟩ = some (.int .i64 (k : Int)) ∧ w1.cell? ⟨g, i * 2 + 1, none⟩ = some (.int .i64 f)

set_option maxRecDepth 100000 in
set_option maxHeartbeats 4000000 in
theorem rsave_ok (x s : ByteArray) (w : World) (n : Nat) (len : Nat → Nat → Int) (O : List Nat) (hn1 : 1 ≤ n) (hn : n ≤ 40)
    (k : Calls Tryd.prog 46 #[.string x, .string s] w fun e w' => Turns (fun _ => False) w w' ∧ ∃ (D : Nat → Nat → Int) (B ob ocap og oc : Nat) (hs : List Value), Pu.Cov n len D O ∧ e = .returned (.tuple #[.slice (some ⟨ob, 0, none⟩) n ocap, .slice (some ⟨og, 0, none⟩) n oc, .int .i64 0, .int .i64 0]) ∧
        Ord w' ob n O ∧ hs.length = n ∧ HubRows w' B (.slice (some ⟨og, 0, none⟩) n oc) hs (fun v => Pu.hubK D O v n)) :
    Calls Tryd.prog 35 #[.string x, .string s] w fun e w' => Turns (fun _ => False) w w' ∧ ∃ D : Nat → Nat → Int, Pu.Cov n len D O ∧ e = .returned (.tuple #[.string ⟨(Pu.paged (Pu.heldB O (fun v => Pu.hubK D O v n) n)).toArray⟩, .int .i64 0, .int .i64 0]) := by
  go_enter Tryd.func35, Tryd.ntmps35
  go_wp2_with fail
  refine k.mono ?_
  rintro e w1 ⟨hT1, D, B, ob, ocap, og, oc, hs, hC, rfl, hO, hl, hH⟩
  have HO : Hid (Ord w1 ob n O) := hO
  have HC : Hid (Pu.Cov n len D O) := hC
  have HT1 : Hid (Turns (fun _ => False) w w1) := hT1
  have HH : Hid (HubsIn w1 og n (fun v => Pu.hubK D O v n)) := by
    intro v hv
    obtain ⟨y, hy⟩ : ∃ y, hs[v]? = some y := ⟨_, List.getElem?_eq_getElem (by omega)⟩
    obtain ⟨⟨a, c, h1, h2⟩, _⟩ := hH.row v y hy
    refine ⟨a, c, ?_, h2⟩
    have hown := hH.own
    rw [hl] at hown
    rw [World.ownsRow.cellAt hown v (by omega), hy, h1]
  have HF : Hid (∀ v i k f, v < n → (Pu.hubK D O v n)[i]? = some (k, f) → k < n ∧ Pu.nxt 0 ((Pu.hubK D O v n).take i) ≤ k ∧ 0 ≤ f ∧ f ≤ 40000) := by
    intro v i k f hv hi
    obtain ⟨hk, h, h1, h2, h3⟩ := Pu.hubK_mem2 n (List.mem_of_getElem? hi)
    have hr := (Pu.hubK_rise D O v n).2 i k f hi
    have hd := hC.rng hv (hO.2 k h h1).1
    have hne := (Pu.isHub_iff.1 h3).1
    exact ⟨hk, hr, by omega, by omega⟩
  have hOn : O.length = n := hO.1
  have HLn : Hid (∀ v, (Pu.hubK D O v n).length ≤ n) := fun v => Pu.hubK_len D O v n
  have HON : Hid (O.length = n) := hOn
  obtain ⟨L, hL⟩ : ∃ L : Nat → List (Nat × Int), L = fun v => Pu.hubK D O v n := ⟨_, rfl⟩
  have HE : Hid (∀ w' S, Turns (fun _ => False) w w' → S = Pu.paged (Pu.heldB O L n) → Turns (fun _ => False) w w' ∧ ∃ D : Nat → Nat → Int, Pu.Cov n len D O ∧ Ending.returned (.tuple #[.string ⟨S.toArray⟩, .int .i64 0, .int .i64 0]) = .returned (.tuple #[.string ⟨(Pu.paged (Pu.heldB O (fun v => Pu.hubK D O v n) n)).toArray⟩, .int .i64 0, .int .i64 0])) := by
    intro w' S h1 h2
    refine ⟨h1, D, hC, ?_⟩
    rw [h2, hL]
  have HH' : Hid (HubsIn w1 og n L) := by rw [hL]; exact HH.out
  have HF' : Hid (∀ v i k f, v < n → (L v)[i]? = some (k, f) → k < n ∧ Pu.nxt 0 ((L v).take i) ≤ k ∧ 0 ≤ f ∧ f ≤ 40000) := by rw [hL]; exact HF.out
  have HLn' : Hid (∀ v, (L v).length ≤ n) := by rw [hL]; exact HLn.out
  have hcv := conv1 (n : Int) (UInt8.ofNat n) (ofNat_int (by omega))
  obtain ⟨A0, hA0⟩ : ∃ A0 : ByteArray, A0 = ⟨[UInt8.ofNat n].toArray⟩ := ⟨_, rfl⟩
  rw [← hA0] at hcv
  have HA0 : Hid (A0.data.toList = [UInt8.ofNat n]) := by rw [hA0]; rfl
  have hA0s : A0.size ≤ 1 := by rw [hA0]; exact Nat.le_refl 1
  clear k hT1 hC hO hH hl HH HF HLn hL hA0 hOn HC
  go_wp2
  go_loopw [11, 12] (fun sv iv wr => ∃ (S : ByteArray) (i : Nat), sv = .string S ∧ iv = .int .i64 i ∧ i ≤ n ∧ S.size ≤ 100 ∧ Hid (S.data.toList = 98 :: 119 :: UInt8.ofNat n :: (O.take i).map UInt8.ofNat) ∧ Turns (fun _ => False) w1 wr) (fun _ iv _ => n - (intOf iv).toNat)
  case atStart =>
    refine ⟨_, 0, rfl, rfl, Nat.zero_le _, ?_, ?_, (Turns.refl _ _).alloc _⟩
    · rw [ByteArray.size_append]
      show 2 + A0.size ≤ 100
      omega
    · show _ = _
      rw [cat_list, HA0.out]; rfl
  case round =>
    obtain ⟨S, i, rfl, rfl, hin, hSb, HS, hTr⟩ := hrel
    by_cases hii : i < n
    · have hiii : (i : Int) < (n : Int) := by omega
      obtain ⟨m, hm⟩ : ∃ m, O[i]? = some m := ⟨_, List.getElem?_eq_getElem (by have := HON.out; omega)⟩
      obtain ⟨hmn, hcm⟩ := HO.out.2 i m hm
      have hcell : wr.cell? ⟨ob, i, none⟩ = some (.int .i64 (m : Int)) := (hTr.cell (a := ⟨ob, i, none⟩) (World.block_lt_of_cell? _ _ hcm) (fun x => x)).trans hcm
      have hcvm := conv1 (m : Int) (UInt8.ofNat m) (ofNat_int (by omega))
      obtain ⟨A, hA⟩ : ∃ A : ByteArray, A = ⟨[UInt8.ofNat m].toArray⟩ := ⟨_, rfl⟩
      rw [← hA] at hcvm
      have hAs : A.size ≤ 1 := by rw [hA]; exact Nat.le_refl 1
      have hbig : (9223372036854775807 < S.size + A.size) = False := by simp; omega
      have HX : Hid (∀ w2, Turns (fun _ => False) wr w2 → ∃ (S' : ByteArray) (i' : Nat), Value.string (S ++ A) = .string S' ∧ Value.int .i64 ((i : Int) + 1) = .int .i64 i' ∧ i' ≤ n ∧ S'.size ≤ 100 ∧ Hid (S'.data.toList = 98 :: 119 :: UInt8.ofNat n :: (O.take i').map UInt8.ofNat) ∧ Turns (fun _ => False) w1 w2) := by
        intro w2 h2
        have hlist : (S ++ A).data.toList = 98 :: 119 :: UInt8.ofNat n :: (O.take (i + 1)).map UInt8.ofNat := by
          rw [cat_list, HS.out, hA, List.take_add_one, hm, Option.toList_some, List.map_append]; rfl
        refine ⟨S ++ A, i + 1, rfl, by go_num, by omega, ?_, hlist, hTr.trans h2⟩
        rw [size_list, hlist]
        simp; omega
      clear HS hTr hA hm hcm
      go_wp2
      go_roundw
      case rel => exact HX.out _ ((Turns.refl _ _).alloc _)
      case measure => simp [intOf]; omega
    · have hiii : ¬ (i : Int) < (n : Int) := by omega
      have HS0 : Hid (S.data.toList = Pu.headB O ++ Pu.sizesB L 0 ∧ S.size ≤ 43) := by
        have hON := HON.out
        have h1 : S.data.toList = Pu.headB O ++ Pu.sizesB L 0 := by
          rw [HS.out, List.take_of_length_le (by omega), Pu.headB, hON]; simp [Pu.sizesB]
        refine ⟨h1, ?_⟩
        rw [size_list, h1, List.length_append, Pu.headB_len]
        simp [Pu.sizesB]; omega
      clear HS
      go_wp2
      go_loopw [11, 13, 14] (fun sv av vv wz => ∃ (S A : ByteArray) (v : Nat) (wy : World), sv = .string S ∧ av = .string A ∧ vv = .int .i64 v ∧ v ≤ n ∧ S.size ≤ 43 + 3 * v ∧ A.size ≤ 243 * v ∧ Hid (S.data.toList = Pu.headB O ++ Pu.sizesB L v ∧ A.data.toList = Pu.labsB L v) ∧ Turns (fun _ => False) w1 wz ∧ wy = wz) (fun _ _ vv _ => n - (intOf vv).toNat)
      case atStart => exact ⟨S, ⟨#[]⟩, 0, _, rfl, rfl, rfl, Nat.zero_le _, HS0.out.2, Nat.le_refl _, ⟨HS0.out.1, rfl⟩, hTr, rfl⟩
      case round =>
        clear HS0 hTr hSb
        obtain ⟨S, A, v, wz, rfl, rfl, rfl, hvn, hSb, hAb, HSA, hTz, hwy⟩ := hrel
        subst hwy
        by_cases hvl : v < n
        · have hvi : (v : Int) < (n : Int) := by omega
          obtain ⟨a, c, hca, hrow⟩ := HH'.out v hvl
          have HR : Hid (∀ (i k : Nat) (f : Int), (L v)[i]? = some (k, f) → ∃ g, a = some ⟨g, 0, none⟩ ∧ w1.cell? ⟨g, i * 2, none⟩ = some (.int .i64 (k : Int)) ∧ w1.cell? ⟨g, i * 2 + 1, none⟩ = some (.int .i64 f)) := hrow
          have hLn := HLn'.out v
          obtain ⟨ll, hll⟩ : ∃ ll, (L v).length = ll := ⟨_, rfl⟩
          have HLL : Hid ((L v).length = ll) := hll
          rw [hll] at hca hLn
          have HCA : Hid (w1.cell? ⟨og, v, none⟩ = some (.slice a ll c)) := hca
          have hcz : wz.cell? ⟨og, v, none⟩ = some (.slice a ll c) := (hTz.cell (a := ⟨og, v, none⟩) (World.block_lt_of_cell? _ _ hca) (fun x => x)).trans hca
          have cc := rcount_any ll wz (by omega)
          obtain ⟨C0, hC0⟩ : ∃ C0 : ByteArray, C0 = ⟨(Pu.countB ll).toArray⟩ := ⟨_, rfl⟩
          rw [← hC0] at cc
          have HC0 : Hid (C0.data.toList = Pu.labT2 (L v) 0 ∧ C0.size ≤ 3) := ⟨by rw [hC0, Pu.labT2_zero, HLL.out], by rw [hC0]; exact count_size ll⟩
          have HTZ : Hid (Turns (fun _ => False) w1 wz) := hTz
          clear hrow hll hca hC0 hTz
          go_wp2_with (go_at_call 51; refine cc.mono ?_; rintro e w2 ⟨rfl, hT2⟩; have HT2 : Hid (Turns (fun _ => False) w1 w2) := HTZ.out.trans hT2; clear hT2 cc hcz)
          go_loopw [15, 16, 17] (fun lv nv iv wx => ∃ (l : ByteArray) (nx i : Nat) (wy : World), lv = .string l ∧ nv = .int .i64 nx ∧ iv = .int .i64 i ∧ i ≤ ll ∧ l.size ≤ 3 + 6 * i ∧ nx ≤ 40 ∧ Hid (l.data.toList = Pu.labT2 (L v) i ∧ nx = Pu.nxt 0 ((L v).take i)) ∧ Turns (fun _ => False) w1 wx ∧ wy = wx) (fun _ _ iv _ => ll - (intOf iv).toNat)
          case atStart => exact ⟨C0, 0, 0, _, rfl, rfl, rfl, Nat.zero_le _, HC0.out.2, by omega, ⟨HC0.out.1, rfl⟩, HT2.out, rfl⟩
          case round =>
            clear HC0 HT2
            obtain ⟨l, nx, i, w3, rfl, rfl, rfl, hil, hlb, hnx, HL, hT3, hwz⟩ := hrel
            subst hwz
            have e1 : w3.cell? ⟨og, v, none⟩ = some (.slice a ll c) := (hT3.cell (a := ⟨og, v, none⟩) (World.block_lt_of_cell? _ _ HCA.out) (fun x => x)).trans HCA.out
            by_cases hii : i < ll
            · have hiii : (i : Int) < (ll : Int) := by omega
              obtain ⟨⟨r, f⟩, hkf⟩ : ∃ y, (L v)[i]? = some y := ⟨_, List.getElem?_eq_getElem (by rw [HLL.out]; exact hii)⟩
              obtain ⟨g, hag, g1, g2⟩ := HR.out i r f hkf
              obtain ⟨hrn, hnr, hf0, hf1⟩ := HF'.out v i r f hvl hkf
              obtain ⟨hll1, hll2⟩ := Pu.labT2_next hkf
              have hnr2 : nx ≤ r := by rw [HL.out.2]; exact hnr
              have e2 := (hT3.cell (a := ⟨g, i * 2, none⟩) (World.block_lt_of_cell? _ _ g1) (fun x => x)).trans g1
              have e3 := (hT3.cell (a := ⟨g, i * 2 + 1, none⟩) (World.block_lt_of_cell? _ _ g2) (fun x => x)).trans g2
              have l1 : og < w3.heap.size := World.block_lt_of_cell? _ _ e1
              have l2 : g < w3.heap.size := World.block_lt_of_cell? _ _ e2
              obtain ⟨C1, hC1⟩ : ∃ C1 : ByteArray, C1 = ⟨(Pu.countB (r - nx)).toArray⟩ := ⟨_, rfl⟩
              obtain ⟨C2, hC2⟩ : ∃ C2 : ByteArray, C2 = ⟨(Pu.countB f.toNat).toArray⟩ := ⟨_, rfl⟩
              have hC1b : C1.size ≤ 3 := by rw [hC1]; exact count_size _
              have hC2b : C2.size ≤ 3 := by rw [hC2]; exact count_size _
              have c1 : ∀ w, Calls Tryd.prog 51 #[.int .i64 (IntKind.i64.wrap ((r : Int) - (nx : Int)))] w fun e w' => e = .returned (.string C1) ∧ Turns (fun _ => False) w w' := by
                intro w
                have := rcount_any (r - nx) w (by omega)
                rw [hC1, show IntKind.i64.wrap ((r : Int) - (nx : Int)) = ((r - nx : Nat) : Int) by rw [IntKind.wrap_i64]; omega]
                exact this
              have c2 : ∀ w, Calls Tryd.prog 51 #[.int .i64 f] w fun e w' => e = .returned (.string C2) ∧ Turns (fun _ => False) w w' := by
                intro w
                rw [hC2]
                exact rcount_open f w hf0 (by omega)
              have hb1 : (9223372036854775807 < l.size + C1.size) = False := by simp; omega
              have hb2 : (9223372036854775807 < l.size + C1.size + C2.size) = False := by simp; omega
              have HX : Hid (∀ w4, Turns (fun _ => False) w3 w4 → ∃ (l' : ByteArray) (nx' i' : Nat) (wy : World), Value.string (l ++ C1 ++ C2) = .string l' ∧ Value.int .i64 ((r : Int) + 1) = .int .i64 nx' ∧ Value.int .i64 ((i : Int) + 1) = .int .i64 i' ∧ i' ≤ ll ∧ l'.size ≤ 3 + 6 * i' ∧ nx' ≤ 40 ∧ Hid (l'.data.toList = Pu.labT2 (L v) i' ∧ nx' = Pu.nxt 0 ((L v).take i')) ∧ Turns (fun _ => False) w1 w4 ∧ wy = w4) := by
                intro w4 h4
                refine ⟨l ++ C1 ++ C2, r + 1, i + 1, w4, rfl, by go_num, by go_num, by omega, ?_, by omega, ⟨?_, hll2.symm⟩, hT3.trans h4, rfl⟩
                · rw [ByteArray.size_append, ByteArray.size_append]; omega
                · rw [cat_list, cat_list, HL.out.1, hll1, hC1, hC2, HL.out.2]
              subst hag
              clear HL hkf g1 g2 hll1 hll2 hC1 hC2 hnr hT3
              go_wp2_with fail
              go_region_held3 (fun w' => w'.cell? ⟨og, v, none⟩ = some (.slice (some ⟨g, 0, none⟩) ll c) ∧ w'.cell? ⟨g, i * 2, none⟩ = some (.int .i64 (r : Int)) ∧ w'.cell? ⟨g, i * 2 + 1, none⟩ = some (.int .i64 f)) (go_keep)
                (first
                | (go_at_call_of 51 (Value.int IntKind.i64 f); refine (c2 _).mono ?_; rintro e wa ⟨rfl, hTa⟩; have a1 : wa.cell? ⟨og, v, none⟩ = some (.slice (some ⟨g, 0, none⟩) ll c) := (hTa.cell (a := ⟨og, v, none⟩) m1 (fun x => x)).trans b1; have a2 : wa.cell? ⟨g, i * 2, none⟩ = some (.int .i64 (r : Int)) := (hTa.cell (a := ⟨g, i * 2, none⟩) m2 (fun x => x)).trans b2; have a3 : wa.cell? ⟨g, i * 2 + 1, none⟩ = some (.int .i64 f) := (hTa.cell (a := ⟨g, i * 2 + 1, none⟩) m2 (fun x => x)).trans b3)
                | (go_at_call 51; refine (c1 _).mono ?_; rintro e wb ⟨rfl, hTb⟩; have b1 : wb.cell? ⟨og, v, none⟩ = some (.slice (some ⟨g, 0, none⟩) ll c) := (hTb.cell (a := ⟨og, v, none⟩) l1 (fun x => x)).trans e1; have b2 : wb.cell? ⟨g, i * 2, none⟩ = some (.int .i64 (r : Int)) := (hTb.cell (a := ⟨g, i * 2, none⟩) l2 (fun x => x)).trans e2; have b3 : wb.cell? ⟨g, i * 2 + 1, none⟩ = some (.int .i64 f) := (hTb.cell (a := ⟨g, i * 2 + 1, none⟩) l2 (fun x => x)).trans e3; have m1 : og < wb.heap.size := Nat.lt_of_lt_of_le l1 hTb.size; have m2 : g < wb.heap.size := Nat.lt_of_lt_of_le l2 hTb.size))
              all_goals
                have HY := HX.out wa ((((Turns.refl _ w3).drew).trans hTb).trans hTa)
                have HZ : Hid (∃ (l' : ByteArray) (nx' i' : Nat) (wy : World), Value.string (l ++ C1 ++ C2) = .string l' ∧ Value.int .i64 ((r : Int) + 1) = .int .i64 nx' ∧ Value.int .i64 ((i : Int) + 1) = .int .i64 i' ∧ i' ≤ ll ∧ l'.size ≤ 3 + 6 * i' ∧ nx' ≤ 40 ∧ Hid (l'.data.toList = Pu.labT2 (L v) i' ∧ nx' = Pu.nxt 0 ((L v).take i')) ∧ Turns (fun _ => False) w1 wa ∧ wy = wa) := HY
                clear hTa hTb b1 b2 b3 m1 m2 HX HY e1 e2 e3 l1 l2 c1 c2 hb1 hb2
                go_wp2
                go_roundw
                case rel => exact HZ.out
                case measure => simp [intOf]; omega
            · have hiii : ¬ (i : Int) < (ll : Int) := by omega
              have hlB : l.data.toList = Pu.labB (L v) := by rw [HL.out.1, show i = (L v).length by rw [HLL.out]; omega, Pu.labT2_all]
              have cc := rcount_any l.size w3 (by omega)
              obtain ⟨C, hC⟩ : ∃ C : ByteArray, C = ⟨(Pu.countB l.size).toArray⟩ := ⟨_, rfl⟩
              rw [← hC] at cc
              have hCb : C.size ≤ 3 := by rw [hC]; exact count_size _
              have hb1 : (9223372036854775807 < S.size + C.size) = False := by simp; omega
              have hb2 : (9223372036854775807 < A.size + l.size) = False := by simp; omega
              have HX : Hid (∀ w4, Turns (fun _ => False) w3 w4 → ∃ (S' A' : ByteArray) (v' : Nat) (wy : World), Value.string (S ++ C) = .string S' ∧ Value.string (A ++ l) = .string A' ∧ Value.int .i64 ((v : Int) + 1) = .int .i64 v' ∧ v' ≤ n ∧ S'.size ≤ 43 + 3 * v' ∧ A'.size ≤ 243 * v' ∧ Hid (S'.data.toList = Pu.headB O ++ Pu.sizesB L v' ∧ A'.data.toList = Pu.labsB L v') ∧ Turns (fun _ => False) w1 w4 ∧ wy = w4) := by
                intro w4 h4
                refine ⟨S ++ C, A ++ l, v + 1, w4, rfl, rfl, by go_num, by omega, by rw [ByteArray.size_append]; omega, by rw [ByteArray.size_append]; omega, ⟨?_, ?_⟩, hT3.trans h4, rfl⟩
                · rw [cat_list, HSA.out.1, hC, Pu.sizesB, ← hlB, ← size_list, List.append_assoc]
                · rw [cat_list, HSA.out.2, hlB, Pu.labsB]
              clear HL hT3 hlB hC HSA
              go_wp2_with (go_at_call 51; refine cc.mono ?_; rintro e w4 ⟨rfl, hT4⟩)
              have HY := HX.out w4 hT4
              have HZ : Hid (∃ (S' A' : ByteArray) (v' : Nat) (wy : World), Value.string (S ++ C) = .string S' ∧ Value.string (A ++ l) = .string A' ∧ Value.int .i64 ((v : Int) + 1) = .int .i64 v' ∧ v' ≤ n ∧ S'.size ≤ 43 + 3 * v' ∧ A'.size ≤ 243 * v' ∧ Hid (S'.data.toList = Pu.headB O ++ Pu.sizesB L v' ∧ A'.data.toList = Pu.labsB L v') ∧ Turns (fun _ => False) w1 w4 ∧ wy = w4) := HY
              clear HX HY hT4
              go_roundw
              case rel => exact HZ.out
              case measure => simp [intOf]; omega
        · have hvi : ¬ (v : Int) < (n : Int) := by omega
          have cp := rpaged_any (S ++ A) wz (by rw [ByteArray.size_append]; omega)
          have hb1 : (9223372036854775807 < S.size + A.size) = False := by simp; omega
          have hpl : Pu.paged (S ++ A).data.toList = Pu.paged (Pu.heldB O L n) := by
            rw [cat_list, HSA.out.1, HSA.out.2, Pu.heldB, show v = n by omega]
          have HX : Hid (∀ w4, Turns (fun _ => False) wz w4 → Turns (fun _ => False) w w4 ∧ ∃ D : Nat → Nat → Int, Pu.Cov n len D O ∧ Ending.returned (.tuple #[.string ⟨(Pu.paged (S ++ A).data.toList).toArray⟩, .int .i64 0, .int .i64 0]) = .returned (.tuple #[.string ⟨(Pu.paged (Pu.heldB O (fun v => Pu.hubK D O v n) n)).toArray⟩, .int .i64 0, .int .i64 0])) :=
            fun w4 h4 => HE.out w4 _ ((HT1.out.trans hTz).trans h4) hpl
          generalize Pu.paged (S ++ A).data.toList = P at *
          clear HSA hTz hpl
          go_wp2_with (go_at_call 52; refine cp.mono ?_; rintro e w4 ⟨rfl, hT4⟩)
          exact bodyPost_ret (v := .tuple #[.string ⟨P.toArray⟩, .int .i64 0, .int .i64 0]) (by simp [results, Tryd.results35, go_sem]) rfl (HX.out _ hT4)
/-- The reference's Save, of any text by any order. -/
theorem rsave_any (x s : ByteArray) (w : World) (hx : x.size ≤ 2000000) (hs : s.size ≤ 2000000) : Calls Tryd.prog 35 #[.string x, .string s] w (RSavePost w (Pu.parse x.data.toList) (Pu.orderOf s.data.toList)) := by
  have k := rlabd_any x s w hx hs
  cases hp : Pu.parse x.data.toList with
  | err c p =>
    rw [hp] at k
    have he := Pu.parse_err hp
    exact rsave_err x s w c p (by simp; omega) k
  | ok n q len =>
    rw [hp] at k
    obtain ⟨hn1, hn2, _, _⟩ := Pu.parse_ok hp
    unfold RLabdPost at k
    unfold RSavePost
    dsimp only at k ⊢
    cases ho : Pu.orderOf s.data.toList n len with
    | none => rw [ho] at k; exact rsave_err x s w 4 0 (by decide) k
    | some O => rw [ho] at k; exact rsave_ok x s w n len O hn1 hn2 k
#print axioms rsave_any
end Go.Proofs.YtdogncjcainhlaaDoor
/- The walks of records.hubsOf, records.writeLabel, records.Write. -/
namespace Go.Proofs.YtdogncjcainhlaaDoor
open Go.RowKit Go.Deep
open Mem

/-- The labels that lie behind a slice. -/
def RdAt (w : World) (a : Option Addr) (L : List Pu.Rd) : Prop := ∀ (i p h : Nat) (f : Int), L[i]? = some (p, h, f) → ∃ g, a = some ⟨g, 0, none⟩ ∧ w.cell? ⟨g, i * 3, none⟩ = some (.int .i64 (p : Int)) ∧ w.cell? ⟨g, i * 3 + 1, none⟩ = some (.int .i64 (h : Int)) ∧ w.cell? ⟨g, i * 3 + 2, none⟩ = some (.int .i64 f)

theorem rdAt_own {w : World} {base : Nat} {v : Value} {L : List Pu.Rd} (h : w.ownsRow base 54 3 v L.length (Pu.rdVals L)) : ∃ a c, v = .slice a L.length c ∧ RdAt w a L := by
  rcases h.2 with ⟨h1, h2⟩ | ⟨g, cap, _, h1, _⟩
  · refine ⟨none, 0, by rw [h1, h2], fun i p q f hi => ?_⟩
    have := (List.getElem?_eq_some_iff.1 hi).1
    omega
  · refine ⟨some ⟨g, 0, none⟩, cap, h1, fun i p q f hi => ?_⟩
    subst h1
    have hil := (List.getElem?_eq_some_iff.1 hi).1
    obtain ⟨r1, r2, r3⟩ := Pu.rdVals_get _ i p q f hi
    exact ⟨g, rfl, by rw [h.cellAt _ (by omega)]; exact r1, by rw [h.cellAt _ (by omega)]; exact r2, by rw [h.cellAt _ (by omega)]; exact r3⟩
theorem RdAt.turns {w w' : World} {a : Option Addr} {L : List Pu.Rd} (h : RdAt w a L) (t : Turns (fun _ => False) w w') : RdAt w' a L := by
  intro i p q f hi
  obtain ⟨g, h0, h1, h2, h3⟩ := h i p q f hi
  exact ⟨g, h0, (t.cell (World.block_lt_of_cell? _ _ h1) (fun x => x)).trans h1, (t.cell (World.block_lt_of_cell? _ _ h2) (fun x => x)).trans h2, (t.cell (World.block_lt_of_cell? _ _ h3) (fun x => x)).trans h3⟩
namespace Pu
theorem nodup_idx {O : List Nat} (h : O.Nodup) {i j m : Nat} (hi : O[i]? = some m) (hj : O[j]? = some m) : i = j := by
  obtain ⟨a1, a2⟩ := List.getElem?_eq_some_iff.1 hi
  obtain ⟨b1, b2⟩ := List.getElem?_eq_some_iff.1 hj
  rcases Nat.lt_trichotomy i j with c | c | c
  · exact absurd (a2.trans b2.symm) (List.pairwise_iff_getElem.1 h i j a1 b1 c)
  · exact c
  · exact absurd (b2.trans a2.symm) (List.pairwise_iff_getElem.1 h j i b1 a1 c)
theorem labK_place {D : Nat → Nat → Int} {O : List Nat} {v k : Nat} : ∀ x ∈ labK D O v k, x.1 = v := fun x hx => by
  obtain ⟨j, h, _, _, _, rfl⟩ := (labK_mem k).1 hx
  rfl
/-- Of all labels those of one place. -/
theorem labP_filter (D : Nat → Nat → Int) (O : List Nat) (v : Nat) : ∀ p, (labP D O p).filter (fun r => r.1 == v) = if v < p then labK D O v O.length else []
  | 0 => by simp [labP]
  | p + 1 => by
    rw [labP, List.filter_append, labP_filter D O v p]
    by_cases e : v = p
    · subst e
      rw [if_neg (by omega), if_pos (by omega), List.nil_append, List.filter_eq_self.2]
      intro x hx
      simp [labK_place x hx]
    · have : (labK D O p O.length).filter (fun r => r.1 == v) = [] := by
        rw [List.filter_eq_nil_iff]
        intro x hx
        simp [labK_place x hx]
        omega
      rw [this, List.append_nil]
      by_cases h : v < p
      · rw [if_pos h, if_pos (by omega)]
      · rw [if_neg h, if_neg (by omega)]
end Pu
set_option maxRecDepth 100000 in
set_option maxHeartbeats 2000000 in
/-- records.hubsOf: those of one place. -/
theorem hubsOf_any (w : World) (v cap : Nat) (a : Option Addr) (L : List Pu.Rd) (hL : L.length ≤ 1600) (hR : RdAt w a L) :
    Calls Tryd.prog 71 #[.int .i64 v, .slice a L.length cap] w fun e w' => Turns (fun _ => False) w w' ∧ ∃ x, e = .returned x ∧ w'.ownsRow w.heap.size 54 3 x (L.filter fun r => r.1 == v).length (Pu.rdVals (L.filter fun r => r.1 == v)) := by
  obtain ⟨ll, hll⟩ : ∃ ll, L.length = ll := ⟨_, rfl⟩
  have HLL : Hid (L.length = ll) := hll
  rw [hll] at hL ⊢
  have HR : Hid (RdAt w a L) := hR
  clear hR hll
  have H0 : Hid (OwnG w (.slice none 0 0) w.heap.size 54 3 (.slice none 0 0) ((L.take 0).filter fun r => r.1 == v).length (Pu.rdVals ((L.take 0).filter fun r => r.1 == v)) w) := OwnG.nil _ _ _ _
  go_enter Tryd.func71, Tryd.ntmps71
  go_wp2
  go_loopw [5, 10] (fun xv iv wr => ∃ (i : Nat) (x : Value) (wy : World), x = xv ∧ iv = .int .i64 i ∧ i ≤ ll ∧ wy = wr ∧ Hid (OwnG w (.slice none 0 0) w.heap.size 54 3 x ((L.take i).filter fun r => r.1 == v).length (Pu.rdVals ((L.take i).filter fun r => r.1 == v)) wy)) (fun _ iv _ => ll - (intOf iv).toNat)
  case atStart => exact ⟨0, _, w, rfl, rfl, Nat.zero_le _, rfl, H0.out⟩
  case round =>
    clear H0
    obtain ⟨i, x, wr, hx, rfl, hil, hwy, HI⟩ := hrel
    subst hwy hx
    by_cases hlt : i < ll
    · have hii : (i : Int) < (ll : Int) := by omega
      obtain ⟨⟨p, q, f⟩, hph⟩ : ∃ y, L[i]? = some y := ⟨_, List.getElem?_eq_getElem (by rw [HLL.out]; exact hlt)⟩
      obtain ⟨g, hag, g1, g2, g3⟩ := HR.out i p q f hph
      have hT := HI.out.turns0
      have e1 := (hT.cell (a := ⟨g, i * 3, none⟩) (World.block_lt_of_cell? _ _ g1) (fun x => x)).trans g1
      have e2 := (hT.cell (a := ⟨g, i * 3 + 1, none⟩) (World.block_lt_of_cell? _ _ g2) (fun x => x)).trans g2
      have e3 := (hT.cell (a := ⟨g, i * 3 + 2, none⟩) (World.block_lt_of_cell? _ _ g3) (fun x => x)).trans g3
      subst hag
      have hfl : Hid (((L.take i).filter fun r => r.1 == v).length ≤ 1600) := by
        have := List.length_filter_le (fun r : Pu.Rd => r.1 == v) (L.take i)
        have h2 := List.length_take_le i L
        have h3 := HLL.out
        show _ ≤ _
        rw [List.length_take] at this
        omega
      by_cases hpv : p = v
      · subst hpv
        have HN : Hid ((L.take (i + 1)).filter (fun r => r.1 == p) = (L.take i).filter (fun r => r.1 == p) ++ [(p, q, f)]) := by
          show _ = _
          rw [List.take_add_one, hph, Option.toList_some, List.filter_append]
          simp
        obtain ⟨xs, hxs⟩ : ∃ xs, xs = Pu.rdVals ((L.take i).filter fun r => r.1 == p) := ⟨_, rfl⟩
        obtain ⟨nn, hnn⟩ : ∃ nn, nn = ((L.take i).filter fun r => r.1 == p).length := ⟨_, rfl⟩
        have HO : Hid (OwnG w (.slice none 0 0) w.heap.size 54 3 x nn xs wr) := by rw [hxs, hnn]; exact HI.out
        have HX : Hid (∀ v' w3, OwnG w (.slice none 0 0) w.heap.size 54 3 v' (nn + 1) (xs ++ (#[Value.int .i64 (p : Int), .int .i64 (q : Int), .int .i64 f] : Array Value).toList) w3 → OwnG w (.slice none 0 0) w.heap.size 54 3 v' ((L.take (i + 1)).filter fun r => r.1 == p).length (Pu.rdVals ((L.take (i + 1)).filter fun r => r.1 == p)) w3) := by
          intro v' w3 h3
          rw [HN.out, Pu.rdVals_append, List.length_append, ← hxs, ← hnn]
          exact h3
        have hnl : nn ≤ 1600 := by rw [hnn]; exact hfl.out
        have hsz : w.heap.size ≤ wr.heap.size := hT.size
        clear hxs hnn HI HN hph g1 g2 g3 hT hfl
        go_wp2_with (at_builtin; refine wpList_append_one rfl _ _ 48 rfl 54 3 24 _ Tryd.underlying48 infoL54 rfl (by decide) w (wr.alloc _) (.slice none 0 0) x w.heap.size nn xs _ rfl (by intro u hu; simp at hu; rcases hu with rfl | rfl | rfl <;> rfl) (HO.out.alloc _) (by simp; omega) (by omega) (by omega) rfl _ rfl (by simp) ?_)
        intro v' w3 hB
        have HY := HX.out v' w3 hB
        have HZ : Hid (OwnG w (.slice none 0 0) w.heap.size 54 3 v' ((L.take (i + 1)).filter fun r => r.1 == p).length (Pu.rdVals ((L.take (i + 1)).filter fun r => r.1 == p)) w3) := HY
        clear HX HY hB HO
        go_wp2
        go_roundw
        case rel => exact ⟨i + 1, v', w3, rfl, by go_num, by omega, rfl, HZ.out⟩
        case measure => simp [intOf]; omega
      · have hpi : ((p : Int) == (v : Int)) = false := by simp; omega
        have HN : Hid ((L.take (i + 1)).filter (fun r => r.1 == v) = (L.take i).filter (fun r => r.1 == v)) := by
          show _ = _
          rw [List.take_add_one, hph, Option.toList_some, List.filter_append]
          simp [hpv]
        have HX : Hid (∀ o, OwnG w (.slice none 0 0) w.heap.size 54 3 x ((L.take (i + 1)).filter fun r => r.1 == v).length (Pu.rdVals ((L.take (i + 1)).filter fun r => r.1 == v)) (wr.alloc o)) := by
          intro o
          rw [HN.out]
          exact HI.out.alloc o
        clear HI HN hph g1 g2 g3 hT hfl
        go_wp2
        go_roundw
        case rel => exact ⟨i + 1, x, _, rfl, by go_num, by omega, rfl, HX.out _⟩
        case measure => simp [intOf]; omega
    · have hii : ¬ (i : Int) < (ll : Int) := by omega
      have HN : Hid ((L.take i) = L) := List.take_of_length_le (by rw [HLL.out]; omega)
      have o1 := HI.out
      rw [HN.out] at o1
      have HX : Hid (Turns (fun _ => False) w wr ∧ ∃ y, Ending.returned x = .returned y ∧ wr.ownsRow w.heap.size 54 3 y (L.filter fun r => r.1 == v).length (Pu.rdVals (L.filter fun r => r.1 == v))) := ⟨o1.turns0, x, rfl, o1.own⟩
      clear HI o1 HN
      go_wp2
      exact bodyPost_ret (v := x) (by simp [results, Tryd.results71, go_sem]) rfl HX.out
set_option maxRecDepth 100000 in
set_option maxHeartbeats 2000000 in
/-- records.writeLabel. -/
theorem writeLabel_any (w : World) (rb n rcap lcap v : Nat) (a : Option Addr) (H : List (Nat × Int)) (pl : Nat → Nat) (hH : H.length ≤ 40) (hn : n ≤ 40) (hR : RdAt w a (H.map fun x => (v, pl x.1, x.2)))
    (hF : ∀ (i r : Nat) (f : Int), H[i]? = some (r, f) → r < n ∧ Pu.nxt 0 (H.take i) ≤ r ∧ 0 ≤ f ∧ f ≤ 40000) (hK : ∀ (i r : Nat) (f : Int), H[i]? = some (r, f) → pl r < n ∧ w.cell? ⟨rb, pl r, none⟩ = some (.int .i64 (r : Int))) :
    Calls Tryd.prog 70 #[.slice a H.length lcap, .slice (some ⟨rb, 0, none⟩) n rcap] w fun e w' => ∃ x, e = .returned x ∧ OwnB w (.slice none 0 0) w.heap.size x (Pu.labB H) w' := by
  have c0 := cappend_any (.slice none 0 0) H.length w.heap.size [] w (World.ownsRow_nil _ _ _ _) (Nat.le_refl _) (by simp) (by omega)
  have HC0 : Hid ([] ++ Pu.countB H.length = Pu.labT2 H 0) := by show _ = _; rw [Pu.labT2_zero]; rfl
  rw [HC0.out] at c0
  obtain ⟨ll, hll⟩ : ∃ ll, H.length = ll := ⟨_, rfl⟩
  have HLL : Hid (H.length = ll) := hll
  rw [hll] at hH c0 ⊢
  have HR : Hid (RdAt w a (H.map fun x => (v, pl x.1, x.2))) := hR
  have HF : Hid (∀ (i r : Nat) (f : Int), H[i]? = some (r, f) → r < n ∧ Pu.nxt 0 (H.take i) ≤ r ∧ 0 ≤ f ∧ f ≤ 40000) := hF
  have HK : Hid (∀ (i r : Nat) (f : Int), H[i]? = some (r, f) → pl r < n ∧ w.cell? ⟨rb, pl r, none⟩ = some (.int .i64 (r : Int))) := hK
  clear hR hF hK hll HC0
  go_enter Tryd.func70, Tryd.ntmps70
  go_wp2_with fail
  refine c0.mono ?_
  rintro e w1 ⟨x1, rfl, hB1⟩
  have H1 : Hid (OwnB w (.slice none 0 0) w.heap.size x1 (Pu.labT2 H 0) w1) := hB1
  clear hB1 c0
  go_wp2
  go_loopw [5, 6, 15] (fun xv nv iv wr => ∃ (i nx : Nat) (x : Value) (wy : World), x = xv ∧ nv = .int .i64 nx ∧ iv = .int .i64 i ∧ i ≤ ll ∧ nx ≤ 40 ∧ wy = wr ∧ Hid (OwnB w (.slice none 0 0) w.heap.size x (Pu.labT2 H i) wy ∧ nx = Pu.nxt 0 (H.take i))) (fun _ _ iv _ => ll - (intOf iv).toNat)
  case atStart => exact ⟨0, 0, _, w1, rfl, rfl, rfl, Nat.zero_le _, by omega, rfl, H1.out, rfl⟩
  case round =>
    clear H1
    obtain ⟨i, nx, x, wr, hx, rfl, rfl, hil, hnx, hwy, HI⟩ := hrel
    subst hwy hx
    by_cases hlt : i < ll
    · have hii : (i : Int) < (ll : Int) := by omega
      obtain ⟨⟨r, f⟩, hrf⟩ : ∃ y, H[i]? = some y := ⟨_, List.getElem?_eq_getElem (by rw [HLL.out]; exact hlt)⟩
      obtain ⟨g, hag, g1, g2, g3⟩ := HR.out i v (pl r) f (by rw [List.getElem?_map, hrf]; rfl)
      obtain ⟨f1, f2, f3, f4⟩ := HF.out i r f hrf
      obtain ⟨k1, k2⟩ := HK.out i r f hrf
      have hnr : nx ≤ r := by rw [HI.out.2]; exact f2
      have hT := HI.out.1.turns0
      have e1 := (hT.cell (a := ⟨g, i * 3, none⟩) (World.block_lt_of_cell? _ _ g1) (fun x => x)).trans g1
      have e2 := (hT.cell (a := ⟨g, i * 3 + 1, none⟩) (World.block_lt_of_cell? _ _ g2) (fun x => x)).trans g2
      have e3 := (hT.cell (a := ⟨g, i * 3 + 2, none⟩) (World.block_lt_of_cell? _ _ g3) (fun x => x)).trans g3
      have e4 := (hT.cell (a := ⟨rb, pl r, none⟩) (World.block_lt_of_cell? _ _ k2) (fun x => x)).trans k2
      have hrl : rb < wr.heap.size := World.block_lt_of_cell? _ _ e4
      have hrc : pl r ≤ rcap ∨ True := Or.inr trivial
      subst hag
      have hsub : (r : Int) - (nx : Int) = ((r - nx : Nat) : Int) := by omega
      have hff : (f.toNat : Int) = f := by omega
      have HLB : Hid ((Pu.labT2 H i).length ≤ 300) := by
        have := Pu.labT2_len H i
        rw [HLL.out] at this
        show _ ≤ _
        omega
      obtain ⟨n1, n2⟩ := Pu.labT2_next hrf
      have HNX : Hid (Pu.labT2 H (i + 1) = (Pu.labT2 H i ++ Pu.countB (r - nx)) ++ Pu.countB f.toNat ∧ r + 1 = Pu.nxt 0 (H.take (i + 1))) := ⟨by rw [n1, HI.out.2], n2.symm⟩
      have HO : Hid (OwnB w (.slice none 0 0) w.heap.size x (Pu.labT2 H i) wr) := HI.out.1
      have hwsz : Hid (w.heap.size ≤ wr.heap.size) := hT.size
      clear g1 g2 g3 hT k2 n1 n2 HI hrf f2
      go_wp2_with fail
      obtain ⟨wb, hwb⟩ : ∃ wb, wb = wr.alloc (.cells #[.int .i64 (v : Int), .int .i64 (pl r : Int), .int .i64 f] 54) := ⟨_, rfl⟩
      have HOb : Hid (OwnB w (.slice none 0 0) w.heap.size x (Pu.labT2 H i) wb) := by rw [hwb]; exact HO.out.then ((Turns.refl _ _).alloc _)
      have hbs : wb.heap.size = wr.heap.size + 1 := by rw [hwb]; simp
      have hfb : wb.cell? ⟨wr.heap.size, 2, none⟩ = some (.int .i64 f) := by rw [hwb, World.cell?_alloc_new]; rfl
      rw [← hwb]
      refine (cappend_any x (r - nx) w.heap.size (Pu.labT2 H i) wb HOb.out.own (by have := hwsz.out; omega) (by have := HLB.out; omega) (by omega)).mono ?_
      rintro e w2 ⟨x2, rfl, hB2⟩
      have hf2 : w2.cell? ⟨wr.heap.size, 2, none⟩ = some (.int .i64 f) := by
        refine (hB2.turns.cell (a := ⟨wr.heap.size, 2, none⟩) (by show wr.heap.size < _; omega) ?_).trans hfb
        intro c
        have : wr.heap.size < wr.heap.size := (HO.out.own.lt _ c).2
        omega
      have hl2 : wr.heap.size < w2.heap.size := by have := hB2.turns.size; omega
      have HO2 : Hid (OwnB w (.slice none 0 0) w.heap.size x2 (Pu.labT2 H i ++ Pu.countB (r - nx)) w2) := HOb.out.more hB2
      clear hB2 HOb hwb hfb hbs HO
      go_wp2_with fail
      rw [← hff]
      refine (cappend_any x2 f.toNat w.heap.size (Pu.labT2 H i ++ Pu.countB (r - nx)) w2 HO2.out.own HO2.out.turns0.size (by have := HLB.out; have := Pu.countB_len (r - nx); rw [List.length_append]; omega) (by omega)).mono ?_
      rintro e w3 ⟨x3, rfl, hB3⟩
      have HO3 : Hid (OwnB w (.slice none 0 0) w.heap.size x3 (Pu.labT2 H (i + 1)) w3) := by
        have := HO2.out.more hB3
        rwa [← HNX.out.1] at this
      clear hB3 HO2 hf2 hl2
      rw [hff]
      go_wp2
      go_roundw
      case rel => exact ⟨i + 1, r + 1, x3, w3, rfl, by go_num, by go_num, by omega, by omega, rfl, HO3.out, HNX.out.2⟩
      case measure => simp [intOf]; omega
    · have hii : ¬ (i : Int) < (ll : Int) := by omega
      have hE : Pu.labT2 H i = Pu.labB H := by rw [show i = H.length by rw [HLL.out]; omega, Pu.labT2_all]
      have o1 := HI.out.1
      rw [hE] at o1
      have HX : Hid (∃ y, Ending.returned x = .returned y ∧ OwnB w (.slice none 0 0) w.heap.size y (Pu.labB H) wr) := ⟨x, rfl, o1⟩
      clear HI o1 hE
      go_wp2
      exact bodyPost_ret (v := x) (by simp [results, Tryd.results70, go_sem]) rfl HX.out
end Go.Proofs.YtdogncjcainhlaaDoor
/- The walk of records.Write. -/
namespace Go.Proofs.YtdogncjcainhlaaDoor
open Go.RowKit Go.Deep
open Mem

/-- What holds ahead of each round of the second loop of records.Write: two rows of bytes, the ranks. -/
structure W2 (w : World) (rb n : Nat) (O : List Nat) (L : Nat → List (Nat × Int)) (v : Nat) (hv bb : Value) (wy : World) : Prop where
  held : wy.ownsRow w.heap.size 5 1 hv (Pu.headB O ++ Pu.sizesB L v).length (bv (Pu.headB O ++ Pu.sizesB L v))
  behind : wy.ownsRow w.heap.size 5 1 bb (Pu.labsB L v).length (bv (Pu.labsB L v))
  apart : ∀ q, hv.ownBlock = some q → bb.ownBlock ≠ some q
  hr : hv.ownBlock ≠ some rb
  br : bb.ownBlock ≠ some rb
  ranks : ∃ g, Ints wy rb n g ∧ ∀ j h : Nat, O[j]? = some h → g h = j
  turns : Turns (fun _ => False) w wy
theorem W2.then {w : World} {rb n : Nat} {O : List Nat} {L : Nat → List (Nat × Int)} {v : Nat} {hv bb : Value} {wy wz : World} (h : W2 w rb n O L v hv bb wy) (t : Turns (fun _ => False) wy wz) : W2 w rb n O L v hv bb wz := by
  obtain ⟨g, g1, g2⟩ := h.ranks
  exact ⟨owns_turns h.held t, owns_turns h.behind t, h.apart, h.hr, h.br, ⟨g, g1.turns t (fun x => x), g2⟩, h.turns.trans t⟩
set_option maxRecDepth 100000 in
set_option maxHeartbeats 4000000 in
/-- records.Write. -/
theorem recWrite_any (w : World) (ob n ocap lcap : Nat) (a : Option Addr) (D : Nat → Nat → Int) (O : List Nat) (hn1 : 1 ≤ n) (hn : n ≤ 40) (hO : Ord w ob n O) (hP : Pu.Perm n O) (hR : RdAt w a (Pu.labP D O n))
    (hF : ∀ (v i r : Nat) (f : Int), v < n → (Pu.hubK D O v n)[i]? = some (r, f) → r < n ∧ Pu.nxt 0 ((Pu.hubK D O v n).take i) ≤ r ∧ 0 ≤ f ∧ f ≤ 40000) :
    Calls Tryd.prog 50 #[.slice (some ⟨ob, 0, none⟩) n ocap, .slice a (Pu.labP D O n).length lcap] w fun e w' => e = .returned (.string ⟨(Pu.heldB O (fun v => Pu.hubK D O v n) n).toArray⟩) ∧ Turns (fun _ => False) w w' := by
  obtain ⟨i0, hi, hz0, hz1, hz2⟩ := info_parts info5
  have kc := fun (W : World) (C : Array Value) (m c : Nat) => Lib.run_convert_bytes_const (P := Tryd.prog) W 102 5 C m c Tryd.underlying102 Tryd.underlying5
  obtain ⟨ll, hll⟩ : ∃ ll, (Pu.labP D O n).length = ll := ⟨_, rfl⟩
  have HLL : Hid ((Pu.labP D O n).length = ll) := hll
  rw [hll]
  have HR : Hid (RdAt w a (Pu.labP D O n)) := hR
  have HO : Hid (Ord w ob n O) := hO
  clear hR hO hll
  go_enter Tryd.func50, Tryd.ntmps50
  go_wp2_with (at_builtin; refine wpList_append_grows _ rfl _ _ 102 rfl 5 i0 (.int .u8 0) 1 1 Tryd.underlying102 hi hz0 hz1 hz2 rfl (by decide) (some ⟨w.heap.size, 0, none⟩) 2 2 [.int .u8 98, .int .u8 119] rfl (by intro c; cases c) rfl ?_ ⟨w.heap.size + 1, 0, none⟩ 1 1 [.int .u8 (n : Int)] rfl rfl ?_ ?_ (by omega) (by unfold maxLen; omega) (by omega) ?_)
  · intro b hb j u hj
    injection hb with hb
    subst hb
    rw [addr_add]
    refine (Turns.cell (p := fun _ => False) ((Turns.refl _ (w.alloc (.cells #[.int .u8 98, .int .u8 119] 5 (2, 3)))).alloc _) (a := ⟨w.heap.size, j, none⟩) (by simp) (fun x => x)).trans ?_
    have hc : (w.alloc (.cells #[.int .u8 98, .int .u8 119] 5 (2, 3))).heap[w.heap.size]? = some (.cells #[.int .u8 98, .int .u8 119] 5 (2, 3)) := Array.getElem?_push_size
    rw [Lib.cell_of_heap hc, ← Array.getElem?_toList]
    exact hj
  · intro j u hj
    rw [addr_add]
    have := World.cell?_alloc_new (w.alloc (.cells #[.int .u8 98, .int .u8 119] 5 (2, 3))) #[.int .u8 (n : Int)] 5 j
    simp only [World.size_alloc] at this
    rw [this, ← Array.getElem?_toList]
    exact hj
  · intro u hu; simp at hu; subst hu; rfl
  intro v0 w2 hown2 hgrow2
  have hT2 : Turns (fun _ => False) w w2 := (((Turns.refl _ w).alloc _).alloc _).grown hgrow2 (fun q hq => by cases hq)
  have hs2 := hT2.size
  have hOl : O.length = n := HO.out.1
  have HH0 : Hid (w2.ownsRow w.heap.size 5 1 v0 (98 :: 119 :: UInt8.ofNat n :: (O.take 0).map UInt8.ofNat).length (bv (98 :: 119 :: UInt8.ofNat n :: (O.take 0).map UInt8.ofNat)) ∧ Turns (fun _ => False) w w2) := by
    refine ⟨?_, hT2⟩
    have e : bv (98 :: 119 :: UInt8.ofNat n :: (O.take 0).map UInt8.ofNat) = [Value.int .u8 98, .int .u8 119] ++ [.int .u8 (n : Int)] := by
      show Value.int .u8 98 :: Value.int .u8 119 :: bv [UInt8.ofNat n] = _
      rw [bv_one_ofNat (by omega)]; rfl
    rw [e]
    exact owns_mono hown2 (by omega)
  clear hown2 hgrow2 hT2
  have hmk := run_make_row' (P := Tryd.prog) 41 3 (.int .i64 0) 8 Tryd.underlying41 info3 rfl .i64 .i64 n (by omega) (by omega)
  have H1 : Hid (∃ (i : Nat) (x : Value) (wy : World) (g : Nat → Int), x = v0 ∧ Value.int .i64 0 = .int .i64 (i : Int) ∧ i ≤ n ∧ wy = w2.alloc (.cells (madeCells #[.int .i64 0] n) 3) ∧ Hid (wy.ownsRow w.heap.size 5 1 x (98 :: 119 :: UInt8.ofNat n :: (O.take i).map UInt8.ofNat).length (bv (98 :: 119 :: UInt8.ofNat n :: (O.take i).map UInt8.ofNat)) ∧ Turns (fun _ => False) w wy ∧ Ints wy w2.heap.size n g ∧ (∀ j h : Nat, j < i → O[j]? = some h → g h = j) ∧ x.ownBlock ≠ some w2.heap.size)) := by
    refine ⟨0, v0, _, fun _ => 0, rfl, rfl, Nat.zero_le _, rfl, HH0.out.1.alloc _, HH0.out.2.alloc _, Ints.made _ _ _ _, fun j h hj => by omega, fun c => ?_⟩
    have := (HH0.out.1.lt _ c).2
    omega
  clear HH0
  go_wp2
  go_loopw [5, 24] (fun xv iv wr => ∃ (i : Nat) (x : Value) (wy : World) (g : Nat → Int), x = xv ∧ iv = .int .i64 (i : Int) ∧ i ≤ n ∧ wy = wr ∧ Hid (wy.ownsRow w.heap.size 5 1 x (98 :: 119 :: UInt8.ofNat n :: (O.take i).map UInt8.ofNat).length (bv (98 :: 119 :: UInt8.ofNat n :: (O.take i).map UInt8.ofNat)) ∧ Turns (fun _ => False) w wy ∧ Ints wy w2.heap.size n g ∧ (∀ j h : Nat, j < i → O[j]? = some h → g h = j) ∧ x.ownBlock ≠ some w2.heap.size)) (fun _ iv _ => n - (intOf iv).toNat)
  case atStart => exact H1.out
  case round =>
    clear H1 hmk
    obtain ⟨i, x, wr, g, hx, rfl, hin, hwy, HI⟩ := hrel
    subst hwy hx
    by_cases hlt : i < n
    · have hii : (i : Int) < (n : Int) := by omega
      obtain ⟨m, hm⟩ : ∃ m, O[i]? = some m := ⟨_, List.getElem?_eq_getElem (by omega)⟩
      obtain ⟨hmn, hcm⟩ := HO.out.2 i m hm
      obtain ⟨o1, o2, o3, o4, o5⟩ := HI.out
      have e1 := (o2.cell (a := ⟨ob, i, none⟩) (World.block_lt_of_cell? _ _ hcm) (fun x => x)).trans hcm
      obtain ⟨l2, hl2⟩ : ∃ l2, l2 = (98 :: 119 :: UInt8.ofNat n :: (O.take i).map UInt8.ofNat) ++ [UInt8.ofNat m] := ⟨_, rfl⟩
      have HL2 : Hid (l2 = (98 :: 119 :: UInt8.ofNat n :: (O.take i).map UInt8.ofNat) ++ [UInt8.ofNat m] ∧ l2 = 98 :: 119 :: UInt8.ofNat n :: (O.take (i + 1)).map UInt8.ofNat) := by
        refine ⟨hl2, ?_⟩
        rw [hl2, List.take_add_one, hm, Option.toList_some, List.map_append]; rfl
      have HOB : Hid (OwnB wr x w.heap.size x (98 :: 119 :: UInt8.ofNat n :: (O.take i).map UInt8.ofNat) wr) := OwnB.refl o1
      have HSZ : Hid (w.heap.size ≤ wr.heap.size ∧ (98 :: 119 :: UInt8.ofNat n :: (O.take i).map UInt8.ofNat).length ≤ 200000) := by
        refine ⟨o2.size, ?_⟩
        simp; omega
      clear hl2 o1 o2 o3 o4 o5
      go_wp2_with (at_builtin; refine wpList_append_byte rfl _ _ rfl wr wr x x w.heap.size _ l2 _ m HL2.out.1 rfl (by omega) HOB.out HSZ.out.1 HSZ.out.2 rfl rfl ?_)
      intro x' w3 hB
      obtain ⟨o1, o2, o3, o4, o5⟩ := HI.out
      have hI3 : Ints w3 w2.heap.size n g := o3.turns hB.turns o5
      have d1 := hI3.cell m hmn
      have d2 := hI3.free m hmn
      have HX : Hid (∃ (i' : Nat) (y : Value) (wy : World) (g' : Nat → Int), y = x' ∧ Value.int .i64 ((i : Int) + 1) = .int .i64 (i' : Int) ∧ i' ≤ n ∧ wy = w3.setCell ⟨w2.heap.size, m, none⟩ (.int .i64 (i : Int)) ∧ Hid (wy.ownsRow w.heap.size 5 1 y (98 :: 119 :: UInt8.ofNat n :: (O.take i').map UInt8.ofNat).length (bv (98 :: 119 :: UInt8.ofNat n :: (O.take i').map UInt8.ofNat)) ∧ Turns (fun _ => False) w wy ∧ Ints wy w2.heap.size n g' ∧ (∀ j h : Nat, j < i' → O[j]? = some h → g' h = j) ∧ y.ownBlock ≠ some w2.heap.size)) := by
        have hne : x'.ownBlock ≠ some w2.heap.size := by
          intro c
          rcases hB.block _ c with h | h
          · exact o5 h
          · have := o3.lt; omega
        refine ⟨i + 1, x', _, upd g m i, rfl, by go_num, by omega, rfl, ownsRow_setCell_other (by rw [← HL2.out.2]; exact hB.own) hne _, (turns_over o2 hB.turns (fun b hb => (o1.lt b hb).1)).setCell (Or.inl hs2) _, hI3.set hmn _, ?_, hne⟩
        intro j h hj hjh
        by_cases e : j = i
        · subst e
          rw [hm] at hjh
          injection hjh with hjh
          subst hjh
          exact upd_same _ _ _
        · have hne2 : h ≠ m := by
            rintro rfl
            exact e (Pu.nodup_idx hP.nodup hjh hm)
          rw [upd_other _ _ _ _ hne2]
          exact o4 j h (by omega) hjh
      clear HI HOB HSZ HL2 hB o1 o2 o3 o4 o5 hI3 hcm e1 hm
      go_wp2
      go_roundw
      case rel => exact HX.out
      case measure => simp [intOf]; omega
    · have hii : ¬ (i : Int) < (n : Int) := by omega
      have hin2 : i = n := by omega
      obtain ⟨L, hL⟩ : ∃ L, L = fun v => Pu.hubK D O v n := ⟨_, rfl⟩
      have HW0 : Hid (W2 w w2.heap.size n O L 0 x (.slice none 0 0) wr) := by
        obtain ⟨o1, o2, o3, o4, o5⟩ := HI.out
        have e : 98 :: 119 :: UInt8.ofNat n :: (O.take i).map UInt8.ofNat = Pu.headB O ++ Pu.sizesB L 0 := by
          rw [List.take_of_length_le (by omega), Pu.headB, hOl]; simp [Pu.sizesB]
        rw [e] at o1
        exact ⟨o1, World.ownsRow_nil _ _ _ _, fun q _ c => (by cases c), o5, fun c => (by cases c), ⟨g, o3, fun j h hj => o4 j h (by have := (List.getElem?_eq_some_iff.1 hj).1; omega) hj⟩, o2⟩
      have HF : Hid (∀ (v i r : Nat) (f : Int), v < n → (L v)[i]? = some (r, f) → r < n ∧ Pu.nxt 0 ((L v).take i) ≤ r ∧ 0 ≤ f ∧ f ≤ 40000) := by rw [hL]; exact hF
      have HLF : Hid (∀ v, v < n → (Pu.labP D O n).filter (fun r => r.1 == v) = (L v).map (fun x => (v, O.getD x.1 0, x.2)) ∧ (L v).length ≤ n) := by
        intro v hv
        rw [Pu.labP_filter, if_pos hv, hOl, Pu.hubK_lab, hL]
        exact ⟨rfl, Pu.hubK_len _ _ _ _⟩
      have HE : Hid (Pu.heldB O (fun v => Pu.hubK D O v n) n = Pu.headB O ++ Pu.sizesB L n ++ Pu.labsB L n) := by rw [hL]; rfl
      have hll : ll ≤ 1600 := by
        have := Pu.labP_len D O n
        have h2 : n * O.length ≤ 40 * 40 := Nat.mul_le_mul (by omega) (by omega)
        have := HLL.out
        omega
      clear HI hL hF hin2
      go_wp2
      go_loopw [5, 9, 41] (fun xv bw vv wr => ∃ (v : Nat) (x y : Value) (wy : World), x = xv ∧ y = bw ∧ vv = .int .i64 (v : Int) ∧ v ≤ n ∧ wy = wr ∧ Hid (W2 w w2.heap.size n O L v x y wy)) (fun _ _ vv _ => n - (intOf vv).toNat)
      case atStart => exact ⟨0, x, _, wr, rfl, rfl, rfl, Nat.zero_le _, rfl, HW0.out⟩
      case round =>
        clear HW0
        obtain ⟨v, x, y, wr, hx, hy, rfl, hvn, hwy, HW⟩ := hrel
        subst hwy hx hy
        by_cases hlt : v < n
        · have hvi : (v : Int) < (n : Int) := by omega
          have hRr := HR.out.turns HW.out.turns
          have ch := hubsOf_any wr v lcap a (Pu.labP D O n) (by rw [HLL.out]; exact hll) hRr
          rw [(HLF.out v hlt).1, HLL.out] at ch
          clear hRr
          go_wp2_with fail
          refine ch.mono ?_
          rintro e w3 ⟨hT3, xh, rfl, hown3⟩
          obtain ⟨ah, chp, hxh, hRd⟩ := rdAt_own hown3
          rw [List.length_map] at hxh
          subst hxh
          have HW3 : Hid (W2 w w2.heap.size n O L v x y w3) := HW.out.then hT3
          have cl := writeLabel_any w3 w2.heap.size n n chp v ah (L v) (fun r => O.getD r 0) (by have := (HLF.out v hlt).2; omega) hn hRd (fun i r f h => HF.out v i r f hlt h) (by
            intro i r f h
            obtain ⟨f1, _⟩ := HF.out v i r f hlt h
            obtain ⟨g, g1, g2⟩ := HW3.out.ranks
            obtain ⟨m, hm⟩ : ∃ m, O[r]? = some m := ⟨_, List.getElem?_eq_getElem (by omega)⟩
            have hmn := hP.lt m (List.mem_of_getElem? hm)
            have e : O.getD r 0 = m := by rw [List.getD_eq_getElem?_getD, hm]; rfl
            simp only [e]
            exact ⟨hmn, by rw [g1.cell m hmn, g2 r m hm]⟩)
          clear ch hown3 hRd hT3 HW
          go_wp2_with fail
          refine cl.mono ?_
          rintro e w4 ⟨xl, rfl, hB4⟩
          have HB4 : Hid (OwnB w3 (.slice none 0 0) w3.heap.size xl (Pu.labB (L v)) w4) := hB4
          have HW4 : Hid (W2 w w2.heap.size n O L v x y w4) := HW3.out.then hB4.turns0
          have hlb := Pu.labB_len (L v)
          have hlb2 := (HLF.out v hlt).2
          have hl0 := (Pu.countB_len (L v).length).1
          have hl1 : 1 ≤ (Pu.labB (L v)).length := by rw [Pu.labB, List.length_append]; omega
          obtain ⟨m, hm⟩ : ∃ m, (Pu.labB (L v)).length = m + 1 := ⟨(Pu.labB (L v)).length - 1, by omega⟩
          have hB4o := hB4.own
          rw [hm] at hB4o
          obtain ⟨gl, cpl, hxl⟩ := owns_form hB4o
          subst hxl
          have hglb : w3.heap.size ≤ gl := by
            rcases hB4.block gl rfl with c | c
            · cases c
            · exact c
          have hgll : gl < w4.heap.size := (hB4.own.lt gl rfl).2
          have ca := cappend_any x (m + 1) w.heap.size (Pu.headB O ++ Pu.sizesB L v) w4 HW4.out.held HW4.out.turns.size (by
            rw [List.length_append, Pu.headB_len]
            have := Pu.sizesB_len L v
            omega) (by omega)
          have HXB : Hid (∀ b, x.ownBlock = some b → b < w3.heap.size) := fun b hb => (HW3.out.held.lt b hb).2
          have HYB : Hid (∀ b, y.ownBlock = some b → b < w3.heap.size) := fun b hb => (HW3.out.behind.lt b hb).2
          clear cl hB4 hB4o HW3
          go_wp2_with fail
          refine ca.mono ?_
          rintro e w5 ⟨x5, rfl, hB5⟩
          have hs5 := hB5.turns.size
          have hcells5 : ∀ (j : Nat) (b : UInt8), (Pu.labB (L v))[j]? = some b → w5.cell? ((⟨gl, 0, none⟩ : Addr).add j) = some (.int .u8 (b.toNat : Int)) := by
            intro j b hj
            rw [addr_add]
            refine (hB5.turns.cell (a := ⟨gl, j, none⟩) hgll ?_).trans ?_
            · intro c
              have : gl < w3.heap.size := HXB.out gl c
              omega
            · have := HB4.out.own.cells (g := gl) (by rw [← hm]; rfl) j (.int .u8 (b.toNat : Int)) (by rw [bv, List.getElem?_map, hj]; rfl)
              rwa [addr_add] at this
          have HB5 : Hid (OwnB w4 x w.heap.size x5 (Pu.headB O ++ Pu.sizesB L v ++ Pu.countB (m + 1)) w5) := hB5
          have HY5 : Hid (OwnB w5 y w.heap.size y (Pu.labsB L v) w5) := OwnB.refl (owns_over HW4.out.behind hB5.turns (fun b hb c => HW4.out.apart b c hb))
          have HS5 : Hid (w.heap.size ≤ w5.heap.size ∧ (Pu.labsB L v).length + (m + 1) ≤ 200000) := by
            refine ⟨Nat.le_trans HW4.out.turns.size hs5, ?_⟩
            have := Pu.labsB_len L n v (fun u hu => (HLF.out u (by omega)).2)
            have h2 : (3 + 6 * n) * v ≤ 243 * 40 := Nat.mul_le_mul (by omega) (by omega)
            omega
          have HC5 : Hid (∀ (j : Nat) (b : UInt8), (Pu.labB (L v))[j]? = some b → w5.cell? ((⟨gl, 0, none⟩ : Addr).add j) = some (.int .u8 (b.toNat : Int))) := hcells5
          have HM : Hid ((Pu.labB (L v)).length = m + 1) := hm
          obtain ⟨l2, hl2⟩ : ∃ l2, l2 = Pu.labsB L v ++ Pu.labB (L v) := ⟨_, rfl⟩
          have HL2 : Hid (l2 = Pu.labsB L v ++ Pu.labB (L v)) := hl2
          clear ca hB5 hcells5 hm hl2
          go_wp2_with (at_builtin; refine wpList_append_bytes rfl _ _ rfl w5 w5 y y w.heap.size (Pu.labsB L v) (Pu.labB (L v)) l2 ⟨gl, 0, none⟩ (m + 1) cpl HL2.out HM.out HC5.out HY5.out HS5.out.1 HS5.out.2 rfl rfl ?_)
          intro y6 w6 hB6
          have HX : Hid (W2 w w2.heap.size n O L (v + 1) x5 y6 w6) := by
            obtain ⟨g, g1, g2⟩ := HW4.out.ranks
            have b5 := HB5.out
            have i5 : Ints w5 w2.heap.size n g := g1.turns b5.turns HW4.out.hr
            have i6 : Ints w6 w2.heap.size n g := i5.turns hB6.turns HW4.out.br
            have t5 : Turns (fun _ => False) w w5 := turns_over HW4.out.turns b5.turns (fun b hb => (HW4.out.held.lt b hb).1)
            have t6 : Turns (fun _ => False) w w6 := turns_over t5 hB6.turns (fun b hb => (HW4.out.behind.lt b hb).1)
            have ap : ∀ q, x5.ownBlock = some q → y.ownBlock ≠ some q := by
              intro q hq c
              rcases b5.block q hq with h | h
              · exact HW4.out.apart q h c
              · have := HYB.out q c
                omega
            refine ⟨?_, ?_, ?_, ?_, ?_, ⟨g, i6, g2⟩, t6⟩
            · rw [Pu.sizesB, HM.out, ← List.append_assoc]
              exact owns_over b5.own hB6.turns (fun b hb c => ap b hb c)
            · rw [Pu.labsB, ← HL2.out]; exact hB6.own
            · intro q hq c
              rcases hB6.block q c with h | h
              · exact ap q hq h
              · have := (b5.own.lt q hq).2
                omega
            · intro c
              rcases b5.block _ c with h | h
              · exact HW4.out.hr h
              · have := g1.lt; omega
            · intro c
              rcases hB6.block _ c with h | h
              · exact HW4.out.br h
              · have := i5.lt; omega
          clear hB6 HB5 HY5 HS5 HC5 HM HL2 HW4 HB4 HXB HYB
          go_wp2
          go_roundw
          case rel => exact ⟨v + 1, x5, y6, w6, rfl, rfl, by go_num, by omega, rfl, HX.out⟩
          case measure => simp [intOf]; omega
        · have hvi : ¬ (v : Int) < (n : Int) := by omega
          have hvn2 : v = n := by omega
          have HV : Hid (W2 w w2.heap.size n O L n x y wr) := hvn2 ▸ HW.out
          clear HW hvn2
          obtain ⟨M, hM⟩ : ∃ M, (Pu.labsB L n).length = M + 1 := by
            obtain ⟨k, rfl⟩ : ∃ k, n = k + 1 := ⟨n - 1, by omega⟩
            refine ⟨(Pu.labsB L (k + 1)).length - 1, ?_⟩
            have := (Pu.countB_len (L k).length).1
            rw [Pu.labsB, Pu.labB, List.length_append, List.length_append]
            omega
          have hyo := HV.out.behind
          rw [hM] at hyo
          obtain ⟨gy, cy, hy⟩ := owns_form hyo
          subst hy
          have HC : Hid (∀ (j : Nat) (b : UInt8), (Pu.labsB L n)[j]? = some b → wr.cell? ((⟨gy, 0, none⟩ : Addr).add j) = some (.int .u8 (b.toNat : Int))) := by
            intro j b hj
            exact HV.out.behind.cells (g := gy) (by rw [← hM]; rfl) j (.int .u8 (b.toNat : Int)) (by rw [bv, List.getElem?_map, hj]; rfl)
          have HM : Hid ((Pu.labsB L n).length = M + 1) := hM
          have HOB : Hid (OwnB wr x w.heap.size x (Pu.headB O ++ Pu.sizesB L n) wr) := OwnB.refl HV.out.held
          have HS : Hid (w.heap.size ≤ wr.heap.size ∧ (Pu.headB O ++ Pu.sizesB L n).length + (M + 1) ≤ 200000) := by
            refine ⟨HV.out.turns.size, ?_⟩
            have := Pu.labsB_len L n n (fun u hu => (HLF.out u hu).2)
            have h2 : (3 + 6 * n) * n ≤ 243 * 40 := Nat.mul_le_mul (by omega) (by omega)
            have h3 := Pu.sizesB_len L n
            rw [List.length_append, Pu.headB_len]
            omega
          obtain ⟨l2, hl2⟩ : ∃ l2, l2 = Pu.headB O ++ Pu.sizesB L n ++ Pu.labsB L n := ⟨_, rfl⟩
          have HL2 : Hid (l2 = Pu.headB O ++ Pu.sizesB L n ++ Pu.labsB L n) := hl2
          clear hl2 hM hyo
          go_wp2_with (at_builtin; refine wpList_append_bytes rfl _ _ rfl wr wr x x w.heap.size (Pu.headB O ++ Pu.sizesB L n) (Pu.labsB L n) l2 ⟨gy, 0, none⟩ (M + 1) cy HL2.out HM.out HC.out HOB.out HS.out.1 HS.out.2 rfl rfl ?_)
          intro x6 w6 hB6
          have hB6o := hB6.own
          obtain ⟨m2, hm2⟩ : ∃ m2, l2.length = m2 + 1 := ⟨l2.length - 1, by
            have := HM.out
            rw [HL2.out, List.length_append]; omega⟩
          rw [hm2] at hB6o
          obtain ⟨g6, c6, hx6⟩ := owns_form hB6o
          subst hx6
          have hcv : (convert 102 9 (.slice (some ⟨g6, 0, none⟩) (m2 + 1) c6)).run Tryd.prog w6 = .ok (.string ⟨l2.toArray⟩) w6 := by
            rw [← hm2]
            refine run_convert_bytes_back w6 102 9 5 ⟨g6, 0, none⟩ c6 l2 Tryd.underlying102 Tryd.underlying5 Tryd.underlying9 ?_
            intro j hj
            exact hB6.own.cells (g := g6) (by rw [← hm2]; rfl) j (.int .u8 (l2[j].toNat : Int)) (by rw [bv, List.getElem?_map, List.getElem?_eq_getElem hj]; rfl)
          have HT6 : Hid (Turns (fun _ => False) w w6) := turns_over HV.out.turns hB6.turns (fun b hb => (HV.out.held.lt b hb).1)
          have HE2 : Hid (l2 = Pu.heldB O (fun v => Pu.hubK D O v n) n) := HL2.out.trans HE.out.symm
          clear hB6 hB6o HOB HS HC HV HM HL2 HE
          go_wp2
          exact bodyPost_ret (v := .string ⟨l2.toArray⟩) (by simp [results, Tryd.results50, go_sem]) rfl ⟨by rw [HE2.out], HT6.out⟩
#print axioms recWrite_any
end Go.Proofs.YtdogncjcainhlaaDoor
/- The walks of pages.dropEight, pages.summed, pages.sumOf, pages.sumText. -/
namespace Go.Proofs.YtdogncjcainhlaaDoor
open Go.RowKit Go.Deep
open Mem

theorem xor_ones {H : Nat} (h : H < 4294967296) : 4294967295 ^^^ H = 4294967295 - H := by
  have e : (BitVec.allOnes 32 ^^^ BitVec.ofNat 32 H).toNat = (~~~ (BitVec.ofNat 32 H)).toNat := by rw [BitVec.allOnes_xor]
  rw [BitVec.toNat_xor, BitVec.toNat_not, BitVec.toNat_allOnes, BitVec.toNat_ofNat, Nat.mod_eq_of_lt (by omega)] at e
  simpa using e
set_option maxRecDepth 100000 in
set_option maxHeartbeats 1000000 in
/-- Eight bits fall out. -/
theorem drop_any (H : Nat) (w : World) (hH : H < 4294967296) :
    Calls Tryd.prog 90 #[.int .u32 H] w fun e w' => e = .returned (.int .u32 (Pu.bitN 8 H : Nat)) ∧ w' = w := by
  go_enter Tryd.func90, Tryd.ntmps90
  go_wp2
  go_loop [0, 4] (fun h i => ∃ (j Y : Nat), j ≤ 8 ∧ i = .int .i64 j ∧ h = .int .u32 Y ∧ Y < 4294967296 ∧ Hid (Y = Pu.bitN j H)) (fun _ i => 8 - (intOf i).toNat)
  case atStart => exact ⟨0, H, by omega, rfl, rfl, hH, rfl⟩
  case round =>
    obtain ⟨j, Y, hj, rfl, rfl, hY, HJ⟩ := hrel
    have hand : bits .and .u32 (Y : Int) 1 = ((Y % 2 : Nat) : Int) := by have := u32_and_nat Y 1 hY (by decide); rw [nat_mask1] at this; exact this
    by_cases hj8 : j < 8
    · have hji : (j : Int) < 8 := by omega
      by_cases ho : Y % 2 = 1
      · have hoi : ((Y : Int) % 2 == 1) = true := by rw [beq_iff_eq]; omega
        have hoi2 : (((Y % 2 : Nat) : Int) == 1) = true := by rw [beq_iff_eq]; omega
        have hxx : bits .xor .u32 ((Y : Int) / 2) 3988292384 = ((Y / 2 ^^^ 3988292384 : Nat) : Int) := by have := u32_xor_nat (Y / 2) 3988292384 (by omega) (by decide); simpa using this
        have hyl : Y / 2 ^^^ 3988292384 < 4294967296 := Nat.xor_lt_two_pow (n := 32) (by omega) (by decide)
        have HN : Hid (Y / 2 ^^^ 3988292384 = Pu.bitN (j + 1) H) := by show _ = Pu.bit1 _; rw [← HJ.out, Pu.bit1_odd ho]
        generalize Y / 2 ^^^ 3988292384 = Z at *
        clear HJ
        go_wp2
        go_round
        case rel => exact ⟨j + 1, Z, by omega, by go_num, rfl, hyl, HN⟩
        case measure => simp [intOf]; omega
      · have hoi : ((Y : Int) % 2 == 1) = false := by rw [beq_eq_false_iff_ne]; omega
        have hoi2 : (((Y % 2 : Nat) : Int) == 1) = false := by rw [beq_eq_false_iff_ne]; omega
        have HN : Hid (Y / 2 = Pu.bitN (j + 1) H) := by show _ = Pu.bit1 _; rw [← HJ.out, Pu.bit1_even ho]
        clear HJ
        go_wp2
        go_round
        case rel => exact ⟨j + 1, Y / 2, by omega, by go_num, by go_num, by omega, HN⟩
        case measure => simp [intOf]; omega
    · have hj9 : j = 8 := by omega
      have hji : ¬ (j : Int) < 8 := by omega
      have HN : Hid (Y = Pu.bitN 8 H) := by show _ = _; rw [HJ.out, hj9]
      clear HJ hj9
      go_wp2
      go_ret
      exact ⟨by rw [← HN.out]; rfl, rfl⟩
set_option maxRecDepth 100000 in
set_option maxHeartbeats 1000000 in
/-- The bytes of which a sum is worked out. -/
theorem summed_any (p : Nat) (h : ByteArray) (w : World) (hp : p < 65536) (hh : h.size ≤ 1000) :
    Calls Tryd.prog 89 #[.int .i64 p, .string h] w fun e w' => ∃ g cap, e = .returned (.slice (some ⟨g, 0, none⟩) (2 + h.size) cap) ∧ Turns (fun _ => False) w w' ∧ ∀ (j : Nat) (b : UInt8), (UInt8.ofNat (p / 256) :: UInt8.ofNat (p % 256) :: h.data.toList)[j]? = some b → w'.cell? ⟨g, j, none⟩ = some (.int .u8 (b.toNat : Int)) := by
  obtain ⟨i0, hi, hz0, hz1, hz2⟩ := info_parts info5
  have hown : (w.alloc (.cells #[.int .u8 ((p : Int) / 256), .int .u8 ((p : Int) % 256)] 5)).ownsRow w.heap.size 5 1 (.slice (some ⟨w.heap.size, 0, none⟩) 2 2) 2 [.int .u8 ((p : Int) / 256), .int .u8 ((p : Int) % 256)] :=
    ⟨rfl, Or.inr ⟨w.heap.size, 2, #[.int .u8 ((p : Int) / 256), .int .u8 ((p : Int) % 256)], rfl, Nat.le_refl _, Array.getElem?_push_size, Nat.le_refl _, by decide, rfl, rfl⟩⟩
  have HE : Hid (Value.int .u8 ((p : Int) / 256) :: Value.int .u8 ((p : Int) % 256) :: Lib.strCells h = bv (UInt8.ofNat (p / 256) :: UInt8.ofNat (p % 256) :: h.data.toList)) := by
    show _ = Value.int .u8 ((UInt8.ofNat (p / 256)).toNat : Int) :: Value.int .u8 ((UInt8.ofNat (p % 256)).toNat : Int) :: bv h.data.toList
    rw [← ofNat_int (n := p / 256) (by omega), ← ofNat_int (n := p % 256) (by omega)]
    simp [Lib.strCells, bv]
  go_enter Tryd.func89, Tryd.ntmps89
  go_wp2_with (at_builtin; refine Lib.wpList_append_own_string _ rfl _ _ 102 9 rfl w.heap.size 5 i0 Tryd.underlying102 Tryd.underlying9 hi hz0 hz1 hz2 _ 2 _ rfl hown h rfl (by unfold maxLen; omega) (by omega) (by simp) ?_)
  intro v' w3 hown3 hgrow _
  rw [HE.out] at hown3
  have HX : Hid (∃ g cap, v' = .slice (some ⟨g, 0, none⟩) (2 + h.size) cap ∧ Turns (fun _ => False) w w3 ∧ ∀ (j : Nat) (b : UInt8), (UInt8.ofNat (p / 256) :: UInt8.ofNat (p % 256) :: h.data.toList)[j]? = some b → w3.cell? ⟨g, j, none⟩ = some (.int .u8 (b.toNat : Int))) := by
    obtain ⟨g, cap, rfl, _⟩ := hown3.form (by omega)
    refine ⟨g, cap, rfl, ((Turns.refl _ w).alloc _).grown hgrow (fun q hq => by have hq : some w.heap.size = some q := hq; injection hq with hq; exact Or.inl (by omega)), fun j b hb => ?_⟩
    have := hown3.cells (g := g) rfl j (.int .u8 (b.toNat : Int)) (by rw [bv, List.getElem?_map, hb]; rfl)
    rwa [addr_add] at this
  clear hown3 hgrow hown HE
  go_wp2
  obtain ⟨g, cap, rfl, HX2⟩ := HX.out
  exact bodyPost_ret (v := .slice (some ⟨g, 0, none⟩) (2 + h.size) cap) (by simp [results, Tryd.results89, go_sem]) rfl ⟨g, cap, rfl, HX2⟩
set_option maxRecDepth 100000 in
set_option maxHeartbeats 1000000 in
/-- A sum's bytes. -/
theorem sumText_any (N : Nat) (w : World) (hN : N < 4294967296) :
    Calls Tryd.prog 67 #[.int .u32 N] w fun e w' => e = .returned (.string ⟨(Pu.sumB N).toArray⟩) ∧ Turns (fun _ => False) w w' := by
  have hcw := conv4 ((N : Int) / 16777216) ((N : Int) / 65536 % 256) ((N : Int) / 256 % 256) ((N : Int) % 256) (UInt8.ofNat (N / 16777216)) (UInt8.ofNat (N / 65536 % 256)) (UInt8.ofNat (N / 256 % 256)) (UInt8.ofNat (N % 256))
    (by have := ofNat_int (n := N / 16777216) (by omega); omega) (by have := ofNat_int (n := N / 65536 % 256) (by omega); omega) (by have := ofNat_int (n := N / 256 % 256) (by omega); omega) (by have := ofNat_int (n := N % 256) (by omega); omega)
  go_enter Tryd.func67, Tryd.ntmps67
  go_wp2
  go_ret
  exact ⟨rfl, (Turns.refl _ _).alloc _⟩
set_option maxRecDepth 100000 in
set_option maxHeartbeats 1000000 in
/-- The sum of a page. -/
theorem sumOf_any (p : Nat) (h : ByteArray) (w : World) (hp : p < 65536) (hh : h.size ≤ 1000) :
    Calls Tryd.prog 68 #[.int .i64 p, .string h] w fun e w' => e = .returned (.int .u32 (Pu.sumN (UInt8.ofNat (p / 256) :: UInt8.ofNat (p % 256) :: h.data.toList) : Nat)) ∧ Turns (fun _ => False) w w' := by
  have c := summed_any p h w hp hh
  obtain ⟨L, hL⟩ : ∃ L, L = UInt8.ofNat (p / 256) :: UInt8.ofNat (p % 256) :: h.data.toList := ⟨_, rfl⟩
  have HLl : Hid (L.length = 2 + h.size) := by rw [hL]; show _ + 1 + 1 = _; rw [← size_list]; omega
  rw [← hL] at c ⊢
  clear hL
  go_enter Tryd.func68, Tryd.ntmps68
  go_wp2_with (go_at_call 89; refine c.mono ?_; rintro e w1 ⟨g, cap, rfl, hT, hc⟩)
  have HC : Hid (∀ (j : Nat) (b : UInt8), L[j]? = some b → w1.cell? ⟨g, j, none⟩ = some (.int .u8 (b.toNat : Int))) := hc
  have HT : Hid (Turns (fun _ => False) w w1) := hT
  clear hc hT c
  go_loop [5, 12] (fun sv iv => ∃ (k H : Nat), k ≤ 2 + h.size ∧ iv = .int .i64 k ∧ sv = .int .u32 H ∧ H < 4294967296 ∧ Hid (H = Pu.crc 4294967295 (L.take k))) (fun _ iv => 2 + h.size - (intOf iv).toNat)
  case atStart => exact ⟨0, 4294967295, Nat.zero_le _, rfl, rfl, by decide, rfl⟩
  case round =>
    obtain ⟨k, H, hk, rfl, rfl, hH, HK⟩ := hrel
    by_cases hlt : k < 2 + h.size
    · have hki : (k : Int) < 2 + (h.size : Int) := by omega
      obtain ⟨b, hb⟩ : ∃ b, L[k]? = some b := ⟨_, List.getElem?_eq_getElem (by rw [HLl.out]; exact hlt)⟩
      have hcell := HC.out k b hb
      have hbl : b.toNat < 256 := b.toNat_lt
      have hx := u32_xor_nat H b.toNat hH (by omega)
      have hxl : H ^^^ b.toNat < 4294967296 := Nat.xor_lt_two_pow (n := 32) hH (by omega)
      have cd := drop_any (H ^^^ b.toNat) w1 hxl
      have hZ := Pu.bitN_lt hxl 8
      have HN : Hid (Pu.bitN 8 (H ^^^ b.toNat) = Pu.crc 4294967295 (L.take (k + 1))) := by
        show _ = _
        rw [List.take_add_one, hb, Option.toList_some, Pu.crc_snoc, ← HK.out]; rfl
      generalize Pu.bitN 8 (H ^^^ b.toNat) = Z at *
      generalize H ^^^ b.toNat = X at *
      clear HK hb
      go_wp2_with (go_at_call 90; refine cd.mono ?_; rintro e w2 ⟨rfl, hw2⟩; subst hw2)
      go_round
      case rel => exact ⟨k + 1, Z, by omega, by go_num, rfl, hZ, HN⟩
      case measure => simp [intOf]; omega
    · have hki : ¬ (k : Int) < 2 + (h.size : Int) := by omega
      have HN : Hid (H = Pu.crc 4294967295 L) := by
        have e := HK.out
        rwa [List.take_of_length_le (by rw [HLl.out]; omega)] at e
      have hn : bits .xor .u32 IntKind.u32.max (H : Int) = ((Pu.sumN L : Nat) : Int) := by
        have := u32_xor_nat 4294967295 H (by decide) hH
        rw [xor_ones hH] at this
        unfold Pu.sumN
        rw [← HN.out]
        exact this
      clear HK HN
      go_wp2
      exact bodyPost_ret (v := .int .u32 ((Pu.sumN L : Nat) : Int)) (by simp [results, Tryd.results68, go_sem]) rfl ⟨rfl, HT.out⟩
#print axioms sumOf_any
end Go.Proofs.YtdogncjcainhlaaDoor
/- The library's contracts of strings.Builder, laid at this translation. -/
namespace Go.Proofs.YtdogncjcainhlaaDoor
open Go.Shelf Go.RowKit Go.Lib
def lays166_ren : Go.Shelf.Ren := ⟨fun | 166 => 66 | 240 => 88 | 276 => 104 | n => n, fun | 0 => 0 | 3 => 3 | 4 => 4 | 5 => 5 | 9 => 9 | 20 => 20 | 37 => 102 | 70 => 139 | 72 => 141 | 75 => 144 | 80 => 150 | 164 => 181 | n => n, fun | n => n⟩
theorem lays166 : Go.Proofs.Lays.n166 Tryd.prog lays166_ren := {
  mixed := by kernel_rfl
  f166 := Tryd.func66.trans (congrArg some (by kernel_rfl))
  f240 := Tryd.func88.trans (congrArg some (by kernel_rfl))
  f276 := Tryd.func104.trans (congrArg some (by kernel_rfl))
  t0 := Tryd.underlying0
  a0 := Tryd.isAgg0
  z0 := Tryd.sizeOf0
  v0 := Tryd.zeroValue0
  t3 := Tryd.underlying3
  a3 := Tryd.isAgg3
  z3 := Tryd.sizeOf3
  v3 := Tryd.zeroValue3
  t4 := Tryd.underlying4
  a4 := Tryd.isAgg4
  z4 := Tryd.sizeOf4
  v4 := Tryd.zeroValue4
  t9 := Tryd.underlying9
  a9 := Tryd.isAgg9
  z9 := Tryd.sizeOf9
  v9 := Tryd.zeroValue9
  t20 := Tryd.underlying20
  a20 := Tryd.isAgg20
  z20 := Tryd.sizeOf20
  v20 := Tryd.zeroValue20
  t37 := Tryd.underlying102
  a37 := Tryd.isAgg102
  z37 := Tryd.sizeOf102
  v37 := Tryd.zeroValue102
  t70 := Tryd.underlying139
  a70 := Tryd.isAgg139
  z70 := Tryd.sizeOf139
  v70 := Tryd.zeroValue139
  t72 := Tryd.underlying141
  a72 := Tryd.isAgg141
  z72 := Tryd.sizeOf141
  v72 := Tryd.zeroValue141
  t75 := Tryd.underlying144
  a75 := Tryd.isAgg144
  z75 := Tryd.sizeOf144
  v75 := Tryd.zeroValue144
  t164 := Tryd.underlying181
  a164 := Tryd.isAgg181
  z164 := Tryd.sizeOf181
  v164 := Tryd.zeroValue181 }
def lays169_ren : Go.Shelf.Ren := ⟨fun | 169 => 69 | n => n, fun | 0 => 0 | 3 => 3 | 5 => 5 | 9 => 9 | 37 => 102 | 70 => 139 | 72 => 141 | 127 => 169 | n => n, fun | n => n⟩
theorem lays169 : Go.Proofs.Lays.n169 Tryd.prog lays169_ren := {
  mixed := by kernel_rfl
  f169 := Tryd.func69.trans (congrArg some (by kernel_rfl))
  t0 := Tryd.underlying0
  a0 := Tryd.isAgg0
  z0 := Tryd.sizeOf0
  v0 := Tryd.zeroValue0
  t3 := Tryd.underlying3
  a3 := Tryd.isAgg3
  z3 := Tryd.sizeOf3
  v3 := Tryd.zeroValue3
  t9 := Tryd.underlying9
  a9 := Tryd.isAgg9
  z9 := Tryd.sizeOf9
  v9 := Tryd.zeroValue9
  t37 := Tryd.underlying102
  a37 := Tryd.isAgg102
  z37 := Tryd.sizeOf102
  v37 := Tryd.zeroValue102
  t70 := Tryd.underlying139
  a70 := Tryd.isAgg139
  z70 := Tryd.sizeOf139
  v70 := Tryd.zeroValue139
  t72 := Tryd.underlying141
  a72 := Tryd.isAgg141
  z72 := Tryd.sizeOf141
  v72 := Tryd.zeroValue141
  t127 := Tryd.underlying169
  a127 := Tryd.isAgg169
  z127 := Tryd.sizeOf169
  v127 := Tryd.zeroValue169 }
theorem bX166 : Builder.Extra Tryd.prog lays166_ren := {
  sizeBuilder := by kernel_rfl
  liesBuilder := by kernel_rfl
  t5 := Tryd.underlying5
  a5 := Tryd.isAgg5
  z5 := Tryd.sizeOf5
  v5 := Tryd.zeroValue5
  infoByte := by kernel_rfl
  cellsByte := by kernel_rfl
  sizeByte := by kernel_rfl
  neB5 := by decide }
theorem bX169 : Builder.Extra Tryd.prog lays169_ren := {
  sizeBuilder := by kernel_rfl
  liesBuilder := by kernel_rfl
  t5 := Tryd.underlying5
  a5 := Tryd.isAgg5
  z5 := Tryd.sizeOf5
  v5 := Tryd.zeroValue5
  infoByte := by kernel_rfl
  cellsByte := by kernel_rfl
  sizeByte := by kernel_rfl
  neB5 := by decide }
theorem builder_write (B b : Nat) (bs : List Value) (s : ByteArray) (w : World) (h : Lib.IsBuilder 141 5 B b bs w) (hlen : bs.length + s.size ≤ 140737488355328) (hBw : B ≤ w.heap.size) :
    Calls Tryd.prog 66 #[.pointer (some ⟨b, 0, none⟩), .string s] w fun e w' => e = .returned (.tuple #[.int .i64 s.size, .nilIface]) ∧ (Lib.BuilderAt 141 5 B b (.pointer (some ⟨b, 0, none⟩)) (bs ++ Lib.strCells s) w' ∧ Below B w w') := Any.Builder_WriteString lays166 bX166 B b bs s w h hlen hBw
theorem builder_string (B b : Nat) (l : List UInt8) (w : World) (h : Lib.IsBuilder 141 5 B b (Lib.byteCells l) w) (hBw : B ≤ w.heap.size) :
    Calls Tryd.prog 69 #[.pointer (some ⟨b, 0, none⟩)] w fun e w' => e = .returned (.string ⟨l.toArray⟩) ∧ Below B w w' := Any.Builder_String_any lays169 bX169 B b l w h hBw
#print axioms builder_write
#print axioms builder_string
end Go.Proofs.YtdogncjcainhlaaDoor
/- The library's contract of strings.Repeat, laid at this translation. -/
namespace Go.Proofs.YtdogncjcainhlaaDoor
open Go.Shelf Go.RowKit Go.Lib
def lays105_ren : Go.Shelf.Ren := ⟨fun | 99 => 85 | 105 => 65 | 165 => 86 | 166 => 66 | 169 => 69 | 170 => 87 | 206 => 102 | 212 => 84 | 240 => 88 | 241 => 103 | 263 => 100 | 264 => 101 | 276 => 104 | 277 => 118 | n => n, fun | 0 => 0 | 3 => 3 | 4 => 4 | 5 => 5 | 9 => 9 | 20 => 20 | 37 => 102 | 46 => 162 | 51 => 148 | 53 => 178 | 70 => 139 | 72 => 141 | 75 => 144 | 76 => 145 | 80 => 150 | 109 => 163 | 127 => 169 | 146 => 176 | 148 => 179 | 164 => 181 | n => n, fun | n => n⟩
theorem lays105 : Go.Proofs.Lays.n105 Tryd.prog lays105_ren := {
  mixed := by kernel_rfl
  f99 := Tryd.func85.trans (congrArg some (by kernel_rfl))
  f105 := Tryd.func65.trans (congrArg some (by kernel_rfl))
  f165 := Tryd.func86.trans (congrArg some (by kernel_rfl))
  f166 := Tryd.func66.trans (congrArg some (by kernel_rfl))
  f169 := Tryd.func69.trans (congrArg some (by kernel_rfl))
  f170 := Tryd.func87.trans (congrArg some (by kernel_rfl))
  f206 := Tryd.func102.trans (congrArg some (by kernel_rfl))
  f212 := Tryd.func84.trans (congrArg some (by kernel_rfl))
  f240 := Tryd.func88.trans (congrArg some (by kernel_rfl))
  f241 := Tryd.func103.trans (congrArg some (by kernel_rfl))
  f263 := Tryd.func100.trans (congrArg some (by kernel_rfl))
  f264 := Tryd.func101.trans (congrArg some (by kernel_rfl))
  f276 := Tryd.func104.trans (congrArg some (by kernel_rfl))
  f277 := Tryd.func118.trans (congrArg some (by kernel_rfl))
  t0 := Tryd.underlying0
  a0 := Tryd.isAgg0
  z0 := Tryd.sizeOf0
  v0 := Tryd.zeroValue0
  t3 := Tryd.underlying3
  a3 := Tryd.isAgg3
  z3 := Tryd.sizeOf3
  v3 := Tryd.zeroValue3
  t4 := Tryd.underlying4
  a4 := Tryd.isAgg4
  z4 := Tryd.sizeOf4
  v4 := Tryd.zeroValue4
  t5 := Tryd.underlying5
  a5 := Tryd.isAgg5
  z5 := Tryd.sizeOf5
  v5 := Tryd.zeroValue5
  t9 := Tryd.underlying9
  a9 := Tryd.isAgg9
  z9 := Tryd.sizeOf9
  v9 := Tryd.zeroValue9
  t20 := Tryd.underlying20
  a20 := Tryd.isAgg20
  z20 := Tryd.sizeOf20
  v20 := Tryd.zeroValue20
  t37 := Tryd.underlying102
  a37 := Tryd.isAgg102
  z37 := Tryd.sizeOf102
  v37 := Tryd.zeroValue102
  t46 := Tryd.underlying162
  a46 := Tryd.isAgg162
  z46 := Tryd.sizeOf162
  v46 := Tryd.zeroValue162
  t51 := Tryd.underlying148
  a51 := Tryd.isAgg148
  z51 := Tryd.sizeOf148
  v51 := Tryd.zeroValue148
  t53 := Tryd.underlying178
  a53 := Tryd.isAgg178
  z53 := Tryd.sizeOf178
  v53 := Tryd.zeroValue178
  t70 := Tryd.underlying139
  a70 := Tryd.isAgg139
  z70 := Tryd.sizeOf139
  v70 := Tryd.zeroValue139
  t72 := Tryd.underlying141
  a72 := Tryd.isAgg141
  z72 := Tryd.sizeOf141
  v72 := Tryd.zeroValue141
  t75 := Tryd.underlying144
  a75 := Tryd.isAgg144
  z75 := Tryd.sizeOf144
  v75 := Tryd.zeroValue144
  t76 := Tryd.underlying145
  a76 := Tryd.isAgg145
  z76 := Tryd.sizeOf145
  v76 := Tryd.zeroValue145
  t109 := Tryd.underlying163
  a109 := Tryd.isAgg163
  z109 := Tryd.sizeOf163
  v109 := Tryd.zeroValue163
  t127 := Tryd.underlying169
  a127 := Tryd.isAgg169
  z127 := Tryd.sizeOf169
  v127 := Tryd.zeroValue169
  t146 := Tryd.underlying176
  a146 := Tryd.isAgg176
  z146 := Tryd.sizeOf176
  v146 := Tryd.zeroValue176
  t148 := Tryd.underlying179
  a148 := Tryd.isAgg179
  z148 := Tryd.sizeOf179
  v148 := Tryd.zeroValue179
  t164 := Tryd.underlying181
  a164 := Tryd.isAgg181
  z164 := Tryd.sizeOf181
  v164 := Tryd.zeroValue181 }
theorem bX105 : Builder.Extra Tryd.prog lays105_ren := {
  sizeBuilder := by kernel_rfl
  liesBuilder := by kernel_rfl
  t5 := Tryd.underlying5
  a5 := Tryd.isAgg5
  z5 := Tryd.sizeOf5
  v5 := Tryd.zeroValue5
  infoByte := by kernel_rfl
  cellsByte := by kernel_rfl
  sizeByte := by kernel_rfl
  neB5 := by decide }
theorem strings_Repeat (s : ByteArray) (c : Nat) (w : World) (hc : c ≤ 9223372036854775807) (hlen : s.size * c ≤ 140737488355328) :
    Calls Tryd.prog 65 #[.string s, .int .i64 c] w fun e w' => e = .returned (.string ⟨(Lib.repeatL s.data.toList c).toArray⟩) ∧ Below w.heap.size w w' := Any.strings_Repeat lays105 bX105 s c w hc hlen
#print axioms strings_Repeat
end Go.Proofs.YtdogncjcainhlaaDoor
/- The walk of pages.Write. -/
namespace Go.Proofs.YtdogncjcainhlaaDoor
open Go.RowKit Go.Deep
open Mem

theorem byteCells_bv (l : List UInt8) : Lib.byteCells l = bv l := rfl
theorem builder_turns {B b : Nat} {bs : List Value} {w w' : World} (h : Lib.IsBuilder 141 5 B b bs w) (t : Turns (fun _ => False) w w') : Lib.IsBuilder 141 5 B b bs w' := by
  have one : ∀ p, Lib.BuilderAt 141 5 B b p bs w → Lib.BuilderAt 141 5 B b p bs w' := by
    rintro p ⟨h1, v, h2, h3, h4⟩
    exact ⟨h1, v, (t.block b (lt_of_block h2) (fun x => x)).trans h2, owns_turns h3 t, h4⟩
  rcases h with h | h
  · exact Or.inl (one _ h)
  · exact Or.inr (one _ h)
theorem then_below {w wr w2 : World} (h : Turns (fun _ => False) w wr) (hB : Below w.heap.size wr w2) : Turns (fun _ => False) w w2 :=
  ⟨hB.os.trans h.os, hB.tape.trans h.tape, hB.output.trans h.output, Nat.le_trans h.size hB.size, fun k hk _ => (hB.block k hk).trans (h.block k hk (fun x => x))⟩
namespace Pu
theorem chunk_pad {x : List UInt8} {k : Nat} (h : 28 * k < x.length) : chunk (pad x) k = (x.drop (28 * k)).take 28 ++ List.replicate (28 - ((x.drop (28 * k)).take 28).length) 0 := by
  unfold chunk pad
  rw [List.drop_append_of_le_length (by omega)]
  by_cases e : 28 ≤ x.length - 28 * k
  · rw [List.take_append_of_le_length (by rw [List.length_drop]; exact e), List.length_take, List.length_drop, show 28 - min 28 (x.length - 28 * k) = 0 by omega]
    simp
  · have hl : (x.drop (28 * k)).length = x.length - 28 * k := List.length_drop
    rw [List.take_append, hl, List.take_of_length_le (l := x.drop (28 * k)) (by omega), hl, List.take_replicate]
    congr 2
    omega
theorem repeat_zero (c : Nat) : Lib.repeatL [0] c = List.replicate c (0 : UInt8) := by
  induction c with
  | zero => rfl
  | succ n ih => rw [List.replicate_succ, ← ih]; rfl
end Pu

set_option maxRecDepth 100000 in
set_option maxHeartbeats 2000000 in
/-- pages.Write. -/
theorem pgwrite_any (x : ByteArray) (w : World) (hx : x.size ≤ 20000) :
    Calls Tryd.prog 49 #[.string x] w fun e w' => e = .returned (.string ⟨(Pu.paged x.data.toList).toArray⟩) ∧ Turns (fun _ => False) w w' := by
  have HXL : Hid (x.size = x.data.toList.length) := size_list x
  have H0 : Hid (∃ (R : ByteArray) (k : Nat) (wy : World), Value.string x = .string R ∧ Value.int .i64 0 = .int .i64 (k : Int) ∧ k ≤ 1000 ∧ R.size ≤ 20000 ∧ wy = w.alloc (.cells #[.pointer none, .slice none 0 0] 141) ∧ Hid (R.data.toList = x.data.toList.drop (28 * k) ∧ (k = 0 ∨ 28 * (k - 1) < x.size) ∧ Lib.IsBuilder 141 5 w.heap.size w.heap.size (bv (Pu.pageP (Pu.pad x.data.toList) k)) wy ∧ Turns (fun _ => False) w wy)) := by
    refine ⟨x, 0, _, rfl, rfl, by omega, hx, rfl, rfl, Or.inl rfl, Or.inl ⟨Nat.le_refl _, .slice none 0 0, Array.getElem?_push_size, World.ownsRow_nil _ _ _ _, by intro c; cases c⟩, (Turns.refl _ _).alloc _⟩
  go_enter Tryd.func49, Tryd.ntmps49
  go_wp2
  go_loopw [0, 4] (fun hv pv wr => ∃ (R : ByteArray) (k : Nat) (wy : World), hv = .string R ∧ pv = .int .i64 (k : Int) ∧ k ≤ 1000 ∧ R.size ≤ 20000 ∧ wy = wr ∧ Hid (R.data.toList = x.data.toList.drop (28 * k) ∧ (k = 0 ∨ 28 * (k - 1) < x.size) ∧ Lib.IsBuilder 141 5 w.heap.size w.heap.size (bv (Pu.pageP (Pu.pad x.data.toList) k)) wy ∧ Turns (fun _ => False) w wy)) (fun hv _ _ => strLen hv)
  case atStart => exact H0.out
  case round =>
    clear H0
    obtain ⟨R, k, wr, rfl, rfl, hk, hR, hwy, HR⟩ := hrel
    subst hwy
    by_cases hz : R.size = 0
    · have hzi : ¬ (0 : Int) < (R.size : Int) := by omega
      have hzj : ¬ (R.size : Int) > 0 := by omega
      obtain ⟨r1, r2, r3, r4⟩ := HR.out
      have cs := builder_string w.heap.size w.heap.size (Pu.pageP (Pu.pad x.data.toList) k) wr r3 r4.size
      have HE : Hid (Pu.pageP (Pu.pad x.data.toList) k = Pu.paged x.data.toList) := by
        have e1 := congrArg List.length r1
        have hxl := HXL.out
        rw [← size_list, List.length_drop, hz] at e1
        have e2 := Pu.pad_len x.data.toList
        show _ = _
        rw [Pu.paged, show (Pu.pad x.data.toList).length / 28 = k by omega]
      have HT : Hid (Turns (fun _ => False) w wr) := r4
      rw [HE.out] at cs
      obtain ⟨PG, hPG⟩ : ∃ PG, PG = Pu.paged x.data.toList := ⟨_, rfl⟩
      rw [← hPG] at cs
      have HPG : Hid (PG = Pu.paged x.data.toList) := hPG
      clear hPG
      clear HR r1 r2 r3 r4 HE hz HXL
      go_wp2_with fail
      refine cs.mono ?_
      rintro e w2 ⟨rfl, hB⟩
      have HT2 : Hid (Turns (fun _ => False) w w2) := then_below HT.out hB
      clear cs hB
      go_wp2
      exact bodyPost_ret (v := .string ⟨PG.toArray⟩) (by simp [results, Tryd.results49, go_sem]) rfl ⟨by rw [HPG.out], HT2.out⟩
    · have hzi : (0 : Int) < (R.size : Int) := by omega
      have hzj : (R.size : Int) > 0 := by omega
      obtain ⟨m, hm⟩ : ∃ m, m = min 28 R.size := ⟨_, rfl⟩
      have hm28 : m ≤ 28 := by omega
      have hmR : m ≤ R.size := by omega
      have hm0 : 0 < m := by omega
      have hmin : min (28 : Int) (R.size : Int) = (m : Int) := by omega
      have hmm : min m R.size = m := by omega
      have HM : Hid (m = min 28 R.size) := hm
      clear hm
      have cr := fun w => strings_Repeat ⟨#[0]⟩ (28 - m) w (by omega) (by show 1 * _ ≤ _; omega)
      obtain ⟨Z, hZ⟩ : ∃ Z : ByteArray, Z = ⟨(Lib.repeatL (ByteArray.mk #[0]).data.toList (28 - m)).toArray⟩ := ⟨_, rfl⟩
      rw [← hZ] at cr
      have HZ : Hid (Z.data.toList = List.replicate (28 - m) 0) := by rw [hZ]; exact Pu.repeat_zero _
      have hZs : Z.size ≤ 28 := by rw [size_list, HZ.out, List.length_replicate]; omega
      obtain ⟨C, hC⟩ : ∃ C : ByteArray, C = R.extract 0 m ++ Z := ⟨_, rfl⟩
      have hxl := HXL.out
      obtain ⟨r1, r2, r3, r4⟩ := HR.out
      have hRl : R.size = x.size - 28 * k := by rw [size_list R, r1, List.length_drop, ← hxl]
      have HC : Hid (C.data.toList = Pu.chunk (Pu.pad x.data.toList) k ∧ C.size = 28) := by
        have h1 : C.data.toList = Pu.chunk (Pu.pad x.data.toList) k := by
          rw [hC, cat_list, HZ.out, extract_list, Pu.chunk_pad (by omega), ← r1, List.drop_zero]
          have e1 : R.data.toList.take m = R.data.toList.take 28 := by
            by_cases e : R.size < 28
            · rw [List.take_of_length_le (by rw [← size_list]; omega), List.take_of_length_le (by rw [← size_list]; omega)]
            · rw [show m = 28 by rw [HM.out]; omega]
          rw [← e1, List.length_take, ← size_list, show min m R.size = m by omega]
        exact ⟨h1, by rw [size_list, h1, Pu.chunk_len (by have := Pu.pad_len x.data.toList; omega)]⟩
      have hCs := HC.out.2
      have hex : (R.extract 0 m).size = m := by rw [ByteArray.size_extract]; omega
      have hcat : R.extract 0 m ++ Z = C := hC.symm
      have hbig : (9223372036854775807 < (R.extract 0 m).size + Z.size) = False := by simp; omega
      have hrc : (28 : Int) - (m : Int) = ((28 - m : Nat) : Int) := by omega
      have cq := fun w => sumOf_any k C w (by omega) (by omega)
      obtain ⟨N, hN⟩ : ∃ N, N = Pu.sumN (UInt8.ofNat (k / 256) :: UInt8.ofNat (k % 256) :: C.data.toList) := ⟨_, rfl⟩
      have hNl : N < 4294967296 := by rw [hN]; exact Pu.sumN_lt _
      rw [← hN] at cq
      have ct := fun w => sumText_any N w hNl
      obtain ⟨S4, hS4⟩ : ∃ S4 : ByteArray, S4 = ⟨(Pu.sumB N).toArray⟩ := ⟨_, rfl⟩
      have hS4s : S4.size = 4 := by rw [hS4]; rfl
      rw [← hS4] at ct
      have HP : Hid (bv (Pu.pageP (Pu.pad x.data.toList) k) ++ Lib.strCells C ++ Lib.strCells S4 = bv (Pu.pageP (Pu.pad x.data.toList) (k + 1))) := by
        show _ = _
        rw [Pu.pageP, bv_append, Pu.sealB, ← HC.out.1, ← hN, bv_append, List.append_assoc]
        congr 1
        rw [hS4]; rfl
      have hpl : Hid ((bv (Pu.pageP (Pu.pad x.data.toList) k)).length ≤ 100000) := by
        show _ ≤ _
        have := Pu.pad_len x.data.toList
        rw [bv_len, Pu.pageP_len _ _ (by omega)]
        omega
      have HB0 : Hid (Lib.IsBuilder 141 5 w.heap.size w.heap.size (bv (Pu.pageP (Pu.pad x.data.toList) k)) wr ∧ Turns (fun _ => False) w wr) := ⟨r3, r4⟩
      have HNX : Hid ((R.extract m R.size).data.toList = x.data.toList.drop (28 * (k + 1)) ∧ (R.extract m R.size).size < R.size ∧ (k + 1 = 0 ∨ 28 * (k + 1 - 1) < x.size)) := by
        refine ⟨?_, ?_, Or.inr (by omega)⟩
        · rw [extract_list, List.take_of_length_le (by rw [← size_list]; omega), r1, List.drop_drop]
          by_cases e : R.size < 28
          · rw [List.drop_of_length_le (by omega), List.drop_of_length_le (by omega)]
          · rw [show m = 28 by rw [HM.out]; omega]; congr 1
        · rw [ByteArray.size_extract]; omega
      have hkx : k + 1 ≤ 1000 := by omega
      generalize bv (Pu.pageP (Pu.pad x.data.toList) k) = BS at *
      clear hZ hC r1 r2 r3 r4 HR HZ HM HC hN hS4 hxl hRl
      go_wp2_with fail
      refine (cr _).mono ?_
      rintro e w2 ⟨rfl, hB2⟩
      have hT2 : Turns (fun _ => False) wr w2 := Turns.of_below hB2 _ (fun q h1 h2 => by omega)
      have HB2 : Hid (Lib.IsBuilder 141 5 w.heap.size w.heap.size BS w2 ∧ Turns (fun _ => False) w w2) := ⟨builder_turns HB0.out.1 hT2, HB0.out.2.trans hT2⟩
      clear hB2 hT2 HB0 cr
      go_wp2_with fail
      refine (builder_write w.heap.size w.heap.size BS C _ HB2.out.1 (by have := hpl.out; omega) HB2.out.2.size).mono ?_
      rintro e w3 ⟨rfl, hb3, hB3⟩
      have HB3 : Hid (Lib.IsBuilder 141 5 w.heap.size w.heap.size (BS ++ Lib.strCells C) w3 ∧ Turns (fun _ => False) w w3) := ⟨Or.inr hb3, then_below HB2.out.2 hB3⟩
      clear hb3 hB3 HB2
      go_wp2_with fail
      refine (cq _).mono ?_
      rintro e w4 ⟨rfl, hT4⟩
      have HB4 : Hid (Lib.IsBuilder 141 5 w.heap.size w.heap.size (BS ++ Lib.strCells C) w4 ∧ Turns (fun _ => False) w w4) := ⟨builder_turns HB3.out.1 hT4, HB3.out.2.trans hT4⟩
      clear hT4 HB3 cq
      go_wp2_with fail
      refine (ct _).mono ?_
      rintro e w5 ⟨rfl, hT5⟩
      have HB5 : Hid (Lib.IsBuilder 141 5 w.heap.size w.heap.size (BS ++ Lib.strCells C) w5 ∧ Turns (fun _ => False) w w5) := ⟨builder_turns HB4.out.1 hT5, HB4.out.2.trans hT5⟩
      clear hT5 HB4 ct
      go_wp2_with fail
      refine (builder_write w.heap.size w.heap.size (BS ++ Lib.strCells C) S4 _ HB5.out.1 (by have := hpl.out; rw [List.length_append, Lib.strCells_length]; omega) HB5.out.2.size).mono ?_
      rintro e w6 ⟨rfl, hb6, hB6⟩
      have HB6 : Hid (Lib.IsBuilder 141 5 w.heap.size w.heap.size (bv (Pu.pageP (Pu.pad x.data.toList) (k + 1))) w6 ∧ Turns (fun _ => False) w w6) := by
        refine ⟨?_, then_below HB5.out.2 hB6⟩
        rw [← HP.out]; exact Or.inr hb6
      clear hb6 hB6 HB5
      go_wp2
      go_roundw
      case rel => exact ⟨R.extract m R.size, k + 1, w6, rfl, by go_num, hkx, by have := HNX.out.2.1; omega, rfl, HNX.out.1, HNX.out.2.2, HB6.out.1, HB6.out.2⟩
      case measure => exact HNX.out.2.1
#print axioms pgwrite_any
end Go.Proofs.YtdogncjcainhlaaDoor
