/- Pack9: texts of one proof, one behind the other. -/
import Derived.Test.YtdogncjcainhlaaGreatDoorPack8
import Derived.Test.YtdogncjcainhlaaGreatDoorPack2
import Derived.Test.YtdogncjcainhlaaGreatDoorPack7
import Derived.Test.YtdogncjcainhlaaGreatDoorPack6
import Derived.Deep.RegionHeld3
import Derived.Test.YtdogncjcainhlaaGreatDoorProg
import Derived.Test.YtdogncjcainhlaaGreatDoorPlain
import Derived.WalkKit
import Derived.WalkSpells
import Derived.WalkLawsBesides
import Derived.Deep.QuietTactic
import Derived.BigQuiet
import Derived.BigRegion
import Derived.Deep.LoopGhost
/- The walk of the reference's Save. -/
namespace Go.Proofs.YtdogncjcainhlaaGreatDoor
open Go.RowKit Go.Deep
open Mem

namespace Pu
theorem hubK_mem2 {D : Nat → Nat → Int} {O : List Nat} {v k : Nat} {f : Int} : ∀ m, (k, f) ∈ hubK D O v m → k < m ∧ ∃ h : Nat, O[k]? = some h ∧ f = D v h ∧ isHub D v h (O.take k) = true
  | 0, h => by simp [hubK] at h
  | m + 1, h => by
    rw [hubK, List.mem_append] at h
    rcases h with h | h
    · obtain ⟨h1, h2⟩ := hubK_mem2 m h; exact ⟨by omega, h2⟩
    · cases e : O[m]? with
      | none => rw [e] at h; simp at h
      | some y =>
        rw [e] at h
        simp only at h
        split at h
        · rename_i hb
          rw [List.mem_singleton] at h
          injection h with h1 h2
          subst h1
          exact ⟨by omega, y, e, h2, hb⟩
        · simp at h
theorem hubK_step (D : Nat → Nat → Int) (O : List Nat) (v m : Nat) : hubK D O v (m + 1) = hubK D O v m ∨ ∃ f, hubK D O v (m + 1) = hubK D O v m ++ [(m, f)] := by
  rw [hubK]
  cases e : O[m]? with
  | none => left; simp
  | some y =>
    simp only
    split
    · right; exact ⟨_, rfl⟩
    · left; simp
theorem hubK_rise (D : Nat → Nat → Int) (O : List Nat) (v : Nat) : ∀ m, nxt 0 (hubK D O v m) ≤ m ∧ ∀ (i k : Nat) (f : Int), (hubK D O v m)[i]? = some (k, f) → nxt 0 ((hubK D O v m).take i) ≤ k
  | 0 => ⟨Nat.le_refl _, fun i k f h => by simp [hubK] at h⟩
  | m + 1 => by
    obtain ⟨h1, h2⟩ := hubK_rise D O v m
    rcases hubK_step D O v m with e | ⟨f0, e⟩
    · rw [e]; exact ⟨by omega, h2⟩
    · rw [e]
      refine ⟨by rw [nxt_snoc]; exact Nat.le_refl _, fun i k f h => ?_⟩
      by_cases hi : i < (hubK D O v m).length
      · rw [List.getElem?_append_left hi] at h
        rw [List.take_append_of_le_length (by omega)]
        exact h2 i k f h
      · rw [List.getElem?_append_right (by omega)] at h
        have h0 := (List.getElem?_eq_some_iff.1 h).1
        simp at h0
        have : i = (hubK D O v m).length := by omega
        subst this
        simp at h
        rw [List.take_left, ← h.1]
        exact h1
/-- The bytes of the first i hubs of a label, with their count ahead. -/
def labT2 (l : List (Nat × Int)) (i : Nat) : List UInt8 := countB l.length ++ hubsB 0 (l.take i)
theorem labT2_zero (l : List (Nat × Int)) : labT2 l 0 = countB l.length := by simp [labT2, hubsB]
theorem labT2_all (l : List (Nat × Int)) : labT2 l l.length = labB l := by rw [labT2, List.take_length]; rfl
theorem labT2_next {l : List (Nat × Int)} {i k : Nat} {f : Int} (h : l[i]? = some (k, f)) : labT2 l (i + 1) = labT2 l i ++ countB (k - nxt 0 (l.take i)) ++ countB f.toNat ∧ nxt 0 (l.take (i + 1)) = k + 1 := by
  rw [labT2, labT2, List.take_add_one, h, Option.toList_some, hubsB_snoc, nxt_snoc]
  exact ⟨by simp [List.append_assoc], rfl⟩
theorem labT2_len (l : List (Nat × Int)) (i : Nat) : (labT2 l i).length ≤ 3 + 6 * l.length := by
  have h1 := countB_len l.length
  have h2 := hubsB_len (l.take i) 0
  rw [List.length_take] at h2
  rw [labT2, List.length_append]; omega
end Pu

/-- What the reference's Save hands back. -/
def RSavePost (w : World) (r : Pu.Res) (o : Nat → (Nat → Nat → Int) → Option (List Nat)) (e : Ending) (w' : World) : Prop := Turns (fun _ => False) w w' ∧ match r with
  | .err c p => e = .returned (.tuple #[.string ⟨#[]⟩, .int .i64 c, .int .i64 p])
  | .ok n _ len => match o n len with
    | none => e = .returned (.tuple #[.string ⟨#[]⟩, .int .i64 4, .int .i64 0])
    | some O => ∃ D : Nat → Nat → Int, Pu.Cov n len D O ∧ e = .returned (.tuple #[.string ⟨(Pu.paged (Pu.heldB O (fun v => Pu.hubK D O v n) n)).toArray⟩, .int .i64 0, .int .i64 0])

set_option maxHeartbeats 400000 in
theorem rsave_err (x s : ByteArray) (w : World) (c p : Int) (hne : (c != 0) = true)
    (k : Calls Tryz.prog 30 #[.string x, .string s] w fun e w' => Turns (fun _ => False) w w' ∧ e = .returned (.tuple #[.slice none 0 0, .slice none 0 0, .int .i64 c, .int .i64 p])) :
    Calls Tryz.prog 12 #[.string x, .string s] w fun e w' => Turns (fun _ => False) w w' ∧ e = .returned (.tuple #[.string ⟨#[]⟩, .int .i64 c, .int .i64 p]) := by
  go_enter Tryz.func12, Tryz.ntmps12
  go_wp2_with (go_at_call 30; refine k.mono ?_; rintro e w1 ⟨hT, rfl⟩)
  exact bodyPost_ret (v := .tuple #[.string ⟨#[]⟩, .int .i64 c, .int .i64 p]) (by simp [results, Tryz.results12, go_sem]) rfl ⟨‹_›, rfl⟩

theorem rcount_open (x : Int) (w : World) (h0 : 0 ≤ x) (h : x < 2097152) :
    Calls Tryz.prog 31 #[.int .i64 x] w fun e w' => e = .returned (.string ⟨(Pu.countB x.toNat).toArray⟩) ∧ Turns (fun _ => False) w w' := by
  have := rcount_any x.toNat w (by omega)
  rwa [Int.toNat_of_nonneg h0] at this
theorem count_size (n : Nat) : (⟨(Pu.countB n).toArray⟩ : ByteArray).size ≤ 3 := by rw [size_list]; exact (Pu.countB_len n).2

/-- What holds of the hubs' rows in memory. -/
def HubsIn (w1 : World) (og n : Nat) (L : Nat → List (Nat × Int)) : Prop := ∀ v, v < n → ∃ (a : Option Addr) (c : Nat), w1.cell? ⟨og, v, none⟩ = some (.slice a (L v).length c) ∧ ∀ (i k : Nat) (f : Int), (L v)[i]? = some (k, f) → ∃ g, a = some ⟨g, 0, none⟩ ∧ w1.cell? ⟨g, i * 2, none⟩ = some (.int .i64 (k : Int)) ∧ w1.cell? ⟨g, i * 2 + 1, none⟩ = some (.int .i64 f)

set_option maxRecDepth 100000 in
set_option maxHeartbeats 4000000 in
theorem rsave_ok (x s : ByteArray) (w : World) (n : Nat) (len : Nat → Nat → Int) (O : List Nat) (hn1 : 1 ≤ n) (hn : n ≤ 40)
    (k : Calls Tryz.prog 30 #[.string x, .string s] w fun e w' => Turns (fun _ => False) w w' ∧ ∃ (D : Nat → Nat → Int) (B ob ocap og oc : Nat) (hs : List Value), Pu.Cov n len D O ∧ e = .returned (.tuple #[.slice (some ⟨ob, 0, none⟩) n ocap, .slice (some ⟨og, 0, none⟩) n oc, .int .i64 0, .int .i64 0]) ∧
        Ord w' ob n O ∧ hs.length = n ∧ HubRows w' B (.slice (some ⟨og, 0, none⟩) n oc) hs (fun v => Pu.hubK D O v n)) :
    Calls Tryz.prog 12 #[.string x, .string s] w fun e w' => Turns (fun _ => False) w w' ∧ ∃ D : Nat → Nat → Int, Pu.Cov n len D O ∧ e = .returned (.tuple #[.string ⟨(Pu.paged (Pu.heldB O (fun v => Pu.hubK D O v n) n)).toArray⟩, .int .i64 0, .int .i64 0]) := by
  go_enter Tryz.func12, Tryz.ntmps12
  go_wp2_with fail
  refine k.mono ?_
  rintro e w1 ⟨hT1, D, B, ob, ocap, og, oc, hs, hC, rfl, hO, hl, hH⟩
  have HO : Hid (Ord w1 ob n O) := hO
  have HC : Hid (Pu.Cov n len D O) := hC
  have HT1 : Hid (Turns (fun _ => False) w w1) := hT1
  have HH : Hid (HubsIn w1 og n (fun v => Pu.hubK D O v n)) := by
    intro v hv
    obtain ⟨y, hy⟩ : ∃ y, hs[v]? = some y := ⟨_, List.getElem?_eq_getElem (by omega)⟩
    obtain ⟨⟨a, c, h1, h2⟩, _⟩ := hH.row v y hy
    refine ⟨a, c, ?_, h2⟩
    have hown := hH.own
    rw [hl] at hown
    rw [World.ownsRow.cellAt hown v (by omega), hy, h1]
  have HF : Hid (∀ v i k f, v < n → (Pu.hubK D O v n)[i]? = some (k, f) → k < n ∧ Pu.nxt 0 ((Pu.hubK D O v n).take i) ≤ k ∧ 0 ≤ f ∧ f ≤ 40000) := by
    intro v i k f hv hi
    obtain ⟨hk, h, h1, h2, h3⟩ := Pu.hubK_mem2 n (List.mem_of_getElem? hi)
    have hr := (Pu.hubK_rise D O v n).2 i k f hi
    have hd := hC.rng hv (hO.2 k h h1).1
    have hne := (Pu.isHub_iff.1 h3).1
    exact ⟨hk, hr, by omega, by omega⟩
  have hOn : O.length = n := hO.1
  have HLn : Hid (∀ v, (Pu.hubK D O v n).length ≤ n) := fun v => Pu.hubK_len D O v n
  have HON : Hid (O.length = n) := hOn
  obtain ⟨L, hL⟩ : ∃ L : Nat → List (Nat × Int), L = fun v => Pu.hubK D O v n := ⟨_, rfl⟩
  have HE : Hid (∀ w' S, Turns (fun _ => False) w w' → S = Pu.paged (Pu.heldB O L n) → Turns (fun _ => False) w w' ∧ ∃ D : Nat → Nat → Int, Pu.Cov n len D O ∧ Ending.returned (.tuple #[.string ⟨S.toArray⟩, .int .i64 0, .int .i64 0]) = .returned (.tuple #[.string ⟨(Pu.paged (Pu.heldB O (fun v => Pu.hubK D O v n) n)).toArray⟩, .int .i64 0, .int .i64 0])) := by
    intro w' S h1 h2
    refine ⟨h1, D, hC, ?_⟩
    rw [h2, hL]
  have HH' : Hid (HubsIn w1 og n L) := by rw [hL]; exact HH.out
  have HF' : Hid (∀ v i k f, v < n → (L v)[i]? = some (k, f) → k < n ∧ Pu.nxt 0 ((L v).take i) ≤ k ∧ 0 ≤ f ∧ f ≤ 40000) := by rw [hL]; exact HF.out
  have HLn' : Hid (∀ v, (L v).length ≤ n) := by rw [hL]; exact HLn.out
  have hcv := conv1 (n : Int) (UInt8.ofNat n) (ofNat_int (by omega))
  obtain ⟨A0, hA0⟩ : ∃ A0 : ByteArray, A0 = ⟨[UInt8.ofNat n].toArray⟩ := ⟨_, rfl⟩
  rw [← hA0] at hcv
  have HA0 : Hid (A0.data.toList = [UInt8.ofNat n]) := by rw [hA0]; rfl
  have hA0s : A0.size ≤ 1 := by rw [hA0]; exact Nat.le_refl 1
  clear k hT1 hC hO hH hl HH HF HLn hL hA0 hOn HC
  go_wp2
  go_loopw [11, 12] (fun sv iv wr => ∃ (S : ByteArray) (i : Nat), sv = .string S ∧ iv = .int .i64 i ∧ i ≤ n ∧ S.size ≤ 100 ∧ Hid (S.data.toList = 98 :: 119 :: UInt8.ofNat n :: (O.take i).map UInt8.ofNat) ∧ Turns (fun _ => False) w1 wr) (fun _ iv _ => n - (intOf iv).toNat)
  case atStart =>
    refine ⟨_, 0, rfl, rfl, Nat.zero_le _, ?_, ?_, (Turns.refl _ _).alloc _⟩
    · rw [ByteArray.size_append]
      show 2 + A0.size ≤ 100
      omega
    · show _ = _
      rw [cat_list, HA0.out]; rfl
  case round =>
    obtain ⟨S, i, rfl, rfl, hin, hSb, HS, hTr⟩ := hrel
    by_cases hii : i < n
    · have hiii : (i : Int) < (n : Int) := by omega
      obtain ⟨m, hm⟩ : ∃ m, O[i]? = some m := ⟨_, List.getElem?_eq_getElem (by have := HON.out; omega)⟩
      obtain ⟨hmn, hcm⟩ := HO.out.2 i m hm
      have hcell : wr.cell? ⟨ob, i, none⟩ = some (.int .i64 (m : Int)) := (hTr.cell (a := ⟨ob, i, none⟩) (World.block_lt_of_cell? _ _ hcm) (fun x => x)).trans hcm
      have hcvm := conv1 (m : Int) (UInt8.ofNat m) (ofNat_int (by omega))
      obtain ⟨A, hA⟩ : ∃ A : ByteArray, A = ⟨[UInt8.ofNat m].toArray⟩ := ⟨_, rfl⟩
      rw [← hA] at hcvm
      have hAs : A.size ≤ 1 := by rw [hA]; exact Nat.le_refl 1
      have hbig : (9223372036854775807 < S.size + A.size) = False := by simp; omega
      have HX : Hid (∀ w2, Turns (fun _ => False) wr w2 → ∃ (S' : ByteArray) (i' : Nat), Value.string (S ++ A) = .string S' ∧ Value.int .i64 ((i : Int) + 1) = .int .i64 i' ∧ i' ≤ n ∧ S'.size ≤ 100 ∧ Hid (S'.data.toList = 98 :: 119 :: UInt8.ofNat n :: (O.take i').map UInt8.ofNat) ∧ Turns (fun _ => False) w1 w2) := by
        intro w2 h2
        have hlist : (S ++ A).data.toList = 98 :: 119 :: UInt8.ofNat n :: (O.take (i + 1)).map UInt8.ofNat := by
          rw [cat_list, HS.out, hA, List.take_add_one, hm, Option.toList_some, List.map_append]; rfl
        refine ⟨S ++ A, i + 1, rfl, by go_num, by omega, ?_, hlist, hTr.trans h2⟩
        rw [size_list, hlist]
        simp; omega
      clear HS hTr hA hm hcm
      go_wp2
      go_roundw
      case rel => exact HX.out _ ((Turns.refl _ _).alloc _)
      case measure => simp [intOf]; omega
    · have hiii : ¬ (i : Int) < (n : Int) := by omega
      have HS0 : Hid (S.data.toList = Pu.headB O ++ Pu.sizesB L 0 ∧ S.size ≤ 43) := by
        have hON := HON.out
        have h1 : S.data.toList = Pu.headB O ++ Pu.sizesB L 0 := by
          rw [HS.out, List.take_of_length_le (by omega), Pu.headB, hON]; simp [Pu.sizesB]
        refine ⟨h1, ?_⟩
        rw [size_list, h1, List.length_append, Pu.headB_len]
        simp [Pu.sizesB]; omega
      clear HS
      go_wp2
      go_loopw [11, 13, 14] (fun sv av vv wz => ∃ (S A : ByteArray) (v : Nat) (wy : World), sv = .string S ∧ av = .string A ∧ vv = .int .i64 v ∧ v ≤ n ∧ S.size ≤ 43 + 3 * v ∧ A.size ≤ 243 * v ∧ Hid (S.data.toList = Pu.headB O ++ Pu.sizesB L v ∧ A.data.toList = Pu.labsB L v) ∧ Turns (fun _ => False) w1 wz ∧ wy = wz) (fun _ _ vv _ => n - (intOf vv).toNat)
      case atStart => exact ⟨S, ⟨#[]⟩, 0, _, rfl, rfl, rfl, Nat.zero_le _, HS0.out.2, Nat.le_refl _, ⟨HS0.out.1, rfl⟩, hTr, rfl⟩
      case round =>
        clear HS0 hTr hSb
        obtain ⟨S, A, v, wz, rfl, rfl, rfl, hvn, hSb, hAb, HSA, hTz, hwy⟩ := hrel
        subst hwy
        by_cases hvl : v < n
        · have hvi : (v : Int) < (n : Int) := by omega
          obtain ⟨a, c, hca, hrow⟩ := HH'.out v hvl
          have HR : Hid (∀ (i k : Nat) (f : Int), (L v)[i]? = some (k, f) → ∃ g, a = some ⟨g, 0, none⟩ ∧ w1.cell? ⟨g, i * 2, none⟩ = some (.int .i64 (k : Int)) ∧ w1.cell? ⟨g, i * 2 + 1, none⟩ = some (.int .i64 f)) := hrow
          have hLn := HLn'.out v
          obtain ⟨ll, hll⟩ : ∃ ll, (L v).length = ll := ⟨_, rfl⟩
          have HLL : Hid ((L v).length = ll) := hll
          rw [hll] at hca hLn
          have HCA : Hid (w1.cell? ⟨og, v, none⟩ = some (.slice a ll c)) := hca
          have hcz : wz.cell? ⟨og, v, none⟩ = some (.slice a ll c) := (hTz.cell (a := ⟨og, v, none⟩) (World.block_lt_of_cell? _ _ hca) (fun x => x)).trans hca
          have cc := rcount_any ll wz (by omega)
          obtain ⟨C0, hC0⟩ : ∃ C0 : ByteArray, C0 = ⟨(Pu.countB ll).toArray⟩ := ⟨_, rfl⟩
          rw [← hC0] at cc
          have HC0 : Hid (C0.data.toList = Pu.labT2 (L v) 0 ∧ C0.size ≤ 3) := ⟨by rw [hC0, Pu.labT2_zero, HLL.out], by rw [hC0]; exact count_size ll⟩
          have HTZ : Hid (Turns (fun _ => False) w1 wz) := hTz
          clear hrow hll hca hC0 hTz
          go_wp2_with (go_at_call 31; refine cc.mono ?_; rintro e w2 ⟨rfl, hT2⟩; have HT2 : Hid (Turns (fun _ => False) w1 w2) := HTZ.out.trans hT2; clear hT2 cc hcz)
          go_loopw [15, 16, 17] (fun lv nv iv wx => ∃ (l : ByteArray) (nx i : Nat) (wy : World), lv = .string l ∧ nv = .int .i64 nx ∧ iv = .int .i64 i ∧ i ≤ ll ∧ l.size ≤ 3 + 6 * i ∧ nx ≤ 40 ∧ Hid (l.data.toList = Pu.labT2 (L v) i ∧ nx = Pu.nxt 0 ((L v).take i)) ∧ Turns (fun _ => False) w1 wx ∧ wy = wx) (fun _ _ iv _ => ll - (intOf iv).toNat)
          case atStart => exact ⟨C0, 0, 0, _, rfl, rfl, rfl, Nat.zero_le _, HC0.out.2, by omega, ⟨HC0.out.1, rfl⟩, HT2.out, rfl⟩
          case round =>
            clear HC0 HT2
            obtain ⟨l, nx, i, w3, rfl, rfl, rfl, hil, hlb, hnx, HL, hT3, hwz⟩ := hrel
            subst hwz
            have e1 : w3.cell? ⟨og, v, none⟩ = some (.slice a ll c) := (hT3.cell (a := ⟨og, v, none⟩) (World.block_lt_of_cell? _ _ HCA.out) (fun x => x)).trans HCA.out
            by_cases hii : i < ll
            · have hiii : (i : Int) < (ll : Int) := by omega
              obtain ⟨⟨r, f⟩, hkf⟩ : ∃ y, (L v)[i]? = some y := ⟨_, List.getElem?_eq_getElem (by rw [HLL.out]; exact hii)⟩
              obtain ⟨g, hag, g1, g2⟩ := HR.out i r f hkf
              obtain ⟨hrn, hnr, hf0, hf1⟩ := HF'.out v i r f hvl hkf
              obtain ⟨hll1, hll2⟩ := Pu.labT2_next hkf
              have hnr2 : nx ≤ r := by rw [HL.out.2]; exact hnr
              have e2 := (hT3.cell (a := ⟨g, i * 2, none⟩) (World.block_lt_of_cell? _ _ g1) (fun x => x)).trans g1
              have e3 := (hT3.cell (a := ⟨g, i * 2 + 1, none⟩) (World.block_lt_of_cell? _ _ g2) (fun x => x)).trans g2
              have l1 : og < w3.heap.size := World.block_lt_of_cell? _ _ e1
              have l2 : g < w3.heap.size := World.block_lt_of_cell? _ _ e2
              obtain ⟨C1, hC1⟩ : ∃ C1 : ByteArray, C1 = ⟨(Pu.countB (r - nx)).toArray⟩ := ⟨_, rfl⟩
              obtain ⟨C2, hC2⟩ : ∃ C2 : ByteArray, C2 = ⟨(Pu.countB f.toNat).toArray⟩ := ⟨_, rfl⟩
              have hC1b : C1.size ≤ 3 := by rw [hC1]; exact count_size _
              have hC2b : C2.size ≤ 3 := by rw [hC2]; exact count_size _
              have c1 : ∀ w, Calls Tryz.prog 31 #[.int .i64 (IntKind.i64.wrap ((r : Int) - (nx : Int)))] w fun e w' => e = .returned (.string C1) ∧ Turns (fun _ => False) w w' := by
                intro w
                have := rcount_any (r - nx) w (by omega)
                rw [hC1, show IntKind.i64.wrap ((r : Int) - (nx : Int)) = ((r - nx : Nat) : Int) by rw [IntKind.wrap_i64]; omega]
                exact this
              have c2 : ∀ w, Calls Tryz.prog 31 #[.int .i64 f] w fun e w' => e = .returned (.string C2) ∧ Turns (fun _ => False) w w' := by
                intro w
                rw [hC2]
                exact rcount_open f w hf0 (by omega)
              have hb1 : (9223372036854775807 < l.size + C1.size) = False := by simp; omega
              have hb2 : (9223372036854775807 < l.size + C1.size + C2.size) = False := by simp; omega
              have HX : Hid (∀ w4, Turns (fun _ => False) w3 w4 → ∃ (l' : ByteArray) (nx' i' : Nat) (wy : World), Value.string (l ++ C1 ++ C2) = .string l' ∧ Value.int .i64 ((r : Int) + 1) = .int .i64 nx' ∧ Value.int .i64 ((i : Int) + 1) = .int .i64 i' ∧ i' ≤ ll ∧ l'.size ≤ 3 + 6 * i' ∧ nx' ≤ 40 ∧ Hid (l'.data.toList = Pu.labT2 (L v) i' ∧ nx' = Pu.nxt 0 ((L v).take i')) ∧ Turns (fun _ => False) w1 w4 ∧ wy = w4) := by
                intro w4 h4
                refine ⟨l ++ C1 ++ C2, r + 1, i + 1, w4, rfl, by go_num, by go_num, by omega, ?_, by omega, ⟨?_, hll2.symm⟩, hT3.trans h4, rfl⟩
                · rw [ByteArray.size_append, ByteArray.size_append]; omega
                · rw [cat_list, cat_list, HL.out.1, hll1, hC1, hC2, HL.out.2]
              subst hag
              clear HL hkf g1 g2 hll1 hll2 hC1 hC2 hnr hT3
              go_wp2_with fail
              go_region_held3 (fun w' => w'.cell? ⟨og, v, none⟩ = some (.slice (some ⟨g, 0, none⟩) ll c) ∧ w'.cell? ⟨g, i * 2, none⟩ = some (.int .i64 (r : Int)) ∧ w'.cell? ⟨g, i * 2 + 1, none⟩ = some (.int .i64 f)) (go_keep)
                (first
                | (go_at_call_of 31 (Value.int IntKind.i64 f); refine (c2 _).mono ?_; rintro e wa ⟨rfl, hTa⟩; have a1 : wa.cell? ⟨og, v, none⟩ = some (.slice (some ⟨g, 0, none⟩) ll c) := (hTa.cell (a := ⟨og, v, none⟩) m1 (fun x => x)).trans b1; have a2 : wa.cell? ⟨g, i * 2, none⟩ = some (.int .i64 (r : Int)) := (hTa.cell (a := ⟨g, i * 2, none⟩) m2 (fun x => x)).trans b2; have a3 : wa.cell? ⟨g, i * 2 + 1, none⟩ = some (.int .i64 f) := (hTa.cell (a := ⟨g, i * 2 + 1, none⟩) m2 (fun x => x)).trans b3)
                | (go_at_call 31; refine (c1 _).mono ?_; rintro e wb ⟨rfl, hTb⟩; have b1 : wb.cell? ⟨og, v, none⟩ = some (.slice (some ⟨g, 0, none⟩) ll c) := (hTb.cell (a := ⟨og, v, none⟩) l1 (fun x => x)).trans e1; have b2 : wb.cell? ⟨g, i * 2, none⟩ = some (.int .i64 (r : Int)) := (hTb.cell (a := ⟨g, i * 2, none⟩) l2 (fun x => x)).trans e2; have b3 : wb.cell? ⟨g, i * 2 + 1, none⟩ = some (.int .i64 f) := (hTb.cell (a := ⟨g, i * 2 + 1, none⟩) l2 (fun x => x)).trans e3; have m1 : og < wb.heap.size := Nat.lt_of_lt_of_le l1 hTb.size; have m2 : g < wb.heap.size := Nat.lt_of_lt_of_le l2 hTb.size))
              all_goals
                have HY := HX.out wa ((((Turns.refl _ w3).drew).trans hTb).trans hTa)
                have HZ : Hid (∃ (l' : ByteArray) (nx' i' : Nat) (wy : World), Value.string (l ++ C1 ++ C2) = .string l' ∧ Value.int .i64 ((r : Int) + 1) = .int .i64 nx' ∧ Value.int .i64 ((i : Int) + 1) = .int .i64 i' ∧ i' ≤ ll ∧ l'.size ≤ 3 + 6 * i' ∧ nx' ≤ 40 ∧ Hid (l'.data.toList = Pu.labT2 (L v) i' ∧ nx' = Pu.nxt 0 ((L v).take i')) ∧ Turns (fun _ => False) w1 wa ∧ wy = wa) := HY
                clear hTa hTb b1 b2 b3 m1 m2 HX HY e1 e2 e3 l1 l2 c1 c2 hb1 hb2
                go_wp2
                go_roundw
                case rel => exact HZ.out
                case measure => simp [intOf]; omega
            · have hiii : ¬ (i : Int) < (ll : Int) := by omega
              have hlB : l.data.toList = Pu.labB (L v) := by rw [HL.out.1, show i = (L v).length by rw [HLL.out]; omega, Pu.labT2_all]
              have cc := rcount_any l.size w3 (by omega)
              obtain ⟨C, hC⟩ : ∃ C : ByteArray, C = ⟨(Pu.countB l.size).toArray⟩ := ⟨_, rfl⟩
              rw [← hC] at cc
              have hCb : C.size ≤ 3 := by rw [hC]; exact count_size _
              have hb1 : (9223372036854775807 < S.size + C.size) = False := by simp; omega
              have hb2 : (9223372036854775807 < A.size + l.size) = False := by simp; omega
              have HX : Hid (∀ w4, Turns (fun _ => False) w3 w4 → ∃ (S' A' : ByteArray) (v' : Nat) (wy : World), Value.string (S ++ C) = .string S' ∧ Value.string (A ++ l) = .string A' ∧ Value.int .i64 ((v : Int) + 1) = .int .i64 v' ∧ v' ≤ n ∧ S'.size ≤ 43 + 3 * v' ∧ A'.size ≤ 243 * v' ∧ Hid (S'.data.toList = Pu.headB O ++ Pu.sizesB L v' ∧ A'.data.toList = Pu.labsB L v') ∧ Turns (fun _ => False) w1 w4 ∧ wy = w4) := by
                intro w4 h4
                refine ⟨S ++ C, A ++ l, v + 1, w4, rfl, rfl, by go_num, by omega, by rw [ByteArray.size_append]; omega, by rw [ByteArray.size_append]; omega, ⟨?_, ?_⟩, hT3.trans h4, rfl⟩
                · rw [cat_list, HSA.out.1, hC, Pu.sizesB, ← hlB, ← size_list, List.append_assoc]
                · rw [cat_list, HSA.out.2, hlB, Pu.labsB]
              clear HL hT3 hlB hC HSA
              go_wp2_with (go_at_call 31; refine cc.mono ?_; rintro e w4 ⟨rfl, hT4⟩)
              have HY := HX.out w4 hT4
              have HZ : Hid (∃ (S' A' : ByteArray) (v' : Nat) (wy : World), Value.string (S ++ C) = .string S' ∧ Value.string (A ++ l) = .string A' ∧ Value.int .i64 ((v : Int) + 1) = .int .i64 v' ∧ v' ≤ n ∧ S'.size ≤ 43 + 3 * v' ∧ A'.size ≤ 243 * v' ∧ Hid (S'.data.toList = Pu.headB O ++ Pu.sizesB L v' ∧ A'.data.toList = Pu.labsB L v') ∧ Turns (fun _ => False) w1 w4 ∧ wy = w4) := HY
              clear HX HY hT4
              go_roundw
              case rel => exact HZ.out
              case measure => simp [intOf]; omega
        · have hvi : ¬ (v : Int) < (n : Int) := by omega
          have cp := rpaged_any (S ++ A) wz (by rw [ByteArray.size_append]; omega)
          have hb1 : (9223372036854775807 < S.size + A.size) = False := by simp; omega
          have hpl : Pu.paged (S ++ A).data.toList = Pu.paged (Pu.heldB O L n) := by
            rw [cat_list, HSA.out.1, HSA.out.2, Pu.heldB, show v = n by omega]
          have HX : Hid (∀ w4, Turns (fun _ => False) wz w4 → Turns (fun _ => False) w w4 ∧ ∃ D : Nat → Nat → Int, Pu.Cov n len D O ∧ Ending.returned (.tuple #[.string ⟨(Pu.paged (S ++ A).data.toList).toArray⟩, .int .i64 0, .int .i64 0]) = .returned (.tuple #[.string ⟨(Pu.paged (Pu.heldB O (fun v => Pu.hubK D O v n) n)).toArray⟩, .int .i64 0, .int .i64 0])) :=
            fun w4 h4 => HE.out w4 _ ((HT1.out.trans hTz).trans h4) hpl
          generalize Pu.paged (S ++ A).data.toList = P at *
          clear HSA hTz hpl
          go_wp2_with (go_at_call 32; refine cp.mono ?_; rintro e w4 ⟨rfl, hT4⟩)
          exact bodyPost_ret (v := .tuple #[.string ⟨P.toArray⟩, .int .i64 0, .int .i64 0]) (by simp [results, Tryz.results12, go_sem]) rfl (HX.out _ hT4)
/-- The reference's Save, of any text by any order. -/
theorem rsave_any (x s : ByteArray) (w : World) (hx : x.size ≤ 2000000) (hs : s.size ≤ 2000000) : Calls Tryz.prog 12 #[.string x, .string s] w (RSavePost w (Pu.parse x.data.toList) (Pu.orderOf s.data.toList)) := by
  have k := rlabd_any x s w hx hs
  cases hp : Pu.parse x.data.toList with
  | err c p =>
    rw [hp] at k
    have he := Pu.parse_err hp
    exact rsave_err x s w c p (by simp; omega) k
  | ok n q len =>
    rw [hp] at k
    obtain ⟨hn1, hn2, _, _⟩ := Pu.parse_ok hp
    unfold RLabdPost at k
    unfold RSavePost
    dsimp only at k ⊢
    cases ho : Pu.orderOf s.data.toList n len with
    | none => rw [ho] at k; exact rsave_err x s w 4 0 (by decide) k
    | some O => rw [ho] at k; exact rsave_ok x s w n len O hn1 hn2 k
#print axioms rsave_any
end Go.Proofs.YtdogncjcainhlaaGreatDoor
/- A store that was saved opens, and what its labels are: no walk in it. -/
namespace Go.Proofs.YtdogncjcainhlaaGreatDoor
open Go.RowKit Go.Deep
open Mem

namespace Pu
/-- How many of the first places are nearer than so far. -/
def cntN (far : Nat → Int) (x : Int) : Nat → Nat
  | 0 => 0
  | k + 1 => cntN far x k + if 0 ≤ far k ∧ far k < x then 1 else 0
theorem cntN_le (far : Nat → Int) (x : Int) : ∀ n, cntN far x n ≤ n
  | 0 => Nat.le_refl _
  | n + 1 => by
    have := cntN_le far x n
    rw [cntN]; split <;> omega
theorem cntN_mono (far : Nat → Int) {x y : Int} (h : x ≤ y) : ∀ n, cntN far x n ≤ cntN far y n
  | 0 => Nat.le_refl _
  | n + 1 => by
    have := cntN_mono far h n
    rw [cntN, cntN]
    split
    · rw [if_pos (by omega)]; omega
    · split <;> omega
theorem cntN_step (far : Nat → Int) {i : Nat} {y : Int} (h0 : 0 ≤ far i) (h : far i < y) : ∀ n, i < n → cntN far (far i) n + 1 ≤ cntN far y n
  | 0, hi => by omega
  | n + 1, hi => by
    rw [cntN, cntN]
    by_cases e : i = n
    · subst e
      have := cntN_mono far (show far i ≤ y by omega) i
      rw [if_neg (by omega), if_pos (by omega)]; omega
    · have := cntN_step far h0 h n (by omega)
      split
      · rw [if_pos (by omega)]; omega
      · split <;> omega
theorem cntN_lt (far : Nat → Int) {i : Nat} : ∀ n, i < n → cntN far (far i) n + 1 ≤ n
  | 0, hi => by omega
  | n + 1, hi => by
    rw [cntN]
    by_cases e : i = n
    · subst e
      have := cntN_le far (far i) i
      rw [if_neg (by omega)]; omega
    · have := cntN_lt far n (show i < n by omega)
      split <;> omega
theorem Dist.few {n : Nat} {len : Nat → Nat → Int} {s : Nat} {far : Nat → Int} (L : Lens len) (d : Dist n len s far) : ∀ (k j : Nat), j < n → 0 ≤ far j → (far j).toNat ≤ k → far j ≤ 1000 * (cntN far (far j) n : Int)
  | k, j, hj, h0, hk => by
    by_cases e : j = s
    · subst e; rw [d.f0]; omega
    · obtain ⟨i, hi, h1, h2, h3⟩ := d.pre j hj e h0
      have hl := L.rng i j
      match k with
      | 0 => omega
      | k + 1 =>
        have h4 := Dist.few L d k i hi h1 (by omega)
        have h5 := cntN_step far h1 (show far i < far j by omega) n hi
        omega
/-- Nothing is farther than one road less than there are places can lead. -/
theorem Dist.most {n : Nat} {len : Nat → Nat → Int} {s : Nat} {far : Nat → Int} (L : Lens len) (d : Dist n len s far) (hn : n ≤ 40) {j : Nat} (hj : j < n) (h0 : 0 ≤ far j) : far j ≤ 39000 := by
  have h1 := Dist.few L d _ j hj h0 (Nat.le_refl _)
  have h2 := cntN_lt far n hj
  omega
theorem hubsOk_snoc {rank : Nat} : ∀ (l : List (Nat × Int)) (x : Nat), (∀ (i k : Nat) (f : Int), l[i]? = some (k, f) → nxt x (l.take i) ≤ k ∧ k < rank ∧ 1 ≤ f ∧ f ≤ 39000) → nxt x l ≤ rank → HubsOk rank x (l ++ [(rank, 0)])
  | [], x, _, h => ⟨h, rfl, rfl⟩
  | (r, f) :: t, x, h, hn => by
    have h0 := h 0 r f rfl
    have h1 : HubsOk rank (r + 1) (t ++ [(rank, 0)]) := hubsOk_snoc t (r + 1) (fun i k g hi => by have := h (i + 1) k g hi; simpa [nxt] using this) hn
    cases t with
    | nil => exact ⟨h0.1, h0.2.1, h0.2.2.1, h0.2.2.2, h1⟩
    | cons y t => exact ⟨h0.1, h0.2.1, h0.2.2.1, h0.2.2.2, h1⟩
theorem HubsOk.snoc {rank : Nat} : ∀ {l : List (Nat × Int)} {x : Nat}, HubsOk rank x l → ∃ l0, l = l0 ++ [(rank, 0)] ∧ ∀ y ∈ l0, y.1 < rank ∧ 1 ≤ y.2 ∧ y.2 ≤ 39000
  | [], _, h => h.elim
  | [(r, f)], x, ⟨_, h2, h3⟩ => ⟨[], by rw [h2, h3]; rfl, fun y hy => by simp at hy⟩
  | (r, f) :: h :: t, x, ⟨h1, h2, h3, h4, h5⟩ => by
    obtain ⟨l0, e, hl⟩ := HubsOk.snoc h5
    refine ⟨(r, f) :: l0, by rw [e]; rfl, fun y hy => ?_⟩
    rcases List.mem_cons.1 hy with rfl | hy
    · exact ⟨h2, h3, h4⟩
    · exact hl y hy
theorem HubsOk.isLab {rank v : Nat} {O : List Nat} {H : List (Nat × Int)} {x : Nat} (h : HubsOk rank x H) (hO : O[rank]? = some v) : Pu.isLab v O H = true := by
  obtain ⟨l0, e, hl⟩ := h.snoc
  rw [e, isLab_snoc]
  simp only [hO, decide_true, Bool.true_and, List.all_eq_true, Bool.and_eq_true, decide_eq_true_iff]
  exact fun y hy => (hl y hy).2
theorem hubK_stay {D : Nat → Nat → Int} {O : List Nat} {v m : Nat} (h : ∀ y, O[m]? = some y → Pu.isHub D v y (O.take m) = false) : hubK D O v (m + 1) = hubK D O v m := by
  rw [hubK]
  cases e : O[m]? with
  | none => simp
  | some y => simp [h y e]
variable {n : Nat} {len D : Nat → Nat → Int} {O : List Nat}
theorem Cov.own (C : Cov n len D O) {v r : Nat} (hv : v < n) (hr : O[r]? = some v) : ∀ k, hubK D O v (r + 1 + k) = hubK D O v r ++ [(r, 0)]
  | 0 => by
    have h1 := C.selfHub hv hr
    rw [Nat.add_zero, hubK, hr]
    simp only [h1, if_true]
    rw [(C.dist v hv).f0]
  | k + 1 => by
    rw [← Nat.add_assoc, hubK_stay, Cov.own C hv hr k]
    intro y hy
    cases e : Pu.isHub D v y (O.take (r + 1 + k)) with
    | false => rfl
    | true =>
      exfalso
      obtain ⟨h1, h2⟩ := isHub_iff.1 e
      have h3 := h2 v (mem_take.2 ⟨r, by omega, hr⟩)
      rw [lies_no] at h3
      have h0 := (C.dist v hv).f0
      exact h3 ⟨by omega, h1, by omega⟩
/-- The labels that are saved are labels. -/
theorem Cov.hubsOk (C : Cov n len D O) (hn : n ≤ 40) {v : Nat} (hv : v < n) : ∃ r, O[r]? = some v ∧ HubsOk r 0 (hubK D O v n) := by
  obtain ⟨r, hr⟩ := C.perm.at' hv
  have hrl := (List.getElem?_eq_some_iff.1 hr).1
  have hl := C.perm.len
  have e := C.own hv hr (n - (r + 1))
  rw [show r + 1 + (n - (r + 1)) = n by omega] at e
  refine ⟨r, hr, ?_⟩
  rw [e]
  obtain ⟨a1, a2⟩ := hubK_rise D O v r
  refine hubsOk_snoc _ 0 (fun i k f hi => ?_) a1
  obtain ⟨hk, h, b1, b2, b3⟩ := hubK_mem2 r (List.mem_of_getElem? hi)
  have hh := C.perm.lt h (List.mem_of_getElem? b1)
  have h5 := (isHub_iff.1 b3).1
  have h6 := C.rng hv hh
  have h7 := Dist.most C.net.lens (C.dist v hv) hn hh (by omega)
  refine ⟨a2 i k f hi, hk, ?_, by omega⟩
  by_cases c : D v h = 0
  · have e1 := C.zero hv hh c
    subst e1
    have := nodup_get C.perm.nodup b1 hr
    omega
  · omega
theorem Cov.valid (C : Cov n len D O) (hn1 : 1 ≤ n) (hn : n ≤ 40) : Valid (pad (heldB O (fun v => hubK D O v n) n)) n O (fun v => hubK D O v n) :=
  ⟨hn1, hn, C.perm.len, C.perm.lt, C.perm.nodup, fun _ hv => C.hubsOk hn hv, rfl⟩
theorem labs_split (L : Nat → List (Nat × Int)) {v : Nat} : ∀ n, v < n → ∃ r, labsB L n = labsB L v ++ (labB (L v) ++ r)
  | 0, h => by omega
  | n + 1, h => by
    by_cases e : v = n
    · subst e; exact ⟨[], by rw [labsB, List.append_nil]⟩
    · obtain ⟨r, hr⟩ := labs_split L n (show v < n by omega)
      exact ⟨r ++ labB (L n), by rw [labsB, hr]; simp [List.append_assoc]⟩
theorem sumL_labs (L : Nat → List (Nat × Int)) (n : Nat) : ∀ v, v ≤ n → sumL (((List.range n).map fun v => (labB (L v)).length).take v) = (labsB L v).length
  | 0, _ => by simp [sumL, labsB]
  | v + 1, h => by
    have e : ((List.range n).map fun v => (labB (L v)).length)[v]? = some (labB (L v)).length := by
      rw [List.getElem?_map, List.getElem?_range (by omega)]; rfl
    rw [List.take_add_one, e, Option.toList_some, sumL_snoc, sumL_labs L n v (by omega), labsB, List.length_append]
/-- What a store's bytes are read as. -/
theorem Valid.rd {s : List UInt8} {n : Nat} {O : List Nat} {L : Nat → List (Nat × Int)} (V : Valid s n O L) : ∃ Z a, rdOf s = some (O, Z, a) ∧ ∀ v, v < n → labOf ((s.take (stF a Z (v + 1))).drop (stF a Z v)) = some (L v) := by
  obtain ⟨Z, hZ⟩ : ∃ Z, Z = (List.range n).map fun v => (labB (L v)).length := ⟨_, rfl⟩
  obtain ⟨z, hz⟩ : ∃ z, z = List.replicate ((28 - (heldB O L n).length % 28) % 28) (0 : UInt8) := ⟨_, rfl⟩
  have hs : s = headB O ++ (flatB Z ++ (labsB L n ++ z)) := by
    rw [V.eq, pad, ← hz, heldB, sizesB_flat, ← hZ]; simp [List.append_assoc]
  have hol := V.len
  have h1 := V.n1
  have h40 := V.n40
  have hZl : Z.length = O.length := by rw [hZ]; simp; omega
  have hsm : Small Z := by
    intro x hx
    rw [hZ] at hx
    obtain ⟨v, hv, rfl⟩ := List.mem_map.1 hx
    have h1 := (V.rise (List.mem_range.1 hv)).2.2
    have h2 := labB_len (L v)
    omega
  have hh := hdOf_back (r := labsB L n ++ z) (O := O) (S := Z) (by omega) (by omega) V.nd (fun m hm => by have := V.lt m hm; omega) hZl hsm
  rw [← hs] at hh
  obtain ⟨a, ha⟩ : ∃ a, a = (headB O ++ flatB Z).length := ⟨_, rfl⟩
  rw [← ha] at hh
  have hst : ∀ v, v ≤ n → stF a Z v = (headB O ++ flatB Z ++ labsB L v).length := by
    intro v hv
    rw [stF, hZ, sumL_labs L n v hv, ← hZ, ha]
    exact (List.length_append).symm
  have hla : ∀ v, v < n → labOf ((s.take (stF a Z (v + 1))).drop (stF a Z v)) = some (L v) := by
    intro v hv
    obtain ⟨r, hr⟩ := labs_split L n hv
    have e1 : s = (headB O ++ flatB Z ++ labsB L v ++ labB (L v)) ++ (r ++ z) := by rw [hs, hr]; simp [List.append_assoc]
    have e2 : stF a Z (v + 1) = (headB O ++ flatB Z ++ labsB L v ++ labB (L v)).length := by
      rw [hst (v + 1) (by omega), labsB, List.append_assoc (headB O ++ flatB Z)]
    rw [e2, e1, List.take_left, hst v (by omega), List.drop_left]
    obtain ⟨b1, b2, b3⟩ := V.rise hv
    exact labOf_eq.2 ⟨rfl, b1, by omega⟩
  refine ⟨Z, a, ?_, hla⟩
  unfold rdOf
  rw [hh]
  simp only
  rw [if_pos]
  unfold areB
  rw [hol]
  have e3 : stF a Z n = (headB O ++ flatB Z ++ labsB L n).length := hst n (Nat.le_refl _)
  have e4 : s = (headB O ++ flatB Z ++ labsB L n) ++ z := by rw [hs]; simp [List.append_assoc]
  have c1 : stF a Z n ≤ s.length := by rw [e3, e4]; exact (List.prefix_append _ _).length_le
  have c2 : fillB (s.drop (stF a Z n)) = true := by
    rw [e3, e4, List.drop_left, hz]
    unfold fillB
    simp only [List.length_replicate, Bool.and_eq_true, decide_eq_true_iff, List.all_eq_true, beq_iff_eq]
    refine ⟨by omega, fun x hx => ?_⟩
    exact List.eq_of_mem_replicate hx
  have c3 : (List.range n).all (labAt s O (stF a Z)) = true := by
    rw [List.all_eq_true]
    intro v hv
    have hv := List.mem_range.1 hv
    obtain ⟨r, d1, d2⟩ := V.lab v hv
    unfold labAt
    rw [hla v hv]
    exact d2.isLab d1
  rw [c2, c3, decide_eq_true c1]
  rfl
/-- The label that is read of a place. -/
def labF (s : List UInt8) (st : Nat → Nat) (v : Nat) : List (Nat × Int) := (labOf ((s.take (st (v + 1))).drop (st v))).getD []
theorem Rise.below : ∀ {l : List (Nat × Int)} {x r : Nat} {f : Int}, Rise x (l ++ [(r, f)]) → ∀ y ∈ l, y.1 < r
  | [], _, _, _, _ => fun y hy => by simp at hy
  | (q, g) :: t, x, r, f, ⟨h1, h2, h3, h4, h5⟩ => fun y hy => by
    have low : ∀ {l : List (Nat × Int)} {x r : Nat} {f : Int}, Rise x (l ++ [(r, f)]) → x ≤ r := by
      intro l
      induction l with
      | nil => intro x r f h; exact h.1
      | cons z l ih =>
        intro x r f h
        obtain ⟨z1, z2⟩ := z
        have := ih h.2.2.2.2
        have := h.1
        omega
    rcases List.mem_cons.1 hy with rfl | hy
    · have := low h5
      simp only; omega
    · exact Rise.below h5 y hy
theorem rd_parts {s : List UInt8} {O Z : List Nat} {a : Nat} (h : rdOf s = some (O, Z, a)) : stF a Z O.length ≤ s.length ∧ (∀ v, v < O.length → labAt s O (stF a Z) v = true) ∧ fillB (s.drop (stF a Z O.length)) = true := by
  unfold rdOf at h
  split at h
  · cases h
  · split at h
    · rename_i h1
      injection h with h
      injection h with h2 h
      injection h with h3 h4
      subst h2 h3 h4
      unfold areB at h1
      rw [Bool.and_eq_true, Bool.and_eq_true, decide_eq_true_iff, List.all_eq_true] at h1
      exact ⟨h1.1.1, fun v hv => h1.1.2 v (List.mem_range.2 hv), h1.2⟩
    · cases h
theorem labAt_some {s : List UInt8} {O : List Nat} {st : Nat → Nat} {v : Nat} (h : labAt s O st v = true) : labOf ((s.take (st (v + 1))).drop (st v)) = some (labF s st v) ∧ isLab v O (labF s st v) = true := by
  unfold labAt at h
  unfold labF
  split at h
  · cases h
  · rename_i H e
    rw [e]
    exact ⟨rfl, h⟩
theorem isLab_some {v : Nat} {O : List Nat} {H : List (Nat × Int)} (h : isLab v O H = true) : ∃ H0 r, H = H0 ++ [(r, 0)] ∧ O[r]? = some v ∧ ∀ y ∈ H0, 1 ≤ y.2 ∧ y.2 ≤ 39000 := by
  have hne : H ≠ [] := by
    intro c; subst c; simp [isLab] at h
  have e := List.dropLast_concat_getLast hne
  generalize H.getLast hne = z at e
  obtain ⟨r, f⟩ := z
  rw [← e, isLab_snoc] at h
  simp only [Bool.and_eq_true, decide_eq_true_iff, List.all_eq_true] at h
  obtain ⟨⟨h1, h2⟩, h3⟩ := h
  exact ⟨H.dropLast, r, by rw [← h2]; exact e.symm, h1, h3⟩
end Pu
/-- What is known of the labels of what was read as a store. -/
theorem rd_labs {S : ByteArray} {O Z : List Nat} {a : Nat} (h : Pu.rdOf S.data.toList = some (O, Z, a)) (hs : S.size ≤ 60000) (h28 : S.size % 28 = 0) : Labs S O (Pu.stF a Z) (Pu.labF S.data.toList (Pu.stF a Z)) := by
  obtain ⟨r, n1, n40, nd, lt, _⟩ := Pu.hdOf_some (Pu.rdOf_hd h)
  obtain ⟨p1, p2, p3⟩ := Pu.rd_parts h
  have hsz : S.data.toList.length = S.size := by simp
  have hof : ∀ v, v < O.length → _ := fun v hv => Pu.labAt_some (p2 v hv)
  have hle : ∀ v, v < O.length → Pu.stF a Z (v + 1) ≤ S.size := fun v hv => by
    have := Pu.stF_mono a Z (show v + 1 ≤ O.length by omega)
    omega
  have hsn : ∀ v, v < O.length → _ := fun v hv => Pu.isLab_some (hof v hv).2
  refine ⟨n1, n40, hs, h28, fun v hv => ?_, hle, fun v hv => (hof v hv).1, fun v hv y hy => ?_, lt, fun v hv => ?_⟩
  · have h1 := (Pu.labOf_eq.1 (hof v hv).1).1
    have h2 := congrArg List.length h1
    obtain ⟨x, q, e⟩ := Pu.countB_cons (Pu.labF S.data.toList (Pu.stF a Z) v).length
    rw [List.length_drop, List.length_take, Pu.labB, e] at h2
    simp at h2
    omega
  · obtain ⟨H0, r, e, hr, _⟩ := hsn v hv
    have hrl := (List.getElem?_eq_some_iff.1 hr).1
    have h2 := (Pu.labOf_eq.1 (hof v hv).1).2.1
    rw [e] at h2 hy
    rcases List.mem_append.1 hy with hy | hy
    · have := Pu.Rise.below h2 y hy; omega
    · rw [List.mem_singleton.1 hy]; exact hrl
  · obtain ⟨H0, r, e, _⟩ := hsn v hv
    rw [e]; simp
end Go.Proofs.YtdogncjcainhlaaGreatDoor
/- Pages that are looked at, with one kept and with eight; a saved store's pages: no walk in it. -/
namespace Go.Proofs.YtdogncjcainhlaaGreatDoor
open Go.RowKit Go.Deep
open Mem

namespace Pu
theorem pageP_held (s : List UInt8) : ∀ k, 28 * k ≤ s.length → ∀ r, heldK (pageP s k ++ r) k = s.take (28 * k)
  | 0, _, _ => by simp [heldK]
  | k + 1, h, r => by
    have h1 := pageP_len s k (by omega)
    have h2 := chunk_len (s := s) (i := k) (by omega)
    have e1 : (pageP s (k + 1) ++ r).drop (32 * k) = sealB k (chunk s k) ++ r := by rw [pageP, List.append_assoc, ← h1, List.drop_left]
    have e2 : (sealB k (chunk s k) ++ r).take 28 = chunk s k := by
      rw [sealB, List.append_assoc]
      have := List.take_left (l₁ := chunk s k) (l₂ := sumB (sumN (UInt8.ofNat (k / 256) :: UInt8.ofNat (k % 256) :: chunk s k)) ++ r)
      rwa [h2] at this
    rw [heldK, e1, e2, pageP, List.append_assoc, pageP_held s k (by omega), chunk, Nat.mul_succ, List.take_add]
theorem paged_held (s : List UInt8) : heldK (paged s) ((s.length + 27) / 28) = pad s := by
  have h1 := pad_len s
  have h2 : (pad s).length / 28 = (s.length + 27) / 28 := by omega
  have := pageP_held (pad s) ((s.length + 27) / 28) (by omega) []
  rw [List.append_nil] at this
  rw [paged, h2, this, ← h1, List.take_length]
theorem paged_fw (s : List UInt8) : FW (paged s) (-1) := Or.inl ⟨rfl, fun _ hq => paged_ok (paged_q hq)⟩

/-- With one page kept, that is the last one. -/
theorem look_one {K : List Nat} (h : Keeps 1 K) (p : Nat) : lookK 1 K p = [p] := by
  unfold lookK
  match K, h with
  | [], _ => simp
  | [q], _ =>
    by_cases c : p = q
    · subst c; simp
    · simp [c]
  | a :: b :: t, h => exact absurd h.le (by simp)
theorem looks_one : ∀ (k : Nat) {K : List Nat} {r : Nat} (p : Nat), Keeps 1 K → (looks 1 (K, r) p (k + 1)).1 = [p + k]
  | 0, K, r, p, h => by rw [looks, looks, look_one h]; rfl
  | k + 1, K, r, p, h => by
    rw [looks, looks_one k (p + 1) (h.look (Nat.le_refl _) p)]
    congr 1; omega
theorem looks_ge (c : Nat) : ∀ (k : Nat) (s : List Nat × Nat) (p : Nat), s.2 ≤ (looks c s p k).2
  | 0, _, _ => Nat.le_refl _
  | k + 1, (K, r), p => by
    have h1 := looks_ge c k (lookK c K p, r + lookR K p) (p + 1)
    rw [looks]
    simp only at h1 ⊢
    omega
/-- What one page and what eight tell of the same looks. -/
structure Twin (a b : List Nat × Nat) : Prop where
  k1 : Keeps 1 a.1
  k8 : Keeps 8 b.1
  sub : ∀ p ∈ a.1, p ∈ b.1
  le : b.2 ≤ a.2
theorem Twin.looks : ∀ (k : Nat) {a b : List Nat × Nat} (p : Nat), Twin a b → Twin (looks 1 a p k) (looks 8 b p k)
  | 0, _, _, _, h => h
  | k + 1, (K, r), (M, s), p, h => by
    rw [Pu.looks, Pu.looks]
    refine Twin.looks k (p + 1) ⟨h.k1.look (Nat.le_refl _) p, h.k8.look (by omega) p, fun q hq => ?_, ?_⟩
    · have hq : q ∈ lookK 1 K p := hq
      rw [look_one h.k1] at hq
      rw [List.mem_singleton.1 hq]
      show p ∈ lookK 8 M p
      unfold lookK
      simp
    · have h1 := h.le
      have h2 := h.sub p
      simp only at h1 h2 ⊢
      unfold lookR
      by_cases c : p ∈ K
      · rw [if_pos c, if_pos (h2 c)]; omega
      · rw [if_neg c]; split <;> omega
theorem Twin.more {a a' b : List Nat × Nat} (h : Twin a b) (h1 : a'.1 = a.1) (h2 : a.2 ≤ a'.2) : Twin a' b := ⟨by rw [h1]; exact h.k1, h.k8, by rw [h1]; exact h.sub, Nat.le_trans h.le h2⟩
theorem looks_in {c P : Nat} : ∀ (k : Nat) {K : List Nat} {r : Nat} (p : Nat), p + k ≤ P → (∀ q ∈ K, q < P) → ∀ q ∈ (looks c (K, r) p k).1, q < P
  | 0, _, _, _, _, h => h
  | k + 1, K, r, p, hp, h => by
    rw [looks]
    refine looks_in k (p + 1) (by omega) (fun q hq => ?_)
    unfold lookK at hq
    rcases List.mem_append.1 hq with hq | hq
    · split at hq
      · exact h q (List.mem_of_mem_erase hq)
      · split at hq
        · exact h q (List.mem_of_mem_tail hq)
        · exact h q hq
    · rw [List.mem_singleton.1 hq]; omega
/-- With a page for each none is read twice. -/
structure Whole (P : Nat) (b : List Nat × Nat) : Prop where
  nd : b.1.Nodup
  lt : ∀ q ∈ b.1, q < P
  eq : b.2 = b.1.length
theorem Whole.looks {c P : Nat} (hc : P ≤ c) : ∀ (k : Nat) {b : List Nat × Nat} (p : Nat), p + k ≤ P → Whole P b → Whole P (looks c b p k)
  | 0, _, _, _, h => h
  | k + 1, (K, r), p, hp, h => by
    rw [Pu.looks]
    have hnd : K.Nodup := h.nd
    have hlt : ∀ q ∈ K, q < P := h.lt
    have heq : r = K.length := h.eq
    refine Whole.looks hc k (p + 1) (by omega) ?_
    by_cases c1 : p ∈ K
    · have e1 : lookK c K p = K.erase p ++ [p] := by unfold lookK; rw [if_pos c1]
      have e2 : lookR K p = 0 := by unfold lookR; rw [if_pos c1]
      rw [e1, e2]
      have hl := List.length_erase_of_mem c1
      have hpos := List.length_pos_of_mem c1
      refine ⟨?_, fun q hq => ?_, ?_⟩
      · simp only
        rw [List.nodup_append]
        refine ⟨hnd.erase p, by simp, fun x hx y hy => ?_⟩
        rw [List.mem_singleton.1 hy]
        exact ((List.Nodup.mem_erase_iff hnd).1 hx).1
      · rcases List.mem_append.1 hq with hq | hq
        · exact hlt q (List.mem_of_mem_erase hq)
        · rw [List.mem_singleton.1 hq]; omega
      · simp only [List.length_append, List.length_singleton]; omega
    · have h3 : (K ++ [p]).Nodup := by
        rw [List.nodup_append]
        refine ⟨hnd, by simp, fun x hx y hy => ?_⟩
        rw [List.mem_singleton.1 hy]
        intro e; subst e; exact c1 hx
      have h4 : ∀ q ∈ K ++ [p], q < P := fun q hq => by
        rcases List.mem_append.1 hq with hq | hq
        · exact hlt q hq
        · rw [List.mem_singleton.1 hq]; omega
      have h5 := nodup_le P _ h3 h4
      rw [List.length_append, List.length_singleton] at h5
      have e1 : lookK c K p = K ++ [p] := by unfold lookK; rw [if_neg c1, if_neg (by omega)]
      have e2 : lookR K p = 1 := by unfold lookR; rw [if_neg c1]
      rw [e1, e2]
      exact ⟨h3, h4, by simp only [List.length_append, List.length_singleton]; omega⟩
theorem Whole.most {P : Nat} {b : List Nat × Nat} (h : Whole P b) : b.2 ≤ P := by
  rw [h.eq]; exact nodup_le P _ h.nd h.lt
/-- The pages of two labels are looked at. -/
def lookF (c : Nat) (st : Nat → Nat) (s : List Nat × Nat) (u v : Nat) : List Nat × Nat := lookP c st (lookP c st s u) v
end Pu
variable {S : ByteArray} {O : List Nat} {st : Nat → Nat} {lab : Nat → List (Nat × Int)}
theorem Labs.span (L : Labs S O st lab) {v : Nat} (hv : v < O.length) : st v / 28 + ((st (v + 1) + 27) / 28 - st v / 28) ≤ S.size / 28 ∧ 1 ≤ (st (v + 1) + 27) / 28 - st v / 28 := by
  have h1 := L.lt v hv
  have h2 := L.le v hv
  have h3 := L.s28
  omega
theorem Labs.keeps (_L : Labs S O st lab) {c : Nat} (hc : 1 ≤ c) {s : List Nat × Nat} (h : Pu.Keeps c s.1) (v : Nat) : Pu.Keeps c (Pu.lookP c st s v).1 := Pu.Keeps.looks (r := s.2) hc _ _ h
theorem Labs.last (L : Labs S O st lab) {s : List Nat × Nat} (h : Pu.Keeps 1 s.1) {v : Nat} (hv : v < O.length) : (Pu.lookP 1 st s v).1 = [(st (v + 1) + 27) / 28 - 1] := by
  obtain ⟨h1, h2⟩ := L.span hv
  unfold Pu.lookP
  obtain ⟨k, hk⟩ : ∃ k, (st (v + 1) + 27) / 28 - st v / 28 = k + 1 := ⟨_, (Nat.sub_add_cancel h2).symm⟩
  rw [hk]
  have := Pu.looks_one k (K := s.1) (r := s.2) (st v / 28) h
  rw [this]
  congr 1; omega
/-- A Far of both, and one more of the one with one page. -/
theorem Labs.twin (L : Labs S O st lab) {a b : List Nat × Nat} (h : Pu.Twin a b) {u v : Nat} (_hu : u < O.length) (hv : v < O.length) : Pu.Twin (Pu.lookF 1 st (Pu.lookF 1 st a u v) u v) (Pu.lookF 8 st b u v) := by
  have h1 : Pu.Twin (Pu.lookF 1 st a u v) (Pu.lookF 8 st b u v) := Pu.Twin.looks _ _ (Pu.Twin.looks _ _ h)
  refine h1.more ?_ ?_
  · unfold Pu.lookF
    rw [L.last (L.keeps (Nat.le_refl _) (L.keeps (Nat.le_refl _) (L.keeps (Nat.le_refl _) h.k1 u) v) u) hv, L.last (L.keeps (Nat.le_refl _) h.k1 u) hv]
  · exact Nat.le_trans (Pu.looks_ge _ _ _ _) (Pu.looks_ge _ _ _ _)
theorem Labs.whole (L : Labs S O st lab) {b : List Nat × Nat} {c : Nat} (hc : S.size / 28 ≤ c) (h : Pu.Whole (S.size / 28) b) {u v : Nat} (hu : u < O.length) (hv : v < O.length) : Pu.Whole (S.size / 28) (Pu.lookF c st b u v) :=
  Pu.Whole.looks hc _ _ (L.span hv).1 (Pu.Whole.looks hc _ _ (L.span hu).1 h)
theorem Labs.most (L : Labs S O st lab) {c : Nat} {s : List Nat × Nat} {u v : Nat} (hu : u < O.length) (hv : v < O.length) : s.2 ≤ (Pu.lookF c st s u v).2 ∧ (Pu.lookF c st s u v).2 ≤ s.2 + 2 * (S.size / 28) := by
  have a1 := Pu.looks_le c ((st (u + 1) + 27) / 28 - st u / 28) s (st u / 28)
  have a2 := Pu.looks_le c ((st (v + 1) + 27) / 28 - st v / 28) (Pu.lookP c st s u) (st v / 28)
  have b1 := L.span hu
  have b2 := L.span hv
  refine ⟨Nat.le_trans (Pu.looks_ge _ _ _ _) (Pu.looks_ge _ _ _ _), ?_⟩
  unfold Pu.lookF
  unfold Pu.lookP at a2 ⊢
  omega
end Go.Proofs.YtdogncjcainhlaaGreatDoor
/- The walk of a store's Far between places. -/
namespace Go.Proofs.YtdogncjcainhlaaGreatDoor
open Go.RowKit Go.Deep Go.MuLone
open Mem

/-- What Far hands back. -/
def farV (O : List Nat) : Option (Nat × Int) → Value
  | none => .tuple #[.int .i64 0, .int .i64 0, .int .i64 6]
  | some (r, x) => .tuple #[.int .i64 x, .int .i64 ((O[r]?.getD 0 : Nat) : Int), .int .i64 0]
theorem HubAt.turns_p {p : Nat → Prop} {w w' : World} {a : Option Addr} {L : List (Nat × Int)} {n c : Nat} (h : HubAt w a L) (t : Turns p w w') (hp : ∀ q, (Value.slice a n c).ownBlock = some q → ¬ p q) : HubAt w' a L := by
  intro i r f hi
  obtain ⟨g, h0, h1, h2⟩ := h i r f hi
  have hg : ¬ p g := hp g (by rw [h0]; rfl)
  exact ⟨g, h0, (t.cell (a := ⟨g, i * 2, none⟩) (World.block_lt_of_cell? _ _ h1) hg).trans h1, (t.cell (a := ⟨g, i * 2 + 1, none⟩) (World.block_lt_of_cell? _ _ h2) hg).trans h2⟩
theorem first_drew {p : Nat → Prop} {w w' : World} (h : Turns p w.drew w') : Turns p w w' := ((Turns.refl p w).drew).trans h
set_option maxRecDepth 100000 in
set_option maxHeartbeats 2000000 in
theorem stFar_any {w : World} {b og oc sg sc : Nat} {O : List Nat} {st : Nat → Nat} {S : ByteArray} {c : Nat} {kv : Value} {K : List Nat} {r p q : Nat} {lab : Nat → List (Nat × Int)} (L : Labs S O st lab) (h : StoreAt w b og oc sg sc O st S c 0 kv K r) (hp : p < O.length) (hq : q < O.length) (hc1 : 1 ≤ c) (hc8 : c ≤ 8) (hK : Pu.Keeps c K) (hr : r ≤ 90000000) :
    Calls Tryz.prog 20 #[.pointer (some ⟨b, 0, none⟩), .int .i64 (p : Int), .int .i64 (q : Int)] w fun e w' => e = .returned (farV O (Pu.best none (lab p) (lab q))) ∧ ∃ kv', StoreAt w' b og oc sg sc O st S c 0 kv' (Pu.lookP c st (Pu.lookP c st (K, r) p) q).1 (Pu.lookP c st (Pu.lookP c st (K, r) p) q).2 ∧ (∀ x, kv'.ownBlock = some x → kv.ownBlock = some x ∨ w.heap.size ≤ x) ∧ Turns (fun x => x = b ∨ kv.ownBlock = some x) w w' := by
  have c0 := h.box.c0
  have f0 := h.box.free 0
  obtain ⟨w1, hw1⟩ : ∃ w1, w1 = w.setCell ⟨b, 0, none⟩ (.int .i32 1) := ⟨_, rfl⟩
  have H1 : Hid (StoreAt w1 b og oc sg sc O st S c 1 kv K r) := by show StoreAt _ _ _ _ _ _ _ _ _ _ _ _ _ _; rw [hw1]; exact h.locked 1
  have HT1 : Hid (Turns (fun x => x = b ∨ kv.ownBlock = some x) w w1) := by show Turns _ _ _; rw [hw1]; exact (Turns.refl _ w).setCell (x := ⟨b, 0, none⟩) (Or.inr (Or.inl rfl)) _
  have HW1 : Hid (w.setCell ⟨b, 0, none⟩ (.int .i32 1) = w1) := hw1.symm
  have e2 := H1.out.box.c2
  have e3 := H1.out.box.c3
  have hbl := H1.out.box.lt
  have HPp : Hid (∀ w2, Calls Tryz.prog 44 #[.agg #[.slice (some ⟨og, 0, none⟩) O.length oc, .slice (some ⟨sg, 0, none⟩) (O.length + 1) sc], .int .i64 (p : Int)] w2 fun e w' => e = .returned (.bool true) ∧ Turns (fun _ => False) w2 w') := fun w2 => by
    have := has_any w2 og oc O.length (some ⟨sg, 0, none⟩) (O.length + 1) sc (p : Int)
    rw [decide_eq_true (by omega)] at this
    exact this
  have HPq : Hid (∀ w2, Calls Tryz.prog 44 #[.agg #[.slice (some ⟨og, 0, none⟩) O.length oc, .slice (some ⟨sg, 0, none⟩) (O.length + 1) sc], .int .i64 (q : Int)] w2 fun e w' => e = .returned (.bool true) ∧ Turns (fun _ => False) w2 w') := fun w2 => by
    have := has_any w2 og oc O.length (some ⟨sg, 0, none⟩) (O.length + 1) sc (q : Int)
    rw [decide_eq_true (by omega)] at this
    exact this
  have HL : Hid (Labs S O st lab) := L
  have HK1 : Hid (Pu.Keeps c (Pu.lookP c st (K, r) p).1 ∧ (Pu.lookP c st (K, r) p).2 ≤ r + 2200) := L.looks hp hc1 hK
  have HC1 : Hid (∀ w2, StoreAt w2 b og oc sg sc O st S c 1 kv K r → Calls Tryz.prog 45 #[.pointer (some ⟨b, 0, none⟩), .int .i64 (p : Int)] w2 fun e w' => ∃ a hc kv', e = .returned (.slice a (lab p).length hc) ∧ HubAt w' a (lab p) ∧ (lab p).length ≤ hc ∧ (∀ x, (Value.slice a (lab p).length hc).ownBlock = some x → w2.heap.size ≤ x ∧ kv'.ownBlock ≠ some x) ∧ StoreAt w' b og oc sg sc O st S c 1 kv' (Pu.lookP c st (K, r) p).1 (Pu.lookP c st (K, r) p).2 ∧ (∀ x, kv'.ownBlock = some x → kv.ownBlock = some x ∨ w2.heap.size ≤ x) ∧ Turns (fun x => x = b ∨ kv.ownBlock = some x) w2 w') := fun w2 h2 => label_any h2 L.n1 L.n40 hp hc1 hc8 hK (by omega) (L.lt p hp) (L.le p hp) L.size L.s28 (L.of p hp)
  have HC2 : Hid (∀ w2 kv2, StoreAt w2 b og oc sg sc O st S c 1 kv2 (Pu.lookP c st (K, r) p).1 (Pu.lookP c st (K, r) p).2 → Calls Tryz.prog 45 #[.pointer (some ⟨b, 0, none⟩), .int .i64 (q : Int)] w2 fun e w' => ∃ a hc kv', e = .returned (.slice a (lab q).length hc) ∧ HubAt w' a (lab q) ∧ (lab q).length ≤ hc ∧ (∀ x, (Value.slice a (lab q).length hc).ownBlock = some x → w2.heap.size ≤ x ∧ kv'.ownBlock ≠ some x) ∧ StoreAt w' b og oc sg sc O st S c 1 kv' (Pu.lookP c st (Pu.lookP c st (K, r) p) q).1 (Pu.lookP c st (Pu.lookP c st (K, r) p) q).2 ∧ (∀ x, kv'.ownBlock = some x → kv2.ownBlock = some x ∨ w2.heap.size ≤ x) ∧ Turns (fun x => x = b ∨ kv2.ownBlock = some x) w2 w') := fun w2 kv2 h2 => label_any h2 L.n1 L.n40 hq hc1 hc8 HK1.out.1 (by have h9 := HK1.out.2; unfold Pu.lookP at h9; omega) (L.lt q hq) (L.le q hq) L.size L.s28 (L.of q hq)
  obtain ⟨BB, hBB⟩ : ∃ BB, BB = Pu.best none (lab p) (lab q) := ⟨_, rfl⟩
  rw [← hBB]
  have HBB : Hid (BB = Pu.best none (lab p) (lab q)) := hBB
  clear hBB
  generalize Pu.lookP c st (Pu.lookP c st (K, r) p) q = LQ at *
  generalize Pu.lookP c st (K, r) p = LP at *
  clear h hw1 HK1 hK
  go_enter_defers Tryz.func20, Tryz.ntmps20
  go_wp2_with (go_at_call 38; refine (lock_free muLib ⟨b, 0, none⟩ _ c0 f0).mono ?_; rintro e w' ⟨rfl, rfl⟩; rw [HW1.out])
  refine (HPp.out w1).mono ?_
  rintro e w2 ⟨rfl, hT2⟩
  have H2 : Hid (StoreAt w2 b og oc sg sc O st S c 1 kv K r) := H1.out.turns0 hT2
  have HT2 : Hid (Turns (fun x => x = b ∨ kv.ownBlock = some x) w w2) := HT1.out.trans (hT2.mono (fun _ _ x => x.elim))
  have k2 := H2.out.box.c2
  have k3 := H2.out.box.c3
  have hbl2 := H2.out.box.lt
  clear hT2 e2 e3 HPp
  go_wp2_with fail
  refine (HPq.out w2).mono ?_
  rintro e w3 ⟨rfl, hT3⟩
  have H3 : Hid (StoreAt w3 b og oc sg sc O st S c 1 kv K r) := H2.out.turns0 hT3
  have HT3 : Hid (Turns (fun x => x = b ∨ kv.ownBlock = some x) w w3) := HT2.out.trans (hT3.mono (fun _ _ x => x.elim))
  clear hT3 k2 k3 HPq H2 HT2 H1 HT1
  go_wp2_with fail
  refine (HC1.out w3 H3.out).mono ?_
  rintro e w4 ⟨a1, hc1', kv1, rfl, hA1, hl1, ho1, hS1, hq1, hT4⟩
  have HA1 : Hid (HubAt w4 a1 (lab p) ∧ (lab p).length ≤ hc1' ∧ (∀ x, (Value.slice a1 (lab p).length hc1').ownBlock = some x → w3.heap.size ≤ x ∧ kv1.ownBlock ≠ some x)) := ⟨hA1, hl1, ho1⟩
  have HS1 : Hid (StoreAt w4 b og oc sg sc O st S c 1 kv1 LP.1 LP.2) := hS1
  have HQ1 : Hid (∀ x, kv1.ownBlock = some x → kv.ownBlock = some x ∨ w.heap.size ≤ x) := fun x hx => (hq1 x hx).imp id (fun y => Nat.le_trans HT3.out.size y)
  have HT4 : Hid (Turns (fun x => x = b ∨ kv.ownBlock = some x) w w4) := HT3.out.trans hT4
  clear hA1 hl1 ho1 hS1 hq1 hT4 HC1
  go_wp2_with fail
  refine (HC2.out w4 kv1 HS1.out).mono ?_
  rintro e w5 ⟨a2, hc2', kv2, rfl, hA2, hl2, ho2, hS2, hq2, hT5⟩
  have HH1 : Hid (HubsAt w5 (.slice a1 (lab p).length hc1') (lab p)) := HubsAt.of (HA1.out.1.turns_p hT5 (fun x hx => by
    rintro (e | e)
    · have h1 := (HA1.out.2.2 x hx).1
      have h2 := H3.out.box.lt
      omega
    · exact (HA1.out.2.2 x hx).2 e)) HA1.out.2.1
  have HH2 : Hid (HubsAt w5 (.slice a2 (lab q).length hc2') (lab q)) := HubsAt.of hA2 hl2
  have HS2 : Hid (StoreAt w5 b og oc sg sc O st S c 1 kv2 LQ.1 LQ.2) := hS2
  have HQ2 : Hid (∀ x, kv2.ownBlock = some x → kv.ownBlock = some x ∨ w.heap.size ≤ x) := fun x hx => by
    rcases hq2 x hx with e | e
    · exact HQ1.out x e
    · exact Or.inr (Nat.le_trans HT4.out.size e)
  have HT5 : Hid (Turns (fun x => x = b ∨ kv.ownBlock = some x) w w5) := HT4.out.join hT5 (fun x hx hp => by
    rintro (e | e)
    · exact hp (Or.inl e)
    · rcases HQ1.out x e with e | e
      · exact hp (Or.inr e)
      · omega)
  have cb := best_any w5 _ _ (lab p) (lab q) 0 0 HH1.out HH2.out (HL.out.rise hp) (HL.out.rise hq)
  have HBM : Hid (∀ rk x, Pu.best none (lab p) (lab q) = some (rk, x) → rk < O.length) := fun rk x hb => Pu.best_mem (P := fun z => z < O.length) _ (lab p) (lab q) none (Nat.le_refl _) (fun _ _ z => by cases z) (HL.out.rank p hp) rk x hb
  rw [← HBB.out] at cb HBM
  clear HBB
  generalize (lab p).length = l1 at *
  generalize (lab q).length = l2 at *
  clear hA2 hl2 ho2 hS2 hq2 hT5 HC2 HA1 HS1 HQ1 HT4 HT3 H3 HH1 HH2
  go_wp2_with fail
  refine cb.mono ?_
  rintro e w6 ⟨rfl, hT6⟩
  have H6 : Hid (StoreAt w6 b og oc sg sc O st S c 1 kv2 LQ.1 LQ.2) := HS2.out.turns0 hT6
  have HT6 : Hid (Turns (fun x => x = b ∨ kv.ownBlock = some x) w w6) := HT5.out.trans (hT6.mono (fun _ _ x => x.elim))
  have m2 := H6.out.box.c2
  have m3 := H6.out.box.c3
  have hbl6 := H6.out.box.lt
  clear cb hT6 HS2 HT5
  cases BB with
  | none =>
    simp only [hubO]
    go_wp2
    refine leaves_cons (f := 39) (args := #[.pointer (some ⟨b, 0, none⟩)]) (by simp) (by simp [go_sem]) ?_
    have H7 := H6.out.turns0 ((Turns.refl (fun _ => False) w6).alloc (.cells #[.int .i64 0, .int .i64 0] 131))
    refine (unlock_deferred muLib ⟨b, 0, none⟩ .returning _ H7.box.c0 (H7.box.free 0)).mono ?_
    rintro e u' w'' ⟨rfl, rfl, rfl⟩
    exact ⟨.tuple #[.int .i64 0, .int .i64 0, .int .i64 6], by simp [results, Tryz.results20, go_sem], rfl, kv2, H7.locked 0, HQ2.out, (HT6.out.alloc _).setCell (x := ⟨b, 0, none⟩) (Or.inr (Or.inl rfl)) _⟩
  | some z =>
    obtain ⟨rk, x⟩ := z
    simp only [hubO]
    have hrk := HBM.out rk x rfl
    obtain ⟨v, hv⟩ : ∃ v, O[rk]? = some v := ⟨_, List.getElem?_eq_getElem hrk⟩
    have HFV : Hid (farV O (some (rk, x)) = .tuple #[.int .i64 x, .int .i64 (v : Int), .int .i64 0]) := by show _ = _; rw [farV, hv]; rfl
    have HPO : Hid (∀ w7, StoreAt w7 b og oc sg sc O st S c 1 kv2 LQ.1 LQ.2 → Calls Tryz.prog 47 #[.agg #[.slice (some ⟨og, 0, none⟩) O.length oc, .slice (some ⟨sg, 0, none⟩) (O.length + 1) sc], .int .i64 (rk : Int)] w7 fun e w' => e = .returned (.int .i64 (v : Int)) ∧ Turns (fun _ => False) w7 w') := fun w7 h7 => placeOf_any w7 og oc O.length rk v _ _ _ hrk (h7.ord.2 rk v hv).2
    have H7 : Hid (StoreAt (w6.alloc (.cells #[.int .i64 (rk : Int), .int .i64 x] 131)) b og oc sg sc O st S c 1 kv2 LQ.1 LQ.2) := H6.out.turns0 ((Turns.refl (fun _ => False) w6).alloc _)
    obtain ⟨w7, hw7⟩ : ∃ w7, w7 = w6.alloc (.cells #[.int .i64 (rk : Int), .int .i64 x] 131) := ⟨_, rfl⟩
    have HW7 : Hid (w6.alloc (.cells #[.int .i64 (rk : Int), .int .i64 x] 131) = w7) := hw7.symm
    have HT7 : Hid (Turns (fun x => x = b ∨ kv.ownBlock = some x) w w7) := by show Turns _ _ _; rw [hw7]; exact HT6.out.alloc _
    have s0 : w7.cell? ⟨w6.heap.size, 0, none⟩ = some (.int .i64 (rk : Int)) := by rw [hw7]; simp
    have s1 : w7.cell? ⟨w6.heap.size, 1, none⟩ = some (.int .i64 x) := by rw [hw7]; simp
    rw [← hw7] at H7
    have j2 := H7.out.box.c2
    have j3 := H7.out.box.c3
    have hb7 := H7.out.box.lt
    have hs7 : w6.heap.size < w7.heap.size := World.block_lt_of_cell? _ _ s0
    clear HBM hv hw7
    go_wp2_with fail
    rw [HW7.out]
    clear m2 m3 HW7
    go_region_held3 (fun w' => w'.cell? ⟨b, 2, none⟩ = some (.slice (some ⟨og, 0, none⟩) O.length oc) ∧ w'.cell? ⟨b, 3, none⟩ = some (.slice (some ⟨sg, 0, none⟩) (O.length + 1) sc) ∧ w'.cell? ⟨w6.heap.size, 0, none⟩ = some (.int .i64 (rk : Int)) ∧ w'.cell? ⟨w6.heap.size, 1, none⟩ = some (.int .i64 x)) (go_keep)
      (first | (go_at_call 47; refine (HPO.out _ (by first | exact H7.out | exact H7.out.turns0 (Turns.refl (fun _ => False) _).drew)).mono ?_; rintro e w8 ⟨rfl, hT8⟩; have n2 : w8.cell? ⟨b, 2, none⟩ = some (.slice (some ⟨og, 0, none⟩) O.length oc) := (hT8.cell (a := ⟨b, 2, none⟩) hb7 (fun x => x)).trans j2; have n3 : w8.cell? ⟨b, 3, none⟩ = some (.slice (some ⟨sg, 0, none⟩) (O.length + 1) sc) := (hT8.cell (a := ⟨b, 3, none⟩) hb7 (fun x => x)).trans j3; have n4 : w8.cell? ⟨w6.heap.size, 0, none⟩ = some (.int .i64 (rk : Int)) := (hT8.cell (a := ⟨w6.heap.size, 0, none⟩) hs7 (fun x => x)).trans s0; have n5 : w8.cell? ⟨w6.heap.size, 1, none⟩ = some (.int .i64 x) := (hT8.cell (a := ⟨w6.heap.size, 1, none⟩) hs7 (fun x => x)).trans s1))
    all_goals
      have t78 : Turns (fun _ => False) w7 w8 := first_drew hT8
      have H8 : Hid (StoreAt w8 b og oc sg sc O st S c 1 kv2 LQ.1 LQ.2) := H7.out.turns0 t78
      have HT8 : Hid (Turns (fun x => x = b ∨ kv.ownBlock = some x) w w8) := HT7.out.trans (t78.mono (fun _ _ x => x.elim))
      clear hT8 t78 n2 n3 n4 n5 j2 j3 s0 s1 HPO
      go_wp2
      refine leaves_cons (f := 39) (args := #[.pointer (some ⟨b, 0, none⟩)]) (by simp) (by simp [go_sem]) ?_
      refine (unlock_deferred muLib ⟨b, 0, none⟩ .returning _ H8.out.box.c0 (H8.out.box.free 0)).mono ?_
      rintro e u' w'' ⟨rfl, rfl, rfl⟩
      exact ⟨.tuple #[.int .i64 x, .int .i64 (v : Int), .int .i64 0], by simp [results, Tryz.results20, go_sem], by rw [HFV.out], kv2, H8.out.locked 0, HQ2.out, HT8.out.setCell (x := ⟨b, 0, none⟩) (Or.inr (Or.inl rfl)) _⟩
end Go.Proofs.YtdogncjcainhlaaGreatDoor
/- The blocks of a store, and stores side by side: no walk in it. -/
namespace Go.Proofs.YtdogncjcainhlaaGreatDoor
open Go.RowKit Go.Deep
open Mem

/-- The blocks that are a store's. -/
def Foot (b og sg : Nat) (kv : Value) (q : Nat) : Prop := q = b ∨ q = og ∨ q = sg ∨ kv.ownBlock = some q
theorem StoreAt.foot_lt {w : World} {b og oc sg sc : Nat} {O : List Nat} {st : Nat → Nat} {S : ByteArray} {c : Nat} {m : Int} {kv : Value} {K : List Nat} {r : Nat} (h : StoreAt w b og oc sg sc O st S c m kv K r) (hn : 1 ≤ O.length) {q : Nat} (hq : Foot b og sg kv q) : q < w.heap.size := by
  rcases hq with rfl | rfl | rfl | hq
  · exact h.box.lt
  · obtain ⟨m0, hm0⟩ : ∃ m, O[0]? = some m := ⟨_, List.getElem?_eq_getElem (by omega)⟩
    exact World.block_lt_of_cell? _ _ (h.ord.2 0 m0 hm0).2
  · exact World.block_lt_of_cell? _ _ (h.sts 0 (Nat.zero_le _))
  · exact (World.ownsRow.lt h.kept q hq).2
theorem StoreAt.stay {p : Nat → Prop} {w w' : World} {b og oc sg sc : Nat} {O : List Nat} {st : Nat → Nat} {S : ByteArray} {c : Nat} {m : Int} {kv : Value} {K : List Nat} {r : Nat} (h : StoreAt w b og oc sg sc O st S c m kv K r) (t : Turns p w w') (hp : ∀ q, Foot b og sg kv q → ¬ p q) : StoreAt w' b og oc sg sc O st S c m kv K r :=
  h.turns t (hp b (Or.inl rfl)) (hp og (Or.inr (Or.inl rfl))) (hp sg (Or.inr (Or.inr (Or.inl rfl)))) (fun q hq => hp q (Or.inr (Or.inr (Or.inr hq))))
theorem foot_next {b og sg n : Nat} {kv kv' : Value} (hq : ∀ q, kv'.ownBlock = some q → kv.ownBlock = some q ∨ n ≤ q) {q : Nat} (h : Foot b og sg kv' q) : Foot b og sg kv q ∨ n ≤ q := by
  rcases h with h | h | h | h
  · exact Or.inl (Or.inl h)
  · exact Or.inl (Or.inr (Or.inl h))
  · exact Or.inl (Or.inr (Or.inr (Or.inl h)))
  · rcases hq q h with h | h
    · exact Or.inl (Or.inr (Or.inr (Or.inr h)))
    · exact Or.inr h
/-- Two stores side by side, both behind all that was there. -/
structure Two (w0 w : World) (b1 og1 oc1 sg1 sc1 b2 og2 oc2 sg2 sc2 : Nat) (O : List Nat) (st : Nat → Nat) (S : ByteArray) (c1 c2 : Nat) (kv1 kv2 : Value) (A B : List Nat × Nat) : Prop where
  a : StoreAt w b1 og1 oc1 sg1 sc1 O st S c1 0 kv1 A.1 A.2
  b : StoreAt w b2 og2 oc2 sg2 sc2 O st S c2 0 kv2 B.1 B.2
  la : ∀ q, Foot b1 og1 sg1 kv1 q → w0.heap.size ≤ q
  lb : ∀ q, Foot b2 og2 sg2 kv2 q → w0.heap.size ≤ q
  ne : ∀ q, Foot b1 og1 sg1 kv1 q → ¬ Foot b2 og2 sg2 kv2 q
  t : Turns (fun _ => False) w0 w
variable {w0 w w' : World} {b1 og1 oc1 sg1 sc1 b2 og2 oc2 sg2 sc2 : Nat} {O : List Nat} {st : Nat → Nat} {S : ByteArray} {c1 c2 : Nat} {kv1 kv2 kv' : Value} {A B : List Nat × Nat}
theorem Two.swap (h : Two w0 w b1 og1 oc1 sg1 sc1 b2 og2 oc2 sg2 sc2 O st S c1 c2 kv1 kv2 A B) : Two w0 w b2 og2 oc2 sg2 sc2 b1 og1 oc1 sg1 sc1 O st S c2 c1 kv2 kv1 B A :=
  ⟨h.b, h.a, h.lb, h.la, fun q h1 h2 => h.ne q h2 h1, h.t⟩
/-- The first one went on. -/
theorem Two.next (h : Two w0 w b1 og1 oc1 sg1 sc1 b2 og2 oc2 sg2 sc2 O st S c1 c2 kv1 kv2 A B) (hn : 1 ≤ O.length) {A' : List Nat × Nat} (s : StoreAt w' b1 og1 oc1 sg1 sc1 O st S c1 0 kv' A'.1 A'.2) (hq : ∀ x, kv'.ownBlock = some x → kv1.ownBlock = some x ∨ w.heap.size ≤ x) (t : Turns (fun x => x = b1 ∨ kv1.ownBlock = some x) w w') : Two w0 w' b1 og1 oc1 sg1 sc1 b2 og2 oc2 sg2 sc2 O st S c1 c2 kv' kv2 A' B := by
  have hp : ∀ x, (x = b1 ∨ kv1.ownBlock = some x) → Foot b1 og1 sg1 kv1 x := fun x hx => hx.elim Or.inl (fun y => Or.inr (Or.inr (Or.inr y)))
  refine ⟨s, h.b.stay t (fun q h1 h2 => h.ne q (hp q h2) h1), fun q h1 => ?_, h.lb, fun q h1 h2 => ?_, ?_⟩
  · rcases foot_next hq h1 with c | c
    · exact h.la q c
    · exact Nat.le_trans h.t.size c
  · rcases foot_next hq h1 with c | c
    · exact h.ne q c h2
    · have := h.b.foot_lt hn h2; omega
  · exact h.t.join t (fun x hx _ hp2 => by have := h.la x (hp x hp2); omega)
theorem Two.next0 (h : Two w0 w b1 og1 oc1 sg1 sc1 b2 og2 oc2 sg2 sc2 O st S c1 c2 kv1 kv2 A B) (hn : 1 ≤ O.length) (s : StoreAt w' b1 og1 oc1 sg1 sc1 O st S c1 0 kv1 A.1 A.2) (t : Turns (fun x => x = b1) w w') : Two w0 w' b1 og1 oc1 sg1 sc1 b2 og2 oc2 sg2 sc2 O st S c1 c2 kv1 kv2 A B :=
  h.next hn s (fun _ hx => Or.inl hx) (t.mono (fun _ _ hx => Or.inl hx))
theorem Two.turns0 (h : Two w0 w b1 og1 oc1 sg1 sc1 b2 og2 oc2 sg2 sc2 O st S c1 c2 kv1 kv2 A B) (t : Turns (fun _ => False) w w') : Two w0 w' b1 og1 oc1 sg1 sc1 b2 og2 oc2 sg2 sc2 O st S c1 c2 kv1 kv2 A B :=
  ⟨h.a.turns0 t, h.b.turns0 t, h.la, h.lb, h.ne, h.t.trans t⟩
end Go.Proofs.YtdogncjcainhlaaGreatDoor
/- A new map's block. -/
namespace Go.Proofs.YtdogncjcainhlaaGreatDoor
open Go.RowKit
open Mem

def isZero : Value → Bool
  | .int .i64 0 => true
  | _ => false
theorem isZero_eq {v : Value} (h : isZero v = true) : v = .int .i64 0 := by
  unfold isZero at h
  split at h
  · rfl
  · cases h
def zeroOk : Option Value → Bool
  | some (.agg cs) => cs.toList.all isZero && cs.toList.length == 1602
  | _ => false
theorem zeroOk_some {o : Option Value} (h : zeroOk o = true) : ∃ Z : Array Value, o = some (.agg Z) ∧ Z.size = 1602 ∧ ∀ j, j < 1602 → Z[j]? = some (.int .i64 0) := by
  unfold zeroOk at h
  split at h
  · rename_i cs
    rw [Bool.and_eq_true] at h
    obtain ⟨h1, h2⟩ := h
    have h3 : cs.toList.length = 1602 := by simpa using h2
    refine ⟨cs, rfl, by rw [← h3]; simp, fun j hj => ?_⟩
    rw [← Array.getElem?_toList, List.getElem?_eq_getElem (by rw [h3]; exact hj)]
    exact congrArg some (isZero_eq (List.all_eq_true.1 h1 _ (List.getElem_mem _)))
  · cases h
theorem zero76 : zeroOk Tryz.t185.zero = true := by kernel_rfl
/-- The cells of a new map: how many places, how many roads, no road yet. -/
structure IsMap (C : Array Value) (n k : Int) : Prop where
  size : C.size = 1602
  get0 : C[0]? = some (.int .i64 n)
  get1 : C[1]? = some (.int .i64 k)
  get : ∀ j, 2 ≤ j → j < 1602 → C[j]? = some (.int .i64 0)
theorem run_map (n k : Int) : ∃ Z : Array Value, (∀ w, (zeroValue 185).run Tryz.prog w = .ok (.agg Z) w) ∧ Z.size = 1602 ∧ ¬ Z = #[] ∧ IsMap ((Z.setIfInBounds 0 (.int .i64 n)).setIfInBounds 1 (.int .i64 k)) n k := by
  obtain ⟨Z, hz, hs, hg⟩ := zeroOk_some zero76
  refine ⟨Z, fun w => ?_, hs, ?_, ⟨by simp [hs], ?_, ?_, fun j h2 hj => ?_⟩⟩
  · have := Tryz.typeInfo185 w
    unfold zeroValue
    simp [this, hz]
  · rintro rfl; simp at hs
  · simp [hs]
  · simp [hs]
  · rw [Array.getElem?_setIfInBounds_ne (by omega), Array.getElem?_setIfInBounds_ne (by omega)]; exact hg j hj
/-- A map's block whose cells may be written. -/
structure MapFree (w : World) (b : Nat) (N R : Int) (len : Nat → Nat → Int) : Prop where
  at' : MapAt w b N R len
  free : ∀ j, w.frozen? ⟨b, j, none⟩ = false
theorem MapFree.made (w : World) {C : Array Value} {n k : Int} (h : IsMap C n k) : MapFree (w.alloc (.cells C 185)) w.heap.size n k (fun _ _ => 0) := by
  refine ⟨⟨by simp, ?_, ?_, fun i j hi hj => ?_⟩, fun j => World.frozen?_alloc_new _ _ _ _⟩
  · rw [World.cell?_alloc_new]; exact h.get0
  · rw [World.cell?_alloc_new]; exact h.get1
  · rw [World.cell?_alloc_new]; exact h.get _ (by omega) (by omega)
theorem run_mapBox (C : Array Value) (w : World) : (Instr.box 185 (.agg C)).run Tryz.prog w = .ok (.pointer (some ⟨w.heap.size, 0, none⟩)) (w.alloc (.cells C 185)) := by
  simp [Instr.box, newVar, newRow, Value.cells]
end Go.Proofs.YtdogncjcainhlaaGreatDoor
/- The walk of atlas.lay. -/
namespace Go.Proofs.YtdogncjcainhlaaGreatDoor
open Go.RowKit
open Mem

/-- The cells of block rb hold the roads. -/
structure RoadsAt (w : World) (rb : Nat) (rs : List Pu.Rd) : Prop where
  lt : rb < w.heap.size
  c0 : ∀ (k u v : Nat) (x : Int), rs[k]? = some (u, v, x) → w.cell? ⟨rb, k * 3, none⟩ = some (.int .i64 (u : Int))
  c1 : ∀ (k u v : Nat) (x : Int), rs[k]? = some (u, v, x) → w.cell? ⟨rb, k * 3 + 1, none⟩ = some (.int .i64 (v : Int))
  c2 : ∀ (k u v : Nat) (x : Int), rs[k]? = some (u, v, x) → w.cell? ⟨rb, k * 3 + 2, none⟩ = some (.int .i64 x)

theorem MapFree.turns {p : Nat → Prop} {w w' : World} {b : Nat} {N R : Int} {len : Nat → Nat → Int} (h : MapFree w b N R len) (t : Turns p w w') (hb : ¬ p b) : MapFree w' b N R len :=
  ⟨h.at'.turns t hb, fun j => (t.frozen (a := ⟨b, j, none⟩) h.at'.lt hb).trans (h.free j)⟩
theorem MapFree.drewN {w : World} {b : Nat} {N R : Int} {len : Nat → Nat → Int} (h : MapFree w b N R len) (q : Nat) : MapFree (w.drewN q) b N R len := ⟨⟨h.at'.lt, h.at'.places, h.at'.roads, h.at'.cell⟩, h.free⟩
theorem MapFree.set1 {w : World} {b : Nat} {N R : Int} {len : Nat → Nat → Int} {u v : Nat} (x : Int) (h : MapFree w b N R len) (hu : u < 40) (hv : v < 40) :
    MapFree (w.setCell ⟨b, 2 + u * 40 + v, none⟩ (.int .i64 x)) b N R (fun i j => if i = u ∧ j = v then x else len i j) := by
  refine ⟨⟨by simpa using h.at'.lt, ?_, ?_, fun i j hi hj => ?_⟩, fun j => by simpa using h.free j⟩
  · rw [World.cell?_setCell_other _ _ _ _ (by intro c; injection c with _ c; omega)]; exact h.at'.places
  · rw [World.cell?_setCell_other _ _ _ _ (by intro c; injection c with _ c; omega)]; exact h.at'.roads
  · by_cases e : i = u ∧ j = v
    · obtain ⟨rfl, rfl⟩ := e
      rw [if_pos ⟨rfl, rfl⟩]; exact World.cell?_setCell_same _ _ _ (h.at'.cell i j hi hj)
    · rw [if_neg e, World.cell?_setCell_other _ _ _ _ (by intro c; injection c with _ c; omega)]; exact h.at'.cell i j hi hj
theorem MapFree.set2 {w : World} {b : Nat} {N R : Int} {len : Nat → Nat → Int} {u v : Nat} {x : Int} (q q' : Nat) (h : MapFree w b N R len) (hu : u < 40) (hv : v < 40) :
    MapFree ((((w.drewN q).setCell ⟨b, 2 + u * 40 + v, none⟩ (.int .i64 x)).setCell ⟨b, 2 + v * 40 + u, none⟩ (.int .i64 x)).drewN q') b N R (Pu.layLen len u v x) := by
  have e : Pu.layLen len u v x = fun i j => if i = v ∧ j = u then x else (if i = u ∧ j = v then x else len i j) := by
    funext i j
    unfold Pu.layLen
    by_cases c1 : i = v ∧ j = u
    · rw [if_pos (Or.inr c1), if_pos c1]
    · by_cases c2 : i = u ∧ j = v
      · rw [if_pos (Or.inl c2), if_neg c1, if_pos c2]
      · rw [if_neg (fun c => c.elim c2 c1), if_neg c1, if_neg c2]
  rw [e]
  exact (((h.drewN q).set1 x hu hv).set1 x hv hu).drewN q'

/-- What lay hands back. -/
def LayPost (w : World) (n : Nat) (rs : List Pu.Rd) (e : Ending) (w' : World) : Prop :=
  Turns (fun _ => False) w w' ∧ match Pu.lay (fun _ _ => 0) rs 0 with
    | .inl i => e = .returned (.tuple #[.pointer none, .int .i64 3, .int .i64 ((i : Int) + 1)])
    | .inr len => e = .returned (.tuple #[.pointer (some ⟨w.heap.size, 0, none⟩), .int .i64 0, .int .i64 0]) ∧ MapAt w' w.heap.size n rs.length len

/-- What holds ahead of each round. -/
def LayInv (w : World) (n : Nat) (rs : List Pu.Rd) (v : Value) (wr : World) : Prop :=
  ∃ (k : Nat) (len : Nat → Nat → Int), v = .int .i64 k ∧ k ≤ rs.length ∧ Pu.lay len (rs.drop k) k = Pu.lay (fun _ _ => 0) rs 0 ∧ MapFree wr w.heap.size n rs.length len ∧ Turns (fun _ => False) w wr

set_option maxRecDepth 1000000 in
set_option maxHeartbeats 1000000 in
theorem lay_any (w : World) (n rb cap : Nat) (rs : List Pu.Rd) (hn : n ≤ 40) (hR : RoadsAt w rb rs) (hok : ∀ r ∈ rs, Pu.RdOk n r) (hl : rs.length ≤ 200) :
    Calls Tryz.prog 79 #[.int .i64 n, .slice (some ⟨rb, 0, none⟩) rs.length cap] w (LayPost w n rs) := by
  obtain ⟨Z, hzv, hzs, hzn, hC⟩ := run_map n rs.length
  have hzs2 : 2 ≤ Z.size := by omega
  have hF := MapFree.made w hC
  clear hC hzs
  go_enter Tryz.func79, Tryz.ntmps79
  go_wp2
  go_loopw [17] (fun v wr => LayInv w n rs v wr) (fun i _ => rs.length - (intOf i).toNat)
  case atStart => exact ⟨0, _, rfl, Nat.zero_le _, rfl, hF, (Turns.refl _ _).alloc _⟩
  case round =>
    obtain ⟨k, len, rfl, hk, hlay, hM, hT⟩ := hrel
    clear hF hzv hzs2 hzn
    by_cases hlt : k < rs.length
    · obtain ⟨u, v, x, he⟩ : ∃ (u v : Nat) (x : Int), rs[k]? = some (u, v, x) := ⟨_, _, _, List.getElem?_eq_getElem hlt⟩
      have ho := hok _ (List.mem_of_getElem? he)
      obtain ⟨ho1, ho2, ho3, ho4⟩ := ho
      simp only at ho1 ho2 ho3 ho4
      have c0 : wr.cell? ⟨rb, k * 3, none⟩ = some (.int .i64 (u : Int)) := (hT.cell (a := ⟨rb, k * 3, none⟩) hR.lt (fun x => x)).trans (hR.c0 k u v x he)
      have c1 : wr.cell? ⟨rb, k * 3 + 1, none⟩ = some (.int .i64 (v : Int)) := (hT.cell (a := ⟨rb, k * 3 + 1, none⟩) hR.lt (fun x => x)).trans (hR.c1 k u v x he)
      have c2 : wr.cell? ⟨rb, k * 3 + 2, none⟩ = some (.int .i64 x) := (hT.cell (a := ⟨rb, k * 3 + 2, none⟩) hR.lt (fun x => x)).trans (hR.c2 k u v x he)
      have hml := hM.at'.lt
      have m1 := hM.at'.cell u v (by omega) (by omega)
      have m2 := hM.at'.cell v u (by omega) (by omega)
      have f1 := hM.free (2 + u * 40 + v)
      have f2 := hM.free (2 + v * 40 + u)
      have e2 : rs.drop k = (u, v, x) :: rs.drop (k + 1) := by rw [List.drop_eq_getElem_cons hlt]; rw [List.getElem?_eq_getElem hlt] at he; simp at he; rw [he]
      by_cases hL : len u v = 0
      · have hb : (len u v != 0) = false := by simpa using hL
        rw [e2, Pu.lay_go hL] at hlay
        have HL : Hid (Pu.lay (Pu.layLen len u v x) (rs.drop (k + 1)) (k + 1) = Pu.lay (fun _ _ => 0) rs 0) := hlay
        clear hL hlay he hok hR e2
        go_wp2
        go_quiet (fail)
        go_wp2
        go_region
        go_wp2
        go_region
        go_wp2
        go_roundw
        case measure => simp [intOf]; omega
        case rel => exact ⟨k + 1, _, by go_num, by omega, HL.out, (hM.turns ((Turns.refl (fun _ => False) wr).alloc _) (fun x => x)).set2 (nq + 1) 1 (by omega) (by omega), ((((hT.alloc _).drewN (nq + 1)).setCell (Or.inl (Nat.le_refl _)) _).setCell (Or.inl (Nat.le_refl _)) _).drew⟩
      · have hb : (len u v != 0) = true := by simpa using hL
        have HP : Hid (Pu.lay (fun _ _ => 0) rs 0 = .inl k) := by
          rw [e2, Pu.lay_twice hL] at hlay; exact hlay.symm
        have hT2 := hT.size
        clear hL hlay hM he hok hR e2
        go_wp2
        go_quiet (fail)
        go_wp2
        go_ret3
        refine ⟨(hT.alloc _).drewN _, ?_⟩
        rw [HP.out]
        rfl
    · have ek : k = rs.length := by omega
      subst ek
      have HP : Hid (Pu.lay (fun _ _ => 0) rs 0 = .inr len) := by rw [List.drop_length] at hlay; exact hlay.symm
      have hA := hM.at'
      clear hM hlay hR hok
      go_wp2
      go_ret3
      refine ⟨hT, ?_⟩
      rw [HP.out]
      exact ⟨rfl, hA⟩
end Go.Proofs.YtdogncjcainhlaaGreatDoor
