/- Pack10: texts of one proof, one behind the other. -/
import Derived.Test.YtdogncjcainhlaaGreatDoorPack9
import Derived.Test.YtdogncjcainhlaaGreatDoorPack2
import Derived.Test.YtdogncjcainhlaaGreatDoorPack7
import Derived.Test.YtdogncjcainhlaaGreatDoorPack6
import Derived.Test.YtdogncjcainhlaaGreatDoorPack3
import Derived.Test.YtdogncjcainhlaaGreatDoorPack5
/- The walk of the reference's Save. -/
namespace Go.Proofs.YtdogncjcainhlaaGreatDoor
open Go.RowKit Go.Deep
open Mem

namespace Pu
theorem hubK_mem2 {D : Nat → Nat → Int} {O : List Nat} {v k : Nat} {f : Int} : ∀ m, (k, f) ∈ hubK D O v m → k < m ∧ ∃ h : Nat, O[k]? = some h ∧ f = D v h ∧ isHub D v h (O.take k) = true
  | 0, h => by simp [hubK] at h
  | m + 1, h => by
    rw [hubK, List.mem_append] at h
    rcases h with h | h
    · obtain ⟨h1, h2⟩ := hubK_mem2 m h; exact ⟨by omega, h2⟩
    · cases e : O[m]? with
      | none => rw [e] at h; simp at h
      | some y =>
        rw [e] at h
        simp only at h
        split at h
        · rename_i hb
          rw [List.mem_singleton] at h
          injection h with h1 h2
          subst h1
          exact ⟨by omega, y, e, h2, hb⟩
        · simp at h
theorem hubK_step (D : Nat → Nat → Int) (O : List Nat) (v m : Nat) : hubK D O v (m + 1) = hubK D O v m ∨ ∃ f, hubK D O v (m + 1) = hubK D O v m ++ [(m, f)] := by
  rw [hubK]
  cases e : O[m]? with
  | none => left; simp
  | some y =>
    simp only
    split
    · right; exact ⟨_, rfl⟩
    · left; simp
theorem hubK_rise (D : Nat → Nat → Int) (O : List Nat) (v : Nat) : ∀ m, nxt 0 (hubK D O v m) ≤ m ∧ ∀ (i k : Nat) (f : Int), (hubK D O v m)[i]? = some (k, f) → nxt 0 ((hubK D O v m).take i) ≤ k
  | 0 => ⟨Nat.le_refl _, fun i k f h => by simp [hubK] at h⟩
  | m + 1 => by
    obtain ⟨h1, h2⟩ := hubK_rise D O v m
    rcases hubK_step D O v m with e | ⟨f0, e⟩
    · rw [e]; exact ⟨by omega, h2⟩
    · rw [e]
      refine ⟨by rw [nxt_snoc]; exact Nat.le_refl _, fun i k f h => ?_⟩
      by_cases hi : i < (hubK D O v m).length
      · rw [List.getElem?_append_left hi] at h
        rw [List.take_append_of_le_length (by omega)]
        exact h2 i k f h
      · rw [List.getElem?_append_right (by omega)] at h
        have h0 := (List.getElem?_eq_some_iff.1 h).1
        simp at h0
        have : i = (hubK D O v m).length := by omega
        subst this
        simp at h
        rw [List.take_left, ← h.1]
        exact h1
/-- The bytes of the first i hubs of a label, with their count ahead. -/
def labT2 (l : List (Nat × Int)) (i : Nat) : List UInt8 := countB l.length ++ hubsB 0 (l.take i)
theorem labT2_zero (l : List (Nat × Int)) : labT2 l 0 = countB l.length := by simp [labT2, hubsB]
theorem labT2_all (l : List (Nat × Int)) : labT2 l l.length = labB l := by rw [labT2, List.take_length]; rfl
theorem labT2_next {l : List (Nat × Int)} {i k : Nat} {f : Int} (h : l[i]? = some (k, f)) : labT2 l (i + 1) = labT2 l i ++ countB (k - nxt 0 (l.take i)) ++ countB f.toNat ∧ nxt 0 (l.take (i + 1)) = k + 1 := by
  rw [labT2, labT2, List.take_add_one, h, Option.toList_some, hubsB_snoc, nxt_snoc]
  exact ⟨by simp [List.append_assoc], rfl⟩
theorem labT2_len (l : List (Nat × Int)) (i : Nat) : (labT2 l i).length ≤ 3 + 6 * l.length := by
  have h1 := countB_len l.length
  have h2 := hubsB_len (l.take i) 0
  rw [List.length_take] at h2
  rw [labT2, List.length_append]; omega
end Pu

/-- What the reference's Save hands back. -/
def RSavePost (w : World) (r : Pu.Res) (o : Nat → (Nat → Nat → Int) → Option (List Nat)) (e : Ending) (w' : World) : Prop := Turns (fun _ => False) w w' ∧ match r with
  | .err c p => e = .returned (.tuple #[.string ⟨#[]⟩, .int .i64 c, .int .i64 p])
  | .ok n _ len => match o n len with
    | none => e = .returned (.tuple #[.string ⟨#[]⟩, .int .i64 4, .int .i64 0])
    | some O => ∃ D : Nat → Nat → Int, Pu.Cov n len D O ∧ e = .returned (.tuple #[.string ⟨(Pu.paged (Pu.heldB O (fun v => Pu.hubK D O v n) n)).toArray⟩, .int .i64 0, .int .i64 0])

set_option maxHeartbeats 400000 in
theorem rsave_err (x s : ByteArray) (w : World) (c p : Int) (hne : (c != 0) = true)
    (k : Calls Tryz.prog 30 #[.string x, .string s] w fun e w' => Turns (fun _ => False) w w' ∧ e = .returned (.tuple #[.slice none 0 0, .slice none 0 0, .int .i64 c, .int .i64 p])) :
    Calls Tryz.prog 12 #[.string x, .string s] w fun e w' => Turns (fun _ => False) w w' ∧ e = .returned (.tuple #[.string ⟨#[]⟩, .int .i64 c, .int .i64 p]) := by
  go_enter Tryz.func12, Tryz.ntmps12
  go_wp2_with (go_at_call 30; refine k.mono ?_; rintro e w1 ⟨hT, rfl⟩)
  exact bodyPost_ret (v := .tuple #[.string ⟨#[]⟩, .int .i64 c, .int .i64 p]) (by simp [results, Tryz.results12, go_sem]) rfl ⟨‹_›, rfl⟩

theorem rcount_open (x : Int) (w : World) (h0 : 0 ≤ x) (h : x < 2097152) :
    Calls Tryz.prog 31 #[.int .i64 x] w fun e w' => e = .returned (.string ⟨(Pu.countB x.toNat).toArray⟩) ∧ Turns (fun _ => False) w w' := by
  have := rcount_any x.toNat w (by omega)
  rwa [Int.toNat_of_nonneg h0] at this
theorem count_size (n : Nat) : (⟨(Pu.countB n).toArray⟩ : ByteArray).size ≤ 3 := by rw [size_list]; exact (Pu.countB_len n).2

/-- What holds of the hubs' rows in memory. -/
def HubsIn (w1 : World) (og n : Nat) (L : Nat → List (Nat × Int)) : Prop := ∀ v, v < n → ∃ (a : Option Addr) (c : Nat), w1.cell? ⟨og, v, none⟩ = some (.slice a (L v).length c) ∧ ∀ (i k : Nat) (f : Int), (L v)[i]? = some (k, f) → ∃ g, a = some ⟨g, 0, none⟩ ∧ w1.cell? ⟨g, i * 2, none⟩ = some (.int .i64 (k : Int)) ∧ w1.cell? ⟨g, i * 2 + 1, none⟩ = some (.int .i64 f)

set_option maxRecDepth 100000 in
set_option maxHeartbeats 4000000 in
theorem rsave_ok (x s : ByteArray) (w : World) (n : Nat) (len : Nat → Nat → Int) (O : List Nat) (hn1 : 1 ≤ n) (hn : n ≤ 40)
    (k : Calls Tryz.prog 30 #[.string x, .string s] w fun e w' => Turns (fun _ => False) w w' ∧ ∃ (D : Nat → Nat → Int) (B ob ocap og oc : Nat) (hs : List Value), Pu.Cov n len D O ∧ e = .returned (.tuple #[.slice (some ⟨ob, 0, none⟩) n ocap, .slice (some ⟨og, 0, none⟩) n oc, .int .i64 0, .int .i64 0]) ∧
        Ord w' ob n O ∧ hs.length = n ∧ HubRows w' B (.slice (some ⟨og, 0, none⟩) n oc) hs (fun v => Pu.hubK D O v n)) :
    Calls Tryz.prog 12 #[.string x, .string s] w fun e w' => Turns (fun _ => False) w w' ∧ ∃ D : Nat → Nat → Int, Pu.Cov n len D O ∧ e = .returned (.tuple #[.string ⟨(Pu.paged (Pu.heldB O (fun v => Pu.hubK D O v n) n)).toArray⟩, .int .i64 0, .int .i64 0]) := by
  go_enter Tryz.func12, Tryz.ntmps12
  go_wp2_with fail
  refine k.mono ?_
  rintro e w1 ⟨hT1, D, B, ob, ocap, og, oc, hs, hC, rfl, hO, hl, hH⟩
  have HO : Hid (Ord w1 ob n O) := hO
  have HC : Hid (Pu.Cov n len D O) := hC
  have HT1 : Hid (Turns (fun _ => False) w w1) := hT1
  have HH : Hid (HubsIn w1 og n (fun v => Pu.hubK D O v n)) := by
    intro v hv
    obtain ⟨y, hy⟩ : ∃ y, hs[v]? = some y := ⟨_, List.getElem?_eq_getElem (by omega)⟩
    obtain ⟨⟨a, c, h1, h2⟩, _⟩ := hH.row v y hy
    refine ⟨a, c, ?_, h2⟩
    have hown := hH.own
    rw [hl] at hown
    rw [World.ownsRow.cellAt hown v (by omega), hy, h1]
  have HF : Hid (∀ v i k f, v < n → (Pu.hubK D O v n)[i]? = some (k, f) → k < n ∧ Pu.nxt 0 ((Pu.hubK D O v n).take i) ≤ k ∧ 0 ≤ f ∧ f ≤ 40000) := by
    intro v i k f hv hi
    obtain ⟨hk, h, h1, h2, h3⟩ := Pu.hubK_mem2 n (List.mem_of_getElem? hi)
    have hr := (Pu.hubK_rise D O v n).2 i k f hi
    have hd := hC.rng hv (hO.2 k h h1).1
    have hne := (Pu.isHub_iff.1 h3).1
    exact ⟨hk, hr, by omega, by omega⟩
  have hOn : O.length = n := hO.1
  have HLn : Hid (∀ v, (Pu.hubK D O v n).length ≤ n) := fun v => Pu.hubK_len D O v n
  have HON : Hid (O.length = n) := hOn
  obtain ⟨L, hL⟩ : ∃ L : Nat → List (Nat × Int), L = fun v => Pu.hubK D O v n := ⟨_, rfl⟩
  have HE : Hid (∀ w' S, Turns (fun _ => False) w w' → S = Pu.paged (Pu.heldB O L n) → Turns (fun _ => False) w w' ∧ ∃ D : Nat → Nat → Int, Pu.Cov n len D O ∧ Ending.returned (.tuple #[.string ⟨S.toArray⟩, .int .i64 0, .int .i64 0]) = .returned (.tuple #[.string ⟨(Pu.paged (Pu.heldB O (fun v => Pu.hubK D O v n) n)).toArray⟩, .int .i64 0, .int .i64 0])) := by
    intro w' S h1 h2
    refine ⟨h1, D, hC, ?_⟩
    rw [h2, hL]
  have HH' : Hid (HubsIn w1 og n L) := by rw [hL]; exact HH.out
  have HF' : Hid (∀ v i k f, v < n → (L v)[i]? = some (k, f) → k < n ∧ Pu.nxt 0 ((L v).take i) ≤ k ∧ 0 ≤ f ∧ f ≤ 40000) := by rw [hL]; exact HF.out
  have HLn' : Hid (∀ v, (L v).length ≤ n) := by rw [hL]; exact HLn.out
  have hcv := conv1 (n : Int) (UInt8.ofNat n) (ofNat_int (by omega))
  obtain ⟨A0, hA0⟩ : ∃ A0 : ByteArray, A0 = ⟨[UInt8.ofNat n].toArray⟩ := ⟨_, rfl⟩
  rw [← hA0] at hcv
  have HA0 : Hid (A0.data.toList = [UInt8.ofNat n]) := by rw [hA0]; rfl
  have hA0s : A0.size ≤ 1 := by rw [hA0]; exact Nat.le_refl 1
  clear k hT1 hC hO hH hl HH HF HLn hL hA0 hOn HC
  go_wp2
  go_loopw [11, 12] (fun sv iv wr => ∃ (S : ByteArray) (i : Nat), sv = .string S ∧ iv = .int .i64 i ∧ i ≤ n ∧ S.size ≤ 100 ∧ Hid (S.data.toList = 98 :: 119 :: UInt8.ofNat n :: (O.take i).map UInt8.ofNat) ∧ Turns (fun _ => False) w1 wr) (fun _ iv _ => n - (intOf iv).toNat)
  case atStart =>
    refine ⟨_, 0, rfl, rfl, Nat.zero_le _, ?_, ?_, (Turns.refl _ _).alloc _⟩
    · rw [ByteArray.size_append]
      show 2 + A0.size ≤ 100
      omega
    · show _ = _
      rw [cat_list, HA0.out]; rfl
  case round =>
    obtain ⟨S, i, rfl, rfl, hin, hSb, HS, hTr⟩ := hrel
    by_cases hii : i < n
    · have hiii : (i : Int) < (n : Int) := by omega
      obtain ⟨m, hm⟩ : ∃ m, O[i]? = some m := ⟨_, List.getElem?_eq_getElem (by have := HON.out; omega)⟩
      obtain ⟨hmn, hcm⟩ := HO.out.2 i m hm
      have hcell : wr.cell? ⟨ob, i, none⟩ = some (.int .i64 (m : Int)) := (hTr.cell (a := ⟨ob, i, none⟩) (World.block_lt_of_cell? _ _ hcm) (fun x => x)).trans hcm
      have hcvm := conv1 (m : Int) (UInt8.ofNat m) (ofNat_int (by omega))
      obtain ⟨A, hA⟩ : ∃ A : ByteArray, A = ⟨[UInt8.ofNat m].toArray⟩ := ⟨_, rfl⟩
      rw [← hA] at hcvm
      have hAs : A.size ≤ 1 := by rw [hA]; exact Nat.le_refl 1
      have hbig : (9223372036854775807 < S.size + A.size) = False := by simp; omega
      have HX : Hid (∀ w2, Turns (fun _ => False) wr w2 → ∃ (S' : ByteArray) (i' : Nat), Value.string (S ++ A) = .string S' ∧ Value.int .i64 ((i : Int) + 1) = .int .i64 i' ∧ i' ≤ n ∧ S'.size ≤ 100 ∧ Hid (S'.data.toList = 98 :: 119 :: UInt8.ofNat n :: (O.take i').map UInt8.ofNat) ∧ Turns (fun _ => False) w1 w2) := by
        intro w2 h2
        have hlist : (S ++ A).data.toList = 98 :: 119 :: UInt8.ofNat n :: (O.take (i + 1)).map UInt8.ofNat := by
          rw [cat_list, HS.out, hA, List.take_add_one, hm, Option.toList_some, List.map_append]; rfl
        refine ⟨S ++ A, i + 1, rfl, by go_num, by omega, ?_, hlist, hTr.trans h2⟩
        rw [size_list, hlist]
        simp; omega
      clear HS hTr hA hm hcm
      go_wp2
      go_roundw
      case rel => exact HX.out _ ((Turns.refl _ _).alloc _)
      case measure => simp [intOf]; omega
    · have hiii : ¬ (i : Int) < (n : Int) := by omega
      have HS0 : Hid (S.data.toList = Pu.headB O ++ Pu.sizesB L 0 ∧ S.size ≤ 43) := by
        have hON := HON.out
        have h1 : S.data.toList = Pu.headB O ++ Pu.sizesB L 0 := by
          rw [HS.out, List.take_of_length_le (by omega), Pu.headB, hON]; simp [Pu.sizesB]
        refine ⟨h1, ?_⟩
        rw [size_list, h1, List.length_append, Pu.headB_len]
        simp [Pu.sizesB]; omega
      clear HS
      go_wp2
      go_loopw [11, 13, 14] (fun sv av vv wz => ∃ (S A : ByteArray) (v : Nat) (wy : World), sv = .string S ∧ av = .string A ∧ vv = .int .i64 v ∧ v ≤ n ∧ S.size ≤ 43 + 3 * v ∧ A.size ≤ 243 * v ∧ Hid (S.data.toList = Pu.headB O ++ Pu.sizesB L v ∧ A.data.toList = Pu.labsB L v) ∧ Turns (fun _ => False) w1 wz ∧ wy = wz) (fun _ _ vv _ => n - (intOf vv).toNat)
      case atStart => exact ⟨S, ⟨#[]⟩, 0, _, rfl, rfl, rfl, Nat.zero_le _, HS0.out.2, Nat.le_refl _, ⟨HS0.out.1, rfl⟩, hTr, rfl⟩
      case round =>
        clear HS0 hTr hSb
        obtain ⟨S, A, v, wz, rfl, rfl, rfl, hvn, hSb, hAb, HSA, hTz, hwy⟩ := hrel
        subst hwy
        by_cases hvl : v < n
        · have hvi : (v : Int) < (n : Int) := by omega
          obtain ⟨a, c, hca, hrow⟩ := HH'.out v hvl
          have HR : Hid (∀ (i k : Nat) (f : Int), (L v)[i]? = some (k, f) → ∃ g, a = some ⟨g, 0, none⟩ ∧ w1.cell? ⟨g, i * 2, none⟩ = some (.int .i64 (k : Int)) ∧ w1.cell? ⟨g, i * 2 + 1, none⟩ = some (.int .i64 f)) := hrow
          have hLn := HLn'.out v
          obtain ⟨ll, hll⟩ : ∃ ll, (L v).length = ll := ⟨_, rfl⟩
          have HLL : Hid ((L v).length = ll) := hll
          rw [hll] at hca hLn
          have HCA : Hid (w1.cell? ⟨og, v, none⟩ = some (.slice a ll c)) := hca
          have hcz : wz.cell? ⟨og, v, none⟩ = some (.slice a ll c) := (hTz.cell (a := ⟨og, v, none⟩) (World.block_lt_of_cell? _ _ hca) (fun x => x)).trans hca
          have cc := rcount_any ll wz (by omega)
          obtain ⟨C0, hC0⟩ : ∃ C0 : ByteArray, C0 = ⟨(Pu.countB ll).toArray⟩ := ⟨_, rfl⟩
          rw [← hC0] at cc
          have HC0 : Hid (C0.data.toList = Pu.labT2 (L v) 0 ∧ C0.size ≤ 3) := ⟨by rw [hC0, Pu.labT2_zero, HLL.out], by rw [hC0]; exact count_size ll⟩
          have HTZ : Hid (Turns (fun _ => False) w1 wz) := hTz
          clear hrow hll hca hC0 hTz
          go_wp2_with (go_at_call 31; refine cc.mono ?_; rintro e w2 ⟨rfl, hT2⟩; have HT2 : Hid (Turns (fun _ => False) w1 w2) := HTZ.out.trans hT2; clear hT2 cc hcz)
          go_loopw [15, 16, 17] (fun lv nv iv wx => ∃ (l : ByteArray) (nx i : Nat) (wy : World), lv = .string l ∧ nv = .int .i64 nx ∧ iv = .int .i64 i ∧ i ≤ ll ∧ l.size ≤ 3 + 6 * i ∧ nx ≤ 40 ∧ Hid (l.data.toList = Pu.labT2 (L v) i ∧ nx = Pu.nxt 0 ((L v).take i)) ∧ Turns (fun _ => False) w1 wx ∧ wy = wx) (fun _ _ iv _ => ll - (intOf iv).toNat)
          case atStart => exact ⟨C0, 0, 0, _, rfl, rfl, rfl, Nat.zero_le _, HC0.out.2, by omega, ⟨HC0.out.1, rfl⟩, HT2.out, rfl⟩
          case round =>
            clear HC0 HT2
            obtain ⟨l, nx, i, w3, rfl, rfl, rfl, hil, hlb, hnx, HL, hT3, hwz⟩ := hrel
            subst hwz
            have e1 : w3.cell? ⟨og, v, none⟩ = some (.slice a ll c) := (hT3.cell (a := ⟨og, v, none⟩) (World.block_lt_of_cell? _ _ HCA.out) (fun x => x)).trans HCA.out
            by_cases hii : i < ll
            · have hiii : (i : Int) < (ll : Int) := by omega
              obtain ⟨⟨r, f⟩, hkf⟩ : ∃ y, (L v)[i]? = some y := ⟨_, List.getElem?_eq_getElem (by rw [HLL.out]; exact hii)⟩
              obtain ⟨g, hag, g1, g2⟩ := HR.out i r f hkf
              obtain ⟨hrn, hnr, hf0, hf1⟩ := HF'.out v i r f hvl hkf
              obtain ⟨hll1, hll2⟩ := Pu.labT2_next hkf
              have hnr2 : nx ≤ r := by rw [HL.out.2]; exact hnr
              have e2 := (hT3.cell (a := ⟨g, i * 2, none⟩) (World.block_lt_of_cell? _ _ g1) (fun x => x)).trans g1
              have e3 := (hT3.cell (a := ⟨g, i * 2 + 1, none⟩) (World.block_lt_of_cell? _ _ g2) (fun x => x)).trans g2
              have l1 : og < w3.heap.size := World.block_lt_of_cell? _ _ e1
              have l2 : g < w3.heap.size := World.block_lt_of_cell? _ _ e2
              obtain ⟨C1, hC1⟩ : ∃ C1 : ByteArray, C1 = ⟨(Pu.countB (r - nx)).toArray⟩ := ⟨_, rfl⟩
              obtain ⟨C2, hC2⟩ : ∃ C2 : ByteArray, C2 = ⟨(Pu.countB f.toNat).toArray⟩ := ⟨_, rfl⟩
              have hC1b : C1.size ≤ 3 := by rw [hC1]; exact count_size _
              have hC2b : C2.size ≤ 3 := by rw [hC2]; exact count_size _
              have c1 : ∀ w, Calls Tryz.prog 31 #[.int .i64 (IntKind.i64.wrap ((r : Int) - (nx : Int)))] w fun e w' => e = .returned (.string C1) ∧ Turns (fun _ => False) w w' := by
                intro w
                have := rcount_any (r - nx) w (by omega)
                rw [hC1, show IntKind.i64.wrap ((r : Int) - (nx : Int)) = ((r - nx : Nat) : Int) by rw [IntKind.wrap_i64]; omega]
                exact this
              have c2 : ∀ w, Calls Tryz.prog 31 #[.int .i64 f] w fun e w' => e = .returned (.string C2) ∧ Turns (fun _ => False) w w' := by
                intro w
                rw [hC2]
                exact rcount_open f w hf0 (by omega)
              have hb1 : (9223372036854775807 < l.size + C1.size) = False := by simp; omega
              have hb2 : (9223372036854775807 < l.size + C1.size + C2.size) = False := by simp; omega
              have HX : Hid (∀ w4, Turns (fun _ => False) w3 w4 → ∃ (l' : ByteArray) (nx' i' : Nat) (wy : World), Value.string (l ++ C1 ++ C2) = .string l' ∧ Value.int .i64 ((r : Int) + 1) = .int .i64 nx' ∧ Value.int .i64 ((i : Int) + 1) = .int .i64 i' ∧ i' ≤ ll ∧ l'.size ≤ 3 + 6 * i' ∧ nx' ≤ 40 ∧ Hid (l'.data.toList = Pu.labT2 (L v) i' ∧ nx' = Pu.nxt 0 ((L v).take i')) ∧ Turns (fun _ => False) w1 w4 ∧ wy = w4) := by
                intro w4 h4
                refine ⟨l ++ C1 ++ C2, r + 1, i + 1, w4, rfl, by go_num, by go_num, by omega, ?_, by omega, ⟨?_, hll2.symm⟩, hT3.trans h4, rfl⟩
                · rw [ByteArray.size_append, ByteArray.size_append]; omega
                · rw [cat_list, cat_list, HL.out.1, hll1, hC1, hC2, HL.out.2]
              subst hag
              clear HL hkf g1 g2 hll1 hll2 hC1 hC2 hnr hT3
              go_wp2_with fail
              go_region_held3 (fun w' => w'.cell? ⟨og, v, none⟩ = some (.slice (some ⟨g, 0, none⟩) ll c) ∧ w'.cell? ⟨g, i * 2, none⟩ = some (.int .i64 (r : Int)) ∧ w'.cell? ⟨g, i * 2 + 1, none⟩ = some (.int .i64 f)) (go_keep)
                (first
                | (go_at_call_of 31 (Value.int IntKind.i64 f); refine (c2 _).mono ?_; rintro e wa ⟨rfl, hTa⟩; have a1 : wa.cell? ⟨og, v, none⟩ = some (.slice (some ⟨g, 0, none⟩) ll c) := (hTa.cell (a := ⟨og, v, none⟩) m1 (fun x => x)).trans b1; have a2 : wa.cell? ⟨g, i * 2, none⟩ = some (.int .i64 (r : Int)) := (hTa.cell (a := ⟨g, i * 2, none⟩) m2 (fun x => x)).trans b2; have a3 : wa.cell? ⟨g, i * 2 + 1, none⟩ = some (.int .i64 f) := (hTa.cell (a := ⟨g, i * 2 + 1, none⟩) m2 (fun x => x)).trans b3)
                | (go_at_call 31; refine (c1 _).mono ?_; rintro e wb ⟨rfl, hTb⟩; have b1 : wb.cell? ⟨og, v, none⟩ = some (.slice (some ⟨g, 0, none⟩) ll c) := (hTb.cell (a := ⟨og, v, none⟩) l1 (fun x => x)).trans e1; have b2 : wb.cell? ⟨g, i * 2, none⟩ = some (.int .i64 (r : Int)) := (hTb.cell (a := ⟨g, i * 2, none⟩) l2 (fun x => x)).trans e2; have b3 : wb.cell? ⟨g, i * 2 + 1, none⟩ = some (.int .i64 f) := (hTb.cell (a := ⟨g, i * 2 + 1, none⟩) l2 (fun x => x)).trans e3; have m1 : og < wb.heap.size := Nat.lt_of_lt_of_le l1 hTb.size; have m2 : g < wb.heap.size := Nat.lt_of_lt_of_le l2 hTb.size))
              all_goals
                have HY := HX.out wa ((((Turns.refl _ w3).drew).trans hTb).trans hTa)
                have HZ : Hid (∃ (l' : ByteArray) (nx' i' : Nat) (wy : World), Value.string (l ++ C1 ++ C2) = .string l' ∧ Value.int .i64 ((r : Int) + 1) = .int .i64 nx' ∧ Value.int .i64 ((i : Int) + 1) = .int .i64 i' ∧ i' ≤ ll ∧ l'.size ≤ 3 + 6 * i' ∧ nx' ≤ 40 ∧ Hid (l'.data.toList = Pu.labT2 (L v) i' ∧ nx' = Pu.nxt 0 ((L v).take i')) ∧ Turns (fun _ => False) w1 wa ∧ wy = wa) := HY
                clear hTa hTb b1 b2 b3 m1 m2 HX HY e1 e2 e3 l1 l2 c1 c2 hb1 hb2
                go_wp2
                go_roundw
                case rel => exact HZ.out
                case measure => simp [intOf]; omega
            · have hiii : ¬ (i : Int) < (ll : Int) := by omega
              have hlB : l.data.toList = Pu.labB (L v) := by rw [HL.out.1, show i = (L v).length by rw [HLL.out]; omega, Pu.labT2_all]
              have cc := rcount_any l.size w3 (by omega)
              obtain ⟨C, hC⟩ : ∃ C : ByteArray, C = ⟨(Pu.countB l.size).toArray⟩ := ⟨_, rfl⟩
              rw [← hC] at cc
              have hCb : C.size ≤ 3 := by rw [hC]; exact count_size _
              have hb1 : (9223372036854775807 < S.size + C.size) = False := by simp; omega
              have hb2 : (9223372036854775807 < A.size + l.size) = False := by simp; omega
              have HX : Hid (∀ w4, Turns (fun _ => False) w3 w4 → ∃ (S' A' : ByteArray) (v' : Nat) (wy : World), Value.string (S ++ C) = .string S' ∧ Value.string (A ++ l) = .string A' ∧ Value.int .i64 ((v : Int) + 1) = .int .i64 v' ∧ v' ≤ n ∧ S'.size ≤ 43 + 3 * v' ∧ A'.size ≤ 243 * v' ∧ Hid (S'.data.toList = Pu.headB O ++ Pu.sizesB L v' ∧ A'.data.toList = Pu.labsB L v') ∧ Turns (fun _ => False) w1 w4 ∧ wy = w4) := by
                intro w4 h4
                refine ⟨S ++ C, A ++ l, v + 1, w4, rfl, rfl, by go_num, by omega, by rw [ByteArray.size_append]; omega, by rw [ByteArray.size_append]; omega, ⟨?_, ?_⟩, hT3.trans h4, rfl⟩
                · rw [cat_list, HSA.out.1, hC, Pu.sizesB, ← hlB, ← size_list, List.append_assoc]
                · rw [cat_list, HSA.out.2, hlB, Pu.labsB]
              clear HL hT3 hlB hC HSA
              go_wp2_with (go_at_call 31; refine cc.mono ?_; rintro e w4 ⟨rfl, hT4⟩)
              have HY := HX.out w4 hT4
              have HZ : Hid (∃ (S' A' : ByteArray) (v' : Nat) (wy : World), Value.string (S ++ C) = .string S' ∧ Value.string (A ++ l) = .string A' ∧ Value.int .i64 ((v : Int) + 1) = .int .i64 v' ∧ v' ≤ n ∧ S'.size ≤ 43 + 3 * v' ∧ A'.size ≤ 243 * v' ∧ Hid (S'.data.toList = Pu.headB O ++ Pu.sizesB L v' ∧ A'.data.toList = Pu.labsB L v') ∧ Turns (fun _ => False) w1 w4 ∧ wy = w4) := HY
              clear HX HY hT4
              go_roundw
              case rel => exact HZ.out
              case measure => simp [intOf]; omega
        · have hvi : ¬ (v : Int) < (n : Int) := by omega
          have cp := rpaged_any (S ++ A) wz (by rw [ByteArray.size_append]; omega)
          have hb1 : (9223372036854775807 < S.size + A.size) = False := by simp; omega
          have hpl : Pu.paged (S ++ A).data.toList = Pu.paged (Pu.heldB O L n) := by
            rw [cat_list, HSA.out.1, HSA.out.2, Pu.heldB, show v = n by omega]
          have HX : Hid (∀ w4, Turns (fun _ => False) wz w4 → Turns (fun _ => False) w w4 ∧ ∃ D : Nat → Nat → Int, Pu.Cov n len D O ∧ Ending.returned (.tuple #[.string ⟨(Pu.paged (S ++ A).data.toList).toArray⟩, .int .i64 0, .int .i64 0]) = .returned (.tuple #[.string ⟨(Pu.paged (Pu.heldB O (fun v => Pu.hubK D O v n) n)).toArray⟩, .int .i64 0, .int .i64 0])) :=
            fun w4 h4 => HE.out w4 _ ((HT1.out.trans hTz).trans h4) hpl
          generalize Pu.paged (S ++ A).data.toList = P at *
          clear HSA hTz hpl
          go_wp2_with (go_at_call 32; refine cp.mono ?_; rintro e w4 ⟨rfl, hT4⟩)
          exact bodyPost_ret (v := .tuple #[.string ⟨P.toArray⟩, .int .i64 0, .int .i64 0]) (by simp [results, Tryz.results12, go_sem]) rfl (HX.out _ hT4)
/-- The reference's Save, of any text by any order. -/
theorem rsave_any (x s : ByteArray) (w : World) (hx : x.size ≤ 2000000) (hs : s.size ≤ 2000000) : Calls Tryz.prog 12 #[.string x, .string s] w (RSavePost w (Pu.parse x.data.toList) (Pu.orderOf s.data.toList)) := by
  have k := rlabd_any x s w hx hs
  cases hp : Pu.parse x.data.toList with
  | err c p =>
    rw [hp] at k
    have he := Pu.parse_err hp
    exact rsave_err x s w c p (by simp; omega) k
  | ok n q len =>
    rw [hp] at k
    obtain ⟨hn1, hn2, _, _⟩ := Pu.parse_ok hp
    unfold RLabdPost at k
    unfold RSavePost
    dsimp only at k ⊢
    cases ho : Pu.orderOf s.data.toList n len with
    | none => rw [ho] at k; exact rsave_err x s w 4 0 (by decide) k
    | some O => rw [ho] at k; exact rsave_ok x s w n len O hn1 hn2 k
#print axioms rsave_any
end Go.Proofs.YtdogncjcainhlaaGreatDoor
/- A store that was saved opens, and what its labels are: no walk in it. -/
namespace Go.Proofs.YtdogncjcainhlaaGreatDoor
open Go.RowKit Go.Deep
open Mem

namespace Pu
/-- How many of the first places are nearer than so far. -/
def cntN (far : Nat → Int) (x : Int) : Nat → Nat
  | 0 => 0
  | k + 1 => cntN far x k + if 0 ≤ far k ∧ far k < x then 1 else 0
theorem cntN_le (far : Nat → Int) (x : Int) : ∀ n, cntN far x n ≤ n
  | 0 => Nat.le_refl _
  | n + 1 => by
    have := cntN_le far x n
    rw [cntN]; split <;> omega
theorem cntN_mono (far : Nat → Int) {x y : Int} (h : x ≤ y) : ∀ n, cntN far x n ≤ cntN far y n
  | 0 => Nat.le_refl _
  | n + 1 => by
    have := cntN_mono far h n
    rw [cntN, cntN]
    split
    · rw [if_pos (by omega)]; omega
    · split <;> omega
theorem cntN_step (far : Nat → Int) {i : Nat} {y : Int} (h0 : 0 ≤ far i) (h : far i < y) : ∀ n, i < n → cntN far (far i) n + 1 ≤ cntN far y n
  | 0, hi => by omega
  | n + 1, hi => by
    rw [cntN, cntN]
    by_cases e : i = n
    · subst e
      have := cntN_mono far (show far i ≤ y by omega) i
      rw [if_neg (by omega), if_pos (by omega)]; omega
    · have := cntN_step far h0 h n (by omega)
      split
      · rw [if_pos (by omega)]; omega
      · split <;> omega
theorem cntN_lt (far : Nat → Int) {i : Nat} : ∀ n, i < n → cntN far (far i) n + 1 ≤ n
  | 0, hi => by omega
  | n + 1, hi => by
    rw [cntN]
    by_cases e : i = n
    · subst e
      have := cntN_le far (far i) i
      rw [if_neg (by omega)]; omega
    · have := cntN_lt far n (show i < n by omega)
      split <;> omega
theorem Dist.few {n : Nat} {len : Nat → Nat → Int} {s : Nat} {far : Nat → Int} (L : Lens len) (d : Dist n len s far) : ∀ (k j : Nat), j < n → 0 ≤ far j → (far j).toNat ≤ k → far j ≤ 1000 * (cntN far (far j) n : Int)
  | k, j, hj, h0, hk => by
    by_cases e : j = s
    · subst e; rw [d.f0]; omega
    · obtain ⟨i, hi, h1, h2, h3⟩ := d.pre j hj e h0
      have hl := L.rng i j
      match k with
      | 0 => omega
      | k + 1 =>
        have h4 := Dist.few L d k i hi h1 (by omega)
        have h5 := cntN_step far h1 (show far i < far j by omega) n hi
        omega
/-- Nothing is farther than one road less than there are places can lead. -/
theorem Dist.most {n : Nat} {len : Nat → Nat → Int} {s : Nat} {far : Nat → Int} (L : Lens len) (d : Dist n len s far) (hn : n ≤ 40) {j : Nat} (hj : j < n) (h0 : 0 ≤ far j) : far j ≤ 39000 := by
  have h1 := Dist.few L d _ j hj h0 (Nat.le_refl _)
  have h2 := cntN_lt far n hj
  omega
theorem hubsOk_snoc {rank : Nat} : ∀ (l : List (Nat × Int)) (x : Nat), (∀ (i k : Nat) (f : Int), l[i]? = some (k, f) → nxt x (l.take i) ≤ k ∧ k < rank ∧ 1 ≤ f ∧ f ≤ 39000) → nxt x l ≤ rank → HubsOk rank x (l ++ [(rank, 0)])
  | [], x, _, h => ⟨h, rfl, rfl⟩
  | (r, f) :: t, x, h, hn => by
    have h0 := h 0 r f rfl
    have h1 : HubsOk rank (r + 1) (t ++ [(rank, 0)]) := hubsOk_snoc t (r + 1) (fun i k g hi => by have := h (i + 1) k g hi; simpa [nxt] using this) hn
    cases t with
    | nil => exact ⟨h0.1, h0.2.1, h0.2.2.1, h0.2.2.2, h1⟩
    | cons y t => exact ⟨h0.1, h0.2.1, h0.2.2.1, h0.2.2.2, h1⟩
theorem HubsOk.snoc {rank : Nat} : ∀ {l : List (Nat × Int)} {x : Nat}, HubsOk rank x l → ∃ l0, l = l0 ++ [(rank, 0)] ∧ ∀ y ∈ l0, y.1 < rank ∧ 1 ≤ y.2 ∧ y.2 ≤ 39000
  | [], _, h => h.elim
  | [(r, f)], x, ⟨_, h2, h3⟩ => ⟨[], by rw [h2, h3]; rfl, fun y hy => by simp at hy⟩
  | (r, f) :: h :: t, x, ⟨h1, h2, h3, h4, h5⟩ => by
    obtain ⟨l0, e, hl⟩ := HubsOk.snoc h5
    refine ⟨(r, f) :: l0, by rw [e]; rfl, fun y hy => ?_⟩
    rcases List.mem_cons.1 hy with rfl | hy
    · exact ⟨h2, h3, h4⟩
    · exact hl y hy
theorem HubsOk.isLab {rank v : Nat} {O : List Nat} {H : List (Nat × Int)} {x : Nat} (h : HubsOk rank x H) (hO : O[rank]? = some v) : Pu.isLab v O H = true := by
  obtain ⟨l0, e, hl⟩ := h.snoc
  rw [e, isLab_snoc]
  simp only [hO, decide_true, Bool.true_and, List.all_eq_true, Bool.and_eq_true, decide_eq_true_iff]
  exact fun y hy => (hl y hy).2
theorem hubK_stay {D : Nat → Nat → Int} {O : List Nat} {v m : Nat} (h : ∀ y, O[m]? = some y → Pu.isHub D v y (O.take m) = false) : hubK D O v (m + 1) = hubK D O v m := by
  rw [hubK]
  cases e : O[m]? with
  | none => simp
  | some y => simp [h y e]
variable {n : Nat} {len D : Nat → Nat → Int} {O : List Nat}
theorem Cov.own (C : Cov n len D O) {v r : Nat} (hv : v < n) (hr : O[r]? = some v) : ∀ k, hubK D O v (r + 1 + k) = hubK D O v r ++ [(r, 0)]
  | 0 => by
    have h1 := C.selfHub hv hr
    rw [Nat.add_zero, hubK, hr]
    simp only [h1, if_true]
    rw [(C.dist v hv).f0]
  | k + 1 => by
    rw [← Nat.add_assoc, hubK_stay, Cov.own C hv hr k]
    intro y hy
    cases e : Pu.isHub D v y (O.take (r + 1 + k)) with
    | false => rfl
    | true =>
      exfalso
      obtain ⟨h1, h2⟩ := isHub_iff.1 e
      have h3 := h2 v (mem_take.2 ⟨r, by omega, hr⟩)
      rw [lies_no] at h3
      have h0 := (C.dist v hv).f0
      exact h3 ⟨by omega, h1, by omega⟩
/-- The labels that are saved are labels. -/
theorem Cov.hubsOk (C : Cov n len D O) (hn : n ≤ 40) {v : Nat} (hv : v < n) : ∃ r, O[r]? = some v ∧ HubsOk r 0 (hubK D O v n) := by
  obtain ⟨r, hr⟩ := C.perm.at' hv
  have hrl := (List.getElem?_eq_some_iff.1 hr).1
  have hl := C.perm.len
  have e := C.own hv hr (n - (r + 1))
  rw [show r + 1 + (n - (r + 1)) = n by omega] at e
  refine ⟨r, hr, ?_⟩
  rw [e]
  obtain ⟨a1, a2⟩ := hubK_rise D O v r
  refine hubsOk_snoc _ 0 (fun i k f hi => ?_) a1
  obtain ⟨hk, h, b1, b2, b3⟩ := hubK_mem2 r (List.mem_of_getElem? hi)
  have hh := C.perm.lt h (List.mem_of_getElem? b1)
  have h5 := (isHub_iff.1 b3).1
  have h6 := C.rng hv hh
  have h7 := Dist.most C.net.lens (C.dist v hv) hn hh (by omega)
  refine ⟨a2 i k f hi, hk, ?_, by omega⟩
  by_cases c : D v h = 0
  · have e1 := C.zero hv hh c
    subst e1
    have := nodup_get C.perm.nodup b1 hr
    omega
  · omega
theorem Cov.valid (C : Cov n len D O) (hn1 : 1 ≤ n) (hn : n ≤ 40) : Valid (pad (heldB O (fun v => hubK D O v n) n)) n O (fun v => hubK D O v n) :=
  ⟨hn1, hn, C.perm.len, C.perm.lt, C.perm.nodup, fun _ hv => C.hubsOk hn hv, rfl⟩
theorem labs_split (L : Nat → List (Nat × Int)) {v : Nat} : ∀ n, v < n → ∃ r, labsB L n = labsB L v ++ (labB (L v) ++ r)
  | 0, h => by omega
  | n + 1, h => by
    by_cases e : v = n
    · subst e; exact ⟨[], by rw [labsB, List.append_nil]⟩
    · obtain ⟨r, hr⟩ := labs_split L n (show v < n by omega)
      exact ⟨r ++ labB (L n), by rw [labsB, hr]; simp [List.append_assoc]⟩
theorem sumL_labs (L : Nat → List (Nat × Int)) (n : Nat) : ∀ v, v ≤ n → sumL (((List.range n).map fun v => (labB (L v)).length).take v) = (labsB L v).length
  | 0, _ => by simp [sumL, labsB]
  | v + 1, h => by
    have e : ((List.range n).map fun v => (labB (L v)).length)[v]? = some (labB (L v)).length := by
      rw [List.getElem?_map, List.getElem?_range (by omega)]; rfl
    rw [List.take_add_one, e, Option.toList_some, sumL_snoc, sumL_labs L n v (by omega), labsB, List.length_append]
/-- What a store's bytes are read as. -/
theorem Valid.rd {s : List UInt8} {n : Nat} {O : List Nat} {L : Nat → List (Nat × Int)} (V : Valid s n O L) : ∃ Z a, rdOf s = some (O, Z, a) ∧ ∀ v, v < n → labOf ((s.take (stF a Z (v + 1))).drop (stF a Z v)) = some (L v) := by
  obtain ⟨Z, hZ⟩ : ∃ Z, Z = (List.range n).map fun v => (labB (L v)).length := ⟨_, rfl⟩
  obtain ⟨z, hz⟩ : ∃ z, z = List.replicate ((28 - (heldB O L n).length % 28) % 28) (0 : UInt8) := ⟨_, rfl⟩
  have hs : s = headB O ++ (flatB Z ++ (labsB L n ++ z)) := by
    rw [V.eq, pad, ← hz, heldB, sizesB_flat, ← hZ]; simp [List.append_assoc]
  have hol := V.len
  have h1 := V.n1
  have h40 := V.n40
  have hZl : Z.length = O.length := by rw [hZ]; simp; omega
  have hsm : Small Z := by
    intro x hx
    rw [hZ] at hx
    obtain ⟨v, hv, rfl⟩ := List.mem_map.1 hx
    have h1 := (V.rise (List.mem_range.1 hv)).2.2
    have h2 := labB_len (L v)
    omega
  have hh := hdOf_back (r := labsB L n ++ z) (O := O) (S := Z) (by omega) (by omega) V.nd (fun m hm => by have := V.lt m hm; omega) hZl hsm
  rw [← hs] at hh
  obtain ⟨a, ha⟩ : ∃ a, a = (headB O ++ flatB Z).length := ⟨_, rfl⟩
  rw [← ha] at hh
  have hst : ∀ v, v ≤ n → stF a Z v = (headB O ++ flatB Z ++ labsB L v).length := by
    intro v hv
    rw [stF, hZ, sumL_labs L n v hv, ← hZ, ha]
    exact (List.length_append).symm
  have hla : ∀ v, v < n → labOf ((s.take (stF a Z (v + 1))).drop (stF a Z v)) = some (L v) := by
    intro v hv
    obtain ⟨r, hr⟩ := labs_split L n hv
    have e1 : s = (headB O ++ flatB Z ++ labsB L v ++ labB (L v)) ++ (r ++ z) := by rw [hs, hr]; simp [List.append_assoc]
    have e2 : stF a Z (v + 1) = (headB O ++ flatB Z ++ labsB L v ++ labB (L v)).length := by
      rw [hst (v + 1) (by omega), labsB, List.append_assoc (headB O ++ flatB Z)]
    rw [e2, e1, List.take_left, hst v (by omega), List.drop_left]
    obtain ⟨b1, b2, b3⟩ := V.rise hv
    exact labOf_eq.2 ⟨rfl, b1, by omega⟩
  refine ⟨Z, a, ?_, hla⟩
  unfold rdOf
  rw [hh]
  simp only
  rw [if_pos]
  unfold areB
  rw [hol]
  have e3 : stF a Z n = (headB O ++ flatB Z ++ labsB L n).length := hst n (Nat.le_refl _)
  have e4 : s = (headB O ++ flatB Z ++ labsB L n) ++ z := by rw [hs]; simp [List.append_assoc]
  have c1 : stF a Z n ≤ s.length := by rw [e3, e4]; exact (List.prefix_append _ _).length_le
  have c2 : fillB (s.drop (stF a Z n)) = true := by
    rw [e3, e4, List.drop_left, hz]
    unfold fillB
    simp only [List.length_replicate, Bool.and_eq_true, decide_eq_true_iff, List.all_eq_true, beq_iff_eq]
    refine ⟨by omega, fun x hx => ?_⟩
    exact List.eq_of_mem_replicate hx
  have c3 : (List.range n).all (labAt s O (stF a Z)) = true := by
    rw [List.all_eq_true]
    intro v hv
    have hv := List.mem_range.1 hv
    obtain ⟨r, d1, d2⟩ := V.lab v hv
    unfold labAt
    rw [hla v hv]
    exact d2.isLab d1
  rw [c2, c3, decide_eq_true c1]
  rfl
/-- The label that is read of a place. -/
def labF (s : List UInt8) (st : Nat → Nat) (v : Nat) : List (Nat × Int) := (labOf ((s.take (st (v + 1))).drop (st v))).getD []
theorem Rise.below : ∀ {l : List (Nat × Int)} {x r : Nat} {f : Int}, Rise x (l ++ [(r, f)]) → ∀ y ∈ l, y.1 < r
  | [], _, _, _, _ => fun y hy => by simp at hy
  | (q, g) :: t, x, r, f, ⟨h1, h2, h3, h4, h5⟩ => fun y hy => by
    have low : ∀ {l : List (Nat × Int)} {x r : Nat} {f : Int}, Rise x (l ++ [(r, f)]) → x ≤ r := by
      intro l
      induction l with
      | nil => intro x r f h; exact h.1
      | cons z l ih =>
        intro x r f h
        obtain ⟨z1, z2⟩ := z
        have := ih h.2.2.2.2
        have := h.1
        omega
    rcases List.mem_cons.1 hy with rfl | hy
    · have := low h5
      simp only; omega
    · exact Rise.below h5 y hy
theorem rd_parts {s : List UInt8} {O Z : List Nat} {a : Nat} (h : rdOf s = some (O, Z, a)) : stF a Z O.length ≤ s.length ∧ (∀ v, v < O.length → labAt s O (stF a Z) v = true) ∧ fillB (s.drop (stF a Z O.length)) = true := by
  unfold rdOf at h
  split at h
  · cases h
  · split at h
    · rename_i h1
      injection h with h
      injection h with h2 h
      injection h with h3 h4
      subst h2 h3 h4
      unfold areB at h1
      rw [Bool.and_eq_true, Bool.and_eq_true, decide_eq_true_iff, List.all_eq_true] at h1
      exact ⟨h1.1.1, fun v hv => h1.1.2 v (List.mem_range.2 hv), h1.2⟩
    · cases h
theorem labAt_some {s : List UInt8} {O : List Nat} {st : Nat → Nat} {v : Nat} (h : labAt s O st v = true) : labOf ((s.take (st (v + 1))).drop (st v)) = some (labF s st v) ∧ isLab v O (labF s st v) = true := by
  unfold labAt at h
  unfold labF
  split at h
  · cases h
  · rename_i H e
    rw [e]
    exact ⟨rfl, h⟩
theorem isLab_some {v : Nat} {O : List Nat} {H : List (Nat × Int)} (h : isLab v O H = true) : ∃ H0 r, H = H0 ++ [(r, 0)] ∧ O[r]? = some v ∧ ∀ y ∈ H0, 1 ≤ y.2 ∧ y.2 ≤ 39000 := by
  have hne : H ≠ [] := by
    intro c; subst c; simp [isLab] at h
  have e := List.dropLast_concat_getLast hne
  generalize H.getLast hne = z at e
  obtain ⟨r, f⟩ := z
  rw [← e, isLab_snoc] at h
  simp only [Bool.and_eq_true, decide_eq_true_iff, List.all_eq_true] at h
  obtain ⟨⟨h1, h2⟩, h3⟩ := h
  exact ⟨H.dropLast, r, by rw [← h2]; exact e.symm, h1, h3⟩
end Pu
/-- What is known of the labels of what was read as a store. -/
theorem rd_labs {S : ByteArray} {O Z : List Nat} {a : Nat} (h : Pu.rdOf S.data.toList = some (O, Z, a)) (hs : S.size ≤ 60000) (h28 : S.size % 28 = 0) : Labs S O (Pu.stF a Z) (Pu.labF S.data.toList (Pu.stF a Z)) := by
  obtain ⟨r, n1, n40, nd, lt, _⟩ := Pu.hdOf_some (Pu.rdOf_hd h)
  obtain ⟨p1, p2, p3⟩ := Pu.rd_parts h
  have hsz : S.data.toList.length = S.size := by simp
  have hof : ∀ v, v < O.length → _ := fun v hv => Pu.labAt_some (p2 v hv)
  have hle : ∀ v, v < O.length → Pu.stF a Z (v + 1) ≤ S.size := fun v hv => by
    have := Pu.stF_mono a Z (show v + 1 ≤ O.length by omega)
    omega
  have hsn : ∀ v, v < O.length → _ := fun v hv => Pu.isLab_some (hof v hv).2
  refine ⟨n1, n40, hs, h28, fun v hv => ?_, hle, fun v hv => (hof v hv).1, fun v hv y hy => ?_, lt, fun v hv => ?_⟩
  · have h1 := (Pu.labOf_eq.1 (hof v hv).1).1
    have h2 := congrArg List.length h1
    obtain ⟨x, q, e⟩ := Pu.countB_cons (Pu.labF S.data.toList (Pu.stF a Z) v).length
    rw [List.length_drop, List.length_take, Pu.labB, e] at h2
    simp at h2
    omega
  · obtain ⟨H0, r, e, hr, _⟩ := hsn v hv
    have hrl := (List.getElem?_eq_some_iff.1 hr).1
    have h2 := (Pu.labOf_eq.1 (hof v hv).1).2.1
    rw [e] at h2 hy
    rcases List.mem_append.1 hy with hy | hy
    · have := Pu.Rise.below h2 y hy; omega
    · rw [List.mem_singleton.1 hy]; exact hrl
  · obtain ⟨H0, r, e, _⟩ := hsn v hv
    rw [e]; simp
end Go.Proofs.YtdogncjcainhlaaGreatDoor
/- Pages that are looked at, with one kept and with eight; a saved store's pages: no walk in it. -/
namespace Go.Proofs.YtdogncjcainhlaaGreatDoor
open Go.RowKit Go.Deep
open Mem

namespace Pu
theorem pageP_held (s : List UInt8) : ∀ k, 28 * k ≤ s.length → ∀ r, heldK (pageP s k ++ r) k = s.take (28 * k)
  | 0, _, _ => by simp [heldK]
  | k + 1, h, r => by
    have h1 := pageP_len s k (by omega)
    have h2 := chunk_len (s := s) (i := k) (by omega)
    have e1 : (pageP s (k + 1) ++ r).drop (32 * k) = sealB k (chunk s k) ++ r := by rw [pageP, List.append_assoc, ← h1, List.drop_left]
    have e2 : (sealB k (chunk s k) ++ r).take 28 = chunk s k := by
      rw [sealB, List.append_assoc]
      have := List.take_left (l₁ := chunk s k) (l₂ := sumB (sumN (UInt8.ofNat (k / 256) :: UInt8.ofNat (k % 256) :: chunk s k)) ++ r)
      rwa [h2] at this
    rw [heldK, e1, e2, pageP, List.append_assoc, pageP_held s k (by omega), chunk, Nat.mul_succ, List.take_add]
theorem paged_held (s : List UInt8) : heldK (paged s) ((s.length + 27) / 28) = pad s := by
  have h1 := pad_len s
  have h2 : (pad s).length / 28 = (s.length + 27) / 28 := by omega
  have := pageP_held (pad s) ((s.length + 27) / 28) (by omega) []
  rw [List.append_nil] at this
  rw [paged, h2, this, ← h1, List.take_length]
theorem paged_fw (s : List UInt8) : FW (paged s) (-1) := Or.inl ⟨rfl, fun _ hq => paged_ok (paged_q hq)⟩

/-- With one page kept, that is the last one. -/
theorem look_one {K : List Nat} (h : Keeps 1 K) (p : Nat) : lookK 1 K p = [p] := by
  unfold lookK
  match K, h with
  | [], _ => simp
  | [q], _ =>
    by_cases c : p = q
    · subst c; simp
    · simp [c]
  | a :: b :: t, h => exact absurd h.le (by simp)
theorem looks_one : ∀ (k : Nat) {K : List Nat} {r : Nat} (p : Nat), Keeps 1 K → (looks 1 (K, r) p (k + 1)).1 = [p + k]
  | 0, K, r, p, h => by rw [looks, looks, look_one h]; rfl
  | k + 1, K, r, p, h => by
    rw [looks, looks_one k (p + 1) (h.look (Nat.le_refl _) p)]
    congr 1; omega
theorem looks_ge (c : Nat) : ∀ (k : Nat) (s : List Nat × Nat) (p : Nat), s.2 ≤ (looks c s p k).2
  | 0, _, _ => Nat.le_refl _
  | k + 1, (K, r), p => by
    have h1 := looks_ge c k (lookK c K p, r + lookR K p) (p + 1)
    rw [looks]
    simp only at h1 ⊢
    omega
/-- What one page and what eight tell of the same looks. -/
structure Twin (a b : List Nat × Nat) : Prop where
  k1 : Keeps 1 a.1
  k8 : Keeps 8 b.1
  sub : ∀ p ∈ a.1, p ∈ b.1
  le : b.2 ≤ a.2
theorem Twin.looks : ∀ (k : Nat) {a b : List Nat × Nat} (p : Nat), Twin a b → Twin (looks 1 a p k) (looks 8 b p k)
  | 0, _, _, _, h => h
  | k + 1, (K, r), (M, s), p, h => by
    rw [Pu.looks, Pu.looks]
    refine Twin.looks k (p + 1) ⟨h.k1.look (Nat.le_refl _) p, h.k8.look (by omega) p, fun q hq => ?_, ?_⟩
    · have hq : q ∈ lookK 1 K p := hq
      rw [look_one h.k1] at hq
      rw [List.mem_singleton.1 hq]
      show p ∈ lookK 8 M p
      unfold lookK
      simp
    · have h1 := h.le
      have h2 := h.sub p
      simp only at h1 h2 ⊢
      unfold lookR
      by_cases c : p ∈ K
      · rw [if_pos c, if_pos (h2 c)]; omega
      · rw [if_neg c]; split <;> omega
theorem Twin.more {a a' b : List Nat × Nat} (h : Twin a b) (h1 : a'.1 = a.1) (h2 : a.2 ≤ a'.2) : Twin a' b := ⟨by rw [h1]; exact h.k1, h.k8, by rw [h1]; exact h.sub, Nat.le_trans h.le h2⟩
theorem looks_in {c P : Nat} : ∀ (k : Nat) {K : List Nat} {r : Nat} (p : Nat), p + k ≤ P → (∀ q ∈ K, q < P) → ∀ q ∈ (looks c (K, r) p k).1, q < P
  | 0, _, _, _, _, h => h
  | k + 1, K, r, p, hp, h => by
    rw [looks]
    refine looks_in k (p + 1) (by omega) (fun q hq => ?_)
    unfold lookK at hq
    rcases List.mem_append.1 hq with hq | hq
    · split at hq
      · exact h q (List.mem_of_mem_erase hq)
      · split at hq
        · exact h q (List.mem_of_mem_tail hq)
        · exact h q hq
    · rw [List.mem_singleton.1 hq]; omega
/-- With a page for each none is read twice. -/
structure Whole (P : Nat) (b : List Nat × Nat) : Prop where
  nd : b.1.Nodup
  lt : ∀ q ∈ b.1, q < P
  eq : b.2 = b.1.length
theorem Whole.looks {c P : Nat} (hc : P ≤ c) : ∀ (k : Nat) {b : List Nat × Nat} (p : Nat), p + k ≤ P → Whole P b → Whole P (looks c b p k)
  | 0, _, _, _, h => h
  | k + 1, (K, r), p, hp, h => by
    rw [Pu.looks]
    have hnd : K.Nodup := h.nd
    have hlt : ∀ q ∈ K, q < P := h.lt
    have heq : r = K.length := h.eq
    refine Whole.looks hc k (p + 1) (by omega) ?_
    by_cases c1 : p ∈ K
    · have e1 : lookK c K p = K.erase p ++ [p] := by unfold lookK; rw [if_pos c1]
      have e2 : lookR K p = 0 := by unfold lookR; rw [if_pos c1]
      rw [e1, e2]
      have hl := List.length_erase_of_mem c1
      have hpos := List.length_pos_of_mem c1
      refine ⟨?_, fun q hq => ?_, ?_⟩
      · simp only
        rw [List.nodup_append]
        refine ⟨hnd.erase p, by simp, fun x hx y hy => ?_⟩
        rw [List.mem_singleton.1 hy]
        exact ((List.Nodup.mem_erase_iff hnd).1 hx).1
      · rcases List.mem_append.1 hq with hq | hq
        · exact hlt q (List.mem_of_mem_erase hq)
        · rw [List.mem_singleton.1 hq]; omega
      · simp only [List.length_append, List.length_singleton]; omega
    · have h3 : (K ++ [p]).Nodup := by
        rw [List.nodup_append]
        refine ⟨hnd, by simp, fun x hx y hy => ?_⟩
        rw [List.mem_singleton.1 hy]
        intro e; subst e; exact c1 hx
      have h4 : ∀ q ∈ K ++ [p], q < P := fun q hq => by
        rcases List.mem_append.1 hq with hq | hq
        · exact hlt q hq
        · rw [List.mem_singleton.1 hq]; omega
      have h5 := nodup_le P _ h3 h4
      rw [List.length_append, List.length_singleton] at h5
      have e1 : lookK c K p = K ++ [p] := by unfold lookK; rw [if_neg c1, if_neg (by omega)]
      have e2 : lookR K p = 1 := by unfold lookR; rw [if_neg c1]
      rw [e1, e2]
      exact ⟨h3, h4, by simp only [List.length_append, List.length_singleton]; omega⟩
theorem Whole.most {P : Nat} {b : List Nat × Nat} (h : Whole P b) : b.2 ≤ P := by
  rw [h.eq]; exact nodup_le P _ h.nd h.lt
/-- The pages of two labels are looked at. -/
def lookF (c : Nat) (st : Nat → Nat) (s : List Nat × Nat) (u v : Nat) : List Nat × Nat := lookP c st (lookP c st s u) v
end Pu
variable {S : ByteArray} {O : List Nat} {st : Nat → Nat} {lab : Nat → List (Nat × Int)}
theorem Labs.span (L : Labs S O st lab) {v : Nat} (hv : v < O.length) : st v / 28 + ((st (v + 1) + 27) / 28 - st v / 28) ≤ S.size / 28 ∧ 1 ≤ (st (v + 1) + 27) / 28 - st v / 28 := by
  have h1 := L.lt v hv
  have h2 := L.le v hv
  have h3 := L.s28
  omega
theorem Labs.keeps (_L : Labs S O st lab) {c : Nat} (hc : 1 ≤ c) {s : List Nat × Nat} (h : Pu.Keeps c s.1) (v : Nat) : Pu.Keeps c (Pu.lookP c st s v).1 := Pu.Keeps.looks (r := s.2) hc _ _ h
theorem Labs.last (L : Labs S O st lab) {s : List Nat × Nat} (h : Pu.Keeps 1 s.1) {v : Nat} (hv : v < O.length) : (Pu.lookP 1 st s v).1 = [(st (v + 1) + 27) / 28 - 1] := by
  obtain ⟨h1, h2⟩ := L.span hv
  unfold Pu.lookP
  obtain ⟨k, hk⟩ : ∃ k, (st (v + 1) + 27) / 28 - st v / 28 = k + 1 := ⟨_, (Nat.sub_add_cancel h2).symm⟩
  rw [hk]
  have := Pu.looks_one k (K := s.1) (r := s.2) (st v / 28) h
  rw [this]
  congr 1; omega
/-- A Far of both, and one more of the one with one page. -/
theorem Labs.twin (L : Labs S O st lab) {a b : List Nat × Nat} (h : Pu.Twin a b) {u v : Nat} (_hu : u < O.length) (hv : v < O.length) : Pu.Twin (Pu.lookF 1 st (Pu.lookF 1 st a u v) u v) (Pu.lookF 8 st b u v) := by
  have h1 : Pu.Twin (Pu.lookF 1 st a u v) (Pu.lookF 8 st b u v) := Pu.Twin.looks _ _ (Pu.Twin.looks _ _ h)
  refine h1.more ?_ ?_
  · unfold Pu.lookF
    rw [L.last (L.keeps (Nat.le_refl _) (L.keeps (Nat.le_refl _) (L.keeps (Nat.le_refl _) h.k1 u) v) u) hv, L.last (L.keeps (Nat.le_refl _) h.k1 u) hv]
  · exact Nat.le_trans (Pu.looks_ge _ _ _ _) (Pu.looks_ge _ _ _ _)
theorem Labs.whole (L : Labs S O st lab) {b : List Nat × Nat} {c : Nat} (hc : S.size / 28 ≤ c) (h : Pu.Whole (S.size / 28) b) {u v : Nat} (hu : u < O.length) (hv : v < O.length) : Pu.Whole (S.size / 28) (Pu.lookF c st b u v) :=
  Pu.Whole.looks hc _ _ (L.span hv).1 (Pu.Whole.looks hc _ _ (L.span hu).1 h)
theorem Labs.most (L : Labs S O st lab) {c : Nat} {s : List Nat × Nat} {u v : Nat} (hu : u < O.length) (hv : v < O.length) : s.2 ≤ (Pu.lookF c st s u v).2 ∧ (Pu.lookF c st s u v).2 ≤ s.2 + 2 * (S.size / 28) := by
  have a1 := Pu.looks_le c ((st (u + 1) + 27) / 28 - st u / 28) s (st u / 28)
  have a2 := Pu.looks_le c ((st (v + 1) + 27) / 28 - st v / 28) (Pu.lookP c st s u) (st v / 28)
  have b1 := L.span hu
  have b2 := L.span hv
  refine ⟨Nat.le_trans (Pu.looks_ge _ _ _ _) (Pu.looks_ge _ _ _ _), ?_⟩
  unfold Pu.lookF
  unfold Pu.lookP at a2 ⊢
  omega
end Go.Proofs.YtdogncjcainhlaaGreatDoor
/- The blocks of a store, and stores side by side: no walk in it. -/
namespace Go.Proofs.YtdogncjcainhlaaGreatDoor
open Go.RowKit Go.Deep
open Mem

/-- The blocks that are a store's. -/
def Foot (b og sg : Nat) (kv : Value) (q : Nat) : Prop := q = b ∨ q = og ∨ q = sg ∨ kv.ownBlock = some q
theorem StoreAt.foot_lt {w : World} {b og oc sg sc : Nat} {O : List Nat} {st : Nat → Nat} {S : ByteArray} {c : Nat} {m : Int} {kv : Value} {K : List Nat} {r : Nat} (h : StoreAt w b og oc sg sc O st S c m kv K r) (hn : 1 ≤ O.length) {q : Nat} (hq : Foot b og sg kv q) : q < w.heap.size := by
  rcases hq with rfl | rfl | rfl | hq
  · exact h.box.lt
  · obtain ⟨m0, hm0⟩ : ∃ m, O[0]? = some m := ⟨_, List.getElem?_eq_getElem (by omega)⟩
    exact World.block_lt_of_cell? _ _ (h.ord.2 0 m0 hm0).2
  · exact World.block_lt_of_cell? _ _ (h.sts 0 (Nat.zero_le _))
  · exact (World.ownsRow.lt h.kept q hq).2
theorem StoreAt.stay {p : Nat → Prop} {w w' : World} {b og oc sg sc : Nat} {O : List Nat} {st : Nat → Nat} {S : ByteArray} {c : Nat} {m : Int} {kv : Value} {K : List Nat} {r : Nat} (h : StoreAt w b og oc sg sc O st S c m kv K r) (t : Turns p w w') (hp : ∀ q, Foot b og sg kv q → ¬ p q) : StoreAt w' b og oc sg sc O st S c m kv K r :=
  h.turns t (hp b (Or.inl rfl)) (hp og (Or.inr (Or.inl rfl))) (hp sg (Or.inr (Or.inr (Or.inl rfl)))) (fun q hq => hp q (Or.inr (Or.inr (Or.inr hq))))
theorem foot_next {b og sg n : Nat} {kv kv' : Value} (hq : ∀ q, kv'.ownBlock = some q → kv.ownBlock = some q ∨ n ≤ q) {q : Nat} (h : Foot b og sg kv' q) : Foot b og sg kv q ∨ n ≤ q := by
  rcases h with h | h | h | h
  · exact Or.inl (Or.inl h)
  · exact Or.inl (Or.inr (Or.inl h))
  · exact Or.inl (Or.inr (Or.inr (Or.inl h)))
  · rcases hq q h with h | h
    · exact Or.inl (Or.inr (Or.inr (Or.inr h)))
    · exact Or.inr h
/-- Two stores side by side, both behind all that was there. -/
structure Two (w0 w : World) (b1 og1 oc1 sg1 sc1 b2 og2 oc2 sg2 sc2 : Nat) (O : List Nat) (st : Nat → Nat) (S : ByteArray) (c1 c2 : Nat) (kv1 kv2 : Value) (A B : List Nat × Nat) : Prop where
  a : StoreAt w b1 og1 oc1 sg1 sc1 O st S c1 0 kv1 A.1 A.2
  b : StoreAt w b2 og2 oc2 sg2 sc2 O st S c2 0 kv2 B.1 B.2
  la : ∀ q, Foot b1 og1 sg1 kv1 q → w0.heap.size ≤ q
  lb : ∀ q, Foot b2 og2 sg2 kv2 q → w0.heap.size ≤ q
  ne : ∀ q, Foot b1 og1 sg1 kv1 q → ¬ Foot b2 og2 sg2 kv2 q
  t : Turns (fun _ => False) w0 w
variable {w0 w w' : World} {b1 og1 oc1 sg1 sc1 b2 og2 oc2 sg2 sc2 : Nat} {O : List Nat} {st : Nat → Nat} {S : ByteArray} {c1 c2 : Nat} {kv1 kv2 kv' : Value} {A B : List Nat × Nat}
theorem Two.swap (h : Two w0 w b1 og1 oc1 sg1 sc1 b2 og2 oc2 sg2 sc2 O st S c1 c2 kv1 kv2 A B) : Two w0 w b2 og2 oc2 sg2 sc2 b1 og1 oc1 sg1 sc1 O st S c2 c1 kv2 kv1 B A :=
  ⟨h.b, h.a, h.lb, h.la, fun q h1 h2 => h.ne q h2 h1, h.t⟩
/-- The first one went on. -/
theorem Two.next (h : Two w0 w b1 og1 oc1 sg1 sc1 b2 og2 oc2 sg2 sc2 O st S c1 c2 kv1 kv2 A B) (hn : 1 ≤ O.length) {A' : List Nat × Nat} (s : StoreAt w' b1 og1 oc1 sg1 sc1 O st S c1 0 kv' A'.1 A'.2) (hq : ∀ x, kv'.ownBlock = some x → kv1.ownBlock = some x ∨ w.heap.size ≤ x) (t : Turns (fun x => x = b1 ∨ kv1.ownBlock = some x) w w') : Two w0 w' b1 og1 oc1 sg1 sc1 b2 og2 oc2 sg2 sc2 O st S c1 c2 kv' kv2 A' B := by
  have hp : ∀ x, (x = b1 ∨ kv1.ownBlock = some x) → Foot b1 og1 sg1 kv1 x := fun x hx => hx.elim Or.inl (fun y => Or.inr (Or.inr (Or.inr y)))
  refine ⟨s, h.b.stay t (fun q h1 h2 => h.ne q (hp q h2) h1), fun q h1 => ?_, h.lb, fun q h1 h2 => ?_, ?_⟩
  · rcases foot_next hq h1 with c | c
    · exact h.la q c
    · exact Nat.le_trans h.t.size c
  · rcases foot_next hq h1 with c | c
    · exact h.ne q c h2
    · have := h.b.foot_lt hn h2; omega
  · exact h.t.join t (fun x hx _ hp2 => by have := h.la x (hp x hp2); omega)
theorem Two.next0 (h : Two w0 w b1 og1 oc1 sg1 sc1 b2 og2 oc2 sg2 sc2 O st S c1 c2 kv1 kv2 A B) (hn : 1 ≤ O.length) (s : StoreAt w' b1 og1 oc1 sg1 sc1 O st S c1 0 kv1 A.1 A.2) (t : Turns (fun x => x = b1) w w') : Two w0 w' b1 og1 oc1 sg1 sc1 b2 og2 oc2 sg2 sc2 O st S c1 c2 kv1 kv2 A B :=
  h.next hn s (fun _ hx => Or.inl hx) (t.mono (fun _ _ hx => Or.inl hx))
theorem Two.turns0 (h : Two w0 w b1 og1 oc1 sg1 sc1 b2 og2 oc2 sg2 sc2 O st S c1 c2 kv1 kv2 A B) (t : Turns (fun _ => False) w w') : Two w0 w' b1 og1 oc1 sg1 sc1 b2 og2 oc2 sg2 sc2 O st S c1 c2 kv1 kv2 A B :=
  ⟨h.a.turns0 t, h.b.turns0 t, h.la, h.lb, h.ne, h.t.trans t⟩
end Go.Proofs.YtdogncjcainhlaaGreatDoor
/- A store of the reference in memory; the pages that it keeps, as lists: no walk in it. -/
namespace Go.Proofs.YtdogncjcainhlaaGreatDoor
open Go.RowKit Go.Deep
open Mem

def RSB (w : World) (b : Nat) (o l f h : Value) (c : Int) (k : Value) (r : Int) : Prop := w.heap[b]? = some (.cells #[o, l, f, h, .int .i64 c, k, .int .i64 r] 113 (0, 0))
section
variable {w : World} {b : Nat} {o l f h k : Value} {c r : Int}
theorem RSB.lt (H : RSB w b o l f h c k r) : b < w.heap.size := lt_of_block H
theorem RSB.free (H : RSB w b o l f h c k r) (j : Nat) : w.frozen? ⟨b, j, none⟩ = false := by unfold RSB at H; simp [World.frozen?, H]
theorem RSB.c0 (H : RSB w b o l f h c k r) : w.cell? ⟨b, 0, none⟩ = some o := by unfold RSB at H; simp [World.cell?, H]
theorem RSB.c1 (H : RSB w b o l f h c k r) : w.cell? ⟨b, 1, none⟩ = some l := by unfold RSB at H; simp [World.cell?, H]
theorem RSB.c2 (H : RSB w b o l f h c k r) : w.cell? ⟨b, 2, none⟩ = some f := by unfold RSB at H; simp [World.cell?, H]
theorem RSB.c3 (H : RSB w b o l f h c k r) : w.cell? ⟨b, 3, none⟩ = some h := by unfold RSB at H; simp [World.cell?, H]
theorem RSB.c4 (H : RSB w b o l f h c k r) : w.cell? ⟨b, 4, none⟩ = some (.int .i64 c) := by unfold RSB at H; simp [World.cell?, H]
theorem RSB.c5 (H : RSB w b o l f h c k r) : w.cell? ⟨b, 5, none⟩ = some k := by unfold RSB at H; simp [World.cell?, H]
theorem RSB.c6 (H : RSB w b o l f h c k r) : w.cell? ⟨b, 6, none⟩ = some (.int .i64 r) := by unfold RSB at H; simp [World.cell?, H]
theorem RSB.turns {p : Nat → Prop} {w' : World} (H : RSB w b o l f h c k r) (t : Turns p w w') (hp : ¬ p b) : RSB w' b o l f h c k r := (t.block b H.lt hp).trans H
theorem RSB.set0 (H : RSB w b o l f h c k r) (x : Value) : RSB (w.setCell ⟨b, 0, none⟩ x) b x l f h c k r := Mem.heap_setCell_same H _
theorem RSB.set1 (H : RSB w b o l f h c k r) (x : Value) : RSB (w.setCell ⟨b, 1, none⟩ x) b o x f h c k r := Mem.heap_setCell_same H _
theorem RSB.set2 (H : RSB w b o l f h c k r) (x : Value) : RSB (w.setCell ⟨b, 2, none⟩ x) b o l x h c k r := Mem.heap_setCell_same H _
theorem RSB.set3 (H : RSB w b o l f h c k r) (x : Value) : RSB (w.setCell ⟨b, 3, none⟩ x) b o l f x c k r := Mem.heap_setCell_same H _
theorem RSB.set4 (H : RSB w b o l f h c k r) (x : Int) : RSB (w.setCell ⟨b, 4, none⟩ (.int .i64 x)) b o l f h x k r := Mem.heap_setCell_same H _
theorem RSB.set5 (H : RSB w b o l f h c k r) (x : Value) : RSB (w.setCell ⟨b, 5, none⟩ x) b o l f h c x r := Mem.heap_setCell_same H _
theorem RSB.set6 (H : RSB w b o l f h c k r) (x : Int) : RSB (w.setCell ⟨b, 6, none⟩ (.int .i64 x)) b o l f h c k x := Mem.heap_setCell_same H _
end
/-- A store of the reference: its blocks lie between s0 and s1, but for the row of the pages that are kept, which lies behind them. -/
structure RSt (w : World) (s0 s1 b og oc lg lc fg fc hg hc : Nat) (O : List Nat) (lab : Nat → List (Nat × Int)) (st : Nat → Nat) (c : Nat) (kv : Value) (K : List Nat) (r : Nat) : Prop where
  box : RSB w b (.slice (some ⟨og, 0, none⟩) O.length oc) (.slice (some ⟨lg, 0, none⟩) O.length lc) (.slice (some ⟨fg, 0, none⟩) O.length fc) (.slice (some ⟨hg, 0, none⟩) O.length hc) c kv r
  ord : Ord w og O.length O
  labs : ∀ v, v < O.length → ∃ g cap, w.cell? ⟨lg, v, none⟩ = some (.slice (some ⟨g, 0, none⟩) (lab v).length cap) ∧ HubAt w (some ⟨g, 0, none⟩) (lab v) ∧ s0 ≤ g ∧ g < s1 ∧ g ≠ b
  fst : ∀ v, v < O.length → w.cell? ⟨fg, v, none⟩ = some (.int .i64 ((st v / 28 : Nat) : Int))
  lst : ∀ v, v < O.length → w.cell? ⟨hg, v, none⟩ = some (.int .i64 (((st (v + 1) - 1) / 28 : Nat) : Int))
  kept : w.ownsRow s1 3 1 kv K.length (natV K)
  rng : ∀ q, q = b ∨ q = og ∨ q = lg ∨ q = fg ∨ q = hg → s0 ≤ q ∧ q < s1
  ne : ∀ q, q = og ∨ q = lg ∨ q = fg ∨ q = hg → q ≠ b
theorem RSt.turns {p : Nat → Prop} {w w' : World} {s0 s1 b og oc lg lc fg fc hg hc : Nat} {O : List Nat} {lab : Nat → List (Nat × Int)} {st : Nat → Nat} {c : Nat} {kv : Value} {K : List Nat} {r : Nat} (h : RSt w s0 s1 b og oc lg lc fg fc hg hc O lab st c kv K r) (t : Turns p w w') (hp : ∀ q, s0 ≤ q → q < s1 → ¬ p q) (hk : ∀ q, kv.ownBlock = some q → ¬ p q) : RSt w' s0 s1 b og oc lg lc fg fc hg hc O lab st c kv K r := by
  have hf : ∀ q, q = b ∨ q = og ∨ q = lg ∨ q = fg ∨ q = hg → ¬ p q := fun q hq => hp q (h.rng q hq).1 (h.rng q hq).2
  refine ⟨h.box.turns t (hf b (Or.inl rfl)), h.ord.turns_p t (hf og (by simp)), fun v hv => ?_, fun v hv => ?_, fun v hv => ?_, owns_turns_p h.kept t hk, h.rng, h.ne⟩
  · obtain ⟨g, cap, h1, h2, h3, h4, h5⟩ := h.labs v hv
    refine ⟨g, cap, (t.cell (a := ⟨lg, v, none⟩) (World.block_lt_of_cell? _ _ h1) (hf lg (by simp))).trans h1, ?_, h3, h4, h5⟩
    intro i r f hi
    obtain ⟨g', e1, e2, e3⟩ := h2 i r f hi
    injection e1 with e1
    injection e1 with e1
    subst e1
    exact ⟨g, rfl, (t.cell (a := ⟨g, i * 2, none⟩) (World.block_lt_of_cell? _ _ e2) (hp g h3 h4)).trans e2, (t.cell (a := ⟨g, i * 2 + 1, none⟩) (World.block_lt_of_cell? _ _ e3) (hp g h3 h4)).trans e3⟩
  · exact (t.cell (a := ⟨fg, v, none⟩) (World.block_lt_of_cell? _ _ (h.fst v hv)) (hf fg (by simp))).trans (h.fst v hv)
  · exact (t.cell (a := ⟨hg, v, none⟩) (World.block_lt_of_cell? _ _ (h.lst v hv)) (hf hg (by simp))).trans (h.lst v hv)
/-- The box and the pages that are kept went on, nothing else. -/
theorem RSt.next {w w' : World} {s0 s1 b og oc lg lc fg fc hg hc : Nat} {O : List Nat} {lab : Nat → List (Nat × Int)} {st : Nat → Nat} {c : Nat} {kv kv' : Value} {K K' : List Nat} {r r' : Nat} (h : RSt w s0 s1 b og oc lg lc fg fc hg hc O lab st c kv K r) (t : Turns (fun q => q = b ∨ s1 ≤ q) w w') (hb : RSB w' b (.slice (some ⟨og, 0, none⟩) O.length oc) (.slice (some ⟨lg, 0, none⟩) O.length lc) (.slice (some ⟨fg, 0, none⟩) O.length fc) (.slice (some ⟨hg, 0, none⟩) O.length hc) c kv' r') (hk : w'.ownsRow s1 3 1 kv' K'.length (natV K')) : RSt w' s0 s1 b og oc lg lc fg fc hg hc O lab st c kv' K' r' := by
  have hf : ∀ q, q = og ∨ q = lg ∨ q = fg ∨ q = hg → ¬ (q = b ∨ s1 ≤ q) := fun q hq c => by
    have h1 := h.rng q (Or.inr hq)
    have h2 := h.ne q hq
    omega
  refine ⟨hb, h.ord.turns_p t (hf og (by simp)), fun v hv => ?_, fun v hv => ?_, fun v hv => ?_, hk, h.rng, h.ne⟩
  · obtain ⟨g, cap, h1, h2, h3, h4, h5⟩ := h.labs v hv
    refine ⟨g, cap, (t.cell (a := ⟨lg, v, none⟩) (World.block_lt_of_cell? _ _ h1) (hf lg (by simp))).trans h1, ?_, h3, h4, h5⟩
    intro i r f hi
    obtain ⟨g', e1, e2, e3⟩ := h2 i r f hi
    injection e1 with e1
    injection e1 with e1
    subst e1
    have hg : ¬ (g = b ∨ s1 ≤ g) := by omega
    exact ⟨g, rfl, (t.cell (a := ⟨g, i * 2, none⟩) (World.block_lt_of_cell? _ _ e2) hg).trans e2, (t.cell (a := ⟨g, i * 2 + 1, none⟩) (World.block_lt_of_cell? _ _ e3) hg).trans e3⟩
  · exact (t.cell (a := ⟨fg, v, none⟩) (World.block_lt_of_cell? _ _ (h.fst v hv)) (hf fg (by simp))).trans (h.fst v hv)
  · exact (t.cell (a := ⟨hg, v, none⟩) (World.block_lt_of_cell? _ _ (h.lst v hv)) (hf hg (by simp))).trans (h.lst v hv)
namespace Pu
/-- The last of the first places at which a page is kept; -1: it is not. -/
def atN (K : List Nat) (p : Nat) : Nat → Int
  | 0 => -1
  | i + 1 => if K[i]? = some p then (i : Int) else atN K p i
/-- The first pages but one. -/
def skp (K : List Nat) (a : Int) : Nat → List Nat
  | 0 => []
  | i + 1 => skp K a i ++ (if (i : Int) = a then [] else (K[i]?).toList)
theorem atN_no {K : List Nat} {p : Nat} (h : p ∉ K) : ∀ i, atN K p i = -1
  | 0 => rfl
  | i + 1 => by
    rw [atN, if_neg (fun c => h (List.mem_of_getElem? c)), atN_no h i]
theorem atN_yes {K : List Nat} {p j : Nat} (hnd : K.Nodup) (hj : K[j]? = some p) : ∀ i, j < i → i ≤ K.length → atN K p i = (j : Int)
  | 0, h, _ => by omega
  | i + 1, h, hi => by
    rw [atN]
    by_cases e : j = i
    · subst e; rw [if_pos hj]
    · rw [if_neg (fun c => ?_), atN_yes hnd hj i (by omega) (by omega)]
      obtain ⟨h1, h2⟩ := List.getElem?_eq_some_iff.1 hj
      obtain ⟨h3, h4⟩ := List.getElem?_eq_some_iff.1 c
      have := (List.pairwise_iff_getElem.1 hnd) j i h1 h3 (by omega)
      exact this (by rw [h2, h4])
theorem skp_none {K : List Nat} : ∀ i, i ≤ K.length → skp K (-1) i = K.take i
  | 0, _ => by simp [skp]
  | i + 1, h => by
    rw [skp, skp_none i (by omega), if_neg (by omega), List.take_add_one]
theorem skp_idx {K : List Nat} {j : Nat} : ∀ i, i ≤ K.length → skp K (j : Int) i = (K.take i).eraseIdx j
  | 0, _ => by simp [skp]
  | i + 1, h => by
    rw [skp, skp_idx i (by omega), List.take_add_one]
    have hl : (K.take i).length = i := by rw [List.length_take]; omega
    obtain ⟨x, hx⟩ : ∃ x, K[i]? = some x := ⟨_, List.getElem?_eq_getElem (by omega)⟩
    rw [hx, Option.toList_some]
    by_cases e : i = j
    · subst e
      rw [if_pos rfl, List.append_nil, List.eraseIdx_of_length_le (by omega)]
      rw [List.eraseIdx_append_of_length_le (by omega), hl, Nat.sub_self]
      simp
    · rw [if_neg (by omega)]
      by_cases c : j < i
      · rw [List.eraseIdx_append_of_lt_length (by omega)]
      · rw [List.eraseIdx_of_length_le (by omega), List.eraseIdx_of_length_le (by simp; omega)]
end Pu
end Go.Proofs.YtdogncjcainhlaaGreatDoor
