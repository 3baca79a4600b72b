/- The walk of the reference's Save. -/
import Derived.Test.YtdogncjcainhlaaGreatDoorRLabd
import Derived.Test.YtdogncjcainhlaaGreatDoorRPage
namespace Go.Proofs.YtdogncjcainhlaaGreatDoor
open Go.RowKit Go.Deep
open Mem

namespace Pu
theorem hubK_mem2 {D : Nat → Nat → Int} {O : List Nat} {v k : Nat} {f : Int} : ∀ m, (k, f) ∈ hubK D O v m → k < m ∧ ∃ h : Nat, O[k]? = some h ∧ f = D v h ∧ isHub D v h (O.take k) = true
  | 0, h => by simp [hubK] at h
  | m + 1, h => by
    rw [hubK, List.mem_append] at h
    rcases h with h | h
    · obtain ⟨h1, h2⟩ := hubK_mem2 m h; exact ⟨by omega, h2⟩
    · cases e : O[m]? with
      | none => rw [e] at h; simp at h
      | some y =>
        rw [e] at h
        simp only at h
        split at h
        · rename_i hb
          rw [List.mem_singleton] at h
          injection h with h1 h2
          subst h1
          exact ⟨by omega, y, e, h2, hb⟩
        · simp at h
theorem hubK_step (D : Nat → Nat → Int) (O : List Nat) (v m : Nat) : hubK D O v (m + 1) = hubK D O v m ∨ ∃ f, hubK D O v (m + 1) = hubK D O v m ++ [(m, f)] := by
  rw [hubK]
  cases e : O[m]? with
  | none => left; simp
  | some y =>
    simp only
    split
    · right; exact ⟨_, rfl⟩
    · left; simp
theorem hubK_rise (D : Nat → Nat → Int) (O : List Nat) (v : Nat) : ∀ m, nxt 0 (hubK D O v m) ≤ m ∧ ∀ (i k : Nat) (f : Int), (hubK D O v m)[i]? = some (k, f) → nxt 0 ((hubK D O v m).take i) ≤ k
  | 0 => ⟨Nat.le_refl _, fun i k f h => by simp [hubK] at h⟩
  | m + 1 => by
    obtain ⟨h1, h2⟩ := hubK_rise D O v m
    rcases hubK_step D O v m with e | ⟨f0, e⟩
    · rw [e]; exact ⟨by omega, h2⟩
    · rw [e]
      refine ⟨by rw [nxt_snoc]; exact Nat.le_refl _, fun i k f h => ?_⟩
      by_cases hi : i < (hubK D O v m).length
      · rw [List.getElem?_append_left hi] at h
        rw [List.take_append_of_le_length (by omega)]
        exact h2 i k f h
      · rw [List.getElem?_append_right (by omega)] at h
        have h0 := (List.getElem?_eq_some_iff.1 h).1
        simp at h0
        have : i = (hubK D O v m).length := by omega
        subst this
        simp at h
        rw [List.take_left, ← h.1]
        exact h1
/-- The bytes of the first i hubs of a label, with their count ahead. -/
def labT2 (l : List (Nat × Int)) (i : Nat) : List UInt8 := countB l.length ++ hubsB 0 (l.take i)
theorem labT2_zero (l : List (Nat × Int)) : labT2 l 0 = countB l.length := by simp [labT2, hubsB]
theorem labT2_all (l : List (Nat × Int)) : labT2 l l.length = labB l := by rw [labT2, List.take_length]; rfl
theorem labT2_next {l : List (Nat × Int)} {i k : Nat} {f : Int} (h : l[i]? = some (k, f)) : labT2 l (i + 1) = labT2 l i ++ countB (k - nxt 0 (l.take i)) ++ countB f.toNat ∧ nxt 0 (l.take (i + 1)) = k + 1 := by
  rw [labT2, labT2, List.take_add_one, h, Option.toList_some, hubsB_snoc, nxt_snoc]
  exact ⟨by simp [List.append_assoc], rfl⟩
theorem labT2_len (l : List (Nat × Int)) (i : Nat) : (labT2 l i).length ≤ 3 + 6 * l.length := by
  have h1 := countB_len l.length
  have h2 := hubsB_len (l.take i) 0
  rw [List.length_take] at h2
  rw [labT2, List.length_append]; omega
end Pu

/-- What the reference's Save hands back. -/
def RSavePost (w : World) (r : Pu.Res) (o : Nat → (Nat → Nat → Int) → Option (List Nat)) (e : Ending) (w' : World) : Prop := Turns (fun _ => False) w w' ∧ match r with
  | .err c p => e = .returned (.tuple #[.string ⟨#[]⟩, .int .i64 c, .int .i64 p])
  | .ok n _ len => match o n len with
    | none => e = .returned (.tuple #[.string ⟨#[]⟩, .int .i64 4, .int .i64 0])
    | some O => ∃ D : Nat → Nat → Int, Pu.Cov n len D O ∧ e = .returned (.tuple #[.string ⟨(Pu.paged (Pu.heldB O (fun v => Pu.hubK D O v n) n)).toArray⟩, .int .i64 0, .int .i64 0])

set_option maxHeartbeats 400000 in
theorem rsave_err (x s : ByteArray) (w : World) (c p : Int) (hne : (c != 0) = true)
    (k : Calls Tryz.prog 30 #[.string x, .string s] w fun e w' => Turns (fun _ => False) w w' ∧ e = .returned (.tuple #[.slice none 0 0, .slice none 0 0, .int .i64 c, .int .i64 p])) :
    Calls Tryz.prog 12 #[.string x, .string s] w fun e w' => Turns (fun _ => False) w w' ∧ e = .returned (.tuple #[.string ⟨#[]⟩, .int .i64 c, .int .i64 p]) := by
  go_enter Tryz.func12, Tryz.ntmps12
  go_wp2_with (go_at_call 30; refine k.mono ?_; rintro e w1 ⟨hT, rfl⟩)
  exact bodyPost_ret (v := .tuple #[.string ⟨#[]⟩, .int .i64 c, .int .i64 p]) (by simp [results, Tryz.results12, go_sem]) rfl ⟨‹_›, rfl⟩

theorem rcount_open (x : Int) (w : World) (h0 : 0 ≤ x) (h : x < 2097152) :
    Calls Tryz.prog 31 #[.int .i64 x] w fun e w' => e = .returned (.string ⟨(Pu.countB x.toNat).toArray⟩) ∧ Turns (fun _ => False) w w' := by
  have := rcount_any x.toNat w (by omega)
  rwa [Int.toNat_of_nonneg h0] at this
theorem count_size (n : Nat) : (⟨(Pu.countB n).toArray⟩ : ByteArray).size ≤ 3 := by rw [size_list]; exact (Pu.countB_len n).2

/-- What holds of the hubs' rows in memory. -/
def HubsIn (w1 : World) (og n : Nat) (L : Nat → List (Nat × Int)) : Prop := ∀ v, v < n → ∃ (a : Option Addr) (c : Nat), w1.cell? ⟨og, v, none⟩ = some (.slice a (L v).length c) ∧ ∀ (i k : Nat) (f : Int), (L v)[i]? = some (k, f) → ∃ g, a = some ⟨g, 0, none⟩ ∧ w1.cell? ⟨g, i * 2, none⟩ = some (.int .i64 (k : Int)) ∧ w1.cell? ⟨g, i * 2 + 1, none⟩ = some (.int .i64 f)

set_option maxRecDepth 100000 in
set_option maxHeartbeats 4000000 in
theorem rsave_ok (x s : ByteArray) (w : World) (n : Nat) (len : Nat → Nat → Int) (O : List Nat) (hn1 : 1 ≤ n) (hn : n ≤ 40)
    (k : Calls Tryz.prog 30 #[.string x, .string s] w fun e w' => Turns (fun _ => False) w w' ∧ ∃ (D : Nat → Nat → Int) (B ob ocap og oc : Nat) (hs : List Value), Pu.Cov n len D O ∧ e = .returned (.tuple #[.slice (some ⟨ob, 0, none⟩) n ocap, .slice (some ⟨og, 0, none⟩) n oc, .int .i64 0, .int .i64 0]) ∧
        Ord w' ob n O ∧ hs.length = n ∧ HubRows w' B (.slice (some ⟨og, 0, none⟩) n oc) hs (fun v => Pu.hubK D O v n)) :
    Calls Tryz.prog 12 #[.string x, .string s] w fun e w' => Turns (fun _ => False) w w' ∧ ∃ D : Nat → Nat → Int, Pu.Cov n len D O ∧ e = .returned (.tuple #[.string ⟨(Pu.paged (Pu.heldB O (fun v => Pu.hubK D O v n) n)).toArray⟩, .int .i64 0, .int .i64 0]) := by
  go_enter Tryz.func12, Tryz.ntmps12
  go_wp2_with fail
  refine k.mono ?_
  rintro e w1 ⟨hT1, D, B, ob, ocap, og, oc, hs, hC, rfl, hO, hl, hH⟩
  have HO : Hid (Ord w1 ob n O) := hO
  have HC : Hid (Pu.Cov n len D O) := hC
  have HT1 : Hid (Turns (fun _ => False) w w1) := hT1
  have HH : Hid (HubsIn w1 og n (fun v => Pu.hubK D O v n)) := by
    intro v hv
    obtain ⟨y, hy⟩ : ∃ y, hs[v]? = some y := ⟨_, List.getElem?_eq_getElem (by omega)⟩
    obtain ⟨⟨a, c, h1, h2⟩, _⟩ := hH.row v y hy
    refine ⟨a, c, ?_, h2⟩
    have hown := hH.own
    rw [hl] at hown
    rw [World.ownsRow.cellAt hown v (by omega), hy, h1]
  have HF : Hid (∀ v i k f, v < n → (Pu.hubK D O v n)[i]? = some (k, f) → k < n ∧ Pu.nxt 0 ((Pu.hubK D O v n).take i) ≤ k ∧ 0 ≤ f ∧ f ≤ 40000) := by
    intro v i k f hv hi
    obtain ⟨hk, h, h1, h2, h3⟩ := Pu.hubK_mem2 n (List.mem_of_getElem? hi)
    have hr := (Pu.hubK_rise D O v n).2 i k f hi
    have hd := hC.rng hv (hO.2 k h h1).1
    have hne := (Pu.isHub_iff.1 h3).1
    exact ⟨hk, hr, by omega, by omega⟩
  have hOn : O.length = n := hO.1
  have HLn : Hid (∀ v, (Pu.hubK D O v n).length ≤ n) := fun v => Pu.hubK_len D O v n
  have HON : Hid (O.length = n) := hOn
  obtain ⟨L, hL⟩ : ∃ L : Nat → List (Nat × Int), L = fun v => Pu.hubK D O v n := ⟨_, rfl⟩
  have HE : Hid (∀ w' S, Turns (fun _ => False) w w' → S = Pu.paged (Pu.heldB O L n) → Turns (fun _ => False) w w' ∧ ∃ D : Nat → Nat → Int, Pu.Cov n len D O ∧ Ending.returned (.tuple #[.string ⟨S.toArray⟩, .int .i64 0, .int .i64 0]) = .returned (.tuple #[.string ⟨(Pu.paged (Pu.heldB O (fun v => Pu.hubK D O v n) n)).toArray⟩, .int .i64 0, .int .i64 0])) := by
    intro w' S h1 h2
    refine ⟨h1, D, hC, ?_⟩
    rw [h2, hL]
  have HH' : Hid (HubsIn w1 og n L) := by rw [hL]; exact HH.out
  have HF' : Hid (∀ v i k f, v < n → (L v)[i]? = some (k, f) → k < n ∧ Pu.nxt 0 ((L v).take i) ≤ k ∧ 0 ≤ f ∧ f ≤ 40000) := by rw [hL]; exact HF.out
  have HLn' : Hid (∀ v, (L v).length ≤ n) := by rw [hL]; exact HLn.out
  have hcv := conv1 (n : Int) (UInt8.ofNat n) (ofNat_int (by omega))
  obtain ⟨A0, hA0⟩ : ∃ A0 : ByteArray, A0 = ⟨[UInt8.ofNat n].toArray⟩ := ⟨_, rfl⟩
  rw [← hA0] at hcv
  have HA0 : Hid (A0.data.toList = [UInt8.ofNat n]) := by rw [hA0]; rfl
  have hA0s : A0.size ≤ 1 := by rw [hA0]; exact Nat.le_refl 1
  clear k hT1 hC hO hH hl HH HF HLn hL hA0 hOn HC
  go_wp2
  go_loopw [11, 12] (fun sv iv wr => ∃ (S : ByteArray) (i : Nat), sv = .string S ∧ iv = .int .i64 i ∧ i ≤ n ∧ S.size ≤ 100 ∧ Hid (S.data.toList = 98 :: 119 :: UInt8.ofNat n :: (O.take i).map UInt8.ofNat) ∧ Turns (fun _ => False) w1 wr) (fun _ iv _ => n - (intOf iv).toNat)
  case atStart =>
    refine ⟨_, 0, rfl, rfl, Nat.zero_le _, ?_, ?_, (Turns.refl _ _).alloc _⟩
    · rw [ByteArray.size_append]
      show 2 + A0.size ≤ 100
      omega
    · show _ = _
      rw [cat_list, HA0.out]; rfl
  case round =>
    obtain ⟨S, i, rfl, rfl, hin, hSb, HS, hTr⟩ := hrel
    by_cases hii : i < n
    · have hiii : (i : Int) < (n : Int) := by omega
      obtain ⟨m, hm⟩ : ∃ m, O[i]? = some m := ⟨_, List.getElem?_eq_getElem (by have := HON.out; omega)⟩
      obtain ⟨hmn, hcm⟩ := HO.out.2 i m hm
      have hcell : wr.cell? ⟨ob, i, none⟩ = some (.int .i64 (m : Int)) := (hTr.cell (a := ⟨ob, i, none⟩) (World.block_lt_of_cell? _ _ hcm) (fun x => x)).trans hcm
      have hcvm := conv1 (m : Int) (UInt8.ofNat m) (ofNat_int (by omega))
      obtain ⟨A, hA⟩ : ∃ A : ByteArray, A = ⟨[UInt8.ofNat m].toArray⟩ := ⟨_, rfl⟩
      rw [← hA] at hcvm
      have hAs : A.size ≤ 1 := by rw [hA]; exact Nat.le_refl 1
      have hbig : (9223372036854775807 < S.size + A.size) = False := by simp; omega
      have HX : Hid (∀ w2, Turns (fun _ => False) wr w2 → ∃ (S' : ByteArray) (i' : Nat), Value.string (S ++ A) = .string S' ∧ Value.int .i64 ((i : Int) + 1) = .int .i64 i' ∧ i' ≤ n ∧ S'.size ≤ 100 ∧ Hid (S'.data.toList = 98 :: 119 :: UInt8.ofNat n :: (O.take i').map UInt8.ofNat) ∧ Turns (fun _ => False) w1 w2) := by
        intro w2 h2
        have hlist : (S ++ A).data.toList = 98 :: 119 :: UInt8.ofNat n :: (O.take (i + 1)).map UInt8.ofNat := by
          rw [cat_list, HS.out, hA, List.take_add_one, hm, Option.toList_some, List.map_append]; rfl
        refine ⟨S ++ A, i + 1, rfl, by go_num, by omega, ?_, hlist, hTr.trans h2⟩
        rw [size_list, hlist]
        simp; omega
      clear HS hTr hA hm hcm
      go_wp2
      go_roundw
      case rel => exact HX.out _ ((Turns.refl _ _).alloc _)
      case measure => simp [intOf]; omega
    · have hiii : ¬ (i : Int) < (n : Int) := by omega
      have HS0 : Hid (S.data.toList = Pu.headB O ++ Pu.sizesB L 0 ∧ S.size ≤ 43) := by
        have hON := HON.out
        have h1 : S.data.toList = Pu.headB O ++ Pu.sizesB L 0 := by
          rw [HS.out, List.take_of_length_le (by omega), Pu.headB, hON]; simp [Pu.sizesB]
        refine ⟨h1, ?_⟩
        rw [size_list, h1, List.length_append, Pu.headB_len]
        simp [Pu.sizesB]; omega
      clear HS
      go_wp2
      go_loopw [11, 13, 14] (fun sv av vv wz => ∃ (S A : ByteArray) (v : Nat) (wy : World), sv = .string S ∧ av = .string A ∧ vv = .int .i64 v ∧ v ≤ n ∧ S.size ≤ 43 + 3 * v ∧ A.size ≤ 243 * v ∧ Hid (S.data.toList = Pu.headB O ++ Pu.sizesB L v ∧ A.data.toList = Pu.labsB L v) ∧ Turns (fun _ => False) w1 wz ∧ wy = wz) (fun _ _ vv _ => n - (intOf vv).toNat)
      case atStart => exact ⟨S, ⟨#[]⟩, 0, _, rfl, rfl, rfl, Nat.zero_le _, HS0.out.2, Nat.le_refl _, ⟨HS0.out.1, rfl⟩, hTr, rfl⟩
      case round =>
        clear HS0 hTr hSb
        obtain ⟨S, A, v, wz, rfl, rfl, rfl, hvn, hSb, hAb, HSA, hTz, hwy⟩ := hrel
        subst hwy
        by_cases hvl : v < n
        · have hvi : (v : Int) < (n : Int) := by omega
          obtain ⟨a, c, hca, hrow⟩ := HH'.out v hvl
          have HR : Hid (∀ (i k : Nat) (f : Int), (L v)[i]? = some (k, f) → ∃ g, a = some ⟨g, 0, none⟩ ∧ w1.cell? ⟨g, i * 2, none⟩ = some (.int .i64 (k : Int)) ∧ w1.cell? ⟨g, i * 2 + 1, none⟩ = some (.int .i64 f)) := hrow
          have hLn := HLn'.out v
          obtain ⟨ll, hll⟩ : ∃ ll, (L v).length = ll := ⟨_, rfl⟩
          have HLL : Hid ((L v).length = ll) := hll
          rw [hll] at hca hLn
          have HCA : Hid (w1.cell? ⟨og, v, none⟩ = some (.slice a ll c)) := hca
          have hcz : wz.cell? ⟨og, v, none⟩ = some (.slice a ll c) := (hTz.cell (a := ⟨og, v, none⟩) (World.block_lt_of_cell? _ _ hca) (fun x => x)).trans hca
          have cc := rcount_any ll wz (by omega)
          obtain ⟨C0, hC0⟩ : ∃ C0 : ByteArray, C0 = ⟨(Pu.countB ll).toArray⟩ := ⟨_, rfl⟩
          rw [← hC0] at cc
          have HC0 : Hid (C0.data.toList = Pu.labT2 (L v) 0 ∧ C0.size ≤ 3) := ⟨by rw [hC0, Pu.labT2_zero, HLL.out], by rw [hC0]; exact count_size ll⟩
          have HTZ : Hid (Turns (fun _ => False) w1 wz) := hTz
          clear hrow hll hca hC0 hTz
          go_wp2_with (go_at_call 31; refine cc.mono ?_; rintro e w2 ⟨rfl, hT2⟩; have HT2 : Hid (Turns (fun _ => False) w1 w2) := HTZ.out.trans hT2; clear hT2 cc hcz)
          go_loopw [15, 16, 17] (fun lv nv iv wx => ∃ (l : ByteArray) (nx i : Nat) (wy : World), lv = .string l ∧ nv = .int .i64 nx ∧ iv = .int .i64 i ∧ i ≤ ll ∧ l.size ≤ 3 + 6 * i ∧ nx ≤ 40 ∧ Hid (l.data.toList = Pu.labT2 (L v) i ∧ nx = Pu.nxt 0 ((L v).take i)) ∧ Turns (fun _ => False) w1 wx ∧ wy = wx) (fun _ _ iv _ => ll - (intOf iv).toNat)
          case atStart => exact ⟨C0, 0, 0, _, rfl, rfl, rfl, Nat.zero_le _, HC0.out.2, by omega, ⟨HC0.out.1, rfl⟩, HT2.out, rfl⟩
          case round =>
            clear HC0 HT2
            obtain ⟨l, nx, i, w3, rfl, rfl, rfl, hil, hlb, hnx, HL, hT3, hwz⟩ := hrel
            subst hwz
            have e1 : w3.cell? ⟨og, v, none⟩ = some (.slice a ll c) := (hT3.cell (a := ⟨og, v, none⟩) (World.block_lt_of_cell? _ _ HCA.out) (fun x => x)).trans HCA.out
            by_cases hii : i < ll
            · have hiii : (i : Int) < (ll : Int) := by omega
              obtain ⟨⟨r, f⟩, hkf⟩ : ∃ y, (L v)[i]? = some y := ⟨_, List.getElem?_eq_getElem (by rw [HLL.out]; exact hii)⟩
              obtain ⟨g, hag, g1, g2⟩ := HR.out i r f hkf
              obtain ⟨hrn, hnr, hf0, hf1⟩ := HF'.out v i r f hvl hkf
              obtain ⟨hll1, hll2⟩ := Pu.labT2_next hkf
              have hnr2 : nx ≤ r := by rw [HL.out.2]; exact hnr
              have e2 := (hT3.cell (a := ⟨g, i * 2, none⟩) (World.block_lt_of_cell? _ _ g1) (fun x => x)).trans g1
              have e3 := (hT3.cell (a := ⟨g, i * 2 + 1, none⟩) (World.block_lt_of_cell? _ _ g2) (fun x => x)).trans g2
              have l1 : og < w3.heap.size := World.block_lt_of_cell? _ _ e1
              have l2 : g < w3.heap.size := World.block_lt_of_cell? _ _ e2
              obtain ⟨C1, hC1⟩ : ∃ C1 : ByteArray, C1 = ⟨(Pu.countB (r - nx)).toArray⟩ := ⟨_, rfl⟩
              obtain ⟨C2, hC2⟩ : ∃ C2 : ByteArray, C2 = ⟨(Pu.countB f.toNat).toArray⟩ := ⟨_, rfl⟩
              have hC1b : C1.size ≤ 3 := by rw [hC1]; exact count_size _
              have hC2b : C2.size ≤ 3 := by rw [hC2]; exact count_size _
              have c1 : ∀ w, Calls Tryz.prog 31 #[.int .i64 (IntKind.i64.wrap ((r : Int) - (nx : Int)))] w fun e w' => e = .returned (.string C1) ∧ Turns (fun _ => False) w w' := by
                intro w
                have := rcount_any (r - nx) w (by omega)
                rw [hC1, show IntKind.i64.wrap ((r : Int) - (nx : Int)) = ((r - nx : Nat) : Int) by rw [IntKind.wrap_i64]; omega]
                exact this
              have c2 : ∀ w, Calls Tryz.prog 31 #[.int .i64 f] w fun e w' => e = .returned (.string C2) ∧ Turns (fun _ => False) w w' := by
                intro w
                rw [hC2]
                exact rcount_open f w hf0 (by omega)
              have hb1 : (9223372036854775807 < l.size + C1.size) = False := by simp; omega
              have hb2 : (9223372036854775807 < l.size + C1.size + C2.size) = False := by simp; omega
              have HX : Hid (∀ w4, Turns (fun _ => False) w3 w4 → ∃ (l' : ByteArray) (nx' i' : Nat) (wy : World), Value.string (l ++ C1 ++ C2) = .string l' ∧ Value.int .i64 ((r : Int) + 1) = .int .i64 nx' ∧ Value.int .i64 ((i : Int) + 1) = .int .i64 i' ∧ i' ≤ ll ∧ l'.size ≤ 3 + 6 * i' ∧ nx' ≤ 40 ∧ Hid (l'.data.toList = Pu.labT2 (L v) i' ∧ nx' = Pu.nxt 0 ((L v).take i')) ∧ Turns (fun _ => False) w1 w4 ∧ wy = w4) := by
                intro w4 h4
                refine ⟨l ++ C1 ++ C2, r + 1, i + 1, w4, rfl, by go_num, by go_num, by omega, ?_, by omega, ⟨?_, hll2.symm⟩, hT3.trans h4, rfl⟩
                · rw [ByteArray.size_append, ByteArray.size_append]; omega
                · rw [cat_list, cat_list, HL.out.1, hll1, hC1, hC2, HL.out.2]
              subst hag
              clear HL hkf g1 g2 hll1 hll2 hC1 hC2 hnr hT3
              go_wp2_with fail
              go_region_held3 (fun w' => w'.cell? ⟨og, v, none⟩ = some (.slice (some ⟨g, 0, none⟩) ll c) ∧ w'.cell? ⟨g, i * 2, none⟩ = some (.int .i64 (r : Int)) ∧ w'.cell? ⟨g, i * 2 + 1, none⟩ = some (.int .i64 f)) (go_keep)
                (first
                | (go_at_call_of 31 (Value.int IntKind.i64 f); refine (c2 _).mono ?_; rintro e wa ⟨rfl, hTa⟩; have a1 : wa.cell? ⟨og, v, none⟩ = some (.slice (some ⟨g, 0, none⟩) ll c) := (hTa.cell (a := ⟨og, v, none⟩) m1 (fun x => x)).trans b1; have a2 : wa.cell? ⟨g, i * 2, none⟩ = some (.int .i64 (r : Int)) := (hTa.cell (a := ⟨g, i * 2, none⟩) m2 (fun x => x)).trans b2; have a3 : wa.cell? ⟨g, i * 2 + 1, none⟩ = some (.int .i64 f) := (hTa.cell (a := ⟨g, i * 2 + 1, none⟩) m2 (fun x => x)).trans b3)
                | (go_at_call 31; refine (c1 _).mono ?_; rintro e wb ⟨rfl, hTb⟩; have b1 : wb.cell? ⟨og, v, none⟩ = some (.slice (some ⟨g, 0, none⟩) ll c) := (hTb.cell (a := ⟨og, v, none⟩) l1 (fun x => x)).trans e1; have b2 : wb.cell? ⟨g, i * 2, none⟩ = some (.int .i64 (r : Int)) := (hTb.cell (a := ⟨g, i * 2, none⟩) l2 (fun x => x)).trans e2; have b3 : wb.cell? ⟨g, i * 2 + 1, none⟩ = some (.int .i64 f) := (hTb.cell (a := ⟨g, i * 2 + 1, none⟩) l2 (fun x => x)).trans e3; have m1 : og < wb.heap.size := Nat.lt_of_lt_of_le l1 hTb.size; have m2 : g < wb.heap.size := Nat.lt_of_lt_of_le l2 hTb.size))
              all_goals
                have HY := HX.out wa ((((Turns.refl _ w3).drew).trans hTb).trans hTa)
                have HZ : Hid (∃ (l' : ByteArray) (nx' i' : Nat) (wy : World), Value.string (l ++ C1 ++ C2) = .string l' ∧ Value.int .i64 ((r : Int) + 1) = .int .i64 nx' ∧ Value.int .i64 ((i : Int) + 1) = .int .i64 i' ∧ i' ≤ ll ∧ l'.size ≤ 3 + 6 * i' ∧ nx' ≤ 40 ∧ Hid (l'.data.toList = Pu.labT2 (L v) i' ∧ nx' = Pu.nxt 0 ((L v).take i')) ∧ Turns (fun _ => False) w1 wa ∧ wy = wa) := HY
                clear hTa hTb b1 b2 b3 m1 m2 HX HY e1 e2 e3 l1 l2 c1 c2 hb1 hb2
                go_wp2
                go_roundw
                case rel => exact HZ.out
                case measure => simp [intOf]; omega
            · have hiii : ¬ (i : Int) < (ll : Int) := by omega
              have hlB : l.data.toList = Pu.labB (L v) := by rw [HL.out.1, show i = (L v).length by rw [HLL.out]; omega, Pu.labT2_all]
              have cc := rcount_any l.size w3 (by omega)
              obtain ⟨C, hC⟩ : ∃ C : ByteArray, C = ⟨(Pu.countB l.size).toArray⟩ := ⟨_, rfl⟩
              rw [← hC] at cc
              have hCb : C.size ≤ 3 := by rw [hC]; exact count_size _
              have hb1 : (9223372036854775807 < S.size + C.size) = False := by simp; omega
              have hb2 : (9223372036854775807 < A.size + l.size) = False := by simp; omega
              have HX : Hid (∀ w4, Turns (fun _ => False) w3 w4 → ∃ (S' A' : ByteArray) (v' : Nat) (wy : World), Value.string (S ++ C) = .string S' ∧ Value.string (A ++ l) = .string A' ∧ Value.int .i64 ((v : Int) + 1) = .int .i64 v' ∧ v' ≤ n ∧ S'.size ≤ 43 + 3 * v' ∧ A'.size ≤ 243 * v' ∧ Hid (S'.data.toList = Pu.headB O ++ Pu.sizesB L v' ∧ A'.data.toList = Pu.labsB L v') ∧ Turns (fun _ => False) w1 w4 ∧ wy = w4) := by
                intro w4 h4
                refine ⟨S ++ C, A ++ l, v + 1, w4, rfl, rfl, by go_num, by omega, by rw [ByteArray.size_append]; omega, by rw [ByteArray.size_append]; omega, ⟨?_, ?_⟩, hT3.trans h4, rfl⟩
                · rw [cat_list, HSA.out.1, hC, Pu.sizesB, ← hlB, ← size_list, List.append_assoc]
                · rw [cat_list, HSA.out.2, hlB, Pu.labsB]
              clear HL hT3 hlB hC HSA
              go_wp2_with (go_at_call 31; refine cc.mono ?_; rintro e w4 ⟨rfl, hT4⟩)
              have HY := HX.out w4 hT4
              have HZ : Hid (∃ (S' A' : ByteArray) (v' : Nat) (wy : World), Value.string (S ++ C) = .string S' ∧ Value.string (A ++ l) = .string A' ∧ Value.int .i64 ((v : Int) + 1) = .int .i64 v' ∧ v' ≤ n ∧ S'.size ≤ 43 + 3 * v' ∧ A'.size ≤ 243 * v' ∧ Hid (S'.data.toList = Pu.headB O ++ Pu.sizesB L v' ∧ A'.data.toList = Pu.labsB L v') ∧ Turns (fun _ => False) w1 w4 ∧ wy = w4) := HY
              clear HX HY hT4
              go_roundw
              case rel => exact HZ.out
              case measure => simp [intOf]; omega
        · have hvi : ¬ (v : Int) < (n : Int) := by omega
          have cp := rpaged_any (S ++ A) wz (by rw [ByteArray.size_append]; omega)
          have hb1 : (9223372036854775807 < S.size + A.size) = False := by simp; omega
          have hpl : Pu.paged (S ++ A).data.toList = Pu.paged (Pu.heldB O L n) := by
            rw [cat_list, HSA.out.1, HSA.out.2, Pu.heldB, show v = n by omega]
          have HX : Hid (∀ w4, Turns (fun _ => False) wz w4 → Turns (fun _ => False) w w4 ∧ ∃ D : Nat → Nat → Int, Pu.Cov n len D O ∧ Ending.returned (.tuple #[.string ⟨(Pu.paged (S ++ A).data.toList).toArray⟩, .int .i64 0, .int .i64 0]) = .returned (.tuple #[.string ⟨(Pu.paged (Pu.heldB O (fun v => Pu.hubK D O v n) n)).toArray⟩, .int .i64 0, .int .i64 0])) :=
            fun w4 h4 => HE.out w4 _ ((HT1.out.trans hTz).trans h4) hpl
          generalize Pu.paged (S ++ A).data.toList = P at *
          clear HSA hTz hpl
          go_wp2_with (go_at_call 32; refine cp.mono ?_; rintro e w4 ⟨rfl, hT4⟩)
          exact bodyPost_ret (v := .tuple #[.string ⟨P.toArray⟩, .int .i64 0, .int .i64 0]) (by simp [results, Tryz.results12, go_sem]) rfl (HX.out _ hT4)
/-- The reference's Save, of any text by any order. -/
theorem rsave_any (x s : ByteArray) (w : World) (hx : x.size ≤ 2000000) (hs : s.size ≤ 2000000) : Calls Tryz.prog 12 #[.string x, .string s] w (RSavePost w (Pu.parse x.data.toList) (Pu.orderOf s.data.toList)) := by
  have k := rlabd_any x s w hx hs
  cases hp : Pu.parse x.data.toList with
  | err c p =>
    rw [hp] at k
    have he := Pu.parse_err hp
    exact rsave_err x s w c p (by simp; omega) k
  | ok n q len =>
    rw [hp] at k
    obtain ⟨hn1, hn2, _, _⟩ := Pu.parse_ok hp
    unfold RLabdPost at k
    unfold RSavePost
    dsimp only at k ⊢
    cases ho : Pu.orderOf s.data.toList n len with
    | none => rw [ho] at k; exact rsave_err x s w 4 0 (by decide) k
    | some O => rw [ho] at k; exact rsave_ok x s w n len O hn1 hn2 k
#print axioms rsave_any
end Go.Proofs.YtdogncjcainhlaaGreatDoor
