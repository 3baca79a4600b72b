/- The walks of the reference's Sealed and Paged. -/
import Derived.Test.YtdogncjcainhlaaGreatDoorRSum
import Derived.Test.YtdogncjcainhlaaGreatDoorRCut
import Derived.Deep.RegionHeld3
namespace Go.Proofs.YtdogncjcainhlaaGreatDoor
open Go.RowKit Go.Deep
open Mem

theorem cat_list (a b : ByteArray) : (a ++ b).data.toList = a.data.toList ++ b.data.toList := by simp
theorem of_list {a : ByteArray} {l : List UInt8} (h : a.data.toList = l) : a = ⟨l.toArray⟩ := by
  apply ByteArray.ext
  rw [← h]
theorem size_list (a : ByteArray) : a.size = a.data.toList.length := by simp

set_option maxRecDepth 100000 in
set_option maxHeartbeats 1000000 in
/-- The reference's Sealed. -/
theorem rseal_any (p : Nat) (h : ByteArray) (w : World) (hp : p < 65536) (hh : h.size ≤ 1000) :
    Calls Tryz.prog 69 #[.int .i64 p, .string h] w fun e w' => e = .returned (.string ⟨(Pu.sealB p h.data.toList).toArray⟩) ∧ Turns (fun _ => False) w w' := by
  have hcv := conv2 ((p : Int) / 256) ((p : Int) % 256) (UInt8.ofNat (p / 256)) (UInt8.ofNat (p % 256)) (by have := ofNat_int (n := p / 256) (by omega); omega) (by have := ofNat_int (n := p % 256) (by omega); omega)
  obtain ⟨A, hA⟩ : ∃ A : ByteArray, A = ⟨[UInt8.ofNat (p / 256), UInt8.ofNat (p % 256)].toArray⟩ := ⟨_, rfl⟩
  rw [← hA] at hcv
  have hAs : A.size = 2 := by rw [hA]; rfl
  have hAl : (A ++ h).data.toList = UInt8.ofNat (p / 256) :: UInt8.ofNat (p % 256) :: h.data.toList := by rw [cat_list, hA]; rfl
  have cs := fun w => rsum_any (A ++ h) w (by rw [ByteArray.size_append]; omega)
  rw [hAl] at cs
  have hN := Pu.sumN_lt (UInt8.ofNat (p / 256) :: UInt8.ofNat (p % 256) :: h.data.toList)
  have HE : Hid (h.data.toList ++ Pu.sumB (Pu.sumN (UInt8.ofNat (p / 256) :: UInt8.ofNat (p % 256) :: h.data.toList)) = Pu.sealB p h.data.toList) := rfl
  generalize Pu.sumN (UInt8.ofNat (p / 256) :: UInt8.ofNat (p % 256) :: h.data.toList) = N at *
  have hcw := conv4 ((N : Int) / 16777216) ((N : Int) / 65536 % 256) ((N : Int) / 256 % 256) ((N : Int) % 256) (UInt8.ofNat (N / 16777216)) (UInt8.ofNat (N / 65536 % 256)) (UInt8.ofNat (N / 256 % 256)) (UInt8.ofNat (N % 256))
    (by have := ofNat_int (n := N / 16777216) (by omega); omega) (by have := ofNat_int (n := N / 65536 % 256) (by omega); omega) (by have := ofNat_int (n := N / 256 % 256) (by omega); omega) (by have := ofNat_int (n := N % 256) (by omega); omega)
  obtain ⟨B, hB⟩ : ∃ B : ByteArray, B = ⟨[UInt8.ofNat (N / 16777216), UInt8.ofNat (N / 65536 % 256), UInt8.ofNat (N / 256 % 256), UInt8.ofNat (N % 256)].toArray⟩ := ⟨_, rfl⟩
  rw [← hB] at hcw
  have hBs : B.size = 4 := by rw [hB]; rfl
  have HB : Hid (h ++ B = ⟨(Pu.sealB p h.data.toList).toArray⟩) := by
    refine of_list ?_
    rw [cat_list, ← HE.out, hB]; rfl
  clear hA hB hAl HE
  go_enter Tryz.func69, Tryz.ntmps69
  go_wp2_with (go_at_call 109; refine (cs _).mono ?_; rintro e w1 ⟨rfl, hw1⟩; subst hw1)
  go_ret
  refine ⟨by rw [← HB.out]; rfl, ?_⟩
  exact ((Turns.refl _ _).alloc _).alloc _
#print axioms rseal_any

/-- How many bytes a text has. -/
def strLen : Value → Nat
  | .string b => b.size
  | _ => 0
namespace Pu
theorem padded {x : List UInt8} {j : Nat} (h : (x.length + j) % 28 = 0) (hj : j ≤ (28 - x.length % 28) % 28) : x ++ List.replicate j 0 = pad x := by
  unfold pad
  rw [show j = (28 - x.length % 28) % 28 by omega]
theorem pageP_next {s : List UInt8} {k : Nat} : pageP s (k + 1) = pageP s k ++ sealB k ((s.take (28 * k + 28)).drop (28 * k)) := by
  rw [pageP, chunk]
  congr 2
  rw [List.drop_take, show 28 * k + 28 - 28 * k = 28 by omega]
end Pu

set_option maxRecDepth 100000 in
set_option maxHeartbeats 2000000 in
/-- The reference's Paged. -/
theorem rpaged_any (x : ByteArray) (w : World) (hx : x.size ≤ 20000) :
    Calls Tryz.prog 32 #[.string x] w fun e w' => e = .returned (.string ⟨(Pu.paged x.data.toList).toArray⟩) ∧ Turns (fun _ => False) w w' := by
  have HXL : Hid (x.size = x.data.toList.length) := size_list x
  go_enter Tryz.func32, Tryz.ntmps32
  go_wp2
  go_loop [0] (fun sv => ∃ (S : ByteArray) (j : Nat), sv = .string S ∧ S.size ≤ 20100 ∧ Hid (S.size = x.size + j ∧ j ≤ (28 - x.size % 28) % 28 ∧ S.data.toList = x.data.toList ++ List.replicate j 0)) (fun sv => x.size + (28 - x.size % 28) % 28 - strLen sv)
  case atStart => exact ⟨x, 0, rfl, by omega, rfl, Nat.zero_le _, by simp⟩
  case round =>
    obtain ⟨S, j, rfl, hSb, HS⟩ := hrel
    by_cases hm : S.size % 28 = 0
    · have hmi : ((S.size : Int) % 28 != 0) = false := by simp; omega
      have HP : Hid (S.data.toList = Pu.pad x.data.toList) := by
        obtain ⟨h1, h2, h3⟩ := HS.out
        have hxl := HXL.out
        show _ = _
        rw [h3]; exact Pu.padded (by rw [← hxl]; omega) (by rw [← hxl]; exact h2)
      obtain ⟨K, hK⟩ : ∃ K, S.size = 28 * K := ⟨S.size / 28, by omega⟩
      have HK : Hid (S.size = 28 * K) := hK
      clear HS hK hm
      go_wp2
      go_loopw [3, 4] (fun ov iv wr => ∃ (o : ByteArray) (k i : Nat), ov = .string o ∧ iv = .int .i64 i ∧ i ≤ 30000 ∧ o.size ≤ 40000 ∧ Hid (i = 28 * k ∧ k ≤ K ∧ o.size = 32 * k ∧ o.data.toList = Pu.pageP S.data.toList k) ∧ Turns (fun _ => False) w wr) (fun _ iv _ => S.size - (intOf iv).toNat)
      case atStart => exact ⟨⟨#[]⟩, 0, 0, rfl, rfl, by omega, by decide, ⟨rfl, Nat.zero_le _, rfl, rfl⟩, Turns.refl _ _⟩
      case round =>
        obtain ⟨o, k, i, rfl, rfl, hib, hob, HO, hT⟩ := hrel
        obtain ⟨hik, hkK, ho, hol⟩ := HO.out
        have hK := HK.out
        by_cases hlt : k < K
        · have hii : (i : Int) < (S.size : Int) := by omega
          have hq : (i : Int) / 28 = (k : Int) := by omega
          have c := rseal_any k (S.extract i (i + 28)) wr (by omega) (by rw [ByteArray.size_extract]; omega)
          have hel : (S.extract i (i + 28)).data.toList = (S.data.toList.take (28 * k + 28)).drop (28 * k) := by rw [extract_list, hik]
          obtain ⟨Z, hZ⟩ : ∃ Z : ByteArray, Z = ⟨(Pu.sealB k (S.extract i (i + 28)).data.toList).toArray⟩ := ⟨_, rfl⟩
          have hZs : Z.size = 32 := by
            rw [hZ, size_list]
            show (Pu.sealB k _).length = 32
            rw [Pu.sealB_len, hel, List.length_drop, List.length_take, ← size_list]; omega
          have HN : Hid ((o ++ Z).data.toList = Pu.pageP S.data.toList (k + 1)) := by
            show _ = _
            rw [cat_list, hol, Pu.pageP_next, hZ, hel]
          rw [← hZ] at c
          have hle : ((i : Int) ≤ (i : Int) + 28) := by omega
          have hle2 : ((i : Int) + 28 ≤ (S.size : Int)) := by omega
          have hle3 : i + 28 ≤ S.size := by omega
          have hbig : (9223372036854775807 < o.size + Z.size) = False := by simp; omega
          have HX : Hid (∀ w2, Turns (fun _ => False) wr w2 → ∃ (o' : ByteArray) (k' i' : Nat), Value.string (o ++ Z) = .string o' ∧ Value.int .i64 ((i : Int) + 28) = .int .i64 i' ∧ i' ≤ 30000 ∧ o'.size ≤ 40000 ∧ Hid (i' = 28 * k' ∧ k' ≤ K ∧ o'.size = 32 * k' ∧ o'.data.toList = Pu.pageP S.data.toList k') ∧ Turns (fun _ => False) w w2) :=
            fun w2 h2 => ⟨o ++ Z, k + 1, i + 28, rfl, by go_num, by omega, by rw [ByteArray.size_append]; omega, ⟨by omega, by omega, by rw [ByteArray.size_append]; omega, HN.out⟩, hT.trans h2⟩
          have HM : Hid (i < S.size) := by show _ < _; omega
          have hZb : Z.size ≤ 32 := by omega
          clear HO hZ hel hT hik hkK ho hol hK hZs HK hlt
          go_wp2_with (go_at_call 69; refine c.mono ?_; rintro e w2 ⟨rfl, hT2⟩)
          go_roundw
          case rel => exact HX.out _ hT2
          case measure => have := HM.out; simp [intOf]; omega
        · have hii : ¬ (i : Int) < (S.size : Int) := by omega
          have HE : Hid (o = ⟨(Pu.paged x.data.toList).toArray⟩) := by
            refine of_list ?_
            have h1 := HP.out
            have h2 : (Pu.pad x.data.toList).length / 28 = k := by rw [← h1, ← size_list]; omega
            rw [hol, h1, Pu.paged, h2]
          clear HO hik hkK ho hol hK
          go_wp2
          go_ret
          exact ⟨by rw [← HE.out]; rfl, hT⟩
    · have hmi : ((S.size : Int) % 28 != 0) = true := by simp; omega
      have hbig : (9223372036854775807 < S.size + 1) = False := by simp; omega
      have HX : Hid (∃ (S' : ByteArray) (j' : Nat), Value.string (S ++ ⟨#[0]⟩) = .string S' ∧ S'.size ≤ 20100 ∧ Hid (S'.size = x.size + j' ∧ j' ≤ (28 - x.size % 28) % 28 ∧ S'.data.toList = x.data.toList ++ List.replicate j' 0)) := by
        obtain ⟨h1, h2, h3⟩ := HS.out
        have h4 : (S ++ ⟨#[0]⟩ : ByteArray).size = S.size + 1 := by rw [ByteArray.size_append]; rfl
        refine ⟨_, j + 1, rfl, by omega, by omega, by omega, ?_⟩
        rw [cat_list, h3, List.replicate_succ', List.append_assoc]
      have HM : Hid (S.size + 1 ≤ x.size + (28 - x.size % 28) % 28) := by
        obtain ⟨h1, h2, h3⟩ := HS.out
        show _ ≤ _
        omega
      clear HS hm
      go_wp2
      go_round
      case rel => exact HX.out
      case measure =>
        have h4 : (S ++ ⟨#[0]⟩ : ByteArray).size = S.size + 1 := by rw [ByteArray.size_append]; rfl
        have := HM.out
        show _ - (S ++ ⟨#[0]⟩ : ByteArray).size < _ - S.size
        omega
#print axioms rpaged_any
end Go.Proofs.YtdogncjcainhlaaGreatDoor
