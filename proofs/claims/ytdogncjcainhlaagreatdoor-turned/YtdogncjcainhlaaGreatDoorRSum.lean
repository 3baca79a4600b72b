/- The walks of the reference's Count, Sum and Sealed. -/
import Derived.Test.YtdogncjcainhlaaGreatDoorPlain
import Derived.Test.YtdogncjcainhlaaGreatDoorDec
import Derived.Laws.BitsAllLaws
namespace Go.Proofs.YtdogncjcainhlaaGreatDoor
open Go.RowKit
open Mem

theorem conv1 (x : Int) (a : UInt8) (hx : x = (a.toNat : Int)) (W : World) (b : Nat) (hc : W.cell? ⟨b, 0, none⟩ = some (.int .u8 x)) :
    (convert 31 9 (.slice (some ⟨b, 0, none⟩) 1 1)).run Tryz.prog W = .ok (.string ⟨[a].toArray⟩) W := by
  refine run_convert_bytes_back W 31 9 5 ⟨b, 0, none⟩ 1 [a] Tryz.underlying31 Tryz.underlying5 Tryz.underlying9 ?_
  intro j hj
  obtain rfl : j = 0 := by simpa using hj
  subst hx
  exact hc
theorem conv2 (x y : Int) (a c : UInt8) (hx : x = (a.toNat : Int)) (hy : y = (c.toNat : Int)) (W : World) (b : Nat) (hc : W.cell? ⟨b, 0, none⟩ = some (.int .u8 x)) (hd : W.cell? ⟨b, 1, none⟩ = some (.int .u8 y)) :
    (convert 31 9 (.slice (some ⟨b, 0, none⟩) 2 2)).run Tryz.prog W = .ok (.string ⟨[a, c].toArray⟩) W := by
  refine run_convert_bytes_back W 31 9 5 ⟨b, 0, none⟩ 2 [a, c] Tryz.underlying31 Tryz.underlying5 Tryz.underlying9 ?_
  intro j hj
  subst hx hy
  rcases (by simp at hj; omega : j = 0 ∨ j = 1) with rfl | rfl
  · exact hc
  · exact hd
theorem conv3 (x y z : Int) (a c d : UInt8) (hx : x = (a.toNat : Int)) (hy : y = (c.toNat : Int)) (hz : z = (d.toNat : Int)) (W : World) (b : Nat) (h0 : W.cell? ⟨b, 0, none⟩ = some (.int .u8 x)) (h1 : W.cell? ⟨b, 1, none⟩ = some (.int .u8 y)) (h2 : W.cell? ⟨b, 2, none⟩ = some (.int .u8 z)) :
    (convert 31 9 (.slice (some ⟨b, 0, none⟩) 3 3)).run Tryz.prog W = .ok (.string ⟨[a, c, d].toArray⟩) W := by
  refine run_convert_bytes_back W 31 9 5 ⟨b, 0, none⟩ 3 [a, c, d] Tryz.underlying31 Tryz.underlying5 Tryz.underlying9 ?_
  intro j hj
  subst hx hy hz
  rcases (by simp at hj; omega : j = 0 ∨ j = 1 ∨ j = 2) with rfl | rfl | rfl
  · exact h0
  · exact h1
  · exact h2
theorem conv4 (x y z u : Int) (a c d e : UInt8) (hx : x = (a.toNat : Int)) (hy : y = (c.toNat : Int)) (hz : z = (d.toNat : Int)) (hu : u = (e.toNat : Int)) (W : World) (b : Nat) (h0 : W.cell? ⟨b, 0, none⟩ = some (.int .u8 x)) (h1 : W.cell? ⟨b, 1, none⟩ = some (.int .u8 y)) (h2 : W.cell? ⟨b, 2, none⟩ = some (.int .u8 z)) (h3 : W.cell? ⟨b, 3, none⟩ = some (.int .u8 u)) :
    (convert 31 9 (.slice (some ⟨b, 0, none⟩) 4 4)).run Tryz.prog W = .ok (.string ⟨[a, c, d, e].toArray⟩) W := by
  refine run_convert_bytes_back W 31 9 5 ⟨b, 0, none⟩ 4 [a, c, d, e] Tryz.underlying31 Tryz.underlying5 Tryz.underlying9 ?_
  intro j hj
  subst hx hy hz hu
  rcases (by simp at hj; omega : j = 0 ∨ j = 1 ∨ j = 2 ∨ j = 3) with rfl | rfl | rfl | rfl
  · exact h0
  · exact h1
  · exact h2
  · exact h3
theorem ofNat_int {n : Nat} (h : n < 256) : (n : Int) = ((UInt8.ofNat n).toNat : Int) := by
  have : (UInt8.ofNat n).toNat = n := by simp; omega
  omega

set_option maxRecDepth 100000 in
set_option maxHeartbeats 400000 in
theorem rcount_lo (n : Nat) (w : World) (h : n < 128) :
    Calls Tryz.prog 31 #[.int .i64 n] w fun e w' => e = .returned (.string ⟨(Pu.countB n).toArray⟩) ∧ Turns (fun _ => False) w w' := by
  have e : Pu.countB n = [UInt8.ofNat n] := by unfold Pu.countB; rw [if_pos h]
  rw [e]
  have hcv := conv1 (n : Int) (UInt8.ofNat n) (ofNat_int (by omega))
  generalize [UInt8.ofNat n].toArray = L at *
  clear e
  go_enter Tryz.func31, Tryz.ntmps31
  go_wp2
  go_ret
  exact ⟨rfl, (Turns.refl _ _).alloc _⟩
set_option maxRecDepth 100000 in
set_option maxHeartbeats 400000 in
theorem rcount_mid (n : Nat) (w : World) (h : ¬ n < 128) (h2 : n < 16384) :
    Calls Tryz.prog 31 #[.int .i64 n] w fun e w' => e = .returned (.string ⟨(Pu.countB n).toArray⟩) ∧ Turns (fun _ => False) w w' := by
  have e : Pu.countB n = [UInt8.ofNat (128 + n % 128), UInt8.ofNat (n / 128)] := by unfold Pu.countB; rw [if_neg h, if_pos h2]
  rw [e]
  have hcv := conv2 (128 + (n : Int) % 128) ((n : Int) / 128) (UInt8.ofNat (128 + n % 128)) (UInt8.ofNat (n / 128)) (by have := ofNat_int (n := 128 + n % 128) (by omega); omega) (by have := ofNat_int (n := n / 128) (by omega); omega)
  generalize [UInt8.ofNat (128 + n % 128), UInt8.ofNat (n / 128)].toArray = L at *
  clear e
  go_enter Tryz.func31, Tryz.ntmps31
  go_wp2
  go_ret
  exact ⟨rfl, (Turns.refl _ _).alloc _⟩
set_option maxRecDepth 100000 in
set_option maxHeartbeats 400000 in
theorem rcount_hi (n : Nat) (w : World) (h : ¬ n < 16384) (h2 : n < 2097152) :
    Calls Tryz.prog 31 #[.int .i64 n] w fun e w' => e = .returned (.string ⟨(Pu.countB n).toArray⟩) ∧ Turns (fun _ => False) w w' := by
  have h0 : ¬ n < 128 := by omega
  have e : Pu.countB n = [UInt8.ofNat (128 + n % 128), UInt8.ofNat (128 + n / 128 % 128), UInt8.ofNat (n / 16384)] := by unfold Pu.countB; rw [if_neg h0, if_neg h]
  rw [e]
  have hcv := conv3 (128 + (n : Int) % 128) (128 + (n : Int) / 128 % 128) ((n : Int) / 16384) (UInt8.ofNat (128 + n % 128)) (UInt8.ofNat (128 + n / 128 % 128)) (UInt8.ofNat (n / 16384)) (by have := ofNat_int (n := 128 + n % 128) (by omega); omega) (by have := ofNat_int (n := 128 + n / 128 % 128) (by omega); omega) (by have := ofNat_int (n := n / 16384) (by omega); omega)
  generalize [UInt8.ofNat (128 + n % 128), UInt8.ofNat (128 + n / 128 % 128), UInt8.ofNat (n / 16384)].toArray = L at *
  clear e
  go_enter Tryz.func31, Tryz.ntmps31
  go_wp2
  go_ret
  exact ⟨rfl, (Turns.refl _ _).alloc _⟩
/-- The reference's Count. -/
theorem rcount_any (n : Nat) (w : World) (h : n < 2097152) :
    Calls Tryz.prog 31 #[.int .i64 n] w fun e w' => e = .returned (.string ⟨(Pu.countB n).toArray⟩) ∧ Turns (fun _ => False) w w' := by
  by_cases h1 : n < 128
  · exact rcount_lo n w h1
  · by_cases h2 : n < 16384
    · exact rcount_mid n w h1 h2
    · exact rcount_hi n w h2 h
#print axioms rcount_any

namespace Pu
theorem crc_snoc (l : List UInt8) (b : UInt8) (h : Nat) : crc h (l ++ [b]) = addB (crc h l) b := by rw [crc_append]; rfl
theorem bit1_odd {h : Nat} (e : h % 2 = 1) : bit1 h = h / 2 ^^^ 3988292384 := by unfold bit1; rw [if_pos e]
theorem bit1_even {h : Nat} (e : ¬ h % 2 = 1) : bit1 h = h / 2 := by unfold bit1; rw [if_neg e]
end Pu

set_option maxRecDepth 100000 in
set_option maxHeartbeats 1000000 in
/-- The reference's Sum. -/
theorem rsum_any (s : ByteArray) (w : World) (hs : s.size ≤ 2000000) :
    Calls Tryz.prog 109 #[.string s] w fun e w' => e = .returned (.int .u32 (Pu.sumN s.data.toList : Nat)) ∧ w' = w := by
  go_enter Tryz.func109, Tryz.ntmps109
  go_wp2
  go_loop [3, 4] (fun h i => ∃ (k H : Nat), k ≤ s.size ∧ i = .int .i64 k ∧ h = .int .u32 H ∧ H < 4294967296 ∧ Hid (H = Pu.crc 4294967295 (s.data.toList.take k))) (fun _ i => s.size - (intOf i).toNat)
  case atStart => exact ⟨0, 4294967295, Nat.zero_le _, rfl, rfl, by decide, rfl⟩
  case round =>
    obtain ⟨k, H, hk, rfl, rfl, hH, HK⟩ := hrel
    by_cases hlt : k < s.size
    · have hlti : (k : Int) < (s.size : Int) := by omega
      have hb : s[k].toNat < 256 := s[k].toNat_lt
      have hx := u32_xor_nat H s[k].toNat hH (by omega)
      have hxl : H ^^^ s[k].toNat < 4294967296 := Nat.xor_lt_two_pow (n := 32) hH (by omega)
      have HC : Hid (Pu.addB H s[k] = Pu.crc 4294967295 (s.data.toList.take (k + 1))) := by
        show _ = _
        rw [List.take_add_one, show s.data.toList[k]? = some s[k] by rw [List.getElem?_eq_getElem (by simpa using hlt)]; rfl, Option.toList_some, Pu.crc_snoc, ← HK.out]
      have HA : Hid (Pu.bitN 8 (H ^^^ s[k].toNat) = Pu.addB H s[k]) := rfl
      clear HK
      generalize H ^^^ s[k].toNat = X at *
      go_wp2
      go_loop [3, 5] (fun h i => ∃ (j Y : Nat), j ≤ 8 ∧ i = .int .i64 j ∧ h = .int .u32 Y ∧ Y < 4294967296 ∧ Hid (Y = Pu.bitN j X)) (fun _ i => 8 - (intOf i).toNat)
      case atStart => exact ⟨0, X, by omega, rfl, rfl, hxl, rfl⟩
      case round =>
        obtain ⟨j, Y, hj, rfl, rfl, hY, HJ⟩ := hrel
        by_cases hj8 : j < 8
        · have hji : (j : Int) < 8 := by omega
          by_cases ho : Y % 2 = 1
          · have hoi : ((Y : Int) % 2 == 1) = true := by rw [beq_iff_eq]; omega
            have hxx : bits .xor .u32 ((Y : Int) / 2) 3988292384 = ((Y / 2 ^^^ 3988292384 : Nat) : Int) := by have := u32_xor_nat (Y / 2) 3988292384 (by omega) (by decide); simpa using this
            have hyl : Y / 2 ^^^ 3988292384 < 4294967296 := Nat.xor_lt_two_pow (n := 32) (by omega) (by decide)
            have HN : Hid (Y / 2 ^^^ 3988292384 = Pu.bitN (j + 1) X) := by show _ = Pu.bit1 _; rw [← HJ.out, Pu.bit1_odd ho]
            generalize Y / 2 ^^^ 3988292384 = Z at *
            clear HJ
            go_wp2
            go_round
            case rel => exact ⟨j + 1, Z, by omega, by go_num, rfl, hyl, HN⟩
            case measure => simp [intOf]; omega
          · have hoi : ((Y : Int) % 2 == 1) = false := by rw [beq_eq_false_iff_ne]; omega
            have HN : Hid (Y / 2 = Pu.bitN (j + 1) X) := by show _ = Pu.bit1 _; rw [← HJ.out, Pu.bit1_even ho]
            clear HJ
            go_wp2
            go_round
            case rel => exact ⟨j + 1, Y / 2, by omega, by go_num, by go_num, by omega, HN⟩
            case measure => simp [intOf]; omega
        · have hj9 : j = 8 := by omega
          have hji : ¬ (j : Int) < 8 := by omega
          have HN : Hid (Y = Pu.crc 4294967295 (s.data.toList.take (k + 1))) := by show _ = _; rw [← HC.out, ← HA.out, HJ.out, hj9]
          clear HJ hj9
          go_wp2
          go_round
          case rel => exact ⟨k + 1, Y, by omega, by go_num, rfl, hY, HN⟩
          case measure => simp [intOf]; omega
    · have hlti : ¬ (k : Int) < (s.size : Int) := by omega
      have HN : Hid (4294967295 - (H : Int) = (Pu.sumN s.data.toList : Nat)) := by
        show _ = _
        have e := HK.out
        rw [List.take_of_length_le (by simp; omega)] at e
        unfold Pu.sumN
        rw [← e]; omega
      clear HK
      go_wp2
      go_ret
      exact ⟨by rw [← HN.out]; rfl, rfl⟩
#print axioms rsum_any
end Go.Proofs.YtdogncjcainhlaaGreatDoor
