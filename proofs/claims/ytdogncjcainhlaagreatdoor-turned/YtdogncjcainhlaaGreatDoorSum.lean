/- The walks of pages.dropEight, pages.summed, pages.sumOf, pages.sumText. -/
import Derived.Test.YtdogncjcainhlaaGreatDoorCnt
import Derived.Test.YtdogncjcainhlaaGreatDoorRPage
namespace Go.Proofs.YtdogncjcainhlaaGreatDoor
open Go.RowKit Go.Deep
open Mem

theorem xor_ones {H : Nat} (h : H < 4294967296) : 4294967295 ^^^ H = 4294967295 - H := by
  have e : (BitVec.allOnes 32 ^^^ BitVec.ofNat 32 H).toNat = (~~~ (BitVec.ofNat 32 H)).toNat := by rw [BitVec.allOnes_xor]
  rw [BitVec.toNat_xor, BitVec.toNat_not, BitVec.toNat_allOnes, BitVec.toNat_ofNat, Nat.mod_eq_of_lt (by omega)] at e
  simpa using e
set_option maxRecDepth 100000 in
set_option maxHeartbeats 1000000 in
/-- Eight bits fall out. -/
theorem drop_any (H : Nat) (w : World) (hH : H < 4294967296) :
    Calls Tryz.prog 98 #[.int .u32 H] w fun e w' => e = .returned (.int .u32 (Pu.bitN 8 H : Nat)) ∧ w' = w := by
  go_enter Tryz.func98, Tryz.ntmps98
  go_wp2
  go_loop [0, 4] (fun h i => ∃ (j Y : Nat), j ≤ 8 ∧ i = .int .i64 j ∧ h = .int .u32 Y ∧ Y < 4294967296 ∧ Hid (Y = Pu.bitN j H)) (fun _ i => 8 - (intOf i).toNat)
  case atStart => exact ⟨0, H, by omega, rfl, rfl, hH, rfl⟩
  case round =>
    obtain ⟨j, Y, hj, rfl, rfl, hY, HJ⟩ := hrel
    have hand : bits .and .u32 (Y : Int) 1 = ((Y % 2 : Nat) : Int) := by have := u32_and_nat Y 1 hY (by decide); rw [nat_mask1] at this; exact this
    by_cases hj8 : j < 8
    · have hji : (j : Int) < 8 := by omega
      by_cases ho : Y % 2 = 1
      · have hoi : ((Y : Int) % 2 == 1) = true := by rw [beq_iff_eq]; omega
        have hoi2 : (((Y % 2 : Nat) : Int) == 1) = true := by rw [beq_iff_eq]; omega
        have hxx : bits .xor .u32 ((Y : Int) / 2) 3988292384 = ((Y / 2 ^^^ 3988292384 : Nat) : Int) := by have := u32_xor_nat (Y / 2) 3988292384 (by omega) (by decide); simpa using this
        have hyl : Y / 2 ^^^ 3988292384 < 4294967296 := Nat.xor_lt_two_pow (n := 32) (by omega) (by decide)
        have HN : Hid (Y / 2 ^^^ 3988292384 = Pu.bitN (j + 1) H) := by show _ = Pu.bit1 _; rw [← HJ.out, Pu.bit1_odd ho]
        generalize Y / 2 ^^^ 3988292384 = Z at *
        clear HJ
        go_wp2
        go_round
        case rel => exact ⟨j + 1, Z, by omega, by go_num, rfl, hyl, HN⟩
        case measure => simp [intOf]; omega
      · have hoi : ((Y : Int) % 2 == 1) = false := by rw [beq_eq_false_iff_ne]; omega
        have hoi2 : (((Y % 2 : Nat) : Int) == 1) = false := by rw [beq_eq_false_iff_ne]; omega
        have HN : Hid (Y / 2 = Pu.bitN (j + 1) H) := by show _ = Pu.bit1 _; rw [← HJ.out, Pu.bit1_even ho]
        clear HJ
        go_wp2
        go_round
        case rel => exact ⟨j + 1, Y / 2, by omega, by go_num, by go_num, by omega, HN⟩
        case measure => simp [intOf]; omega
    · have hj9 : j = 8 := by omega
      have hji : ¬ (j : Int) < 8 := by omega
      have HN : Hid (Y = Pu.bitN 8 H) := by show _ = _; rw [HJ.out, hj9]
      clear HJ hj9
      go_wp2
      go_ret
      exact ⟨by rw [← HN.out]; rfl, rfl⟩
set_option maxRecDepth 100000 in
set_option maxHeartbeats 1000000 in
/-- The bytes of which a sum is worked out. -/
theorem summed_any (p : Nat) (h : ByteArray) (w : World) (hp : p < 65536) (hh : h.size ≤ 1000) :
    Calls Tryz.prog 97 #[.int .i64 p, .string h] w fun e w' => ∃ g cap, e = .returned (.slice (some ⟨g, 0, none⟩) (2 + h.size) cap) ∧ Turns (fun _ => False) w w' ∧ ∀ (j : Nat) (b : UInt8), (UInt8.ofNat (p / 256) :: UInt8.ofNat (p % 256) :: h.data.toList)[j]? = some b → w'.cell? ⟨g, j, none⟩ = some (.int .u8 (b.toNat : Int)) := by
  obtain ⟨i0, hi, hz0, hz1, hz2⟩ := info_parts info5
  have hown : (w.alloc (.cells #[.int .u8 ((p : Int) / 256), .int .u8 ((p : Int) % 256)] 5)).ownsRow w.heap.size 5 1 (.slice (some ⟨w.heap.size, 0, none⟩) 2 2) 2 [.int .u8 ((p : Int) / 256), .int .u8 ((p : Int) % 256)] :=
    ⟨rfl, Or.inr ⟨w.heap.size, 2, #[.int .u8 ((p : Int) / 256), .int .u8 ((p : Int) % 256)], rfl, Nat.le_refl _, Array.getElem?_push_size, Nat.le_refl _, by decide, rfl, rfl⟩⟩
  have HE : Hid (Value.int .u8 ((p : Int) / 256) :: Value.int .u8 ((p : Int) % 256) :: Lib.strCells h = bv (UInt8.ofNat (p / 256) :: UInt8.ofNat (p % 256) :: h.data.toList)) := by
    show _ = Value.int .u8 ((UInt8.ofNat (p / 256)).toNat : Int) :: Value.int .u8 ((UInt8.ofNat (p % 256)).toNat : Int) :: bv h.data.toList
    rw [← ofNat_int (n := p / 256) (by omega), ← ofNat_int (n := p % 256) (by omega)]
    simp [Lib.strCells, bv]
  go_enter Tryz.func97, Tryz.ntmps97
  go_wp2_with (at_builtin; refine Lib.wpList_append_own_string _ rfl _ _ 31 9 rfl w.heap.size 5 i0 Tryz.underlying31 Tryz.underlying9 hi hz0 hz1 hz2 _ 2 _ rfl hown h rfl (by unfold maxLen; omega) (by omega) (by simp) ?_)
  intro v' w3 hown3 hgrow _
  rw [HE.out] at hown3
  have HX : Hid (∃ g cap, v' = .slice (some ⟨g, 0, none⟩) (2 + h.size) cap ∧ Turns (fun _ => False) w w3 ∧ ∀ (j : Nat) (b : UInt8), (UInt8.ofNat (p / 256) :: UInt8.ofNat (p % 256) :: h.data.toList)[j]? = some b → w3.cell? ⟨g, j, none⟩ = some (.int .u8 (b.toNat : Int))) := by
    obtain ⟨g, cap, rfl, _⟩ := hown3.form (by omega)
    refine ⟨g, cap, rfl, ((Turns.refl _ w).alloc _).grown hgrow (fun q hq => by have hq : some w.heap.size = some q := hq; injection hq with hq; exact Or.inl (by omega)), fun j b hb => ?_⟩
    have := hown3.cells (g := g) rfl j (.int .u8 (b.toNat : Int)) (by rw [bv, List.getElem?_map, hb]; rfl)
    rwa [addr_add] at this
  clear hown3 hgrow hown HE
  go_wp2
  obtain ⟨g, cap, rfl, HX2⟩ := HX.out
  exact bodyPost_ret (v := .slice (some ⟨g, 0, none⟩) (2 + h.size) cap) (by simp [results, Tryz.results97, go_sem]) rfl ⟨g, cap, rfl, HX2⟩
set_option maxRecDepth 100000 in
set_option maxHeartbeats 1000000 in
/-- A sum's bytes. -/
theorem sumText_any (N : Nat) (w : World) (hN : N < 4294967296) :
    Calls Tryz.prog 58 #[.int .u32 N] w fun e w' => e = .returned (.string ⟨(Pu.sumB N).toArray⟩) ∧ Turns (fun _ => False) w w' := by
  have hcw := conv4 ((N : Int) / 16777216) ((N : Int) / 65536 % 256) ((N : Int) / 256 % 256) ((N : Int) % 256) (UInt8.ofNat (N / 16777216)) (UInt8.ofNat (N / 65536 % 256)) (UInt8.ofNat (N / 256 % 256)) (UInt8.ofNat (N % 256))
    (by have := ofNat_int (n := N / 16777216) (by omega); omega) (by have := ofNat_int (n := N / 65536 % 256) (by omega); omega) (by have := ofNat_int (n := N / 256 % 256) (by omega); omega) (by have := ofNat_int (n := N % 256) (by omega); omega)
  go_enter Tryz.func58, Tryz.ntmps58
  go_wp2
  go_ret
  exact ⟨rfl, (Turns.refl _ _).alloc _⟩
set_option maxRecDepth 100000 in
set_option maxHeartbeats 1000000 in
/-- The sum of a page. -/
theorem sumOf_any (p : Nat) (h : ByteArray) (w : World) (hp : p < 65536) (hh : h.size ≤ 1000) :
    Calls Tryz.prog 59 #[.int .i64 p, .string h] w fun e w' => e = .returned (.int .u32 (Pu.sumN (UInt8.ofNat (p / 256) :: UInt8.ofNat (p % 256) :: h.data.toList) : Nat)) ∧ Turns (fun _ => False) w w' := by
  have c := summed_any p h w hp hh
  obtain ⟨L, hL⟩ : ∃ L, L = UInt8.ofNat (p / 256) :: UInt8.ofNat (p % 256) :: h.data.toList := ⟨_, rfl⟩
  have HLl : Hid (L.length = 2 + h.size) := by rw [hL]; show _ + 1 + 1 = _; rw [← size_list]; omega
  rw [← hL] at c ⊢
  clear hL
  go_enter Tryz.func59, Tryz.ntmps59
  go_wp2_with (go_at_call 97; refine c.mono ?_; rintro e w1 ⟨g, cap, rfl, hT, hc⟩)
  have HC : Hid (∀ (j : Nat) (b : UInt8), L[j]? = some b → w1.cell? ⟨g, j, none⟩ = some (.int .u8 (b.toNat : Int))) := hc
  have HT : Hid (Turns (fun _ => False) w w1) := hT
  clear hc hT c
  go_loop [5, 12] (fun sv iv => ∃ (k H : Nat), k ≤ 2 + h.size ∧ iv = .int .i64 k ∧ sv = .int .u32 H ∧ H < 4294967296 ∧ Hid (H = Pu.crc 4294967295 (L.take k))) (fun _ iv => 2 + h.size - (intOf iv).toNat)
  case atStart => exact ⟨0, 4294967295, Nat.zero_le _, rfl, rfl, by decide, rfl⟩
  case round =>
    obtain ⟨k, H, hk, rfl, rfl, hH, HK⟩ := hrel
    by_cases hlt : k < 2 + h.size
    · have hki : (k : Int) < 2 + (h.size : Int) := by omega
      obtain ⟨b, hb⟩ : ∃ b, L[k]? = some b := ⟨_, List.getElem?_eq_getElem (by rw [HLl.out]; exact hlt)⟩
      have hcell := HC.out k b hb
      have hbl : b.toNat < 256 := b.toNat_lt
      have hx := u32_xor_nat H b.toNat hH (by omega)
      have hxl : H ^^^ b.toNat < 4294967296 := Nat.xor_lt_two_pow (n := 32) hH (by omega)
      have cd := drop_any (H ^^^ b.toNat) w1 hxl
      have hZ := Pu.bitN_lt hxl 8
      have HN : Hid (Pu.bitN 8 (H ^^^ b.toNat) = Pu.crc 4294967295 (L.take (k + 1))) := by
        show _ = _
        rw [List.take_add_one, hb, Option.toList_some, Pu.crc_snoc, ← HK.out]; rfl
      generalize Pu.bitN 8 (H ^^^ b.toNat) = Z at *
      generalize H ^^^ b.toNat = X at *
      clear HK hb
      go_wp2_with (go_at_call 98; refine cd.mono ?_; rintro e w2 ⟨rfl, hw2⟩; subst hw2)
      go_round
      case rel => exact ⟨k + 1, Z, by omega, by go_num, rfl, hZ, HN⟩
      case measure => simp [intOf]; omega
    · have hki : ¬ (k : Int) < 2 + (h.size : Int) := by omega
      have HN : Hid (H = Pu.crc 4294967295 L) := by
        have e := HK.out
        rwa [List.take_of_length_le (by rw [HLl.out]; omega)] at e
      have hn : bits .xor .u32 IntKind.u32.max (H : Int) = ((Pu.sumN L : Nat) : Int) := by
        have := u32_xor_nat 4294967295 H (by decide) hH
        rw [xor_ones hH] at this
        unfold Pu.sumN
        rw [← HN.out]
        exact this
      clear HK HN
      go_wp2
      exact bodyPost_ret (v := .int .u32 ((Pu.sumN L : Nat) : Int)) (by simp [results, Tryz.results59, go_sem]) rfl ⟨rfl, HT.out⟩
#print axioms sumOf_any
end Go.Proofs.YtdogncjcainhlaaGreatDoor
