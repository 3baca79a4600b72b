/- The walk of the law bywaykeep.Turned. -/
import Derived.Test.YtdogncjcainhlaaGreatDoorPack2
import Derived.Test.YtdogncjcainhlaaGreatDoorPack11
import Derived.Test.YtdogncjcainhlaaGreatDoorDec
import Derived.Test.YtdogncjcainhlaaGreatDoorPack18
import Derived.Test.YtdogncjcainhlaaGreatDoorPack42
namespace Go.Proofs.YtdogncjcainhlaaGreatDoor
open Go.RowKit Go.Deep
open Mem

set_option maxHeartbeats 400000 in
theorem pick_big (c : Int) (n : Nat) (w : World) (h0 : -9223372036854775808 ≤ c) (h1 : c ≤ 9223372036854775807) (hn : 0 < n) (hn2 : n ≤ 100000) :
    Calls Tryz.prog 10 #[.int .i64 c, .int .i64 n] w fun e w' => e = .returned (.int .i64 (Pu.pick c n)) ∧ w' = w := by
  by_cases hc : c < 0
  · have hz : ((n : Int) == 0) = false := by simp; omega
    have H : Hid (((Pu.pick c n : Nat) : Int) = -((c + 1).tmod (n : Int))) := by
      show _ = _
      unfold Pu.pick; rw [if_pos hc, Int.natCast_emod, Int.toNat_of_nonneg (by omega), ← Int.neg_tmod, Int.tmod_eq_emod_of_nonneg (by omega)]
    go_enter Tryz.func10, Tryz.ntmps10
    go_wp2
    go_ret
    exact ⟨ret_int H.out.symm, rfl⟩
  · have hz : ((n : Int) == 0) = false := by simp; omega
    have H : Hid (((Pu.pick c n : Nat) : Int) = c % (n : Int)) := by
      show _ = _
      unfold Pu.pick; rw [if_neg hc, Int.natCast_emod, Int.toNat_of_nonneg (by omega)]
    go_enter Tryz.func10, Tryz.ntmps10
    go_wp2
    go_ret
    exact ⟨ret_int H.out.symm, rfl⟩
/-- Save of a town by the empty order: pages of some bytes. -/
theorem save_town {w0 : World} {B : Nat} {txt : ByteArray} {n R : Nat} {v : Value} {rb : List Nat} {len : Nat → Nat → Int} (h : TownIs w0 B txt n R v rb len) (w : World) (hm : Ml w) :
    Calls Tryz.prog 9 #[.string txt, .string ⟨#[]⟩] w fun e w' => Turns (fun _ => False) w w' ∧ ∃ (O : List Nat) (D : Nat → Nat → Int) (b : ByteArray), e = .returned (.tuple #[.string b, .int .i64 0, .int .i64 0]) ∧ Pu.Cov n len D O ∧ b.data.toList = Pu.paged (Pu.heldB O (fun v => Pu.hubK D O v n) n) ∧ 32 ≤ b.size ∧ b.size ≤ 2000 ∧ b.size % 32 = 0 := by
  refine (save_any txt ⟨#[]⟩ w (by have := h.size; unfold maxLen; omega) hm (by decide)).mono ?_
  rintro e w' ⟨hT, h2⟩
  refine ⟨hT, ?_⟩
  rw [h.parse] at h2
  dsimp only at h2
  have ho : Pu.orderOf (ByteArray.mk #[]).data.toList n len = some (Pu.ranked (fun v => Pu.rowCnt len v n) n) := by
    unfold Pu.orderOf; rfl
  rw [ho] at h2
  dsimp only at h2
  obtain ⟨D, C, rfl⟩ := h2
  refine ⟨_, D, _, rfl, C, rfl, ?_⟩
  have hn := h.n2
  have hn1 := h.n1
  generalize Pu.ranked (fun v => Pu.rowCnt len v n) n = O at *
  have l1 := Pu.sizesB_len (fun v => Pu.hubK D O v n) n
  have l2 := Pu.labsB_len (fun v => Pu.hubK D O v n) n n (fun v _ => Pu.hubK_len D O v n)
  have l3 := Pu.headB_len O
  have l4 : (3 + 6 * n) * n ≤ 87 * 14 := Nat.mul_le_mul (by omega) hn
  have l5 := C.perm.len
  have l6 : (Pu.heldB O (fun v => Pu.hubK D O v n) n).length ≤ 1300 ∧ 3 ≤ (Pu.heldB O (fun v => Pu.hubK D O v n) n).length := by
    rw [Pu.heldB, List.length_append, List.length_append]; omega
  have l7 := Pu.paged_len (Pu.heldB O (fun v => Pu.hubK D O v n) n)
  have l8 : (ByteArray.mk (Pu.paged (Pu.heldB O (fun v => Pu.hubK D O v n) n)).toArray).size = (Pu.paged (Pu.heldB O (fun v => Pu.hubK D O v n) n)).length := rfl
  rw [l8, l7]
  omega

theorem wrap_one {P : Nat} (h : P < 255) : IntKind.u8.wrap (IntKind.i64.wrap (1 + (P : Int))) = 1 + (P : Int) := by
  have h1 : IntKind.i64.wrap (1 + (P : Int)) = 1 + (P : Int) := by rw [IntKind.wrap_i64]; omega
  rw [h1, IntKind.wrap_u8']
  omega
theorem wrap_two {P : Nat} (h : P < 256) : IntKind.u8.wrap (P : Int) = (P : Int) := by
  rw [IntKind.wrap_u8']
  omega
/-- Bytes that lie in a block, and may be written. -/
structure BytesAt (w : World) (g : Nat) (l : List UInt8) : Prop where
  lt : g < w.heap.size
  cell : ∀ (j : Nat) (c : UInt8), l[j]? = some c → w.cell? ⟨g, j, none⟩ = some (.int .u8 (c.toNat : Int))
  free : ∀ j, j < l.length → w.frozen? ⟨g, j, none⟩ = false
theorem BytesAt.turns {p : Nat → Prop} {w w' : World} {g : Nat} {l : List UInt8} (h : BytesAt w g l) (t : Turns p w w') (hp : ¬ p g) : BytesAt w' g l :=
  ⟨Nat.lt_of_lt_of_le h.lt t.size, fun j c hj => (t.cell (a := ⟨g, j, none⟩) h.lt hp).trans (h.cell j c hj), fun j hj => (t.frozen (a := ⟨g, j, none⟩) h.lt hp).trans (h.free j hj)⟩
theorem BytesAt.set {w : World} {g : Nat} {l : List UInt8} (h : BytesAt w g l) {k : Nat} (hk : k < l.length) (x : UInt8) : BytesAt (w.setCell ⟨g, k, none⟩ (.int .u8 (x.toNat : Int))) g (l.set k x) := by
  refine ⟨by simpa using h.lt, fun j c hj => ?_, fun j hj => by rw [World.frozen?_setCell]; exact h.free j (by simpa using hj)⟩
  by_cases e : j = k
  · subst e
    rw [List.getElem?_set_self hk] at hj
    injection hj with hj
    subst hj
    exact World.cell?_setCell_same _ _ _ (h.cell j l[j] (List.getElem?_eq_getElem hk))
  · rw [List.getElem?_set_ne (by omega)] at hj
    rw [World.cell?_setCell_other _ _ _ _ (by intro c; injection c with _ c; omega)]
    exact h.cell j c hj
theorem bytes_of (b : ByteArray) (w : World) : ∃ (cap : Nat) (w' : World), (convert 9 31 (.string b)).run Tryz.prog w = .ok (.slice (some ⟨w.heap.size, 0, none⟩) b.size cap) w' ∧ Turns (fun _ => False) w w' ∧ BytesAt w' w.heap.size b.data.toList := by
  refine ⟨_, _, run_bytes_of_string (P := Tryz.prog) w 9 31 5 b Tryz.underlying9 Tryz.underlying31 Tryz.underlying5, ((Turns.refl _ w).drew).alloc _, ⟨by simp, ?_, ?_⟩⟩
  · intro j c hj
    have hj2 : j < b.data.size := by
      have := (List.getElem?_eq_some_iff.1 hj).1
      simpa using this
    have hc : (w.drew.alloc (.cells (bytesRow b (grownCap w b.size 0 5)) 5 ((bytesRow b (grownCap w b.size 0 5)).size, (bytesRow b (grownCap w b.size 0 5)).size + 1))).heap[w.heap.size]? = some (.cells (bytesRow b (grownCap w b.size 0 5)) 5 ((bytesRow b (grownCap w b.size 0 5)).size, (bytesRow b (grownCap w b.size 0 5)).size + 1)) := Array.getElem?_push_size
    rw [Lib.cell_of_heap hc, bytesRow_at b _ j hj2]
    rw [List.getElem?_eq_getElem (by simpa using hj2)] at hj
    injection hj with hj
    rw [← hj]; rfl
  · intro j hj
    have := World.frozen?_alloc_mark w.drew (bytesRow b (grownCap w b.size 0 5)) 5 (bytesRow b (grownCap w b.size 0 5)).size ((bytesRow b (grownCap w b.size 0 5)).size + 1) j
    refine this.trans ?_
    have h2 : j < (bytesRow b (grownCap w b.size 0 5)).size := by
      unfold bytesRow
      simp at hj ⊢
      omega
    simp
    omega

set_option maxRecDepth 100000 in
set_option maxHeartbeats 4000000 in
theorem turned_any (ht : TownSaid) (w : World) (size at_ bts oth : Int) (ra : Option Addr) (K cap : Nat) (raw : Nat → Int × Int × Int) (h0 : -9223372036854775808 ≤ size) (h1 : size ≤ 9223372036854775807) (hK : K ≤ 9223372036854775807) (hRaw : Raw w ra K raw)
    (ha0 : -9223372036854775808 ≤ at_) (ha1 : at_ ≤ 9223372036854775807) (hb0 : -9223372036854775808 ≤ bts) (hb1 : bts ≤ 9223372036854775807) (ho0 : -9223372036854775808 ≤ oth) (ho1 : oth ≤ 9223372036854775807) (hm : Ml w) :
    Calls Tryz.prog 3 #[.int .i64 size, .slice ra K cap, .int .i64 at_, .int .i64 bts, .int .i64 oth] w fun e w' => e = .returned (.bool true) ∧ Turns (fun _ => False) w w' := by
  go_enter Tryz.func3, Tryz.ntmps3
  go_wp2_with fail
  refine (ht w size ra K cap raw h0 h1 hK hRaw).mono ?_
  rintro e w1 ⟨hT1, txt, n, R, v, rb, len, rfl, hTown⟩
  have hm1 := hm.turns hT1 (fun x => x)
  obtain ⟨lb, lcap, rfl⟩ := hTown.form
  go_wp2_with fail
  refine (awake_any _ (hm1.alloc _)).mono ?_
  rintro e w2 ⟨rfl, hT2⟩
  have hTB2 : TB w2 w1.heap.size txt n (.slice (some ⟨lb, 0, none⟩) n lcap) := (TB.new w1 txt n _).turns hT2 (fun x => x)
  have hTa : Turns (fun _ => False) w1 w2 := ((Turns.refl _ w1).alloc _).trans hT2
  have hTw2 : Turns (fun _ => False) w w2 := hT1.trans hTa
  have hm2 := hm1.turns hTa (fun x => x)
  have c0 := hTB2.c0
  have c1 := hTB2.c1
  have hbl := hTB2.lt
  have cs := fun w hm => save_town hTown w hm
  clear hT1 hT2 hm1 hm hRaw hTa hTB2 hTown
  go_wp2_with fail
  refine (cs _ (by first | exact hm2 | exact hm2.drew | exact hm2.turns (((Turns.refl _ w2).drew)) (fun x => x))).mono ?_
  rintro e w3 ⟨hT3, O, D, b, rfl, hC, hbl2, hb32, hb2000, hbm⟩
  have HT3 : Hid (Turns (fun _ => False) w w3) := by first | exact hTw2.trans hT3 | exact hTw2.drew.trans hT3
  obtain ⟨HB, hHB⟩ : ∃ HB, HB = Pu.heldB O (fun v => Pu.hubK D O v n) n := ⟨_, rfl⟩
  rw [← hHB] at hbl2
  have HBL : Hid (b.data.toList = Pu.paged HB ∧ HB.length ≤ 60000) := ⟨hbl2, by
    have := Pu.paged_len HB
    rw [← hbl2, ← size_list] at this
    omega⟩
  clear hT3 hTw2 c0 c1 hbl cs hm2 hC hbl2 hHB
  have hlt : ¬ (b.size : Int) < 32 := by omega
  obtain ⟨bc, w4, hcv, hT4, hB4⟩ := bytes_of b w3
  have HT4 : Hid (Turns (fun _ => False) w w4) := HT3.out.trans hT4
  have HB4 : Hid (BytesAt w4 w3.heap.size b.data.toList) := hB4
  have cp := pick_big at_ b.size w4 ha0 ha1 (by omega) (by omega)
  have hkl := Pu.pick_lt at_ (n := b.size) (by omega)
  clear hT4 hB4
  go_wp2_with fail
  refine cp.mono ?_
  rintro e w5 ⟨rfl, hw5⟩
  subst w5
  generalize Pu.pick at_ b.size = k at *
  clear cp hcv
  have hbl : b.data.toList.length = b.size := (size_list b).symm
  obtain ⟨c, hc⟩ : ∃ c, b.data.toList[k]? = some c := ⟨_, List.getElem?_eq_getElem (by omega)⟩
  have e1 := HB4.out.cell k c hc
  have e2 := HB4.out.free k (by omega)
  have hki : (k : Int) < (b.size : Int) := by omega
  have hcl : c.toNat < 256 := c.toNat_lt
  have cq := fun w => pick_big bts 255 w hb0 hb1 (by omega) (by omega)
  have hpl := Pu.pick_lt bts (n := 255) (by omega)
  generalize Pu.pick bts 255 = P at *
  have hx : bits .xor .u8 (c.toNat : Int) (1 + (P : Int)) = ((c.toNat ^^^ (1 + P) : Nat) : Int) := by
    have := u8_xor_nat c.toNat (1 + P) hcl (by omega)
    simpa using this
  obtain ⟨x, hxx⟩ : ∃ x : UInt8, x.toNat = c.toNat ^^^ (1 + P) := ⟨UInt8.ofNat (c.toNat ^^^ (1 + P)), by
    have : c.toNat ^^^ (1 + P) < 256 := Nat.xor_lt_two_pow (n := 8) hcl (by omega)
    rw [Pu.toNat_ofNat8 this]⟩
  have hxc : x ≠ c := by
    rintro rfl
    have h2 : x.toNat ^^^ x.toNat = x.toNat ^^^ (x.toNat ^^^ (1 + P)) := by rw [← hxx]
    rw [Nat.xor_self, ← Nat.xor_assoc, Nat.xor_self, Nat.zero_xor] at h2
    omega
  rw [← hxx] at hx
  have hxw : bits .xor .u8 (c.toNat : Int) (IntKind.u8.wrap (IntKind.i64.wrap (1 + (P : Int)))) = ((x.toNat : Nat) : Int) := by
    rw [wrap_one hpl]; exact hx
  have HC : Hid (b.data.toList[k]? = some c ∧ x ≠ c) := ⟨hc, hxc⟩
  have HB5 : Hid (∀ q, BytesAt ((w4.setCell ⟨w3.heap.size, k, none⟩ (.int .u8 (x.toNat : Int))).drewN q) w3.heap.size (b.data.toList.set k x) ∧ Turns (fun _ => False) w ((w4.setCell ⟨w3.heap.size, k, none⟩ (.int .u8 (x.toNat : Int))).drewN q)) := by
    intro q
    exact ⟨(HB4.out.set (by omega) x).turns ((Turns.refl (fun _ => False) _).drewN q) (fun x => x), (HT4.out.setCell (Or.inl HT3.out.size) _).drewN q⟩
  have HG : Hid (w.heap.size ≤ w3.heap.size) := HT3.out.size
  clear hc hxc hxx
  go_upto_region 8 with fail
  go_cut [58] from 59 to 69 (fun s58 wx => s58 = .slice (some ⟨w3.heap.size, 0, none⟩) b.size bc ∧ BytesAt wx w3.heap.size (b.data.toList.set k x) ∧ Turns (fun _ => False) w wx)
  case first =>
    clear HT4 HB4 HT3
    go_region_with (go_at_call 10; refine (cq _).mono ?_; rintro e wq ⟨rfl, hwq⟩; subst hwq)
    all_goals
      go_wp2_with fail
      go_meet
      case rel => exact ⟨rfl, HB5.out 1⟩
  case rest =>
    obtain ⟨rfl, hB6, hT6⟩ := hcut
    have HB6 : Hid (BytesAt wc w3.heap.size (b.data.toList.set k x) ∧ Turns (fun _ => False) w wc) := ⟨hB6, hT6⟩
    clear HB5 hB6 hT6 HT4 HB4 HT3 e1 e2 hx hxw cq
    obtain ⟨gg, hgg⟩ : ∃ gg, gg = w3.heap.size := ⟨_, rfl⟩
    rw [← hgg] at HB6 HG ⊢
    clear hgg
    have hsl : (b.data.toList.set k x).length = b.size := by rw [List.length_set]; exact hbl
    by_cases h27 : k % 32 < 27
    · have h27i : (k : Int) % 32 < 27 := by omega
      have hk1 : k + 1 < b.size := by omega
      have hki1 : (k : Int) + 1 < (b.size : Int) := by omega
      have hwk : IntKind.i64.wrap ((k : Int) + 1) = ((k + 1 : Nat) : Int) := by rw [IntKind.wrap_i64]; omega
      have hki2 : ((k + 1 : Nat) : Int) < (b.size : Int) := by omega
      obtain ⟨c1, hc1⟩ : ∃ c1, b.data.toList[k + 1]? = some c1 := ⟨_, List.getElem?_eq_getElem (by omega)⟩
      have e1 := HB6.out.1.cell (k + 1) c1 (by rw [List.getElem?_set_ne (by omega)]; exact hc1)
      have e2 := HB6.out.1.free (k + 1) (by omega)
      have hcl1 : c1.toNat < 256 := c1.toNat_lt
      have cq := fun w => pick_big oth 256 w ho0 ho1 (by omega) (by omega)
      have hpl2 := Pu.pick_lt oth (n := 256) (by omega)
      generalize Pu.pick oth 256 = P2 at *
      obtain ⟨y, hyy⟩ : ∃ y : UInt8, y.toNat = c1.toNat ^^^ P2 := ⟨UInt8.ofNat (c1.toNat ^^^ P2), by
        have : c1.toNat ^^^ P2 < 256 := Nat.xor_lt_two_pow (n := 8) hcl1 (by omega)
        rw [Pu.toNat_ofNat8 this]⟩
      have hyw : bits .xor .u8 (c1.toNat : Int) (IntKind.u8.wrap (P2 : Int)) = ((y.toNat : Nat) : Int) := by
        rw [wrap_two hpl2, hyy]; exact u8_xor_nat c1.toNat P2 hcl1 (by omega)
      have hyx : bits .xor .u8 (c1.toNat : Int) (P2 : Int) = ((y.toNat : Nat) : Int) := by
        rw [hyy]; exact u8_xor_nat c1.toNat P2 hcl1 (by omega)
      have HF : Hid (Pu.FW ((b.data.toList.set k x).set (k + 1) y) ((k / 32 : Nat) : Int) ∧ ((b.data.toList.set k x).set (k + 1) y).length = b.size) := by
        have h1 := HBL.out.1
        have h2 := HC.out.1
        have h3 := hc1
        refine ⟨?_, by rw [List.length_set]; exact hsl⟩
        rw [h1] at h2 h3 ⊢
        exact Pu.fw_two h2 h3 h27 HC.out.2
      obtain ⟨d, hd⟩ : ∃ d, d = (b.data.toList.set k x).set (k + 1) y := ⟨_, rfl⟩
      rw [← hd] at HF
      have HB7 : Hid (∀ q, BytesAt ((wc.setCell ⟨gg, k + 1, none⟩ (.int .u8 (y.toNat : Int))).drewN q) gg d ∧ Turns (fun _ => False) w ((wc.setCell ⟨gg, k + 1, none⟩ (.int .u8 (y.toNat : Int))).drewN q)) := by
        intro q
        rw [hd]
        exact ⟨(HB6.out.1.set (by omega) y).turns ((Turns.refl (fun _ => False) _).drewN q) (fun x => x), (HB6.out.2.setCell (Or.inl HG.out) _).drewN q⟩
      have hdl := HF.out.2
      obtain ⟨w0, hw0⟩ : ∃ w0, w0 = wc := ⟨_, rfl⟩
      subst hw0
      clear hc1 hyy HB6 HC hd
      go_upto_region 10 with fail
      go_cut [73] from 74 to 85 (fun s73 wx => s73 = .slice (some ⟨gg, 0, none⟩) b.size bc ∧ BytesAt wx gg d ∧ Turns (fun _ => False) w wx)
      case first =>
        clear HBL
        go_region_with (go_at_call 10; refine (cq _).mono ?_; rintro e wq ⟨rfl, hwq⟩; subst hwq)
        all_goals
          go_wp2_with fail
          go_meet
          case rel => exact ⟨rfl, HB7.out 1⟩
      case rest =>
        obtain ⟨rfl, hBd, hTd⟩ := hcut
        obtain ⟨wd, hwd⟩ : ∃ wd, wd = wc := ⟨_, rfl⟩
        subst hwd
        have HD : Hid (Pu.FW d ((k / 32 : Nat) : Int) ∧ BytesAt wd gg d ∧ Turns (fun _ => False) w wd) := ⟨HF.out.1, hBd, hTd⟩
        clear HB7 HF hBd hTd e1 e2 hyw hyx cq
        have hcv : (convert 31 9 (.slice (some ⟨gg, 0, none⟩) b.size bc)).run Tryz.prog wd = .ok (.string ⟨d.toArray⟩) wd := by
          rw [← hdl]
          refine run_convert_bytes_back wd 31 9 5 ⟨gg, 0, none⟩ bc d Tryz.underlying31 Tryz.underlying5 Tryz.underlying9 ?_
          intro j hj
          rw [addr_add]
          exact HD.out.2.1.cell j d[j] (List.getElem?_eq_getElem hj)
        obtain ⟨X, hX⟩ : ∃ X : ByteArray, X = ⟨d.toArray⟩ := ⟨_, rfl⟩
        rw [← hX] at hcv
        have hXs : X.size = b.size := by rw [hX, ← hdl]; rfl
        have hXl : X.data.toList = d := by rw [hX]
        have c1 := fun w => open_sum X 1 w (k / 32) (by omega) (by omega) (by omega) (by omega) (by omega) (by rw [hXl]; exact HD.out.1)
        have hb1e : (b.size : Int) - 1 = ((b.size - 1 : Nat) : Int) := by omega
        obtain ⟨m1, hm1⟩ : ∃ m1, m1 = b.size - 1 := ⟨_, rfl⟩
        rw [← hm1] at hb1e
        have hm1b : m1 ≤ b.size := by omega
        obtain ⟨Y, hY⟩ : ∃ Y, Y = b.extract 0 m1 := ⟨_, rfl⟩
        have hYs : Y.size = b.size - 1 := by rw [hY, ByteArray.size_extract]; omega
        have c2 := fun w => open_part Y 1 w (by omega) (by omega) (by omega) (Or.inr (by omega))
        obtain ⟨Z, hZ⟩ : ∃ Z, Z = b.extract 32 b.size := ⟨_, rfl⟩
        have hZs : Z.size = b.size - 32 := by rw [hZ, ByteArray.size_extract]; omega
        have hZl : Z.data.toList = b.data.toList.drop 32 := by rw [hZ, extract_list, List.take_of_length_le (by omega)]
        obtain ⟨V, hV⟩ : ∃ V, V = b ++ b.extract 0 32 := ⟨_, rfl⟩
        have hVs : V.size = b.size + 32 := by rw [hV, ByteArray.size_append, ByteArray.size_extract]; omega
        have hVl : V.data.toList = b.data.toList ++ b.data.toList.take 32 := by rw [hV, cat_list, extract_list, List.drop_zero]
        have hpl0 : (Pu.paged HB).length = b.size := by rw [← HBL.out.1]; exact hbl
        have c4 := fun w => open_sum V 1 w (b.size / 32) (by omega) (by omega) (by omega) (by omega) (by omega) (by
          rw [hVl, HBL.out.1, ← hpl0]
          exact Pu.fw_more (by omega) HBL.out.2)
        have hbig : (9223372036854775807 < b.size + (b.extract 0 32).size) = False := by
          rw [ByteArray.size_extract]; simp; omega
        have hY2 := hY.symm
        have hZ2 := hZ.symm
        have hV2 := hV.symm
        have h32i : (32 : Int) ≤ (b.size : Int) := by omega
        have HTd : Hid (Turns (fun _ => False) w wd) := HD.out.2.2
        have hZF : Hid (b.size ≠ 32 → Pu.FW Z.data.toList ((0 : Nat) : Int)) := by
          intro hne
          rw [hZl, HBL.out.1]
          exact Pu.fw_cut (by omega)
        clear HD hX hXl hY hZ hV hZl hVl hm1 hpl0
        go_wp2_with fail
        refine (c1 _).mono ?_
        rintro e wa ⟨rfl, hTa⟩
        have HTa : Hid (Turns (fun _ => False) w wa) := HTd.out.trans hTa
        clear hTa hcv c1
        go_wp2_with fail
        refine (c2 _).mono ?_
        rintro e wb ⟨rfl, hwb⟩
        subst wb
        by_cases h32 : b.size = 32
        · have c3 := fun w => open_part Z 1 w (by omega) (by omega) (by omega) (Or.inl (by omega))
          have h32b : ((b.size : Int) == 32) = true := by rw [h32]; rfl
          clear h32
          go_wp2_with fail
          refine (c3 _).mono ?_
          rintro e we ⟨rfl, hwe⟩
          subst we
          go_wp2_with fail
          refine (c4 _).mono ?_
          rintro e wf ⟨rfl, hTf⟩
          have HTf : Hid (Turns (fun _ => False) w wf) := HTa.out.trans hTf
          clear hTf c2 c3 c4
          go_wp2
          go_ret
          exact ⟨by simp, HTf.out⟩
        · have c3 := fun w => open_sum Z 1 w 0 (by omega) (by omega) (by omega) (by omega) (by omega) (hZF.out h32)
          go_wp2_with fail
          refine (c3 _).mono ?_
          rintro e we ⟨rfl, hTe⟩
          have HTe : Hid (Turns (fun _ => False) w we) := HTa.out.trans hTe
          clear hTe
          go_wp2_with fail
          refine (c4 _).mono ?_
          rintro e wf ⟨rfl, hTf⟩
          have HTf : Hid (Turns (fun _ => False) w wf) := HTe.out.trans hTf
          clear hTf c2 c3 c4
          go_wp2
          go_ret
          exact ⟨by simp, HTf.out⟩
    · have h27i : ¬ (k : Int) % 32 < 27 := by omega
      obtain ⟨d, hd⟩ : ∃ d, d = b.data.toList.set k x := ⟨_, rfl⟩
      obtain ⟨wd, hwd⟩ : ∃ wd, wd = wc := ⟨_, rfl⟩
      subst hwd
      have HD : Hid (Pu.FW d ((k / 32 : Nat) : Int) ∧ BytesAt wd gg d ∧ Turns (fun _ => False) w wd) := by
        have h1 := HBL.out.1
        have h2 := HC.out.1
        refine ⟨?_, by rw [hd]; exact HB6.out.1, HB6.out.2⟩
        rw [hd, h1]
        rw [h1] at h2
        exact Pu.fw_one h2 HC.out.2
      have hdl : d.length = b.size := by rw [hd]; exact hsl
      clear HB6 HC hd
      have hcv : (convert 31 9 (.slice (some ⟨gg, 0, none⟩) b.size bc)).run Tryz.prog wd = .ok (.string ⟨d.toArray⟩) wd := by
        rw [← hdl]
        refine run_convert_bytes_back wd 31 9 5 ⟨gg, 0, none⟩ bc d Tryz.underlying31 Tryz.underlying5 Tryz.underlying9 ?_
        intro j hj
        rw [addr_add]
        exact HD.out.2.1.cell j d[j] (List.getElem?_eq_getElem hj)
      obtain ⟨X, hX⟩ : ∃ X : ByteArray, X = ⟨d.toArray⟩ := ⟨_, rfl⟩
      rw [← hX] at hcv
      have hXs : X.size = b.size := by rw [hX, ← hdl]; rfl
      have hXl : X.data.toList = d := by rw [hX]
      have c1 := fun w => open_sum X 1 w (k / 32) (by omega) (by omega) (by omega) (by omega) (by omega) (by rw [hXl]; exact HD.out.1)
      have hb1e : (b.size : Int) - 1 = ((b.size - 1 : Nat) : Int) := by omega
      obtain ⟨m1, hm1⟩ : ∃ m1, m1 = b.size - 1 := ⟨_, rfl⟩
      rw [← hm1] at hb1e
      have hm1b : m1 ≤ b.size := by omega
      obtain ⟨Y, hY⟩ : ∃ Y, Y = b.extract 0 m1 := ⟨_, rfl⟩
      have hYs : Y.size = b.size - 1 := by rw [hY, ByteArray.size_extract]; omega
      have c2 := fun w => open_part Y 1 w (by omega) (by omega) (by omega) (Or.inr (by omega))
      obtain ⟨Z, hZ⟩ : ∃ Z, Z = b.extract 32 b.size := ⟨_, rfl⟩
      have hZs : Z.size = b.size - 32 := by rw [hZ, ByteArray.size_extract]; omega
      have hZl : Z.data.toList = b.data.toList.drop 32 := by rw [hZ, extract_list, List.take_of_length_le (by omega)]
      obtain ⟨V, hV⟩ : ∃ V, V = b ++ b.extract 0 32 := ⟨_, rfl⟩
      have hVs : V.size = b.size + 32 := by rw [hV, ByteArray.size_append, ByteArray.size_extract]; omega
      have hVl : V.data.toList = b.data.toList ++ b.data.toList.take 32 := by rw [hV, cat_list, extract_list, List.drop_zero]
      have hpl0 : (Pu.paged HB).length = b.size := by rw [← HBL.out.1]; exact hbl
      have c4 := fun w => open_sum V 1 w (b.size / 32) (by omega) (by omega) (by omega) (by omega) (by omega) (by
        rw [hVl, HBL.out.1, ← hpl0]
        exact Pu.fw_more (by omega) HBL.out.2)
      have hbig : (9223372036854775807 < b.size + (b.extract 0 32).size) = False := by
        rw [ByteArray.size_extract]; simp; omega
      have hY2 := hY.symm
      have hZ2 := hZ.symm
      have hV2 := hV.symm
      have h32i : (32 : Int) ≤ (b.size : Int) := by omega
      have HTd : Hid (Turns (fun _ => False) w wd) := HD.out.2.2
      have hZF : Hid (b.size ≠ 32 → Pu.FW Z.data.toList ((0 : Nat) : Int)) := by
        intro hne
        rw [hZl, HBL.out.1]
        exact Pu.fw_cut (by omega)
      clear HD hX hXl hY hZ hV hZl hVl hm1 hpl0
      go_wp2_with fail
      refine (c1 _).mono ?_
      rintro e wa ⟨rfl, hTa⟩
      have HTa : Hid (Turns (fun _ => False) w wa) := HTd.out.trans hTa
      clear hTa hcv c1
      go_wp2_with fail
      refine (c2 _).mono ?_
      rintro e wb ⟨rfl, hwb⟩
      subst wb
      by_cases h32 : b.size = 32
      · have c3 := fun w => open_part Z 1 w (by omega) (by omega) (by omega) (Or.inl (by omega))
        have h32b : ((b.size : Int) == 32) = true := by rw [h32]; rfl
        clear h32
        go_wp2_with fail
        refine (c3 _).mono ?_
        rintro e we ⟨rfl, hwe⟩
        subst we
        go_wp2_with fail
        refine (c4 _).mono ?_
        rintro e wf ⟨rfl, hTf⟩
        have HTf : Hid (Turns (fun _ => False) w wf) := HTa.out.trans hTf
        clear hTf c2 c3 c4
        go_wp2
        go_ret
        exact ⟨by simp, HTf.out⟩
      · have c3 := fun w => open_sum Z 1 w 0 (by omega) (by omega) (by omega) (by omega) (by omega) (hZF.out h32)
        go_wp2_with fail
        refine (c3 _).mono ?_
        rintro e we ⟨rfl, hTe⟩
        have HTe : Hid (Turns (fun _ => False) w we) := HTa.out.trans hTe
        clear hTe
        go_wp2_with fail
        refine (c4 _).mono ?_
        rintro e wf ⟨rfl, hTf⟩
        have HTf : Hid (Turns (fun _ => False) w wf) := HTe.out.trans hTf
        clear hTf c2 c3 c4
        go_wp2
        go_ret
        exact ⟨by simp, HTf.out⟩
#print axioms turned_any
end Go.Proofs.YtdogncjcainhlaaGreatDoor
