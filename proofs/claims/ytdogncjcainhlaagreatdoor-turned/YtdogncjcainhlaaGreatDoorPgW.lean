/- The walk of pages.Write. -/
import Derived.Test.YtdogncjcainhlaaGreatDoorSum
import Derived.Test.YtdogncjcainhlaaGreatDoorPack36
namespace Go.Proofs.YtdogncjcainhlaaGreatDoor
open Go.RowKit Go.Deep
open Mem

theorem byteCells_bv (l : List UInt8) : Lib.byteCells l = bv l := rfl
theorem builder_turns {B b : Nat} {bs : List Value} {w w' : World} (h : Lib.IsBuilder 145 5 B b bs w) (t : Turns (fun _ => False) w w') : Lib.IsBuilder 145 5 B b bs w' := by
  have one : ∀ p, Lib.BuilderAt 145 5 B b p bs w → Lib.BuilderAt 145 5 B b p bs w' := by
    rintro p ⟨h1, v, h2, h3, h4⟩
    exact ⟨h1, v, (t.block b (lt_of_block h2) (fun x => x)).trans h2, owns_turns h3 t, h4⟩
  rcases h with h | h
  · exact Or.inl (one _ h)
  · exact Or.inr (one _ h)
theorem then_below {w wr w2 : World} (h : Turns (fun _ => False) w wr) (hB : Below w.heap.size wr w2) : Turns (fun _ => False) w w2 :=
  ⟨hB.os.trans h.os, hB.tape.trans h.tape, hB.output.trans h.output, Nat.le_trans h.size hB.size, fun k hk _ => (hB.block k hk).trans (h.block k hk (fun x => x))⟩
namespace Pu
theorem chunk_pad {x : List UInt8} {k : Nat} (h : 28 * k < x.length) : chunk (pad x) k = (x.drop (28 * k)).take 28 ++ List.replicate (28 - ((x.drop (28 * k)).take 28).length) 0 := by
  unfold chunk pad
  rw [List.drop_append_of_le_length (by omega)]
  by_cases e : 28 ≤ x.length - 28 * k
  · rw [List.take_append_of_le_length (by rw [List.length_drop]; exact e), List.length_take, List.length_drop, show 28 - min 28 (x.length - 28 * k) = 0 by omega]
    simp
  · have hl : (x.drop (28 * k)).length = x.length - 28 * k := List.length_drop
    rw [List.take_append, hl, List.take_of_length_le (l := x.drop (28 * k)) (by omega), hl, List.take_replicate]
    congr 2
    omega
theorem repeat_zero (c : Nat) : Lib.repeatL [0] c = List.replicate c (0 : UInt8) := by
  induction c with
  | zero => rfl
  | succ n ih => rw [List.replicate_succ, ← ih]; rfl
end Pu

set_option maxRecDepth 100000 in
set_option maxHeartbeats 2000000 in
/-- pages.Write. -/
theorem pgwrite_any (x : ByteArray) (w : World) (hx : x.size ≤ 20000) :
    Calls Tryz.prog 24 #[.string x] w fun e w' => e = .returned (.string ⟨(Pu.paged x.data.toList).toArray⟩) ∧ Turns (fun _ => False) w w' := by
  have HXL : Hid (x.size = x.data.toList.length) := size_list x
  have H0 : Hid (∃ (R : ByteArray) (k : Nat) (wy : World), Value.string x = .string R ∧ Value.int .i64 0 = .int .i64 (k : Int) ∧ k ≤ 1000 ∧ R.size ≤ 20000 ∧ wy = w.alloc (.cells #[.pointer none, .slice none 0 0] 145) ∧ Hid (R.data.toList = x.data.toList.drop (28 * k) ∧ (k = 0 ∨ 28 * (k - 1) < x.size) ∧ Lib.IsBuilder 145 5 w.heap.size w.heap.size (bv (Pu.pageP (Pu.pad x.data.toList) k)) wy ∧ Turns (fun _ => False) w wy)) := by
    refine ⟨x, 0, _, rfl, rfl, by omega, hx, rfl, rfl, Or.inl rfl, Or.inl ⟨Nat.le_refl _, .slice none 0 0, Array.getElem?_push_size, World.ownsRow_nil _ _ _ _, by intro c; cases c⟩, (Turns.refl _ _).alloc _⟩
  go_enter Tryz.func24, Tryz.ntmps24
  go_wp2
  go_loopw [0, 4] (fun hv pv wr => ∃ (R : ByteArray) (k : Nat) (wy : World), hv = .string R ∧ pv = .int .i64 (k : Int) ∧ k ≤ 1000 ∧ R.size ≤ 20000 ∧ wy = wr ∧ Hid (R.data.toList = x.data.toList.drop (28 * k) ∧ (k = 0 ∨ 28 * (k - 1) < x.size) ∧ Lib.IsBuilder 145 5 w.heap.size w.heap.size (bv (Pu.pageP (Pu.pad x.data.toList) k)) wy ∧ Turns (fun _ => False) w wy)) (fun hv _ _ => strLen hv)
  case atStart => exact H0.out
  case round =>
    clear H0
    obtain ⟨R, k, wr, rfl, rfl, hk, hR, hwy, HR⟩ := hrel
    subst hwy
    by_cases hz : R.size = 0
    · have hzi : ¬ (0 : Int) < (R.size : Int) := by omega
      have hzj : ¬ (R.size : Int) > 0 := by omega
      obtain ⟨r1, r2, r3, r4⟩ := HR.out
      have cs := builder_string w.heap.size w.heap.size (Pu.pageP (Pu.pad x.data.toList) k) wr r3 r4.size
      have HE : Hid (Pu.pageP (Pu.pad x.data.toList) k = Pu.paged x.data.toList) := by
        have e1 := congrArg List.length r1
        have hxl := HXL.out
        rw [← size_list, List.length_drop, hz] at e1
        have e2 := Pu.pad_len x.data.toList
        show _ = _
        rw [Pu.paged, show (Pu.pad x.data.toList).length / 28 = k by omega]
      have HT : Hid (Turns (fun _ => False) w wr) := r4
      rw [HE.out] at cs
      obtain ⟨PG, hPG⟩ : ∃ PG, PG = Pu.paged x.data.toList := ⟨_, rfl⟩
      rw [← hPG] at cs
      have HPG : Hid (PG = Pu.paged x.data.toList) := hPG
      clear hPG
      clear HR r1 r2 r3 r4 HE hz HXL
      go_wp2_with fail
      refine cs.mono ?_
      rintro e w2 ⟨rfl, hB⟩
      have HT2 : Hid (Turns (fun _ => False) w w2) := then_below HT.out hB
      clear cs hB
      go_wp2
      exact bodyPost_ret (v := .string ⟨PG.toArray⟩) (by simp [results, Tryz.results24, go_sem]) rfl ⟨by rw [HPG.out], HT2.out⟩
    · have hzi : (0 : Int) < (R.size : Int) := by omega
      have hzj : (R.size : Int) > 0 := by omega
      obtain ⟨m, hm⟩ : ∃ m, m = min 28 R.size := ⟨_, rfl⟩
      have hm28 : m ≤ 28 := by omega
      have hmR : m ≤ R.size := by omega
      have hm0 : 0 < m := by omega
      have hmin : min (28 : Int) (R.size : Int) = (m : Int) := by omega
      have hmm : min m R.size = m := by omega
      have HM : Hid (m = min 28 R.size) := hm
      clear hm
      have cr := fun w => strings_Repeat ⟨#[0]⟩ (28 - m) w (by omega) (by show 1 * _ ≤ _; omega)
      obtain ⟨Z, hZ⟩ : ∃ Z : ByteArray, Z = ⟨(Lib.repeatL (ByteArray.mk #[0]).data.toList (28 - m)).toArray⟩ := ⟨_, rfl⟩
      rw [← hZ] at cr
      have HZ : Hid (Z.data.toList = List.replicate (28 - m) 0) := by rw [hZ]; exact Pu.repeat_zero _
      have hZs : Z.size ≤ 28 := by rw [size_list, HZ.out, List.length_replicate]; omega
      obtain ⟨C, hC⟩ : ∃ C : ByteArray, C = R.extract 0 m ++ Z := ⟨_, rfl⟩
      have hxl := HXL.out
      obtain ⟨r1, r2, r3, r4⟩ := HR.out
      have hRl : R.size = x.size - 28 * k := by rw [size_list R, r1, List.length_drop, ← hxl]
      have HC : Hid (C.data.toList = Pu.chunk (Pu.pad x.data.toList) k ∧ C.size = 28) := by
        have h1 : C.data.toList = Pu.chunk (Pu.pad x.data.toList) k := by
          rw [hC, cat_list, HZ.out, extract_list, Pu.chunk_pad (by omega), ← r1, List.drop_zero]
          have e1 : R.data.toList.take m = R.data.toList.take 28 := by
            by_cases e : R.size < 28
            · rw [List.take_of_length_le (by rw [← size_list]; omega), List.take_of_length_le (by rw [← size_list]; omega)]
            · rw [show m = 28 by rw [HM.out]; omega]
          rw [← e1, List.length_take, ← size_list, show min m R.size = m by omega]
        exact ⟨h1, by rw [size_list, h1, Pu.chunk_len (by have := Pu.pad_len x.data.toList; omega)]⟩
      have hCs := HC.out.2
      have hex : (R.extract 0 m).size = m := by rw [ByteArray.size_extract]; omega
      have hcat : R.extract 0 m ++ Z = C := hC.symm
      have hbig : (9223372036854775807 < (R.extract 0 m).size + Z.size) = False := by simp; omega
      have hrc : (28 : Int) - (m : Int) = ((28 - m : Nat) : Int) := by omega
      have cq := fun w => sumOf_any k C w (by omega) (by omega)
      obtain ⟨N, hN⟩ : ∃ N, N = Pu.sumN (UInt8.ofNat (k / 256) :: UInt8.ofNat (k % 256) :: C.data.toList) := ⟨_, rfl⟩
      have hNl : N < 4294967296 := by rw [hN]; exact Pu.sumN_lt _
      rw [← hN] at cq
      have ct := fun w => sumText_any N w hNl
      obtain ⟨S4, hS4⟩ : ∃ S4 : ByteArray, S4 = ⟨(Pu.sumB N).toArray⟩ := ⟨_, rfl⟩
      have hS4s : S4.size = 4 := by rw [hS4]; rfl
      rw [← hS4] at ct
      have HP : Hid (bv (Pu.pageP (Pu.pad x.data.toList) k) ++ Lib.strCells C ++ Lib.strCells S4 = bv (Pu.pageP (Pu.pad x.data.toList) (k + 1))) := by
        show _ = _
        rw [Pu.pageP, bv_append, Pu.sealB, ← HC.out.1, ← hN, bv_append, List.append_assoc]
        congr 1
        rw [hS4]; rfl
      have hpl : Hid ((bv (Pu.pageP (Pu.pad x.data.toList) k)).length ≤ 100000) := by
        show _ ≤ _
        have := Pu.pad_len x.data.toList
        rw [bv_len, Pu.pageP_len _ _ (by omega)]
        omega
      have HB0 : Hid (Lib.IsBuilder 145 5 w.heap.size w.heap.size (bv (Pu.pageP (Pu.pad x.data.toList) k)) wr ∧ Turns (fun _ => False) w wr) := ⟨r3, r4⟩
      have HNX : Hid ((R.extract m R.size).data.toList = x.data.toList.drop (28 * (k + 1)) ∧ (R.extract m R.size).size < R.size ∧ (k + 1 = 0 ∨ 28 * (k + 1 - 1) < x.size)) := by
        refine ⟨?_, ?_, Or.inr (by omega)⟩
        · rw [extract_list, List.take_of_length_le (by rw [← size_list]; omega), r1, List.drop_drop]
          by_cases e : R.size < 28
          · rw [List.drop_of_length_le (by omega), List.drop_of_length_le (by omega)]
          · rw [show m = 28 by rw [HM.out]; omega]; congr 1
        · rw [ByteArray.size_extract]; omega
      have hkx : k + 1 ≤ 1000 := by omega
      generalize bv (Pu.pageP (Pu.pad x.data.toList) k) = BS at *
      clear hZ hC r1 r2 r3 r4 HR HZ HM HC hN hS4 hxl hRl
      go_wp2_with fail
      refine (cr _).mono ?_
      rintro e w2 ⟨rfl, hB2⟩
      have hT2 : Turns (fun _ => False) wr w2 := Turns.of_below hB2 _ (fun q h1 h2 => by omega)
      have HB2 : Hid (Lib.IsBuilder 145 5 w.heap.size w.heap.size BS w2 ∧ Turns (fun _ => False) w w2) := ⟨builder_turns HB0.out.1 hT2, HB0.out.2.trans hT2⟩
      clear hB2 hT2 HB0 cr
      go_wp2_with fail
      refine (builder_write w.heap.size w.heap.size BS C _ HB2.out.1 (by have := hpl.out; omega) HB2.out.2.size).mono ?_
      rintro e w3 ⟨rfl, hb3, hB3⟩
      have HB3 : Hid (Lib.IsBuilder 145 5 w.heap.size w.heap.size (BS ++ Lib.strCells C) w3 ∧ Turns (fun _ => False) w w3) := ⟨Or.inr hb3, then_below HB2.out.2 hB3⟩
      clear hb3 hB3 HB2
      go_wp2_with fail
      refine (cq _).mono ?_
      rintro e w4 ⟨rfl, hT4⟩
      have HB4 : Hid (Lib.IsBuilder 145 5 w.heap.size w.heap.size (BS ++ Lib.strCells C) w4 ∧ Turns (fun _ => False) w w4) := ⟨builder_turns HB3.out.1 hT4, HB3.out.2.trans hT4⟩
      clear hT4 HB3 cq
      go_wp2_with fail
      refine (ct _).mono ?_
      rintro e w5 ⟨rfl, hT5⟩
      have HB5 : Hid (Lib.IsBuilder 145 5 w.heap.size w.heap.size (BS ++ Lib.strCells C) w5 ∧ Turns (fun _ => False) w w5) := ⟨builder_turns HB4.out.1 hT5, HB4.out.2.trans hT5⟩
      clear hT5 HB4 ct
      go_wp2_with fail
      refine (builder_write w.heap.size w.heap.size (BS ++ Lib.strCells C) S4 _ HB5.out.1 (by have := hpl.out; rw [List.length_append, Lib.strCells_length]; omega) HB5.out.2.size).mono ?_
      rintro e w6 ⟨rfl, hb6, hB6⟩
      have HB6 : Hid (Lib.IsBuilder 145 5 w.heap.size w.heap.size (bv (Pu.pageP (Pu.pad x.data.toList) (k + 1))) w6 ∧ Turns (fun _ => False) w w6) := by
        refine ⟨?_, then_below HB5.out.2 hB6⟩
        rw [← HP.out]; exact Or.inr hb6
      clear hb6 hB6 HB5
      go_wp2
      go_roundw
      case rel => exact ⟨R.extract m R.size, k + 1, w6, rfl, by go_num, hkx, by have := HNX.out.2.1; omega, rfl, HNX.out.1, HNX.out.2.2, HB6.out.1, HB6.out.2⟩
      case measure => exact HNX.out.2.1
#print axioms pgwrite_any
end Go.Proofs.YtdogncjcainhlaaGreatDoor
