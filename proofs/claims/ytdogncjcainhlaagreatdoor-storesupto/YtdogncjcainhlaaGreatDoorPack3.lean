/- Pack3: texts of one proof, one behind the other. -/
import Derived.Test.YtdogncjcainhlaaGreatDoorPlain
import Derived.Test.YtdogncjcainhlaaGreatDoorPack2
import Derived.Shelf.Strings.Builder1
import Derived.Test.YtdogncjcainhlaaGreatDoorProg
import Derived.Shelf.Strings.Repeat
import Derived.WalkMore
import Derived.ScopeJumps
import Derived.Shelf.Slices.Turned
import Derived.WalkKit
import Derived.WalkSpells
import Derived.WalkLawsBesides
import Derived.Deep.OwnRows
import Derived.Deep.LoopGhost
import Derived.Deep.QuietTactic
import Derived.BigQuiet
/- The walk of counts.Append. -/
namespace Go.Proofs.YtdogncjcainhlaaGreatDoor
open Go.RowKit Go.Deep
open Mem

/-- The cells of bytes. -/
def bv (l : List UInt8) : List Value := l.map fun b => Value.int .u8 (b.toNat : Int)
theorem bv_append (a b : List UInt8) : bv (a ++ b) = bv a ++ bv b := List.map_append
theorem bv_len (l : List UInt8) : (bv l).length = l.length := List.length_map _
theorem bv_one (l : List UInt8) : ∀ u ∈ bv l, u.oneCell' = true := by
  intro u hu
  obtain ⟨b, _, rfl⟩ := List.mem_map.1 hu
  rfl
theorem info5 : (Tryz.prog.info? 5).map (fun i => (i.zero, i.size, i.bytes)) = some (some (.int .u8 0), 1, 1) := by kernel_rfl
/-- A row of bytes of one's own, that came out of another by putting bytes behind it: of what was there only that one's block may have turned. -/
structure OwnB (w0 : World) (v0 : Value) (base : Nat) (v : Value) (l : List UInt8) (w : World) : Prop where
  own : w.ownsRow base 5 1 v l.length (bv l)
  turns : Turns (fun b => v0.ownBlock = some b) w0 w
  block : ∀ b, v.ownBlock = some b → v0.ownBlock = some b ∨ w0.heap.size ≤ b
theorem OwnB.refl {w : World} {base : Nat} {v : Value} {l : List UInt8} (h : w.ownsRow base 5 1 v l.length (bv l)) : OwnB w v base v l w := ⟨h, Turns.refl _ _, fun _ h => Or.inl h⟩
theorem OwnB.step {w0 w w3 : World} {v0 v v' : Value} {base : Nat} {l r : List UInt8} {o : Obj} (h : OwnB w0 v0 base v l w) (hown : w3.ownsRow base 5 1 v' (l.length + r.length) (bv l ++ bv r)) (hg : (w.alloc o).grownBy w3 v.ownBlock) (hat : v'.ownBlock = v.ownBlock ∨ v'.ownBlock = some (w.heap.size + 1)) : OwnB w0 v0 base v' (l ++ r) w3 := by
  refine ⟨by rw [List.length_append, bv_append]; exact hown, (h.turns.alloc o).grown hg ?_, ?_⟩
  · intro q hq
    rcases h.block q hq with h | h
    · exact Or.inr h
    · exact Or.inl h
  · intro b hb
    rcases hat with e | e
    · exact h.block b (by rw [← e]; exact hb)
    · rw [e] at hb
      injection hb with hb
      have := h.turns.size
      exact Or.inr (by omega)
theorem OwnB.more {w0 w w1 : World} {v0 v v' : Value} {base : Nat} {l r : List UInt8} (h : OwnB w0 v0 base v l w) (k : OwnB w v base v' r w1) : OwnB w0 v0 base v' r w1 := by
  refine ⟨k.own, ?_, ?_⟩
  · refine ⟨k.turns.os.trans h.turns.os, k.turns.tape.trans h.turns.tape, k.turns.output.trans h.turns.output, Nat.le_trans h.turns.size k.turns.size, fun b hb hp => ?_⟩
    refine (k.turns.block b (Nat.lt_of_lt_of_le hb h.turns.size) ?_).trans (h.turns.block b hb hp)
    intro hv
    rcases h.block b hv with h' | h'
    · exact hp h'
    · omega
  · intro b hb
    rcases k.block b hb with h' | h'
    · exact h.block b h'
    · have := h.turns.size
      exact Or.inr (by omega)
theorem OwnB.then {w0 w w' : World} {v0 v : Value} {base : Nat} {l : List UInt8} (h : OwnB w0 v0 base v l w) (t : Turns (fun _ => False) w w') : OwnB w0 v0 base v l w' :=
  ⟨owns_turns h.own t, h.turns.trans (t.mono (fun _ _ x => x.elim)), h.block⟩
theorem OwnB.nil (w : World) (base : Nat) : OwnB w (.slice none 0 0) base (.slice none 0 0) [] w := OwnB.refl (World.ownsRow_nil _ _ _ _)
theorem OwnB.turns0 {w0 w : World} {v : Value} {base : Nat} {l : List UInt8} (h : OwnB w0 (.slice none 0 0) base v l w) : Turns (fun _ => False) w0 w := h.turns.mono (fun _ _ c => by cases c)
namespace Pu
theorem countB_more {n : Nat} (h : ¬ n < 128) (hn : n < 2097152) : countB n = UInt8.ofNat (128 + n % 128) :: countB (n / 128) := by
  unfold countB
  rw [if_neg h]
  by_cases h2 : n < 16384
  · rw [if_pos h2, if_pos (by omega)]
  · rw [if_neg h2, if_neg (by omega), if_pos (by omega), Nat.div_div_eq_div_mul]
theorem countB_lo {n : Nat} (h : n < 128) : countB n = [UInt8.ofNat n] := by unfold countB; rw [if_pos h]
end Pu
theorem bv_one_ofNat {x : Nat} (h : x < 256) : bv [UInt8.ofNat x] = [Value.int .u8 (x : Int)] := by
  show [Value.int .u8 ((UInt8.ofNat x).toNat : Int)] = _
  rw [← ofNat_int h]

/-- append of one byte, at the operation. -/
theorem wpList_append_byte {ops : Array Oper} {rest : List Oper} {o : Oper} {a : Act} {Q : Exit → Act → World → Prop} (hgd : o.guard = none) (s x : Operand) (ho : o.op = .call { callee := .builtin .append, args := #[s, x], argTypes := #[31, 31] })
    (w0 w : World) (v0 v : Value) (base : Nat) (l l2 : List UInt8) (b : Int) (c : Nat) (hl2 : l2 = l ++ [UInt8.ofNat c]) (hbc : b = (c : Int)) (hc : c < 256) (h : OwnB w0 v0 base v l w) (hb : base ≤ w.heap.size) (hl : l.length ≤ 200000)
    (hs : a.eval s = v) (hx : a.eval x = .slice (some ⟨w.heap.size, 0, none⟩) 1 1)
    (hk : ∀ v' w3, OwnB w0 v0 base v' l2 w3 → wpList Tryz.prog ops Q rest (a.put o.dst v') w3) : wpList Tryz.prog ops Q (o :: rest) a (w.alloc (.cells #[.int .u8 b] 5)) := by
  subst hbc hl2
  obtain ⟨i0, hi, hz0, hz1, hz2⟩ := info_parts info5
  refine wpList_append_own_at (w := w.alloc (.cells #[.int .u8 (c : Int)] 5)) hgd s x 31 ho base 5 i0 (.int .u8 0) 1 1 Tryz.underlying31 hi hz0 hz1 hz2 rfl (by decide) v l.length (bv l) hs (h.own.alloc _) ⟨w.heap.size, 0, none⟩ 1 1 [.int .u8 (c : Int)] hx rfl (cell_one_new _ _ _) ?_ ?_ ?_ ?_ ?_
  · intro u hu; simp at hu; subst hu; rfl
  · unfold maxLen; omega
  · omega
  · simp; omega
  · intro v' w3 hown3 hgrow _ hat
    refine hk v' w3 (h.step (r := [UInt8.ofNat c]) ?_ hgrow ?_)
    · rw [bv_one_ofNat hc]; exact hown3
    · simpa using hat

/-- append of bytes that lie somewhere, at the operation. -/
theorem wpList_append_bytes {ops : Array Oper} {rest : List Oper} {o : Oper} {a : Act} {Q : Exit → Act → World → Prop} (hgd : o.guard = none) (s x : Operand) (ho : o.op = .call { callee := .builtin .append, args := #[s, x], argTypes := #[31, 31] })
    (w0 w : World) (v0 v : Value) (base : Nat) (l r l2 : List UInt8) (ad : Addr) (m c : Nat) (hl2 : l2 = l ++ r) (hr : r.length = m) (hnews : ∀ (j : Nat) (b : UInt8), r[j]? = some b → w.cell? (ad.add j) = some (.int .u8 (b.toNat : Int))) (h : OwnB w0 v0 base v l w) (hb : base ≤ w.heap.size) (hl : l.length + m ≤ 200000)
    (hs : a.eval s = v) (hx : a.eval x = .slice (some ad) m c)
    (hk : ∀ v' w3, OwnB w0 v0 base v' l2 w3 → wpList Tryz.prog ops Q rest (a.put o.dst v') w3) : wpList Tryz.prog ops Q (o :: rest) a w := by
  subst hl2 hr
  obtain ⟨i0, hi, hz0, hz1, hz2⟩ := info_parts info5
  refine wpList_append_own_at (w := w) hgd s x 31 ho base 5 i0 (.int .u8 0) 1 1 Tryz.underlying31 hi hz0 hz1 hz2 rfl (by decide) v l.length (bv l) hs h.own ad r.length c (bv r) hx (by rw [bv_len, Nat.mul_one]) ?_ (bv_one r) ?_ ?_ hb ?_
  · intro j u hj
    rw [bv, List.getElem?_map] at hj
    obtain ⟨b, hb', rfl⟩ := Option.map_eq_some_iff.1 hj
    exact hnews j b hb'
  · unfold maxLen; omega
  · omega
  · intro v' w3 hown3 hgrow _ hat
    refine hk v' w3 ⟨by rw [List.length_append, bv_append]; exact hown3, h.turns.grown hgrow ?_, ?_⟩
    · intro q hq
      rcases h.block q hq with h | h
      · exact Or.inr h
      · exact Or.inl h
    · intro b hb
      rcases hat with e | e
      · exact h.block b (by rw [← e]; exact hb)
      · rw [e] at hb
        injection hb with hb
        have := h.turns.size
        exact Or.inr (by omega)

set_option maxRecDepth 100000 in
set_option maxHeartbeats 1000000 in
/-- counts.Append, onto a row of one's own. -/
theorem cappend_any (v : Value) (n base : Nat) (bs : List UInt8) (w : World) (hown : w.ownsRow base 5 1 v bs.length (bv bs)) (hb : base ≤ w.heap.size) (hk : bs.length ≤ 100000) (hn : n < 2097152) :
    Calls Tryz.prog 63 #[v, .int .i64 n] w fun e w' => ∃ v', e = .returned v' ∧ OwnB w v base v' (bs ++ Pu.countB n) w' := by
  have H0 : Hid (OwnB w v base v (bs ++ []) w) := by rw [List.append_nil]; exact OwnB.refl hown
  have hnl := (Pu.countB_len n).2
  clear hown
  go_enter Tryz.func63, Tryz.ntmps63
  go_wp2
  go_loopw [0, 1] (fun tv nv wr => ∃ (m : Nat) (x : Value) (d : List UInt8) (wy : World), tv = x ∧ nv = .int .i64 m ∧ m < 2097152 ∧ wy = wr ∧ Hid (OwnB w v base x (bs ++ d) wy ∧ d ++ Pu.countB m = Pu.countB n)) (fun _ nv _ => (intOf nv).toNat)
  case atStart => exact ⟨n, v, [], w, rfl, rfl, hn, rfl, H0.out, rfl⟩
  case round =>
    clear H0
    obtain ⟨m, x, d, wr, hx, rfl, hm, hwy, HD⟩ := hrel
    subst hwy hx
    have hsz : Hid (base ≤ wr.heap.size) := Nat.le_trans hb HD.out.1.turns.size
    have hdl : Hid ((bs ++ d).length ≤ 200000) := by
      have := congrArg List.length HD.out.2
      rw [List.length_append] at this
      show _ ≤ _
      rw [List.length_append]
      omega
    by_cases h128 : m < 128
    · have hmi : ¬ (m : Int) ≥ 128 := by omega
      have hmu : ¬ (128 : Int) ≤ (m : Int) := by omega
      obtain ⟨l2, hl2⟩ : ∃ l2, l2 = bs ++ d ++ [UInt8.ofNat m] := ⟨_, rfl⟩
      have HL2 : Hid (l2 = bs ++ d ++ [UInt8.ofNat m]) := hl2
      clear hl2
      go_wp2_with (at_builtin; refine wpList_append_byte rfl _ _ rfl w wr v _ base (bs ++ d) l2 _ m HL2.out rfl (by omega) HD.out.1 hsz.out hdl.out rfl rfl ?_)
      intro v' w3 hB
      have HX : Hid (OwnB w v base v' (bs ++ Pu.countB n) w3) := by
        have e := HD.out.2
        rw [Pu.countB_lo h128] at e
        rwa [HL2.out, List.append_assoc, e] at hB
      clear HD hB
      go_wp2
      exact bodyPost_ret (v := v') (by simp [results, Tryz.results63, go_sem]) rfl ⟨v', rfl, HX.out⟩
    · have hmi : (m : Int) ≥ 128 := by omega
      have hmu : (128 : Int) ≤ (m : Int) := by omega
      obtain ⟨l2, hl2⟩ : ∃ l2, l2 = bs ++ d ++ [UInt8.ofNat (128 + m % 128)] := ⟨_, rfl⟩
      have HL2 : Hid (l2 = bs ++ d ++ [UInt8.ofNat (128 + m % 128)]) := hl2
      clear hl2
      go_wp2_with (at_builtin; refine wpList_append_byte rfl _ _ rfl w wr v _ base (bs ++ d) l2 _ (128 + m % 128) HL2.out (by omega) (by omega) HD.out.1 hsz.out hdl.out rfl rfl ?_)
      intro v' w3 hB
      have HX : Hid (OwnB w v base v' (bs ++ (d ++ [UInt8.ofNat (128 + m % 128)])) w3 ∧ (d ++ [UInt8.ofNat (128 + m % 128)]) ++ Pu.countB (m / 128) = Pu.countB n) := by
        have e := HD.out.2
        rw [Pu.countB_more h128 hm] at e
        rw [HL2.out, List.append_assoc] at hB
        exact ⟨hB, by rw [List.append_assoc]; exact e⟩
      clear HD hB
      go_wp2
      go_roundw
      case rel => exact ⟨m / 128, v', _, w3, rfl, by go_num, by omega, rfl, HX.out⟩
      case measure => simp [intOf]; omega
#print axioms cappend_any
end Go.Proofs.YtdogncjcainhlaaGreatDoor
/- The walks of pages.dropEight, pages.summed, pages.sumOf, pages.sumText. -/
namespace Go.Proofs.YtdogncjcainhlaaGreatDoor
open Go.RowKit Go.Deep
open Mem

theorem xor_ones {H : Nat} (h : H < 4294967296) : 4294967295 ^^^ H = 4294967295 - H := by
  have e : (BitVec.allOnes 32 ^^^ BitVec.ofNat 32 H).toNat = (~~~ (BitVec.ofNat 32 H)).toNat := by rw [BitVec.allOnes_xor]
  rw [BitVec.toNat_xor, BitVec.toNat_not, BitVec.toNat_allOnes, BitVec.toNat_ofNat, Nat.mod_eq_of_lt (by omega)] at e
  simpa using e
set_option maxRecDepth 100000 in
set_option maxHeartbeats 1000000 in
/-- Eight bits fall out. -/
theorem drop_any (H : Nat) (w : World) (hH : H < 4294967296) :
    Calls Tryz.prog 98 #[.int .u32 H] w fun e w' => e = .returned (.int .u32 (Pu.bitN 8 H : Nat)) ∧ w' = w := by
  go_enter Tryz.func98, Tryz.ntmps98
  go_wp2
  go_loop [0, 4] (fun h i => ∃ (j Y : Nat), j ≤ 8 ∧ i = .int .i64 j ∧ h = .int .u32 Y ∧ Y < 4294967296 ∧ Hid (Y = Pu.bitN j H)) (fun _ i => 8 - (intOf i).toNat)
  case atStart => exact ⟨0, H, by omega, rfl, rfl, hH, rfl⟩
  case round =>
    obtain ⟨j, Y, hj, rfl, rfl, hY, HJ⟩ := hrel
    have hand : bits .and .u32 (Y : Int) 1 = ((Y % 2 : Nat) : Int) := by have := u32_and_nat Y 1 hY (by decide); rw [nat_mask1] at this; exact this
    by_cases hj8 : j < 8
    · have hji : (j : Int) < 8 := by omega
      by_cases ho : Y % 2 = 1
      · have hoi : ((Y : Int) % 2 == 1) = true := by rw [beq_iff_eq]; omega
        have hoi2 : (((Y % 2 : Nat) : Int) == 1) = true := by rw [beq_iff_eq]; omega
        have hxx : bits .xor .u32 ((Y : Int) / 2) 3988292384 = ((Y / 2 ^^^ 3988292384 : Nat) : Int) := by have := u32_xor_nat (Y / 2) 3988292384 (by omega) (by decide); simpa using this
        have hyl : Y / 2 ^^^ 3988292384 < 4294967296 := Nat.xor_lt_two_pow (n := 32) (by omega) (by decide)
        have HN : Hid (Y / 2 ^^^ 3988292384 = Pu.bitN (j + 1) H) := by show _ = Pu.bit1 _; rw [← HJ.out, Pu.bit1_odd ho]
        generalize Y / 2 ^^^ 3988292384 = Z at *
        clear HJ
        go_wp2
        go_round
        case rel => exact ⟨j + 1, Z, by omega, by go_num, rfl, hyl, HN⟩
        case measure => simp [intOf]; omega
      · have hoi : ((Y : Int) % 2 == 1) = false := by rw [beq_eq_false_iff_ne]; omega
        have hoi2 : (((Y % 2 : Nat) : Int) == 1) = false := by rw [beq_eq_false_iff_ne]; omega
        have HN : Hid (Y / 2 = Pu.bitN (j + 1) H) := by show _ = Pu.bit1 _; rw [← HJ.out, Pu.bit1_even ho]
        clear HJ
        go_wp2
        go_round
        case rel => exact ⟨j + 1, Y / 2, by omega, by go_num, by go_num, by omega, HN⟩
        case measure => simp [intOf]; omega
    · have hj9 : j = 8 := by omega
      have hji : ¬ (j : Int) < 8 := by omega
      have HN : Hid (Y = Pu.bitN 8 H) := by show _ = _; rw [HJ.out, hj9]
      clear HJ hj9
      go_wp2
      go_ret
      exact ⟨by rw [← HN.out]; rfl, rfl⟩
set_option maxRecDepth 100000 in
set_option maxHeartbeats 1000000 in
/-- The bytes of which a sum is worked out. -/
theorem summed_any (p : Nat) (h : ByteArray) (w : World) (hp : p < 65536) (hh : h.size ≤ 1000) :
    Calls Tryz.prog 97 #[.int .i64 p, .string h] w fun e w' => ∃ g cap, e = .returned (.slice (some ⟨g, 0, none⟩) (2 + h.size) cap) ∧ Turns (fun _ => False) w w' ∧ ∀ (j : Nat) (b : UInt8), (UInt8.ofNat (p / 256) :: UInt8.ofNat (p % 256) :: h.data.toList)[j]? = some b → w'.cell? ⟨g, j, none⟩ = some (.int .u8 (b.toNat : Int)) := by
  obtain ⟨i0, hi, hz0, hz1, hz2⟩ := info_parts info5
  have hown : (w.alloc (.cells #[.int .u8 ((p : Int) / 256), .int .u8 ((p : Int) % 256)] 5)).ownsRow w.heap.size 5 1 (.slice (some ⟨w.heap.size, 0, none⟩) 2 2) 2 [.int .u8 ((p : Int) / 256), .int .u8 ((p : Int) % 256)] :=
    ⟨rfl, Or.inr ⟨w.heap.size, 2, #[.int .u8 ((p : Int) / 256), .int .u8 ((p : Int) % 256)], rfl, Nat.le_refl _, Array.getElem?_push_size, Nat.le_refl _, by decide, rfl, rfl⟩⟩
  have HE : Hid (Value.int .u8 ((p : Int) / 256) :: Value.int .u8 ((p : Int) % 256) :: Lib.strCells h = bv (UInt8.ofNat (p / 256) :: UInt8.ofNat (p % 256) :: h.data.toList)) := by
    show _ = Value.int .u8 ((UInt8.ofNat (p / 256)).toNat : Int) :: Value.int .u8 ((UInt8.ofNat (p % 256)).toNat : Int) :: bv h.data.toList
    rw [← ofNat_int (n := p / 256) (by omega), ← ofNat_int (n := p % 256) (by omega)]
    simp [Lib.strCells, bv]
  go_enter Tryz.func97, Tryz.ntmps97
  go_wp2_with (at_builtin; refine Lib.wpList_append_own_string _ rfl _ _ 31 9 rfl w.heap.size 5 i0 Tryz.underlying31 Tryz.underlying9 hi hz0 hz1 hz2 _ 2 _ rfl hown h rfl (by unfold maxLen; omega) (by omega) (by simp) ?_)
  intro v' w3 hown3 hgrow _
  rw [HE.out] at hown3
  have HX : Hid (∃ g cap, v' = .slice (some ⟨g, 0, none⟩) (2 + h.size) cap ∧ Turns (fun _ => False) w w3 ∧ ∀ (j : Nat) (b : UInt8), (UInt8.ofNat (p / 256) :: UInt8.ofNat (p % 256) :: h.data.toList)[j]? = some b → w3.cell? ⟨g, j, none⟩ = some (.int .u8 (b.toNat : Int))) := by
    obtain ⟨g, cap, rfl, _⟩ := hown3.form (by omega)
    refine ⟨g, cap, rfl, ((Turns.refl _ w).alloc _).grown hgrow (fun q hq => by have hq : some w.heap.size = some q := hq; injection hq with hq; exact Or.inl (by omega)), fun j b hb => ?_⟩
    have := hown3.cells (g := g) rfl j (.int .u8 (b.toNat : Int)) (by rw [bv, List.getElem?_map, hb]; rfl)
    rwa [addr_add] at this
  clear hown3 hgrow hown HE
  go_wp2
  obtain ⟨g, cap, rfl, HX2⟩ := HX.out
  exact bodyPost_ret (v := .slice (some ⟨g, 0, none⟩) (2 + h.size) cap) (by simp [results, Tryz.results97, go_sem]) rfl ⟨g, cap, rfl, HX2⟩
set_option maxRecDepth 100000 in
set_option maxHeartbeats 1000000 in
/-- A sum's bytes. -/
theorem sumText_any (N : Nat) (w : World) (hN : N < 4294967296) :
    Calls Tryz.prog 58 #[.int .u32 N] w fun e w' => e = .returned (.string ⟨(Pu.sumB N).toArray⟩) ∧ Turns (fun _ => False) w w' := by
  have hcw := conv4 ((N : Int) / 16777216) ((N : Int) / 65536 % 256) ((N : Int) / 256 % 256) ((N : Int) % 256) (UInt8.ofNat (N / 16777216)) (UInt8.ofNat (N / 65536 % 256)) (UInt8.ofNat (N / 256 % 256)) (UInt8.ofNat (N % 256))
    (by have := ofNat_int (n := N / 16777216) (by omega); omega) (by have := ofNat_int (n := N / 65536 % 256) (by omega); omega) (by have := ofNat_int (n := N / 256 % 256) (by omega); omega) (by have := ofNat_int (n := N % 256) (by omega); omega)
  go_enter Tryz.func58, Tryz.ntmps58
  go_wp2
  go_ret
  exact ⟨rfl, (Turns.refl _ _).alloc _⟩
set_option maxRecDepth 100000 in
set_option maxHeartbeats 1000000 in
/-- The sum of a page. -/
theorem sumOf_any (p : Nat) (h : ByteArray) (w : World) (hp : p < 65536) (hh : h.size ≤ 1000) :
    Calls Tryz.prog 59 #[.int .i64 p, .string h] w fun e w' => e = .returned (.int .u32 (Pu.sumN (UInt8.ofNat (p / 256) :: UInt8.ofNat (p % 256) :: h.data.toList) : Nat)) ∧ Turns (fun _ => False) w w' := by
  have c := summed_any p h w hp hh
  obtain ⟨L, hL⟩ : ∃ L, L = UInt8.ofNat (p / 256) :: UInt8.ofNat (p % 256) :: h.data.toList := ⟨_, rfl⟩
  have HLl : Hid (L.length = 2 + h.size) := by rw [hL]; show _ + 1 + 1 = _; rw [← size_list]; omega
  rw [← hL] at c ⊢
  clear hL
  go_enter Tryz.func59, Tryz.ntmps59
  go_wp2_with (go_at_call 97; refine c.mono ?_; rintro e w1 ⟨g, cap, rfl, hT, hc⟩)
  have HC : Hid (∀ (j : Nat) (b : UInt8), L[j]? = some b → w1.cell? ⟨g, j, none⟩ = some (.int .u8 (b.toNat : Int))) := hc
  have HT : Hid (Turns (fun _ => False) w w1) := hT
  clear hc hT c
  go_loop [5, 12] (fun sv iv => ∃ (k H : Nat), k ≤ 2 + h.size ∧ iv = .int .i64 k ∧ sv = .int .u32 H ∧ H < 4294967296 ∧ Hid (H = Pu.crc 4294967295 (L.take k))) (fun _ iv => 2 + h.size - (intOf iv).toNat)
  case atStart => exact ⟨0, 4294967295, Nat.zero_le _, rfl, rfl, by decide, rfl⟩
  case round =>
    obtain ⟨k, H, hk, rfl, rfl, hH, HK⟩ := hrel
    by_cases hlt : k < 2 + h.size
    · have hki : (k : Int) < 2 + (h.size : Int) := by omega
      obtain ⟨b, hb⟩ : ∃ b, L[k]? = some b := ⟨_, List.getElem?_eq_getElem (by rw [HLl.out]; exact hlt)⟩
      have hcell := HC.out k b hb
      have hbl : b.toNat < 256 := b.toNat_lt
      have hx := u32_xor_nat H b.toNat hH (by omega)
      have hxl : H ^^^ b.toNat < 4294967296 := Nat.xor_lt_two_pow (n := 32) hH (by omega)
      have cd := drop_any (H ^^^ b.toNat) w1 hxl
      have hZ := Pu.bitN_lt hxl 8
      have HN : Hid (Pu.bitN 8 (H ^^^ b.toNat) = Pu.crc 4294967295 (L.take (k + 1))) := by
        show _ = _
        rw [List.take_add_one, hb, Option.toList_some, Pu.crc_snoc, ← HK.out]; rfl
      generalize Pu.bitN 8 (H ^^^ b.toNat) = Z at *
      generalize H ^^^ b.toNat = X at *
      clear HK hb
      go_wp2_with (go_at_call 98; refine cd.mono ?_; rintro e w2 ⟨rfl, hw2⟩; subst hw2)
      go_round
      case rel => exact ⟨k + 1, Z, by omega, by go_num, rfl, hZ, HN⟩
      case measure => simp [intOf]; omega
    · have hki : ¬ (k : Int) < 2 + (h.size : Int) := by omega
      have HN : Hid (H = Pu.crc 4294967295 L) := by
        have e := HK.out
        rwa [List.take_of_length_le (by rw [HLl.out]; omega)] at e
      have hn : bits .xor .u32 IntKind.u32.max (H : Int) = ((Pu.sumN L : Nat) : Int) := by
        have := u32_xor_nat 4294967295 H (by decide) hH
        rw [xor_ones hH] at this
        unfold Pu.sumN
        rw [← HN.out]
        exact this
      clear HK HN
      go_wp2
      exact bodyPost_ret (v := .int .u32 ((Pu.sumN L : Nat) : Int)) (by simp [results, Tryz.results59, go_sem]) rfl ⟨rfl, HT.out⟩
#print axioms sumOf_any
end Go.Proofs.YtdogncjcainhlaaGreatDoor
/- The library's contracts of strings.Builder, laid at this translation. -/
namespace Go.Proofs.YtdogncjcainhlaaGreatDoor
open Go.Shelf Go.RowKit Go.Lib
def lays166_ren : Go.Shelf.Ren := ⟨fun | 166 => 57 | 240 => 96 | 276 => 149 | n => n, fun | 0 => 0 | 3 => 3 | 4 => 4 | 5 => 5 | 9 => 9 | 20 => 20 | 37 => 31 | 70 => 143 | 72 => 145 | 75 => 148 | 80 => 153 | 164 => 225 | n => n, fun | n => n⟩
theorem lays166 : Go.Proofs.Lays.n166 Tryz.prog lays166_ren := {
  mixed := by kernel_rfl
  f166 := Tryz.func57.trans (congrArg some (by kernel_rfl))
  f240 := Tryz.func96.trans (congrArg some (by kernel_rfl))
  f276 := Tryz.func149.trans (congrArg some (by kernel_rfl))
  t0 := Tryz.underlying0
  a0 := Tryz.isAgg0
  z0 := Tryz.sizeOf0
  v0 := Tryz.zeroValue0
  t3 := Tryz.underlying3
  a3 := Tryz.isAgg3
  z3 := Tryz.sizeOf3
  v3 := Tryz.zeroValue3
  t4 := Tryz.underlying4
  a4 := Tryz.isAgg4
  z4 := Tryz.sizeOf4
  v4 := Tryz.zeroValue4
  t9 := Tryz.underlying9
  a9 := Tryz.isAgg9
  z9 := Tryz.sizeOf9
  v9 := Tryz.zeroValue9
  t20 := Tryz.underlying20
  a20 := Tryz.isAgg20
  z20 := Tryz.sizeOf20
  v20 := Tryz.zeroValue20
  t37 := Tryz.underlying31
  a37 := Tryz.isAgg31
  z37 := Tryz.sizeOf31
  v37 := Tryz.zeroValue31
  t70 := Tryz.underlying143
  a70 := Tryz.isAgg143
  z70 := Tryz.sizeOf143
  v70 := Tryz.zeroValue143
  t72 := Tryz.underlying145
  a72 := Tryz.isAgg145
  z72 := Tryz.sizeOf145
  v72 := Tryz.zeroValue145
  t75 := Tryz.underlying148
  a75 := Tryz.isAgg148
  z75 := Tryz.sizeOf148
  v75 := Tryz.zeroValue148
  t164 := Tryz.underlying225
  a164 := Tryz.isAgg225
  z164 := Tryz.sizeOf225
  v164 := Tryz.zeroValue225 }
def lays169_ren : Go.Shelf.Ren := ⟨fun | 169 => 60 | n => n, fun | 0 => 0 | 3 => 3 | 5 => 5 | 9 => 9 | 37 => 31 | 70 => 143 | 72 => 145 | 127 => 204 | n => n, fun | n => n⟩
theorem lays169 : Go.Proofs.Lays.n169 Tryz.prog lays169_ren := {
  mixed := by kernel_rfl
  f169 := Tryz.func60.trans (congrArg some (by kernel_rfl))
  t0 := Tryz.underlying0
  a0 := Tryz.isAgg0
  z0 := Tryz.sizeOf0
  v0 := Tryz.zeroValue0
  t3 := Tryz.underlying3
  a3 := Tryz.isAgg3
  z3 := Tryz.sizeOf3
  v3 := Tryz.zeroValue3
  t9 := Tryz.underlying9
  a9 := Tryz.isAgg9
  z9 := Tryz.sizeOf9
  v9 := Tryz.zeroValue9
  t37 := Tryz.underlying31
  a37 := Tryz.isAgg31
  z37 := Tryz.sizeOf31
  v37 := Tryz.zeroValue31
  t70 := Tryz.underlying143
  a70 := Tryz.isAgg143
  z70 := Tryz.sizeOf143
  v70 := Tryz.zeroValue143
  t72 := Tryz.underlying145
  a72 := Tryz.isAgg145
  z72 := Tryz.sizeOf145
  v72 := Tryz.zeroValue145
  t127 := Tryz.underlying204
  a127 := Tryz.isAgg204
  z127 := Tryz.sizeOf204
  v127 := Tryz.zeroValue204 }
theorem bX166 : Builder.Extra Tryz.prog lays166_ren := {
  sizeBuilder := by kernel_rfl
  liesBuilder := by kernel_rfl
  t5 := Tryz.underlying5
  a5 := Tryz.isAgg5
  z5 := Tryz.sizeOf5
  v5 := Tryz.zeroValue5
  infoByte := by kernel_rfl
  cellsByte := by kernel_rfl
  sizeByte := by kernel_rfl
  neB5 := by decide }
theorem bX169 : Builder.Extra Tryz.prog lays169_ren := {
  sizeBuilder := by kernel_rfl
  liesBuilder := by kernel_rfl
  t5 := Tryz.underlying5
  a5 := Tryz.isAgg5
  z5 := Tryz.sizeOf5
  v5 := Tryz.zeroValue5
  infoByte := by kernel_rfl
  cellsByte := by kernel_rfl
  sizeByte := by kernel_rfl
  neB5 := by decide }
theorem builder_write (B b : Nat) (bs : List Value) (s : ByteArray) (w : World) (h : Lib.IsBuilder 145 5 B b bs w) (hlen : bs.length + s.size ≤ 140737488355328) (hBw : B ≤ w.heap.size) :
    Calls Tryz.prog 57 #[.pointer (some ⟨b, 0, none⟩), .string s] w fun e w' => e = .returned (.tuple #[.int .i64 s.size, .nilIface]) ∧ (Lib.BuilderAt 145 5 B b (.pointer (some ⟨b, 0, none⟩)) (bs ++ Lib.strCells s) w' ∧ Below B w w') := Any.Builder_WriteString lays166 bX166 B b bs s w h hlen hBw
theorem builder_string (B b : Nat) (l : List UInt8) (w : World) (h : Lib.IsBuilder 145 5 B b (Lib.byteCells l) w) (hBw : B ≤ w.heap.size) :
    Calls Tryz.prog 60 #[.pointer (some ⟨b, 0, none⟩)] w fun e w' => e = .returned (.string ⟨l.toArray⟩) ∧ Below B w w' := Any.Builder_String_any lays169 bX169 B b l w h hBw
#print axioms builder_write
#print axioms builder_string
end Go.Proofs.YtdogncjcainhlaaGreatDoor
/- The library's contract of strings.Repeat, laid at this translation. -/
namespace Go.Proofs.YtdogncjcainhlaaGreatDoor
open Go.Shelf Go.RowKit Go.Lib
def lays105_ren : Go.Shelf.Ren := ⟨fun | 99 => 93 | 105 => 56 | 165 => 94 | 166 => 57 | 169 => 60 | 170 => 95 | 206 => 147 | 212 => 92 | 240 => 96 | 241 => 148 | 263 => 145 | 264 => 146 | 276 => 149 | 277 => 170 | n => n, fun | 0 => 0 | 3 => 3 | 4 => 4 | 5 => 5 | 9 => 9 | 20 => 20 | 37 => 31 | 46 => 194 | 51 => 88 | 53 => 244 | 70 => 143 | 72 => 145 | 75 => 148 | 76 => 149 | 80 => 153 | 109 => 198 | 127 => 204 | 146 => 249 | 148 => 251 | 164 => 225 | n => n, fun | n => n⟩
theorem lays105 : Go.Proofs.Lays.n105 Tryz.prog lays105_ren := {
  mixed := by kernel_rfl
  f99 := Tryz.func93.trans (congrArg some (by kernel_rfl))
  f105 := Tryz.func56.trans (congrArg some (by kernel_rfl))
  f165 := Tryz.func94.trans (congrArg some (by kernel_rfl))
  f166 := Tryz.func57.trans (congrArg some (by kernel_rfl))
  f169 := Tryz.func60.trans (congrArg some (by kernel_rfl))
  f170 := Tryz.func95.trans (congrArg some (by kernel_rfl))
  f206 := Tryz.func147.trans (congrArg some (by kernel_rfl))
  f212 := Tryz.func92.trans (congrArg some (by kernel_rfl))
  f240 := Tryz.func96.trans (congrArg some (by kernel_rfl))
  f241 := Tryz.func148.trans (congrArg some (by kernel_rfl))
  f263 := Tryz.func145.trans (congrArg some (by kernel_rfl))
  f264 := Tryz.func146.trans (congrArg some (by kernel_rfl))
  f276 := Tryz.func149.trans (congrArg some (by kernel_rfl))
  f277 := Tryz.func170.trans (congrArg some (by kernel_rfl))
  t0 := Tryz.underlying0
  a0 := Tryz.isAgg0
  z0 := Tryz.sizeOf0
  v0 := Tryz.zeroValue0
  t3 := Tryz.underlying3
  a3 := Tryz.isAgg3
  z3 := Tryz.sizeOf3
  v3 := Tryz.zeroValue3
  t4 := Tryz.underlying4
  a4 := Tryz.isAgg4
  z4 := Tryz.sizeOf4
  v4 := Tryz.zeroValue4
  t5 := Tryz.underlying5
  a5 := Tryz.isAgg5
  z5 := Tryz.sizeOf5
  v5 := Tryz.zeroValue5
  t9 := Tryz.underlying9
  a9 := Tryz.isAgg9
  z9 := Tryz.sizeOf9
  v9 := Tryz.zeroValue9
  t20 := Tryz.underlying20
  a20 := Tryz.isAgg20
  z20 := Tryz.sizeOf20
  v20 := Tryz.zeroValue20
  t37 := Tryz.underlying31
  a37 := Tryz.isAgg31
  z37 := Tryz.sizeOf31
  v37 := Tryz.zeroValue31
  t46 := Tryz.underlying194
  a46 := Tryz.isAgg194
  z46 := Tryz.sizeOf194
  v46 := Tryz.zeroValue194
  t51 := Tryz.underlying88
  a51 := Tryz.isAgg88
  z51 := Tryz.sizeOf88
  v51 := Tryz.zeroValue88
  t53 := Tryz.underlying244
  a53 := Tryz.isAgg244
  z53 := Tryz.sizeOf244
  v53 := Tryz.zeroValue244
  t70 := Tryz.underlying143
  a70 := Tryz.isAgg143
  z70 := Tryz.sizeOf143
  v70 := Tryz.zeroValue143
  t72 := Tryz.underlying145
  a72 := Tryz.isAgg145
  z72 := Tryz.sizeOf145
  v72 := Tryz.zeroValue145
  t75 := Tryz.underlying148
  a75 := Tryz.isAgg148
  z75 := Tryz.sizeOf148
  v75 := Tryz.zeroValue148
  t76 := Tryz.underlying149
  a76 := Tryz.isAgg149
  z76 := Tryz.sizeOf149
  v76 := Tryz.zeroValue149
  t109 := Tryz.underlying198
  a109 := Tryz.isAgg198
  z109 := Tryz.sizeOf198
  v109 := Tryz.zeroValue198
  t127 := Tryz.underlying204
  a127 := Tryz.isAgg204
  z127 := Tryz.sizeOf204
  v127 := Tryz.zeroValue204
  t146 := Tryz.underlying249
  a146 := Tryz.isAgg249
  z146 := Tryz.sizeOf249
  v146 := Tryz.zeroValue249
  t148 := Tryz.underlying251
  a148 := Tryz.isAgg251
  z148 := Tryz.sizeOf251
  v148 := Tryz.zeroValue251
  t164 := Tryz.underlying225
  a164 := Tryz.isAgg225
  z164 := Tryz.sizeOf225
  v164 := Tryz.zeroValue225 }
theorem bX105 : Builder.Extra Tryz.prog lays105_ren := {
  sizeBuilder := by kernel_rfl
  liesBuilder := by kernel_rfl
  t5 := Tryz.underlying5
  a5 := Tryz.isAgg5
  z5 := Tryz.sizeOf5
  v5 := Tryz.zeroValue5
  infoByte := by kernel_rfl
  cellsByte := by kernel_rfl
  sizeByte := by kernel_rfl
  neB5 := by decide }
theorem strings_Repeat (s : ByteArray) (c : Nat) (w : World) (hc : c ≤ 9223372036854775807) (hlen : s.size * c ≤ 140737488355328) :
    Calls Tryz.prog 56 #[.string s, .int .i64 c] w fun e w' => e = .returned (.string ⟨(Lib.repeatL s.data.toList c).toArray⟩) ∧ Below w.heap.size w w' := Any.strings_Repeat lays105 bX105 s c w hc hlen
#print axioms strings_Repeat
end Go.Proofs.YtdogncjcainhlaaGreatDoor
/- The walk of pages.Write. -/
namespace Go.Proofs.YtdogncjcainhlaaGreatDoor
open Go.RowKit Go.Deep
open Mem

theorem byteCells_bv (l : List UInt8) : Lib.byteCells l = bv l := rfl
theorem builder_turns {B b : Nat} {bs : List Value} {w w' : World} (h : Lib.IsBuilder 145 5 B b bs w) (t : Turns (fun _ => False) w w') : Lib.IsBuilder 145 5 B b bs w' := by
  have one : ∀ p, Lib.BuilderAt 145 5 B b p bs w → Lib.BuilderAt 145 5 B b p bs w' := by
    rintro p ⟨h1, v, h2, h3, h4⟩
    exact ⟨h1, v, (t.block b (lt_of_block h2) (fun x => x)).trans h2, owns_turns h3 t, h4⟩
  rcases h with h | h
  · exact Or.inl (one _ h)
  · exact Or.inr (one _ h)
theorem then_below {w wr w2 : World} (h : Turns (fun _ => False) w wr) (hB : Below w.heap.size wr w2) : Turns (fun _ => False) w w2 :=
  ⟨hB.os.trans h.os, hB.tape.trans h.tape, hB.output.trans h.output, Nat.le_trans h.size hB.size, fun k hk _ => (hB.block k hk).trans (h.block k hk (fun x => x))⟩
namespace Pu
theorem chunk_pad {x : List UInt8} {k : Nat} (h : 28 * k < x.length) : chunk (pad x) k = (x.drop (28 * k)).take 28 ++ List.replicate (28 - ((x.drop (28 * k)).take 28).length) 0 := by
  unfold chunk pad
  rw [List.drop_append_of_le_length (by omega)]
  by_cases e : 28 ≤ x.length - 28 * k
  · rw [List.take_append_of_le_length (by rw [List.length_drop]; exact e), List.length_take, List.length_drop, show 28 - min 28 (x.length - 28 * k) = 0 by omega]
    simp
  · have hl : (x.drop (28 * k)).length = x.length - 28 * k := List.length_drop
    rw [List.take_append, hl, List.take_of_length_le (l := x.drop (28 * k)) (by omega), hl, List.take_replicate]
    congr 2
    omega
theorem repeat_zero (c : Nat) : Lib.repeatL [0] c = List.replicate c (0 : UInt8) := by
  induction c with
  | zero => rfl
  | succ n ih => rw [List.replicate_succ, ← ih]; rfl
end Pu

set_option maxRecDepth 100000 in
set_option maxHeartbeats 2000000 in
/-- pages.Write. -/
theorem pgwrite_any (x : ByteArray) (w : World) (hx : x.size ≤ 20000) :
    Calls Tryz.prog 24 #[.string x] w fun e w' => e = .returned (.string ⟨(Pu.paged x.data.toList).toArray⟩) ∧ Turns (fun _ => False) w w' := by
  have HXL : Hid (x.size = x.data.toList.length) := size_list x
  have H0 : Hid (∃ (R : ByteArray) (k : Nat) (wy : World), Value.string x = .string R ∧ Value.int .i64 0 = .int .i64 (k : Int) ∧ k ≤ 1000 ∧ R.size ≤ 20000 ∧ wy = w.alloc (.cells #[.pointer none, .slice none 0 0] 145) ∧ Hid (R.data.toList = x.data.toList.drop (28 * k) ∧ (k = 0 ∨ 28 * (k - 1) < x.size) ∧ Lib.IsBuilder 145 5 w.heap.size w.heap.size (bv (Pu.pageP (Pu.pad x.data.toList) k)) wy ∧ Turns (fun _ => False) w wy)) := by
    refine ⟨x, 0, _, rfl, rfl, by omega, hx, rfl, rfl, Or.inl rfl, Or.inl ⟨Nat.le_refl _, .slice none 0 0, Array.getElem?_push_size, World.ownsRow_nil _ _ _ _, by intro c; cases c⟩, (Turns.refl _ _).alloc _⟩
  go_enter Tryz.func24, Tryz.ntmps24
  go_wp2
  go_loopw [0, 4] (fun hv pv wr => ∃ (R : ByteArray) (k : Nat) (wy : World), hv = .string R ∧ pv = .int .i64 (k : Int) ∧ k ≤ 1000 ∧ R.size ≤ 20000 ∧ wy = wr ∧ Hid (R.data.toList = x.data.toList.drop (28 * k) ∧ (k = 0 ∨ 28 * (k - 1) < x.size) ∧ Lib.IsBuilder 145 5 w.heap.size w.heap.size (bv (Pu.pageP (Pu.pad x.data.toList) k)) wy ∧ Turns (fun _ => False) w wy)) (fun hv _ _ => strLen hv)
  case atStart => exact H0.out
  case round =>
    clear H0
    obtain ⟨R, k, wr, rfl, rfl, hk, hR, hwy, HR⟩ := hrel
    subst hwy
    by_cases hz : R.size = 0
    · have hzi : ¬ (0 : Int) < (R.size : Int) := by omega
      have hzj : ¬ (R.size : Int) > 0 := by omega
      obtain ⟨r1, r2, r3, r4⟩ := HR.out
      have cs := builder_string w.heap.size w.heap.size (Pu.pageP (Pu.pad x.data.toList) k) wr r3 r4.size
      have HE : Hid (Pu.pageP (Pu.pad x.data.toList) k = Pu.paged x.data.toList) := by
        have e1 := congrArg List.length r1
        have hxl := HXL.out
        rw [← size_list, List.length_drop, hz] at e1
        have e2 := Pu.pad_len x.data.toList
        show _ = _
        rw [Pu.paged, show (Pu.pad x.data.toList).length / 28 = k by omega]
      have HT : Hid (Turns (fun _ => False) w wr) := r4
      rw [HE.out] at cs
      obtain ⟨PG, hPG⟩ : ∃ PG, PG = Pu.paged x.data.toList := ⟨_, rfl⟩
      rw [← hPG] at cs
      have HPG : Hid (PG = Pu.paged x.data.toList) := hPG
      clear hPG
      clear HR r1 r2 r3 r4 HE hz HXL
      go_wp2_with fail
      refine cs.mono ?_
      rintro e w2 ⟨rfl, hB⟩
      have HT2 : Hid (Turns (fun _ => False) w w2) := then_below HT.out hB
      clear cs hB
      go_wp2
      exact bodyPost_ret (v := .string ⟨PG.toArray⟩) (by simp [results, Tryz.results24, go_sem]) rfl ⟨by rw [HPG.out], HT2.out⟩
    · have hzi : (0 : Int) < (R.size : Int) := by omega
      have hzj : (R.size : Int) > 0 := by omega
      obtain ⟨m, hm⟩ : ∃ m, m = min 28 R.size := ⟨_, rfl⟩
      have hm28 : m ≤ 28 := by omega
      have hmR : m ≤ R.size := by omega
      have hm0 : 0 < m := by omega
      have hmin : min (28 : Int) (R.size : Int) = (m : Int) := by omega
      have hmm : min m R.size = m := by omega
      have HM : Hid (m = min 28 R.size) := hm
      clear hm
      have cr := fun w => strings_Repeat ⟨#[0]⟩ (28 - m) w (by omega) (by show 1 * _ ≤ _; omega)
      obtain ⟨Z, hZ⟩ : ∃ Z : ByteArray, Z = ⟨(Lib.repeatL (ByteArray.mk #[0]).data.toList (28 - m)).toArray⟩ := ⟨_, rfl⟩
      rw [← hZ] at cr
      have HZ : Hid (Z.data.toList = List.replicate (28 - m) 0) := by rw [hZ]; exact Pu.repeat_zero _
      have hZs : Z.size ≤ 28 := by rw [size_list, HZ.out, List.length_replicate]; omega
      obtain ⟨C, hC⟩ : ∃ C : ByteArray, C = R.extract 0 m ++ Z := ⟨_, rfl⟩
      have hxl := HXL.out
      obtain ⟨r1, r2, r3, r4⟩ := HR.out
      have hRl : R.size = x.size - 28 * k := by rw [size_list R, r1, List.length_drop, ← hxl]
      have HC : Hid (C.data.toList = Pu.chunk (Pu.pad x.data.toList) k ∧ C.size = 28) := by
        have h1 : C.data.toList = Pu.chunk (Pu.pad x.data.toList) k := by
          rw [hC, cat_list, HZ.out, extract_list, Pu.chunk_pad (by omega), ← r1, List.drop_zero]
          have e1 : R.data.toList.take m = R.data.toList.take 28 := by
            by_cases e : R.size < 28
            · rw [List.take_of_length_le (by rw [← size_list]; omega), List.take_of_length_le (by rw [← size_list]; omega)]
            · rw [show m = 28 by rw [HM.out]; omega]
          rw [← e1, List.length_take, ← size_list, show min m R.size = m by omega]
        exact ⟨h1, by rw [size_list, h1, Pu.chunk_len (by have := Pu.pad_len x.data.toList; omega)]⟩
      have hCs := HC.out.2
      have hex : (R.extract 0 m).size = m := by rw [ByteArray.size_extract]; omega
      have hcat : R.extract 0 m ++ Z = C := hC.symm
      have hbig : (9223372036854775807 < (R.extract 0 m).size + Z.size) = False := by simp; omega
      have hrc : (28 : Int) - (m : Int) = ((28 - m : Nat) : Int) := by omega
      have cq := fun w => sumOf_any k C w (by omega) (by omega)
      obtain ⟨N, hN⟩ : ∃ N, N = Pu.sumN (UInt8.ofNat (k / 256) :: UInt8.ofNat (k % 256) :: C.data.toList) := ⟨_, rfl⟩
      have hNl : N < 4294967296 := by rw [hN]; exact Pu.sumN_lt _
      rw [← hN] at cq
      have ct := fun w => sumText_any N w hNl
      obtain ⟨S4, hS4⟩ : ∃ S4 : ByteArray, S4 = ⟨(Pu.sumB N).toArray⟩ := ⟨_, rfl⟩
      have hS4s : S4.size = 4 := by rw [hS4]; rfl
      rw [← hS4] at ct
      have HP : Hid (bv (Pu.pageP (Pu.pad x.data.toList) k) ++ Lib.strCells C ++ Lib.strCells S4 = bv (Pu.pageP (Pu.pad x.data.toList) (k + 1))) := by
        show _ = _
        rw [Pu.pageP, bv_append, Pu.sealB, ← HC.out.1, ← hN, bv_append, List.append_assoc]
        congr 1
        rw [hS4]; rfl
      have hpl : Hid ((bv (Pu.pageP (Pu.pad x.data.toList) k)).length ≤ 100000) := by
        show _ ≤ _
        have := Pu.pad_len x.data.toList
        rw [bv_len, Pu.pageP_len _ _ (by omega)]
        omega
      have HB0 : Hid (Lib.IsBuilder 145 5 w.heap.size w.heap.size (bv (Pu.pageP (Pu.pad x.data.toList) k)) wr ∧ Turns (fun _ => False) w wr) := ⟨r3, r4⟩
      have HNX : Hid ((R.extract m R.size).data.toList = x.data.toList.drop (28 * (k + 1)) ∧ (R.extract m R.size).size < R.size ∧ (k + 1 = 0 ∨ 28 * (k + 1 - 1) < x.size)) := by
        refine ⟨?_, ?_, Or.inr (by omega)⟩
        · rw [extract_list, List.take_of_length_le (by rw [← size_list]; omega), r1, List.drop_drop]
          by_cases e : R.size < 28
          · rw [List.drop_of_length_le (by omega), List.drop_of_length_le (by omega)]
          · rw [show m = 28 by rw [HM.out]; omega]; congr 1
        · rw [ByteArray.size_extract]; omega
      have hkx : k + 1 ≤ 1000 := by omega
      generalize bv (Pu.pageP (Pu.pad x.data.toList) k) = BS at *
      clear hZ hC r1 r2 r3 r4 HR HZ HM HC hN hS4 hxl hRl
      go_wp2_with fail
      refine (cr _).mono ?_
      rintro e w2 ⟨rfl, hB2⟩
      have hT2 : Turns (fun _ => False) wr w2 := Turns.of_below hB2 _ (fun q h1 h2 => by omega)
      have HB2 : Hid (Lib.IsBuilder 145 5 w.heap.size w.heap.size BS w2 ∧ Turns (fun _ => False) w w2) := ⟨builder_turns HB0.out.1 hT2, HB0.out.2.trans hT2⟩
      clear hB2 hT2 HB0 cr
      go_wp2_with fail
      refine (builder_write w.heap.size w.heap.size BS C _ HB2.out.1 (by have := hpl.out; omega) HB2.out.2.size).mono ?_
      rintro e w3 ⟨rfl, hb3, hB3⟩
      have HB3 : Hid (Lib.IsBuilder 145 5 w.heap.size w.heap.size (BS ++ Lib.strCells C) w3 ∧ Turns (fun _ => False) w w3) := ⟨Or.inr hb3, then_below HB2.out.2 hB3⟩
      clear hb3 hB3 HB2
      go_wp2_with fail
      refine (cq _).mono ?_
      rintro e w4 ⟨rfl, hT4⟩
      have HB4 : Hid (Lib.IsBuilder 145 5 w.heap.size w.heap.size (BS ++ Lib.strCells C) w4 ∧ Turns (fun _ => False) w w4) := ⟨builder_turns HB3.out.1 hT4, HB3.out.2.trans hT4⟩
      clear hT4 HB3 cq
      go_wp2_with fail
      refine (ct _).mono ?_
      rintro e w5 ⟨rfl, hT5⟩
      have HB5 : Hid (Lib.IsBuilder 145 5 w.heap.size w.heap.size (BS ++ Lib.strCells C) w5 ∧ Turns (fun _ => False) w w5) := ⟨builder_turns HB4.out.1 hT5, HB4.out.2.trans hT5⟩
      clear hT5 HB4 ct
      go_wp2_with fail
      refine (builder_write w.heap.size w.heap.size (BS ++ Lib.strCells C) S4 _ HB5.out.1 (by have := hpl.out; rw [List.length_append, Lib.strCells_length]; omega) HB5.out.2.size).mono ?_
      rintro e w6 ⟨rfl, hb6, hB6⟩
      have HB6 : Hid (Lib.IsBuilder 145 5 w.heap.size w.heap.size (bv (Pu.pageP (Pu.pad x.data.toList) (k + 1))) w6 ∧ Turns (fun _ => False) w w6) := by
        refine ⟨?_, then_below HB5.out.2 hB6⟩
        rw [← HP.out]; exact Or.inr hb6
      clear hb6 hB6 HB5
      go_wp2
      go_roundw
      case rel => exact ⟨R.extract m R.size, k + 1, w6, rfl, by go_num, hkx, by have := HNX.out.2.1; omega, rfl, HNX.out.1, HNX.out.2.2, HB6.out.1, HB6.out.2⟩
      case measure => exact HNX.out.2.1
#print axioms pgwrite_any
end Go.Proofs.YtdogncjcainhlaaGreatDoor
/- The walks of counts.Read and counts.ReadAll. -/
namespace Go.Proofs.YtdogncjcainhlaaGreatDoor
open Go.RowKit Go.Deep
open Mem

namespace Pu
/-- A count that is read on, so many bytes having been read. -/
def cntGo : Nat → Nat → List UInt8 → Option (Nat × Nat)
  | _, _, [] => none
  | i, acc, b :: r => if i = 3 then none else if 128 ≤ b.toNat then cntGo (i + 1) (acc + b.toNat % 128 * 128 ^ i) r else if b.toNat = 0 ∧ 1 ≤ i then none else some (acc + b.toNat % 128 * 128 ^ i, i + 1)
theorem cntGo_R (l : List UInt8) : cntGo 0 0 l = cntR l := by
  cases l with
  | nil => rfl
  | cons a r =>
    have ha := a.toNat_lt
    rw [cntGo, cntR.eq_def, if_neg (by decide)]
    simp only
    by_cases h1 : a.toNat < 128
    · rw [if_neg (by omega), if_neg (by omega), if_pos h1, Nat.mod_eq_of_lt h1]; simp
    · rw [if_pos (by omega), if_neg h1]
      cases r with
      | nil => rfl
      | cons b q =>
        have hb := b.toNat_lt
        rw [cntGo, if_neg (by decide)]
        simp only
        by_cases h2 : b.toNat < 128
        · rw [if_neg (by omega), if_pos h2]
          by_cases h3 : b.toNat = 0
          · rw [if_pos ⟨h3, by omega⟩, if_pos h3]
          · rw [if_neg (by omega), if_neg h3, Nat.mod_eq_of_lt h2]
            simp only [Option.some.injEq, Prod.mk.injEq, and_true]
            show 0 + a.toNat % 128 * 1 + b.toNat * 128 = _
            omega
        · rw [if_pos (by omega), if_neg h2]
          cases q with
          | nil => rfl
          | cons c q2 =>
            have hc := c.toNat_lt
            rw [cntGo, if_neg (by decide)]
            simp only
            by_cases h3 : c.toNat < 128
            · rw [if_neg (by omega)]
              by_cases h4 : c.toNat = 0
              · rw [if_pos ⟨h4, by omega⟩, if_pos (Or.inl h4)]
              · rw [if_neg (by omega), if_neg (by omega), Nat.mod_eq_of_lt h3]
                simp only [Option.some.injEq, Prod.mk.injEq, and_true]
                show 0 + a.toNat % 128 * 1 + b.toNat % 128 * 128 + c.toNat * 16384 = _
                omega
            · rw [if_pos (by omega), if_pos (by omega)]
              cases q2 with
              | nil => rfl
              | cons d q3 => rw [cntGo, if_pos rfl]
end Pu
/-- What counts.Read hands back. -/
def cntV : Option (Nat × Nat) → Value
  | none => .tuple #[.int .i64 0, .int .i64 0, .bool false]
  | some (n, k) => .tuple #[.int .i64 (n : Int), .int .i64 (k : Int), .bool true]
set_option maxRecDepth 100000 in
set_option maxHeartbeats 1000000 in
theorem cread_any (s : ByteArray) (w : World) (hs : s.size ≤ 100000) :
    Calls Tryz.prog 101 #[.string s] w fun e w' => e = .returned (cntV (Pu.cntR s.data.toList)) ∧ w' = w := by
  go_enter Tryz.func101, Tryz.ntmps101
  go_wp2
  refine wp_scope_jumps 0 (fun a' w' => w' = w ∧ ∃ (i acc : Nat) (u7 u8 u9 u10 u11 u12 u13 u14 u15 u16 u17 u18 u19 u20 u21 u22 u23 u24 u25 u26 u27 u28 u29 u30 : Value), a' = { tmps := #[.string s, undef, .int .i64 0, .int .i64 0, .bool false, .int .i64 (acc : Int), .int .i64 (i : Int), u7, u8, u9, u10, u11, u12, u13, u14, u15, u16, u17, u18, u19, u20, u21, u22, u23, u24, u25, u26, u27, u28, u29, u30, undef, undef, undef, undef, undef, undef, undef, undef], defers := [] } ∧ 1 ≤ i ∧ i ≤ 3 ∧ i ≤ s.size ∧ acc < 128 ^ i ∧ Hid (Pu.cntGo i acc (s.data.toList.drop i) = Pu.cntR s.data.toList)) (fun a' _ => 3 - (intOf (a'.tmps.getD 6 undef)).toNat) rfl ?_ ?_
  · have HC : Hid (Pu.cntGo 0 0 (s.data.toList.drop 0) = Pu.cntR s.data.toList) := Pu.cntGo_R _
    go_wp2
    go_step3
    by_cases hz : s.size = 0
    · have hzi : ((s.size : Int) == 0) = true := by rw [hz]; rfl
      have hzj : ((0 : Int) == (s.size : Int)) = true := by rw [hz]; rfl
      have HE : Hid (cntV (Pu.cntR s.data.toList) = .tuple #[.int .i64 0, .int .i64 0, .bool false]) := by show _ = _; rw [← HC.out, List.drop_of_length_le (by rw [← size_list]; omega), Pu.cntGo]; rfl
      clear hz HC
      go_wp2
      simp only [Exit.jump]
      exact bodyPost_ret (v := .tuple #[.int .i64 0, .int .i64 0, .bool false]) (by simp [results, Tryz.results101, go_sem]) rfl ⟨by rw [HE.out], rfl⟩
    · have hlt : 0 < s.size := by omega
      have hzi : ((s.size : Int) == 0) = false := by rw [beq_eq_false_iff_ne]; omega
      have hzj : ((0 : Int) == (s.size : Int)) = false := by rw [beq_eq_false_iff_ne]; omega
      have hb : s[0].toNat < 256 := s[0].toNat_lt
      have hgo : Pu.cntGo 0 0 (s.data.toList.drop 0) = if 128 ≤ s[0].toNat then Pu.cntGo 1 (0 + s[0].toNat % 128 * 1) (s.data.toList.drop 1) else if s[0].toNat = 0 ∧ 1 ≤ 0 then none else some (0 + s[0].toNat % 128 * 1, 1) := by
        rw [List.drop_eq_getElem_cons (by rw [← size_list]; exact hlt), Pu.cntGo, if_neg (by decide)]; rfl
      rw [hgo] at HC
      clear hgo
      have hlti : (0 : Int) < (s.size : Int) := by omega
      obtain ⟨b, hbe⟩ : ∃ b, s[0].toNat = b := ⟨_, rfl⟩
      rw [hbe] at hb HC
      by_cases h128 : 128 ≤ b
      · have h128i : (128 : Int) ≤ (b : Int) := by omega
        have HN : Hid (Pu.cntGo 1 (0 + b % 128 * 1) (s.data.toList.drop 1) = Pu.cntR s.data.toList) := by have := HC.out; rwa [if_pos h128] at this
        clear HC
        go_wp2
        go_step3
        have HB : (0 + b % 128 * 1) < 128 ^ 1 := by omega
        exact ⟨rfl, rfl, 1, (0 + b % 128 * 1), _, _, _, _, _, _, _, _, _, _, _, _, _, _, _, _, _, _, _, _, _, _, _, _, by simp; repeat (first | rfl | (refine ⟨rfl, ?_⟩) | (refine ⟨by omega, ?_⟩) | omega), by omega, by omega, by omega, HB, HN⟩
      · have h128i : ¬ (128 : Int) ≤ (b : Int) := by omega
        by_cases hb0 : b = 0
        · have hb0i : ((b : Int) == 0) = true := by rw [hb0]; rfl
          have HE : Hid (cntV (Pu.cntR s.data.toList) = .tuple #[.int .i64 ((b : Nat) : Int), .int .i64 1, .bool true]) := by show _ = _; rw [← HC.out, if_neg h128, if_neg (by omega), Nat.mod_eq_of_lt (by omega)]; simp [cntV]
          clear HC
          subst hb0
          go_wp2
          simp only [Exit.jump]
          exact bodyPost_ret (v := .tuple #[.int .i64 0, .int .i64 1, .bool true]) (by simp [results, Tryz.results101, go_sem]) rfl ⟨by rw [HE.out]; rfl, rfl⟩
        · have hb0i : ((b : Int) == 0) = false := by rw [beq_eq_false_iff_ne]; omega
          have HE : Hid (cntV (Pu.cntR s.data.toList) = .tuple #[.int .i64 ((0 + b % 128 * 1 : Nat) : Int), .int .i64 1, .bool true]) := by show _ = _; rw [← HC.out, if_neg h128, if_neg (by omega)]; rfl
          clear HC
          go_wp2
          simp only [Exit.jump]
          refine bodyPost_ret (v := .tuple #[.int .i64 ((0 + b % 128 * 1 : Nat) : Int), .int .i64 1, .bool true]) ?_ rfl ⟨by rw [HE.out], rfl⟩
          simp [results, Tryz.results101, go_sem]
          try omega
  · rintro a' w' ⟨rfl, i, acc, u7, u8, u9, u10, u11, u12, u13, u14, u15, u16, u17, u18, u19, u20, u21, u22, u23, u24, u25, u26, u27, u28, u29, u30, rfl, hi1, hi3, his, hacc, HC⟩
    rcases (by omega : i = 1 ∨ i = 2 ∨ i = 3) with rfl | rfl | rfl
    · have hacc2 : acc < 128 := hacc
      clear hacc hi1 hi3
      by_cases hz : s.size = 1
      · have hzi : ((s.size : Int) == 1) = true := by rw [hz]; rfl
        have hzj : ((1 : Int) == (s.size : Int)) = true := by rw [hz]; rfl
        have HE : Hid (cntV (Pu.cntR s.data.toList) = .tuple #[.int .i64 0, .int .i64 0, .bool false]) := by show _ = _; rw [← HC.out, List.drop_of_length_le (by rw [← size_list]; omega), Pu.cntGo]; rfl
        clear hz HC
        go_wp2
        simp only [Exit.jump]
        exact bodyPost_ret (v := .tuple #[.int .i64 0, .int .i64 0, .bool false]) (by simp [results, Tryz.results101, go_sem]) rfl ⟨by rw [HE.out], rfl⟩
      · have hlt : 1 < s.size := by omega
        have hzi : ((s.size : Int) == 1) = false := by rw [beq_eq_false_iff_ne]; omega
        have hzj : ((1 : Int) == (s.size : Int)) = false := by rw [beq_eq_false_iff_ne]; omega
        have hb : s[1].toNat < 256 := s[1].toNat_lt
        have hgo : Pu.cntGo 1 acc (s.data.toList.drop 1) = if 128 ≤ s[1].toNat then Pu.cntGo 2 (acc + s[1].toNat % 128 * 128) (s.data.toList.drop 2) else if s[1].toNat = 0 ∧ 1 ≤ 1 then none else some (acc + s[1].toNat % 128 * 128, 2) := by
          rw [List.drop_eq_getElem_cons (by rw [← size_list]; exact hlt), Pu.cntGo, if_neg (by decide)]; rfl
        rw [hgo] at HC
        clear hgo
        have hlti : (1 : Int) < (s.size : Int) := by omega
        obtain ⟨b, hbe⟩ : ∃ b, s[1].toNat = b := ⟨_, rfl⟩
        rw [hbe] at hb HC
        by_cases h128 : 128 ≤ b
        · have h128i : (128 : Int) ≤ (b : Int) := by omega
          have HN : Hid (Pu.cntGo 2 (acc + b % 128 * 128) (s.data.toList.drop 2) = Pu.cntR s.data.toList) := by have := HC.out; rwa [if_pos h128] at this
          clear HC
          go_wp2
          go_step3
          have HB : (acc + b % 128 * 128) < 128 ^ 2 := by omega
          exact ⟨rfl, ⟨rfl, 2, (acc + b % 128 * 128), _, _, _, _, _, _, _, _, _, _, _, _, _, _, _, _, _, _, _, _, _, _, _, _, by simp; repeat (first | rfl | (refine ⟨rfl, ?_⟩) | (refine ⟨by omega, ?_⟩) | omega), by omega, by omega, by omega, HB, HN⟩, by simp [intOf]⟩
        · have h128i : ¬ (128 : Int) ≤ (b : Int) := by omega
          by_cases hb0 : b = 0
          · have hb0i : ((b : Int) == 0) = true := by rw [hb0]; rfl
            have HE : Hid (cntV (Pu.cntR s.data.toList) = .tuple #[.int .i64 0, .int .i64 0, .bool false]) := by show _ = _; rw [← HC.out, if_neg h128, if_pos ⟨hb0, by decide⟩]; rfl
            clear HC hb0
            go_wp2
            simp only [Exit.jump]
            exact bodyPost_ret (v := .tuple #[.int .i64 0, .int .i64 0, .bool false]) (by simp [results, Tryz.results101, go_sem]) rfl ⟨by rw [HE.out], rfl⟩
          · have hb0i : ((b : Int) == 0) = false := by rw [beq_eq_false_iff_ne]; omega
            have HE : Hid (cntV (Pu.cntR s.data.toList) = .tuple #[.int .i64 ((acc + b % 128 * 128 : Nat) : Int), .int .i64 2, .bool true]) := by show _ = _; rw [← HC.out, if_neg h128, if_neg (by omega)]; rfl
            clear HC
            go_wp2
            simp only [Exit.jump]
            refine bodyPost_ret (v := .tuple #[.int .i64 ((acc + b % 128 * 128 : Nat) : Int), .int .i64 2, .bool true]) ?_ rfl ⟨by rw [HE.out], rfl⟩
            simp [results, Tryz.results101, go_sem]
            try omega
    · have hacc2 : acc < 16384 := hacc
      clear hacc hi1 hi3
      by_cases hz : s.size = 2
      · have hzi : ((s.size : Int) == 2) = true := by rw [hz]; rfl
        have hzj : ((2 : Int) == (s.size : Int)) = true := by rw [hz]; rfl
        have HE : Hid (cntV (Pu.cntR s.data.toList) = .tuple #[.int .i64 0, .int .i64 0, .bool false]) := by show _ = _; rw [← HC.out, List.drop_of_length_le (by rw [← size_list]; omega), Pu.cntGo]; rfl
        clear hz HC
        go_wp2
        simp only [Exit.jump]
        exact bodyPost_ret (v := .tuple #[.int .i64 0, .int .i64 0, .bool false]) (by simp [results, Tryz.results101, go_sem]) rfl ⟨by rw [HE.out], rfl⟩
      · have hlt : 2 < s.size := by omega
        have hzi : ((s.size : Int) == 2) = false := by rw [beq_eq_false_iff_ne]; omega
        have hzj : ((2 : Int) == (s.size : Int)) = false := by rw [beq_eq_false_iff_ne]; omega
        have hb : s[2].toNat < 256 := s[2].toNat_lt
        have hgo : Pu.cntGo 2 acc (s.data.toList.drop 2) = if 128 ≤ s[2].toNat then Pu.cntGo 3 (acc + s[2].toNat % 128 * 16384) (s.data.toList.drop 3) else if s[2].toNat = 0 ∧ 1 ≤ 2 then none else some (acc + s[2].toNat % 128 * 16384, 3) := by
          rw [List.drop_eq_getElem_cons (by rw [← size_list]; exact hlt), Pu.cntGo, if_neg (by decide)]; rfl
        rw [hgo] at HC
        clear hgo
        have hlti : (2 : Int) < (s.size : Int) := by omega
        obtain ⟨b, hbe⟩ : ∃ b, s[2].toNat = b := ⟨_, rfl⟩
        rw [hbe] at hb HC
        by_cases h128 : 128 ≤ b
        · have h128i : (128 : Int) ≤ (b : Int) := by omega
          have HN : Hid (Pu.cntGo 3 (acc + b % 128 * 16384) (s.data.toList.drop 3) = Pu.cntR s.data.toList) := by have := HC.out; rwa [if_pos h128] at this
          clear HC
          go_wp2
          go_step3
          have HB : (acc + b % 128 * 16384) < 128 ^ 3 := by omega
          exact ⟨rfl, ⟨rfl, 3, (acc + b % 128 * 16384), _, _, _, _, _, _, _, _, _, _, _, _, _, _, _, _, _, _, _, _, _, _, _, _, by simp; repeat (first | rfl | (refine ⟨rfl, ?_⟩) | (refine ⟨by omega, ?_⟩) | omega), by omega, by omega, by omega, HB, HN⟩, by simp [intOf]⟩
        · have h128i : ¬ (128 : Int) ≤ (b : Int) := by omega
          by_cases hb0 : b = 0
          · have hb0i : ((b : Int) == 0) = true := by rw [hb0]; rfl
            have HE : Hid (cntV (Pu.cntR s.data.toList) = .tuple #[.int .i64 0, .int .i64 0, .bool false]) := by show _ = _; rw [← HC.out, if_neg h128, if_pos ⟨hb0, by decide⟩]; rfl
            clear HC hb0
            go_wp2
            simp only [Exit.jump]
            exact bodyPost_ret (v := .tuple #[.int .i64 0, .int .i64 0, .bool false]) (by simp [results, Tryz.results101, go_sem]) rfl ⟨by rw [HE.out], rfl⟩
          · have hb0i : ((b : Int) == 0) = false := by rw [beq_eq_false_iff_ne]; omega
            have HE : Hid (cntV (Pu.cntR s.data.toList) = .tuple #[.int .i64 ((acc + b % 128 * 16384 : Nat) : Int), .int .i64 3, .bool true]) := by show _ = _; rw [← HC.out, if_neg h128, if_neg (by omega)]; rfl
            clear HC
            go_wp2
            simp only [Exit.jump]
            refine bodyPost_ret (v := .tuple #[.int .i64 ((acc + b % 128 * 16384 : Nat) : Int), .int .i64 3, .bool true]) ?_ rfl ⟨by rw [HE.out], rfl⟩
            simp [results, Tryz.results101, go_sem]
            try omega
    · have hacc2 : acc < 2097152 := hacc
      clear hacc hi1 hi3
      by_cases hz : s.size = 3
      · have hzi : ((s.size : Int) == 3) = true := by rw [hz]; rfl
        have hzj : ((3 : Int) == (s.size : Int)) = true := by rw [hz]; rfl
        have HE : Hid (cntV (Pu.cntR s.data.toList) = .tuple #[.int .i64 0, .int .i64 0, .bool false]) := by show _ = _; rw [← HC.out, List.drop_of_length_le (by rw [← size_list]; omega), Pu.cntGo]; rfl
        clear hz HC
        go_wp2
        simp only [Exit.jump]
        exact bodyPost_ret (v := .tuple #[.int .i64 0, .int .i64 0, .bool false]) (by simp [results, Tryz.results101, go_sem]) rfl ⟨by rw [HE.out], rfl⟩
      · have hlt : 3 < s.size := by omega
        have hzi : ((s.size : Int) == 3) = false := by rw [beq_eq_false_iff_ne]; omega
        have hzj : ((3 : Int) == (s.size : Int)) = false := by rw [beq_eq_false_iff_ne]; omega
        have HE : Hid (cntV (Pu.cntR s.data.toList) = .tuple #[.int .i64 0, .int .i64 0, .bool false]) := by
          show _ = _
          rw [← HC.out, List.drop_eq_getElem_cons (by rw [← size_list]; exact hlt), Pu.cntGo, if_pos rfl]; rfl
        clear HC
        go_wp2
        simp only [Exit.jump]
        exact bodyPost_ret (v := .tuple #[.int .i64 0, .int .i64 0, .bool false]) (by simp [results, Tryz.results101, go_sem]) rfl ⟨by rw [HE.out], rfl⟩
#print axioms cread_any
end Go.Proofs.YtdogncjcainhlaaGreatDoor
/- The walk of counts.ReadAll. -/
namespace Go.Proofs.YtdogncjcainhlaaGreatDoor
open Go.RowKit Go.Deep
open Mem

namespace Pu
theorem cnts_fuel : ∀ (f : Nat) (l : List UInt8) (g : Nat), l.length ≤ f → l.length ≤ g → cnts f l = cnts g l
  | f, [], g, _, _ => by cases f <;> cases g <;> rfl
  | 0, a :: l, _, h, _ => by simp at h
  | _ + 1, a :: l, 0, _, h => by simp at h
  | f + 1, a :: l, g + 1, h1, h2 => by
    rw [cnts, cnts]
    cases e : cntR (a :: l) with
    | none => rfl
    | some y =>
      obtain ⟨n, k⟩ := y
      have hk := cntR_pos e
      simp only
      rw [cnts_fuel f ((a :: l).drop k) g (by rw [List.length_drop]; omega) (by rw [List.length_drop]; omega)]
/-- All bytes, as counts. -/
def cntsR (l : List UInt8) : Option (List Nat) := cnts l.length l
theorem cntsR_nil : cntsR [] = some [] := rfl
theorem cntsR_none {l : List UInt8} (h : l ≠ []) (hc : cntR l = none) : cntsR l = none := by
  cases l with
  | nil => exact absurd rfl h
  | cons a l => rw [cntsR, List.length_cons, cnts, hc]
theorem cntsR_some {l : List UInt8} {n k : Nat} (hc : cntR l = some (n, k)) : cntsR l = (cntsR (l.drop k)).map (n :: ·) := by
  cases l with
  | nil => simp [cntR] at hc
  | cons a l =>
    have hk := cntR_pos hc
    rw [cntsR, cntsR, List.length_cons, cnts, hc]
    simp only
    rw [cnts_fuel l.length ((a :: l).drop k) ((a :: l).drop k).length (by rw [List.length_drop, List.length_cons]; omega) (Nat.le_refl _)]
    cases cnts ((a :: l).drop k).length ((a :: l).drop k) <;> rfl
end Pu
/-- The cells of numbers. -/
def natV (l : List Nat) : List Value := l.map fun (n : Nat) => Value.int .i64 (n : Int)
theorem natV_append (a b : List Nat) : natV (a ++ b) = natV a ++ natV b := List.map_append
theorem info3n : (Tryz.prog.info? 3).map (fun i => (i.zero, i.size, i.bytes)) = some (some (.int .i64 0), 1, 8) := by kernel_rfl
/-- What counts.ReadAll hands back. -/
def AllPost (w : World) (r : Option (List Nat)) (e : Ending) (w' : World) : Prop := match r with
  | none => e = .returned (.tuple #[.slice none 0 0, .bool false]) ∧ Turns (fun _ => False) w w'
  | some ns => ∃ v, e = .returned (.tuple #[v, .bool true]) ∧ OwnG w (.slice none 0 0) w.heap.size 3 1 v ns.length (natV ns) w'

set_option maxRecDepth 100000 in
set_option maxHeartbeats 1000000 in
theorem creadAll_any (s : ByteArray) (w : World) (hs : s.size ≤ 100000) :
    Calls Tryz.prog 128 #[.string s] w (AllPost w (Pu.cntsR s.data.toList)) := by
  have H0 : Hid (OwnG w (.slice none 0 0) w.heap.size 3 1 (.slice none 0 0) ([] : List Nat).length (natV []) w ∧ Pu.cntsR s.data.toList = (Pu.cntsR s.data.toList).map ([] ++ ·)) := ⟨OwnG.nil _ _ _ _, by simp⟩
  go_enter Tryz.func128, Tryz.ntmps128
  go_wp2
  go_loopw [0, 4] (fun fv av wr => ∃ (R : ByteArray) (x : Value) (d : List Nat) (wy : World), fv = .string R ∧ x = av ∧ R.size ≤ 100000 ∧ wy = wr ∧ d.length + R.size ≤ s.size ∧ Hid (OwnG w (.slice none 0 0) w.heap.size 3 1 x d.length (natV d) wy ∧ Pu.cntsR s.data.toList = (Pu.cntsR R.data.toList).map (d ++ ·))) (fun fv _ _ => strLen fv)
  case atStart => exact ⟨s, _, [], w, rfl, rfl, hs, rfl, by simp, H0.out⟩
  case round =>
    clear H0
    obtain ⟨R, x, d, wr, rfl, hx, hR, hwy, hdl, HI⟩ := hrel
    subst hwy hx
    by_cases hz : R.size = 0
    · have hzi : ¬ (0 : Int) < (R.size : Int) := by omega
      have hzj : ¬ (R.size : Int) > 0 := by omega
      have HX : Hid (AllPost w (Pu.cntsR s.data.toList) (.returned (.tuple #[x, .bool true])) wr) := by
        have e : R.data.toList = [] := List.eq_nil_of_length_eq_zero (by rw [← size_list]; exact hz)
        have h2 := HI.out.2
        rw [e, Pu.cntsR_nil, Option.map_some, List.append_nil] at h2
        show AllPost _ _ _ _
        rw [h2]
        exact ⟨x, rfl, HI.out.1⟩
      clear HI hz
      go_wp2
      exact bodyPost_ret (v := .tuple #[x, .bool true]) (by simp [results, Tryz.results128, go_sem]) rfl HX.out
    · have hzi : (0 : Int) < (R.size : Int) := by omega
      have hzj : (R.size : Int) > 0 := by omega
      have cr := fun w => cread_any R w hR
      have hne : R.data.toList ≠ [] := fun c => hz (by rw [size_list, c]; rfl)
      cases hc : Pu.cntR R.data.toList with
      | none =>
        rw [hc] at cr
        have HX : Hid (AllPost w (Pu.cntsR s.data.toList) (.returned (.tuple #[.slice none 0 0, .bool false])) wr) := by
          have h2 := HI.out.2
          rw [Pu.cntsR_none hne hc] at h2
          show AllPost _ _ _ _
          rw [h2]
          exact ⟨rfl, HI.out.1.turns0⟩
        simp only [cntV] at cr
        clear HI hne hc
        go_wp2_with fail
        refine (cr _).mono ?_
        rintro e w2 ⟨rfl, hw2⟩
        subst w2
        clear cr
        go_wp2
        exact bodyPost_ret (v := .tuple #[.slice none 0 0, .bool false]) (by simp [results, Tryz.results128, go_sem]) rfl HX.out
      | some y =>
        obtain ⟨n, k⟩ := y
        rw [hc] at cr
        simp only [cntV] at cr
        have hk := Pu.cntR_pos hc
        have hk2 : k ≤ R.size := by rw [size_list]; exact hk.2.2
        have hki : (k : Int) ≤ (R.size : Int) := by omega
        have hkn : ¬ (k : Int) < 0 := by omega
        have HO : Hid (OwnG w (.slice none 0 0) w.heap.size 3 1 x d.length (natV d) wr) := HI.out.1
        have hsz : w.heap.size ≤ wr.heap.size := HI.out.1.turns0.size
        have HN : Hid (Pu.cntsR s.data.toList = (Pu.cntsR (R.extract k R.size).data.toList).map ((d ++ [n]) ++ ·) ∧ (R.extract k R.size).size = R.size - k) := by
          refine ⟨?_, by rw [ByteArray.size_extract]; omega⟩
          rw [HI.out.2, Pu.cntsR_some hc, extract_list, List.take_of_length_le (by rw [← size_list]; omega)]
          cases Pu.cntsR (R.data.toList.drop k) with
          | none => rfl
          | some z => simp
        have hdb : d.length ≤ 100000 := by omega
        clear HI hne hc
        go_wp2_with fail
        refine (cr _).mono ?_
        rintro e w2 ⟨rfl, hw2⟩
        subst w2
        clear cr
        obtain ⟨xs, hxs⟩ : ∃ xs, xs = natV d := ⟨_, rfl⟩
        obtain ⟨nn, hnn⟩ : ∃ nn, nn = d.length := ⟨_, rfl⟩
        rw [← hxs, ← hnn] at HO
        have HX : Hid (xs = natV d ∧ nn = d.length) := ⟨hxs, hnn⟩
        have hnb : nn ≤ 100000 := by omega
        clear hxs hnn
        go_wp2_with (at_builtin; refine wpList_append_one rfl _ _ 55 rfl 3 1 8 _ Tryz.underlying55 info3n rfl (by decide) w wr (.slice none 0 0) x w.heap.size nn xs _ rfl (by intro u hu; simp at hu; subst hu; rfl) HO.out hsz (by omega) (by omega) rfl _ rfl rfl ?_)
        intro v' w3 hB
        have HY : Hid (OwnG w (.slice none 0 0) w.heap.size 3 1 v' (d ++ [n]).length (natV (d ++ [n])) w3) := by
          show OwnG _ _ _ _ _ _ _ _ _
          rw [natV_append, List.length_append, ← HX.out.1, ← HX.out.2]
          exact hB
        clear hB HO HX
        go_wp2
        go_roundw
        case rel => exact ⟨R.extract k R.size, v', d ++ [n], w3, rfl, rfl, by have := HN.out.2; omega, rfl, by have := HN.out.2; rw [List.length_append, List.length_singleton]; omega, HY.out, HN.out.1⟩
        case measure => show (R.extract k R.size).size < R.size; have := HN.out.2; omega
#print axioms creadAll_any
end Go.Proofs.YtdogncjcainhlaaGreatDoor
/- The library's contract of slices.Contains, laid at this translation. -/
namespace Go.Proofs.YtdogncjcainhlaaGreatDoor
open Go.Shelf Go.Lib
def lays107_ren : Go.Shelf.Ren := ⟨fun | 107 => 90 | 108 => 143 | n => n, fun | 28 => 55 | 3 => 3 | 4 => 4 | 0 => 0 | n => n, fun | n => n⟩
theorem lays107 : Go.Proofs.Lays.n107 Tryz.prog lays107_ren := {
  mixed := by kernel_rfl
  f107 := Tryz.func90.trans (congrArg some (by kernel_rfl))
  f108 := Tryz.func143.trans (congrArg some (by kernel_rfl))
  t0 := Tryz.underlying0
  a0 := Tryz.isAgg0
  z0 := Tryz.sizeOf0
  v0 := Tryz.zeroValue0
  t3 := Tryz.underlying3
  a3 := Tryz.isAgg3
  z3 := Tryz.sizeOf3
  v3 := Tryz.zeroValue3
  t4 := Tryz.underlying4
  a4 := Tryz.isAgg4
  z4 := Tryz.sizeOf4
  v4 := Tryz.zeroValue4
  t28 := Tryz.underlying55
  a28 := Tryz.isAgg55
  z28 := Tryz.sizeOf55
  v28 := Tryz.zeroValue55 }
theorem slices_Contains_int (b off n c : Nat) (zs : List Int) (x : Int) (w : World) (hz : n ≤ zs.length) (hbig : n ≤ 9223372036854775807) (hc : ∀ j, j < zs.length → w.cell? ⟨b, off + j, none⟩ = some (.int .i64 (zs.getD j 0))) :
    Calls Tryz.prog 90 #[.slice (some ⟨b, off, none⟩) n c, .int .i64 x] w fun e w' => e = .returned (.bool ((zs.take n).contains x)) ∧ w' = w := Any.slices_Contains_int lays107 b off n c zs x w hz hbig hc
end Go.Proofs.YtdogncjcainhlaaGreatDoor
/- The walk of ways.nearest. -/
namespace Go.Proofs.YtdogncjcainhlaaGreatDoor
open Go.RowKit
open Mem

theorem near_no {X : Int} {Y : Bool} (h1 : ¬ Y = true) (h2 : (X == -1) = false) : ¬ (Y = true ∨ X = -1) := by
  rintro (h | h)
  · exact h1 h
  · rw [h] at h2; simp at h2
theorem near_no2 {B X Z : Int} (h : (B == -1) = false ∧ Z ≤ X) : ¬ (B = -1 ∨ X < Z) := by
  rintro (e | e)
  · rw [e] at h; simp at h
  · omega

set_option maxHeartbeats 1000000 in
theorem nearest_any (w : World) (f d n : Nat) (far : Nat → Int) (done : Nat → Bool) (hn : n ≤ 40) (hf : Ints w f n far) (hd : Bools w d n done) :
    Calls Tryz.prog 126 #[.slice (some ⟨f, 0, none⟩) n n, .slice (some ⟨d, 0, none⟩) n n] w fun e w' => e = .returned (.int .i64 (Pu.near far done n)) ∧ w' = w := by
  go_enter Tryz.func126, Tryz.ntmps126
  go_wp2
  go_loop [5, 10] (fun v i => ∃ k : Nat, k ≤ n ∧ i = .int .i64 k ∧ v = .int .i64 (Pu.near far done k)) (fun _ i => n - (intOf i).toNat)
  case atStart => exact ⟨0, Nat.zero_le _, rfl, rfl⟩
  case round =>
    obtain ⟨k, hk, rfl, rfl⟩ := hrel
    by_cases hlt : k < n
    · have hck := hf.cell k hlt
      have hdk := hd.cell k hlt
      have hb := Pu.near_bd far done k
      have hcb : 0 ≤ Pu.near far done k → w.cell? ⟨f, (Pu.near far done k).toNat, none⟩ = some (.int .i64 (far (Pu.near far done k).toNat)) := fun h => hf.cell _ (by omega)
      have HS : Hid (done k = true ∨ far k = -1 → Pu.near far done (k + 1) = Pu.near far done k) := Pu.near_skip
      have HT : Hid (¬ (done k = true ∨ far k = -1) → Pu.near far done k = -1 ∨ far k < far (Pu.near far done k).toNat → Pu.near far done (k + 1) = k) := Pu.near_take
      have HK : Hid (¬ (done k = true ∨ far k = -1) → ¬ (Pu.near far done k = -1 ∨ far k < far (Pu.near far done k).toNat) → Pu.near far done (k + 1) = Pu.near far done k) := Pu.near_keep
      generalize hB : Pu.near far done k = B at *
      generalize hX : far k = X at *
      generalize hY : done k = Y at *
      generalize hZ : far B.toNat = Z at *
      clear hB hX hY hZ hf hd
      go_wp2
      all_goals
        go_round
        case measure => simp [intOf]; omega
        case rel =>
          refine ⟨k + 1, by omega, by go_num, ?_⟩
          first
            | (have h : Y = true := by assumption
               rw [HS.out (Or.inl h)])
            | (have h : (X == -1) = true := by assumption
               rw [HS.out (Or.inr (by simpa using h))])
            | (have h1 : ¬ Y = true := by assumption
               have h2 : (X == -1) = false := by assumption
               have h3 := near_no h1 h2
               first
                 | (have h4 : B = -1 := by assumption
                    rw [HT.out h3 (Or.inl h4)])
                 | (have h4 : (B == -1) = true ∨ X < Z := by assumption
                    rw [HT.out h3 (by simpa using h4)])
                 | (have h4 : (B == -1) = false ∧ Z ≤ X := by assumption
                    rw [HK.out h3 (near_no2 h4)]))
    · have e : k = n := by omega
      subst e
      go_wp2
      go_ret
      exact ⟨rfl, rfl⟩
end Go.Proofs.YtdogncjcainhlaaGreatDoor
/- The walk of ways.goOn. -/
namespace Go.Proofs.YtdogncjcainhlaaGreatDoor
open Go.RowKit
open Mem

theorem goOn_no {L X A : Int} (h : (L == 0) = true) : ¬ (L ≠ 0 ∧ (X = -1 ∨ A + L < X)) := fun c => c.1 (by simpa using h)
theorem goOn_yes {L X A : Int} (h : (L == 0) = false) (g : X = -1 ∨ A + L < X) : L ≠ 0 ∧ (X = -1 ∨ A + L < X) := ⟨by simpa using h, g⟩
theorem goOn_no2 {L X A : Int} (g : (X == -1) = false ∧ X ≤ A + L) : ¬ (L ≠ 0 ∧ (X = -1 ∨ A + L < X)) := by
  rintro ⟨_, c | c⟩
  · rw [c] at g; simp at g
  · omega

set_option maxHeartbeats 1000000 in
theorem goOn_any (w : World) (b f n at' : Nat) (N R : Int) (len : Nat → Nat → Int) (far : Nat → Int) (hn : n ≤ 40) (hat : at' < n) (hm : MapAt w b N R len) (hf : Ints w f n far) (hbf : b ≠ f)
    (hlen : ∀ j, 0 ≤ len at' j ∧ len at' j ≤ 1000) (hself : len at' at' = 0) (ha0 : 0 ≤ far at') (ha1 : far at' ≤ 1000000000) :
    Calls Tryz.prog 127 #[.pointer (some ⟨b, 0, none⟩), .slice (some ⟨f, 0, none⟩) n n, .int .i64 at'] w fun e w' => e = .returned (.tuple #[]) ∧ Ints w' f n (Pu.rel1 (len at') (far at') far) ∧ Turns (· = f) w w' ∧ w'.heap.size = w.heap.size := by
  go_enter Tryz.func127, Tryz.ntmps127
  go_wp2
  go_loopw [11] (fun i wr => ∃ k : Nat, k ≤ n ∧ i = .int .i64 k ∧ Ints wr f n (Pu.relK (len at') (far at') far k) ∧ Turns (· = f) w wr ∧ wr.heap.size = w.heap.size) (fun i _ => n - (intOf i).toNat)
  case atStart => exact ⟨0, Nat.zero_le _, rfl, by rw [Pu.relK_zero]; exact hf, Turns.refl _ _, rfl⟩
  case round =>
    obtain ⟨k, hk, rfl, hI, hT, hS⟩ := hrel
    by_cases hlt : k < n
    · have hM := hm.turns hT hbf
      have hl := hM.cell at' k (by omega) (by omega)
      have hck := hI.cell k hlt
      have hca := hI.cell at' hat
      have hfk := hI.free k hlt
      have hbl := hlen k
      rw [Pu.relK_self] at hck
      rw [Pu.relK_at hself] at hca
      have HK : Hid (¬ (len at' k ≠ 0 ∧ (far k = -1 ∨ far at' + len at' k < far k)) → Pu.relK (len at') (far at') far (k + 1) = Pu.relK (len at') (far at') far k) := Pu.relK_keep
      have HT : Hid ((len at' k ≠ 0 ∧ (far k = -1 ∨ far at' + len at' k < far k)) → Pu.relK (len at') (far at') far (k + 1) = upd (Pu.relK (len at') (far at') far k) k (far at' + len at' k)) := Pu.relK_take
      generalize hX : far k = X at *
      generalize hA : far at' = A at *
      generalize hL : len at' k = L at *
      clear hX hA hL hf hm hM
      go_wp2
      all_goals
        go_roundw
        case measure => simp [intOf]; omega
        case rel =>
          first
            | (have h : (L == 0) = true := by assumption
               exact ⟨k + 1, by omega, by go_num, by rw [HK.out (goOn_no h)]; exact hI, hT, hS⟩)
            | (have h : (L == 0) = false := by assumption
               first
                | (have h2 : X = -1 := by assumption
                   exact ⟨k + 1, by omega, by go_num, by rw [HT.out (goOn_yes h (Or.inl h2))]; exact hI.set hlt _, hT.setCell (Or.inr rfl) _, by simpa using hS⟩)
                | (have h2 : (X == -1) = true ∨ A + L < X := by assumption
                   exact ⟨k + 1, by omega, by go_num, by rw [HT.out (goOn_yes h (by simpa using h2))]; exact hI.set hlt _, hT.setCell (Or.inr rfl) _, by simpa using hS⟩)
                | (have h2 : (X == -1) = false ∧ X ≤ A + L := by assumption
                   exact ⟨k + 1, by omega, by go_num, by rw [HK.out (goOn_no2 h2)]; exact hI, hT, hS⟩))
    · have e : k = n := by omega
      subst e
      have hI' : Ints wr f k (Pu.rel1 (len at') (far at') far) := ⟨hI.lt, fun j hj => by have := hI.cell j hj; simpa [Pu.relK, hj] using this, hI.free⟩
      clear hm hf hI
      go_wp2
      go_end0
      exact ⟨rfl, hI', hT, hS⟩
end Go.Proofs.YtdogncjcainhlaaGreatDoor
/- The walk of ways.FarFrom. -/
namespace Go.Proofs.YtdogncjcainhlaaGreatDoor
open Go.RowKit Go.Deep
open Mem

theorem info3 : (Tryz.prog.info? 3).map (fun i => (i.zero, i.size, i.bytes)) = some (some (.int .i64 0), 1, 8) := by kernel_rfl
theorem info4 : (Tryz.prog.info? 4).map (fun i => (i.zero, i.size, i.bytes)) = some (some (.bool false), 1, 1) := by kernel_rfl

def fillK (k : Nat) (j : Nat) : Int := if j < k then -1 else 0
theorem fillK_self (k : Nat) : fillK k k = 0 := by simp [fillK]
theorem fillK_step (k j : Nat) : upd (fillK k) k (-1) j = fillK (k + 1) j := by
  unfold upd fillK
  by_cases e : j = k
  · rw [if_pos e, if_pos (by omega)]
  · rw [if_neg e]
    show (if j < k then _ else _) = _
    by_cases g : j < k
    · rw [if_pos g, if_pos (by omega)]
    · rw [if_neg g, if_neg (by omega)]
theorem fillK_end (k s j : Nat) (hj : j < k) : upd (fillK k) s 0 j = upd (fun _ => -1) s 0 j := by
  unfold upd fillK
  by_cases e : j = s
  · rw [if_pos e, if_pos e]
  · rw [if_neg e, if_neg e]; show (if j < k then _ else _) = _; rw [if_pos hj]

/-- What holds ahead of each round of the second loop: the place a to go on from, or -1. -/
def FarInv (w : World) (n s : Nat) (len : Nat → Nat → Int) (gk : Nat) (v : Value) (wr : World) : Prop :=
  ∃ (far : Nat → Int) (done : Nat → Bool) (D : Nat) (a : Int), v = .int .i64 a ∧ Ints wr w.heap.size n far ∧ Bools wr (w.heap.size + 1) n done ∧ Turns (fun _ => False) w wr ∧ wr.heap.size = w.heap.size + 2 ∧
    Pu.Dij n len s far done D ∧ D = Pu.cnt done n ∧ n ≤ gk + D ∧ ((a = -1 ∧ Pu.near far done n = -1) ∨ ∃ a' : Nat, a = a' ∧ Pu.Next n far done a')

set_option maxHeartbeats 1000000 in
theorem farFrom_any (w : World) (b n s : Nat) (R : Int) (len : Nat → Nat → Int) (hn : n ≤ 40) (hs : s < n) (hm : MapAt w b n R len) (L : Pu.Lens len) :
    Calls Tryz.prog 80 #[.pointer (some ⟨b, 0, none⟩), .int .i64 s] w fun e w' => ∃ far, e = .returned (.slice (some ⟨w.heap.size, 0, none⟩) n n) ∧ Ints w' w.heap.size n far ∧ Pu.Dist n len s far ∧ Turns (fun _ => False) w w' := by
  have hmk1 := run_make_row' (P := Tryz.prog) 55 3 (.int .i64 0) 8 Tryz.underlying55 info3 rfl .i64 .i64 n (by omega) (by omega)
  have hmk2 := run_make_row' (P := Tryz.prog) 232 4 (.bool false) 1 Tryz.underlying232 info4 rfl .i64 .i64 n (by omega) (by omega)
  have hp := hm.places
  go_enter Tryz.func80, Tryz.ntmps80
  go_wp2
  go_loopw [16] (fun i wr => ∃ k : Nat, k ≤ n ∧ i = .int .i64 k ∧ Ints wr w.heap.size n (fillK k) ∧ Turns (fun _ => False) w wr ∧ wr.heap.size = w.heap.size + 1) (fun i _ => n - (intOf i).toNat)
  case atStart => exact ⟨0, Nat.zero_le _, rfl, (Ints.made w n 3 0).congr (fun j _ => by simp [fillK]), (Turns.refl _ _).alloc _, by simp⟩
  case round =>
    obtain ⟨k, hk, rfl, hI, hT, hS⟩ := hrel
    by_cases hlt : k < n
    · have hc := hI.cell k hlt
      have hf := hI.free k hlt
      rw [fillK_self] at hc
      go_wp2
      go_roundw
      case measure => simp [intOf]; omega
      case rel => exact ⟨k + 1, by omega, by go_num, (hI.set hlt (-1)).congr (fun j _ => fillK_step k j), hT.setCell (Or.inl (Nat.le_refl _)) _, by simpa using hS⟩
    · have ek : k = n := by omega
      subst ek
      have hI3 : Ints (wr.setCell ⟨w.heap.size, s, none⟩ (.int .i64 0)) w.heap.size k (upd (fun _ => -1) s 0) := (hI.set hs 0).congr (fun j hj => fillK_end k s j hj)
      have hT3 : Turns (fun _ => False) w (wr.setCell ⟨w.heap.size, s, none⟩ (.int .i64 0)) := hT.setCell (Or.inl (Nat.le_refl _)) _
      have hB4 := Bools.made (wr.setCell ⟨w.heap.size, s, none⟩ (.int .i64 0)) k 4 false
      have hI4 := hI3.turns ((Turns.refl (fun _ => False) _).alloc (.cells (madeCells #[.bool false] k) 4)) (fun x => x)
      have hT4 := hT3.alloc (.cells (madeCells #[.bool false] k) 4)
      have hS4 : (wr.setCell ⟨w.heap.size, s, none⟩ (.int .i64 0)).heap.size = w.heap.size + 1 := by simpa using hS
      rw [hS4] at hB4
      have hc := hI.cell s hs
      have hf := hI.free s hs
      have hp2 : wr.cell? ⟨b, 0, none⟩ = some (.int .i64 k) := (hT.cell (a := ⟨b, 0, none⟩) hm.lt (fun x => x)).trans hm.places
      have hbl := hm.lt
      have hbn : b ≠ w.heap.size := by omega
      clear hI3 hT3 hI hT
      go_wp2
      go_loopg [8] k (fun gk v wx => FarInv w k s len gk v wx)
      case atStart => exact ⟨_, _, 0, s, rfl, hI4, hB4, hT4, by simp [hS], Pu.Dij.start k len s, (Pu.cnt_none k).symm, by omega, Or.inr ⟨s, rfl, Pu.Next.start hs⟩⟩
      case round =>
        clear hI4 hB4 hT4 hS4 hc hf hp2 hS
        obtain ⟨far, done, D, a, rfl, hI, hB, hT, hS, hD, hDc, hgk, hcase⟩ := hrel
        have hle := Pu.cnt_le done k
        rcases hcase with ⟨rfl, hnear⟩ | ⟨a', rfl, hnext⟩
        · have hdist := hD.stop (by omega) hnear
          have HX : Hid (∃ far, Ints wr w.heap.size k far ∧ Pu.Dist k len s far ∧ Turns (fun _ => False) w wr) := ⟨far, hI, hdist, hT⟩
          clear hD hDc hgk hle hnear hdist hI hB hT
          go_wp2
          go_ret
          obtain ⟨far, h1, h2, h3⟩ := HX.out
          exact ⟨far, rfl, h1, h2, h3⟩
        · have hlt := hnext.lt
          have hdc := hB.cell a' hlt
          have hdf := hB.free a' hlt
          have hB1 := hB.set hlt true
          have hT1 : Turns (fun _ => False) w (wr.setCell ⟨w.heap.size + 1, a', none⟩ (.bool true)) := hT.setCell (Or.inl (by simp)) _
          have hI1 : Ints (wr.setCell ⟨w.heap.size + 1, a', none⟩ (.bool true)) w.heap.size k far := hI.turns ((Turns.refl (· = w.heap.size + 1) wr).setCell (Or.inr rfl) _) (by omega)
          have hM1 : MapAt (wr.setCell ⟨w.heap.size + 1, a', none⟩ (.bool true)) b k R len := hm.turns hT1 (fun x => x)
          have hrg := hD.rng a' hlt
          have hf0 := hnext.far0
          have hcl := Pu.cnt_lt hnext.open' k hlt
          have hcu := Pu.cnt_upd hnext.open' k hlt
          have hstep := hD.step L hnext
          have hS1 : (wr.setCell ⟨w.heap.size + 1, a', none⟩ (.bool true)).heap.size = w.heap.size + 2 := by simpa using hS
          go_wp2_with fail
          refine (goOn_any _ b w.heap.size k a' k R len far hn hlt hM1 hI1 hbn (L.rng a') (L.self a') hf0 (by omega)).mono ?_
          rintro e w1 ⟨rfl, hI2, hT2, hS2⟩
          have hB2 : Bools w1 (w.heap.size + 1) k (upd done a' true) := hB1.turns hT2 (by omega)
          have hT3 : Turns (fun _ => False) w w1 := ⟨hT2.os.trans hT1.os, hT2.tape.trans hT1.tape, hT2.output.trans hT1.output, by omega, fun i hi _ => (hT2.block i (by omega) (by omega)).trans (hT1.block i hi (fun x => x))⟩
          clear hB1 hT1 hI1 hM1 hT2 hI hB hT hdc hdf
          go_wp2_with fail
          refine (nearest_any _ w.heap.size (w.heap.size + 1) k _ _ hn hI2 hB2).mono ?_
          rintro e w2 ⟨rfl, hw2⟩
          subst hw2
          have HR : Hid (FarInv w k s len (gk - 1) (.int .i64 (Pu.near (Pu.rel1 (len a') (far a') far) (upd done a' true) k)) w2) := by
            refine ⟨_, _, D + 1, _, rfl, hI2, hB2, hT3, by omega, hstep, by rw [hcu, hDc], by omega, ?_⟩
            by_cases hz : Pu.near (Pu.rel1 (len a') (far a') far) (upd done a' true) k = -1
            · exact Or.inl ⟨hz, hz⟩
            · obtain ⟨x, ex, hx⟩ := hstep.next hz
              exact Or.inr ⟨x, ex, hx⟩
          have hgk' : gk - 1 < gk := by omega
          clear hstep hI2 hB2 hT3 hD hnext
          go_wp2
          go_roundg (gk - 1)
          case measure => exact hgk'
          case rel => exact HR.out
end Go.Proofs.YtdogncjcainhlaaGreatDoor
/- The walks of package hubs: liesBetween, isHub. -/
namespace Go.Proofs.YtdogncjcainhlaaGreatDoor
open Go.RowKit Go.Deep
open Mem

/-- The slice at block fb has n rows, which tell D. -/
def Tab (w : World) (fb n : Nat) (D : Nat → Nat → Int) : Prop := ∀ i, i < n → ∃ r, w.cell? ⟨fb, i, none⟩ = some (.slice (some ⟨r, 0, none⟩) n n) ∧ ∀ j, j < n → w.cell? ⟨r, j, none⟩ = some (.int .i64 (D i j))
theorem Tab.turns {w w' : World} {fb n : Nat} {D : Nat → Nat → Int} (h : Tab w fb n D) (t : Turns (fun _ => False) w w') : Tab w' fb n D := by
  intro i hi
  obtain ⟨r, h1, h2⟩ := h i hi
  exact ⟨r, (t.cell (World.block_lt_of_cell? _ _ h1) (fun x => x)).trans h1, fun j hj => (t.cell (World.block_lt_of_cell? _ _ (h2 j hj)) (fun x => x)).trans (h2 j hj)⟩
/-- The numbers of the table are no greater than they can be. -/
def Small (n : Nat) (D : Nat → Nat → Int) : Prop := ∀ i j, i < n → j < n → D i j = -1 ∨ (0 ≤ D i j ∧ D i j ≤ 40000)

set_option maxHeartbeats 1000000 in
theorem lies_any (w : World) (fb n cap a m b : Nat) (D : Nat → Nat → Int) (hT : Tab w fb n D) (hS : Small n D) (ha : a < n) (hm : m < n) (hb : b < n) :
    Calls Tryz.prog 144 #[.slice (some ⟨fb, 0, none⟩) n cap, .int .i64 a, .int .i64 m, .int .i64 b] w fun e w' => e = .returned (.bool (Pu.lies D a m b)) ∧ ∃ q, w' = w.drewN q := by
  obtain ⟨ra, h1, h2⟩ := hT a ha
  obtain ⟨rm, h3, h4⟩ := hT m hm
  have c1 := h2 m hm
  have c2 := h4 b hb
  have c3 := h2 b hb
  have s1 := hS a m ha hm
  have s2 := hS m b hm hb
  have s3 := hS a b ha hb
  have hai : (a : Int) < (n : Int) := by omega
  have hmi : (m : Int) < (n : Int) := by omega
  have hbi : (b : Int) < (n : Int) := by omega
  have HL : Hid (Pu.lies D a m b = decide (D a m ≠ -1 ∧ D m b ≠ -1 ∧ D a m + D m b = D a b)) := rfl
  generalize Pu.lies D a m b = res at *
  generalize D a m = x at *
  generalize D m b = y at *
  generalize D a b = z at *
  clear h2 h4 hT hS
  by_cases e1 : x = -1
  · have e1' : (x == -1) = true := by simp [e1]
    have HR : Hid (res = false) := by show res = false; rw [HL.out]; simp [e1]
    clear e1 HL
    go_enter Tryz.func144, Tryz.ntmps144
    go_wp2
    go_ret
    exact ⟨by rw [HR.out]; rfl, 0, rfl⟩
  · have e1' : (x == -1) = false := by simp [e1]
    by_cases e2 : y = -1
    · have e2' : (y == -1) = true := by simp [e2]
      have HR : Hid (res = false) := by show res = false; rw [HL.out]; simp [e2]
      clear e1 e2 HL
      go_enter Tryz.func144, Tryz.ntmps144
      go_wp2
      go_ret
      exact ⟨by rw [HR.out]; rfl, 0, rfl⟩
    · have e2' : (y == -1) = false := by simp [e2]
      have HR : Hid (res = (x + y == z)) := by show res = _; rw [HL.out]; by_cases g : x + y = z <;> simp [e1, e2, g]
      have hx0 : 0 ≤ x := by omega
      have hy0 : 0 ≤ y := by omega
      clear e1 e2 HL
      go_enter Tryz.func144, Tryz.ntmps144
      go_wp2
      go_quiet (fail)
      go_wp2
      go_ret
      exact ⟨by rw [HR.out]; rfl, _, rfl⟩

set_option maxHeartbeats 1000000 in
theorem isHub_any (w : World) (fb n cap v h ob k ocap : Nat) (D : Nat → Nat → Int) (pre : List Nat) (hT : Tab w fb n D) (hS : Small n D) (hv : v < n) (hh : h < n) (hk : pre.length = k) (hkn : k ≤ 40)
    (hp : ∀ (j m : Nat), pre[j]? = some m → m < n ∧ w.cell? ⟨ob, j, none⟩ = some (.int .i64 (m : Int))) :
    Calls Tryz.prog 91 #[.slice (some ⟨fb, 0, none⟩) n cap, .int .i64 v, .int .i64 h, .slice (some ⟨ob, 0, none⟩) k ocap] w fun e w' => e = .returned (.bool (Pu.isHub D v h pre)) ∧ ∃ q, w' = w.drewN q := by
  obtain ⟨rv, h1, h2⟩ := hT v hv
  have c1 := h2 h hh
  have s1 := hS v h hv hh
  have hvi : (v : Int) < (n : Int) := by omega
  have hhi : (h : Int) < (n : Int) := by omega
  by_cases e1 : D v h = -1
  · have HR : Hid (Pu.isHub D v h pre = false) := by show Pu.isHub D v h pre = false; unfold Pu.isHub; simp [e1]
    have e1' : (D v h == -1) = true := by simp [e1]
    generalize Pu.isHub D v h pre = res at *
    generalize D v h = x at *
    clear h2 hT hS hp e1
    go_enter Tryz.func91, Tryz.ntmps91
    go_wp2
    go_ret
    exact ⟨by rw [HR.out]; rfl, 0, rfl⟩
  · have e1' : (D v h == -1) = false := by simp [e1]
    have HI : Hid (∀ (j m : Nat), pre[j]? = some m → Pu.lies D v m h = true → Pu.isHub D v h pre = false) := by
      intro j m hj hl
      by_cases c : Pu.isHub D v h pre = true
      · have := (Pu.isHub_iff.1 c).2 m (List.mem_of_getElem? hj); rw [hl] at this; cases this
      · simpa using c
    have HE : Hid ((∀ (j m : Nat), pre[j]? = some m → Pu.lies D v m h = false) → Pu.isHub D v h pre = true) := by
      intro hall
      refine Pu.isHub_iff.2 ⟨e1, fun m hm => ?_⟩
      obtain ⟨j, hj⟩ := List.mem_iff_getElem?.1 hm
      exact hall j m hj
    have HL : Hid (∀ m, m < n → ∀ q, Calls Tryz.prog 144 #[.slice (some ⟨fb, 0, none⟩) n cap, .int .i64 v, .int .i64 m, .int .i64 h] (w.drewN q) fun e w' => e = .returned (.bool (Pu.lies D v m h)) ∧ ∃ q', w' = (w.drewN q).drewN q') :=
      fun m hm q => lies_any (w.drewN q) fb n cap v m h D (hT.turns ((Turns.refl _ w).drewN q)) hS hv hm hh
    generalize Pu.isHub D v h pre = res at *
    generalize D v h = x at *
    clear h2 hT hS e1
    go_enter Tryz.func91, Tryz.ntmps91
    go_wp2
    go_loopw [21] (fun jv wx => ∃ j q : Nat, jv = .int .i64 j ∧ j ≤ k ∧ (∀ (i m : Nat), i < j → pre[i]? = some m → Pu.lies D v m h = false) ∧ wx = w.drewN q) (fun jv _ => k - (intOf jv).toNat)
    case atStart => exact ⟨0, 0, rfl, Nat.zero_le _, fun i m hi => by omega, rfl⟩
    case round =>
      obtain ⟨j, q, rfl, hj, hno, hwr⟩ := hrel
      have HWR : Hid (wr = w.drewN q) := hwr
      by_cases hjk : j < k
      · obtain ⟨m, hm⟩ : ∃ m, pre[j]? = some m := ⟨_, List.getElem?_eq_getElem (by omega)⟩
        obtain ⟨hmn, hc⟩ := hp j m hm
        have hc' : wr.cell? ⟨ob, j, none⟩ = some (.int .i64 (m : Int)) := by rw [hwr]; exact hc
        have hji : (j : Int) < (k : Int) := by omega
        have c4 := HL.out m hmn q
        rw [← hwr] at c4
        have HM : Hid (pre[j]? = some m) := hm
        cases hl : Pu.lies D v m h with
        | true =>
          rw [hl] at c4
          have HR : Hid (res = false) := HI.out j m hm hl
          clear hm hno hp hc HI HE hl HL hwr
          go_wp2_with fail
          refine c4.mono ?_
          rintro e w2 ⟨rfl, q', hw2⟩
          clear c4
          go_wp2
          go_ret
          exact ⟨by rw [HR.out]; rfl, q + q', by rw [HWR.out, World.drewN_drewN]⟩
        | false =>
          rw [hl] at c4
          have HX : Hid (∀ q', ∃ j' q'' : Nat, (Value.int .i64 ((j : Int) + 1)) = .int .i64 j' ∧ j' ≤ k ∧ (∀ (i m : Nat), i < j' → pre[i]? = some m → Pu.lies D v m h = false) ∧ wr.drewN q' = w.drewN q'') := by
            intro q'
            refine ⟨j + 1, q + q', by go_num, by omega, fun i m' hi hm' => ?_, by rw [hwr, World.drewN_drewN]⟩
            by_cases c : i = j
            · subst c; rw [HM.out] at hm'; cases hm'; exact hl
            · exact hno i m' (by omega) hm'
          clear hm hno hp hc HI HE hl HL HM hwr
          go_wp2_with fail
          refine c4.mono ?_
          rintro e w2 ⟨rfl, q', hw2⟩
          subst hw2
          clear c4
          go_wp2
          go_roundw
          case measure => simp [intOf]; omega
          case rel => exact HX.out _
      · have hjk' : ¬ (j : Int) < (k : Int) := by omega
        have HR : Hid (res = true) := HE.out (fun i m hm => hno i m (by have := (List.getElem?_eq_some_iff.1 hm).1; omega) hm)
        clear hno hp HI HE HL hwr
        go_wp2
        go_ret
        exact ⟨by rw [HR.out]; rfl, q, HWR.out⟩
#print axioms isHub_any
end Go.Proofs.YtdogncjcainhlaaGreatDoor
