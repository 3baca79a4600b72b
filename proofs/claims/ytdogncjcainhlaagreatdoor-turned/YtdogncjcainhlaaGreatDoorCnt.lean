/- The walk of counts.Append. -/
import Derived.Test.YtdogncjcainhlaaGreatDoorPlain
import Derived.Test.YtdogncjcainhlaaGreatDoorRPage
namespace Go.Proofs.YtdogncjcainhlaaGreatDoor
open Go.RowKit Go.Deep
open Mem

/-- The cells of bytes. -/
def bv (l : List UInt8) : List Value := l.map fun b => Value.int .u8 (b.toNat : Int)
theorem bv_append (a b : List UInt8) : bv (a ++ b) = bv a ++ bv b := List.map_append
theorem bv_len (l : List UInt8) : (bv l).length = l.length := List.length_map _
theorem bv_one (l : List UInt8) : ∀ u ∈ bv l, u.oneCell' = true := by
  intro u hu
  obtain ⟨b, _, rfl⟩ := List.mem_map.1 hu
  rfl
theorem info5 : (Tryz.prog.info? 5).map (fun i => (i.zero, i.size, i.bytes)) = some (some (.int .u8 0), 1, 1) := by kernel_rfl
/-- A row of bytes of one's own, that came out of another by putting bytes behind it: of what was there only that one's block may have turned. -/
structure OwnB (w0 : World) (v0 : Value) (base : Nat) (v : Value) (l : List UInt8) (w : World) : Prop where
  own : w.ownsRow base 5 1 v l.length (bv l)
  turns : Turns (fun b => v0.ownBlock = some b) w0 w
  block : ∀ b, v.ownBlock = some b → v0.ownBlock = some b ∨ w0.heap.size ≤ b
theorem OwnB.refl {w : World} {base : Nat} {v : Value} {l : List UInt8} (h : w.ownsRow base 5 1 v l.length (bv l)) : OwnB w v base v l w := ⟨h, Turns.refl _ _, fun _ h => Or.inl h⟩
theorem OwnB.step {w0 w w3 : World} {v0 v v' : Value} {base : Nat} {l r : List UInt8} {o : Obj} (h : OwnB w0 v0 base v l w) (hown : w3.ownsRow base 5 1 v' (l.length + r.length) (bv l ++ bv r)) (hg : (w.alloc o).grownBy w3 v.ownBlock) (hat : v'.ownBlock = v.ownBlock ∨ v'.ownBlock = some (w.heap.size + 1)) : OwnB w0 v0 base v' (l ++ r) w3 := by
  refine ⟨by rw [List.length_append, bv_append]; exact hown, (h.turns.alloc o).grown hg ?_, ?_⟩
  · intro q hq
    rcases h.block q hq with h | h
    · exact Or.inr h
    · exact Or.inl h
  · intro b hb
    rcases hat with e | e
    · exact h.block b (by rw [← e]; exact hb)
    · rw [e] at hb
      injection hb with hb
      have := h.turns.size
      exact Or.inr (by omega)
theorem OwnB.more {w0 w w1 : World} {v0 v v' : Value} {base : Nat} {l r : List UInt8} (h : OwnB w0 v0 base v l w) (k : OwnB w v base v' r w1) : OwnB w0 v0 base v' r w1 := by
  refine ⟨k.own, ?_, ?_⟩
  · refine ⟨k.turns.os.trans h.turns.os, k.turns.tape.trans h.turns.tape, k.turns.output.trans h.turns.output, Nat.le_trans h.turns.size k.turns.size, fun b hb hp => ?_⟩
    refine (k.turns.block b (Nat.lt_of_lt_of_le hb h.turns.size) ?_).trans (h.turns.block b hb hp)
    intro hv
    rcases h.block b hv with h' | h'
    · exact hp h'
    · omega
  · intro b hb
    rcases k.block b hb with h' | h'
    · exact h.block b h'
    · have := h.turns.size
      exact Or.inr (by omega)
theorem OwnB.then {w0 w w' : World} {v0 v : Value} {base : Nat} {l : List UInt8} (h : OwnB w0 v0 base v l w) (t : Turns (fun _ => False) w w') : OwnB w0 v0 base v l w' :=
  ⟨owns_turns h.own t, h.turns.trans (t.mono (fun _ _ x => x.elim)), h.block⟩
theorem OwnB.nil (w : World) (base : Nat) : OwnB w (.slice none 0 0) base (.slice none 0 0) [] w := OwnB.refl (World.ownsRow_nil _ _ _ _)
theorem OwnB.turns0 {w0 w : World} {v : Value} {base : Nat} {l : List UInt8} (h : OwnB w0 (.slice none 0 0) base v l w) : Turns (fun _ => False) w0 w := h.turns.mono (fun _ _ c => by cases c)
namespace Pu
theorem countB_more {n : Nat} (h : ¬ n < 128) (hn : n < 2097152) : countB n = UInt8.ofNat (128 + n % 128) :: countB (n / 128) := by
  unfold countB
  rw [if_neg h]
  by_cases h2 : n < 16384
  · rw [if_pos h2, if_pos (by omega)]
  · rw [if_neg h2, if_neg (by omega), if_pos (by omega), Nat.div_div_eq_div_mul]
theorem countB_lo {n : Nat} (h : n < 128) : countB n = [UInt8.ofNat n] := by unfold countB; rw [if_pos h]
end Pu
theorem bv_one_ofNat {x : Nat} (h : x < 256) : bv [UInt8.ofNat x] = [Value.int .u8 (x : Int)] := by
  show [Value.int .u8 ((UInt8.ofNat x).toNat : Int)] = _
  rw [← ofNat_int h]

/-- append of one byte, at the operation. -/
theorem wpList_append_byte {ops : Array Oper} {rest : List Oper} {o : Oper} {a : Act} {Q : Exit → Act → World → Prop} (hgd : o.guard = none) (s x : Operand) (ho : o.op = .call { callee := .builtin .append, args := #[s, x], argTypes := #[31, 31] })
    (w0 w : World) (v0 v : Value) (base : Nat) (l l2 : List UInt8) (b : Int) (c : Nat) (hl2 : l2 = l ++ [UInt8.ofNat c]) (hbc : b = (c : Int)) (hc : c < 256) (h : OwnB w0 v0 base v l w) (hb : base ≤ w.heap.size) (hl : l.length ≤ 200000)
    (hs : a.eval s = v) (hx : a.eval x = .slice (some ⟨w.heap.size, 0, none⟩) 1 1)
    (hk : ∀ v' w3, OwnB w0 v0 base v' l2 w3 → wpList Tryz.prog ops Q rest (a.put o.dst v') w3) : wpList Tryz.prog ops Q (o :: rest) a (w.alloc (.cells #[.int .u8 b] 5)) := by
  subst hbc hl2
  obtain ⟨i0, hi, hz0, hz1, hz2⟩ := info_parts info5
  refine wpList_append_own_at (w := w.alloc (.cells #[.int .u8 (c : Int)] 5)) hgd s x 31 ho base 5 i0 (.int .u8 0) 1 1 Tryz.underlying31 hi hz0 hz1 hz2 rfl (by decide) v l.length (bv l) hs (h.own.alloc _) ⟨w.heap.size, 0, none⟩ 1 1 [.int .u8 (c : Int)] hx rfl (cell_one_new _ _ _) ?_ ?_ ?_ ?_ ?_
  · intro u hu; simp at hu; subst hu; rfl
  · unfold maxLen; omega
  · omega
  · simp; omega
  · intro v' w3 hown3 hgrow _ hat
    refine hk v' w3 (h.step (r := [UInt8.ofNat c]) ?_ hgrow ?_)
    · rw [bv_one_ofNat hc]; exact hown3
    · simpa using hat

/-- append of bytes that lie somewhere, at the operation. -/
theorem wpList_append_bytes {ops : Array Oper} {rest : List Oper} {o : Oper} {a : Act} {Q : Exit → Act → World → Prop} (hgd : o.guard = none) (s x : Operand) (ho : o.op = .call { callee := .builtin .append, args := #[s, x], argTypes := #[31, 31] })
    (w0 w : World) (v0 v : Value) (base : Nat) (l r l2 : List UInt8) (ad : Addr) (m c : Nat) (hl2 : l2 = l ++ r) (hr : r.length = m) (hnews : ∀ (j : Nat) (b : UInt8), r[j]? = some b → w.cell? (ad.add j) = some (.int .u8 (b.toNat : Int))) (h : OwnB w0 v0 base v l w) (hb : base ≤ w.heap.size) (hl : l.length + m ≤ 200000)
    (hs : a.eval s = v) (hx : a.eval x = .slice (some ad) m c)
    (hk : ∀ v' w3, OwnB w0 v0 base v' l2 w3 → wpList Tryz.prog ops Q rest (a.put o.dst v') w3) : wpList Tryz.prog ops Q (o :: rest) a w := by
  subst hl2 hr
  obtain ⟨i0, hi, hz0, hz1, hz2⟩ := info_parts info5
  refine wpList_append_own_at (w := w) hgd s x 31 ho base 5 i0 (.int .u8 0) 1 1 Tryz.underlying31 hi hz0 hz1 hz2 rfl (by decide) v l.length (bv l) hs h.own ad r.length c (bv r) hx (by rw [bv_len, Nat.mul_one]) ?_ (bv_one r) ?_ ?_ hb ?_
  · intro j u hj
    rw [bv, List.getElem?_map] at hj
    obtain ⟨b, hb', rfl⟩ := Option.map_eq_some_iff.1 hj
    exact hnews j b hb'
  · unfold maxLen; omega
  · omega
  · intro v' w3 hown3 hgrow _ hat
    refine hk v' w3 ⟨by rw [List.length_append, bv_append]; exact hown3, h.turns.grown hgrow ?_, ?_⟩
    · intro q hq
      rcases h.block q hq with h | h
      · exact Or.inr h
      · exact Or.inl h
    · intro b hb
      rcases hat with e | e
      · exact h.block b (by rw [← e]; exact hb)
      · rw [e] at hb
        injection hb with hb
        have := h.turns.size
        exact Or.inr (by omega)

set_option maxRecDepth 100000 in
set_option maxHeartbeats 1000000 in
/-- counts.Append, onto a row of one's own. -/
theorem cappend_any (v : Value) (n base : Nat) (bs : List UInt8) (w : World) (hown : w.ownsRow base 5 1 v bs.length (bv bs)) (hb : base ≤ w.heap.size) (hk : bs.length ≤ 100000) (hn : n < 2097152) :
    Calls Tryz.prog 63 #[v, .int .i64 n] w fun e w' => ∃ v', e = .returned v' ∧ OwnB w v base v' (bs ++ Pu.countB n) w' := by
  have H0 : Hid (OwnB w v base v (bs ++ []) w) := by rw [List.append_nil]; exact OwnB.refl hown
  have hnl := (Pu.countB_len n).2
  clear hown
  go_enter Tryz.func63, Tryz.ntmps63
  go_wp2
  go_loopw [0, 1] (fun tv nv wr => ∃ (m : Nat) (x : Value) (d : List UInt8) (wy : World), tv = x ∧ nv = .int .i64 m ∧ m < 2097152 ∧ wy = wr ∧ Hid (OwnB w v base x (bs ++ d) wy ∧ d ++ Pu.countB m = Pu.countB n)) (fun _ nv _ => (intOf nv).toNat)
  case atStart => exact ⟨n, v, [], w, rfl, rfl, hn, rfl, H0.out, rfl⟩
  case round =>
    clear H0
    obtain ⟨m, x, d, wr, hx, rfl, hm, hwy, HD⟩ := hrel
    subst hwy hx
    have hsz : Hid (base ≤ wr.heap.size) := Nat.le_trans hb HD.out.1.turns.size
    have hdl : Hid ((bs ++ d).length ≤ 200000) := by
      have := congrArg List.length HD.out.2
      rw [List.length_append] at this
      show _ ≤ _
      rw [List.length_append]
      omega
    by_cases h128 : m < 128
    · have hmi : ¬ (m : Int) ≥ 128 := by omega
      have hmu : ¬ (128 : Int) ≤ (m : Int) := by omega
      obtain ⟨l2, hl2⟩ : ∃ l2, l2 = bs ++ d ++ [UInt8.ofNat m] := ⟨_, rfl⟩
      have HL2 : Hid (l2 = bs ++ d ++ [UInt8.ofNat m]) := hl2
      clear hl2
      go_wp2_with (at_builtin; refine wpList_append_byte rfl _ _ rfl w wr v _ base (bs ++ d) l2 _ m HL2.out rfl (by omega) HD.out.1 hsz.out hdl.out rfl rfl ?_)
      intro v' w3 hB
      have HX : Hid (OwnB w v base v' (bs ++ Pu.countB n) w3) := by
        have e := HD.out.2
        rw [Pu.countB_lo h128] at e
        rwa [HL2.out, List.append_assoc, e] at hB
      clear HD hB
      go_wp2
      exact bodyPost_ret (v := v') (by simp [results, Tryz.results63, go_sem]) rfl ⟨v', rfl, HX.out⟩
    · have hmi : (m : Int) ≥ 128 := by omega
      have hmu : (128 : Int) ≤ (m : Int) := by omega
      obtain ⟨l2, hl2⟩ : ∃ l2, l2 = bs ++ d ++ [UInt8.ofNat (128 + m % 128)] := ⟨_, rfl⟩
      have HL2 : Hid (l2 = bs ++ d ++ [UInt8.ofNat (128 + m % 128)]) := hl2
      clear hl2
      go_wp2_with (at_builtin; refine wpList_append_byte rfl _ _ rfl w wr v _ base (bs ++ d) l2 _ (128 + m % 128) HL2.out (by omega) (by omega) HD.out.1 hsz.out hdl.out rfl rfl ?_)
      intro v' w3 hB
      have HX : Hid (OwnB w v base v' (bs ++ (d ++ [UInt8.ofNat (128 + m % 128)])) w3 ∧ (d ++ [UInt8.ofNat (128 + m % 128)]) ++ Pu.countB (m / 128) = Pu.countB n) := by
        have e := HD.out.2
        rw [Pu.countB_more h128 hm] at e
        rw [HL2.out, List.append_assoc] at hB
        exact ⟨hB, by rw [List.append_assoc]; exact e⟩
      clear HD hB
      go_wp2
      go_roundw
      case rel => exact ⟨m / 128, v', _, w3, rfl, by go_num, by omega, rfl, HX.out⟩
      case measure => simp [intOf]; omega
#print axioms cappend_any
end Go.Proofs.YtdogncjcainhlaaGreatDoor
