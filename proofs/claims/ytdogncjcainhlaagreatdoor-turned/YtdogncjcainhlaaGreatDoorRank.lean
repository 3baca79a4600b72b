/- The walk of ranks.Parse, where the order is not empty. -/
import Derived.Test.YtdogncjcainhlaaGreatDoorRoad
import Derived.Test.YtdogncjcainhlaaGreatDoorShelfC
import Derived.Test.YtdogncjcainhlaaGreatDoorPlain
import Derived.Test.YtdogncjcainhlaaGreatDoorHubL
import Derived.Test.YtdogncjcainhlaaGreatDoorWFirst
import Derived.Deep.OwnRows
namespace Go.Proofs.YtdogncjcainhlaaGreatDoor
open Go.RowKit Go.Deep
open Mem

theorem split_big (s : ByteArray) (c : UInt8) (w : World) (hs : s.size ≤ 2000000) (hm : Ml w) :
    Calls Tryz.prog 76 #[.string s, .string ⟨#[c]⟩] w fun e w' => e = .returned (.slice (some ⟨w.heap.size, 0, none⟩) (Pu.pieces c s).length (Pu.pieces c s).length) ∧ w' = w.alloc (.cells ((Pu.pieces c s).map Value.string).toArray 9) := by
  obtain ⟨m, hm⟩ := hm.2
  rw [Pu.pieces_length]
  exact strings_Split s ⟨#[c]⟩ m w (by omega) hm (Nat.le_refl 1)

/-- What ranks.Parse hands back. -/
def RankPost (w : World) (n : Nat) (o : Option (List Nat)) (e : Ending) (w' : World) : Prop := Turns (fun _ => False) w w' ∧ match o with
  | none => e = .returned (.tuple #[.slice none 0 0, .bool false])
  | some O => ∃ ob ocap, e = .returned (.tuple #[.slice (some ⟨ob, 0, none⟩) n ocap, .bool true]) ∧ Ord w' ob n O ∧ n ≤ ocap

set_option maxRecDepth 100000 in
set_option maxHeartbeats 1000000 in
theorem rank_count (s : ByteArray) (w : World) (b n : Nat) (R : Int) (len : Nat → Nat → Int) (hs0 : 0 < s.size) (hn1 : 1 ≤ n) (hn : n ≤ 40) (hM : MapAt w b n R len) (hc : (Pu.cuts 32 s.data.toList).length ≠ n) :
    Calls Tryz.prog 54 #[.pointer (some ⟨b, 0, none⟩), .string s] w (RankPost w n none) := by
  have he := nonempty_of hs0
  have hp := hM.places
  have hcl := Pu.cuts_length 32 s.data.toList
  have hcount := fun w' => strings_Count_one s 32 w'
  unfold Lib.countByte at hcount
  generalize List.count 32 s.data.toList = c at *
  have hne : ((c : Int) != (n : Int) - 1) = true := by simp; omega
  clear hM hcl hc
  go_enter Tryz.func54, Tryz.ntmps54
  go_wp2
  go_quiet ((go_at_call 75; exact Calls.quiet_of_same (hcount _)))
  go_wp2
  exact bodyPost_ret (v := .tuple #[.slice none 0 0, .bool false]) (by simp [results, Tryz.results54, go_sem]) rfl ⟨(Turns.refl _ w).drewN _, rfl⟩

/-- What holds ahead of each round: the places acc were read. -/
def RankInv (w1 : World) (n pb : Nat) (ps : List ByteArray) (res : Option (List Nat)) (v iv : Value) (wr : World) : Prop :=
  ∃ (k g cap : Nat) (acc : List Nat), iv = .int .i64 k ∧ k ≤ ps.length ∧ acc.length = k ∧ v = .slice (some ⟨g, 0, none⟩) k cap ∧ wr.ownsRow w1.heap.size 3 1 (.slice (some ⟨g, 0, none⟩) k cap) k (vals acc) ∧
    (∀ m ∈ acc, m < n) ∧ Pu.ordGo n ((ps.map (·.data.toList)).drop k) acc = res ∧ Turns (fun _ => False) w1 wr ∧ g ≠ pb ∧ pb < wr.heap.size ∧ k ≤ cap ∧
    ∀ (j : Nat) q, ps[j]? = some q → wr.cell? ⟨pb, j, none⟩ = some (.string q)

set_option maxRecDepth 100000 in
set_option maxHeartbeats 1000000 in
theorem rank_main (s : ByteArray) (w : World) (b n : Nat) (R : Int) (len : Nat → Nat → Int) (hs0 : 0 < s.size) (hs : s.size ≤ 2000000) (hn1 : 1 ≤ n) (hn : n ≤ 40) (hM : MapAt w b n R len) (hm : Ml w) (hc : (Pu.cuts 32 s.data.toList).length = n) :
    Calls Tryz.prog 54 #[.pointer (some ⟨b, 0, none⟩), .string s] w (RankPost w n (Pu.ordGo n (Pu.cuts 32 s.data.toList) [])) := by
  have he := nonempty_of hs0
  have hp := hM.places
  have hcl := Pu.cuts_length 32 s.data.toList
  have hcount := fun w' => strings_Count_one s 32 w'
  unfold Lib.countByte at hcount
  have hpd := Pu.pieces_data 32 s
  have hsp := fun w' hm' => split_big s 32 w' hs hm'
  have hpz : ∀ x ∈ Pu.pieces 32 s, x.size ≤ s.size := fun x hx => Pu.pieces_size hx
  rw [← hpd] at hc ⊢
  rw [← hpd] at hcl
  generalize List.count 32 s.data.toList = c at *
  generalize Pu.pieces 32 s = ps at *
  simp only [List.length_map] at hc hcl
  have hne : ((c : Int) != (n : Int) - 1) = false := by simp; omega
  obtain ⟨i0, hi, hz0, hz1, hz2⟩ := info_parts info3
  have hbl := hM.lt
  obtain ⟨res, hres⟩ : ∃ res, Pu.ordGo n (ps.map (·.data.toList)) [] = res := ⟨_, rfl⟩
  rw [hres]
  have HRES : Hid (Pu.ordGo n (ps.map (·.data.toList)) [] = res) := hres
  have HM : Hid (MapAt w b n R len) := hM
  have HN : Hid (ps.length = n) := hc
  clear hM hcl hres hpd
  go_enter Tryz.func54, Tryz.ntmps54
  go_wp2
  go_quiet ((go_at_call 75; exact Calls.quiet_of_same (hcount _)))
  rename_i nq
  obtain ⟨w0, hw0⟩ : ∃ w0, w.drewN nq = w0 := ⟨_, rfl⟩
  rw [hw0]
  have hT0 : Turns (fun _ => False) w w0 := by rw [← hw0]; exact (Turns.refl _ _).drewN _
  have hp0 : w0.cell? ⟨b, 0, none⟩ = some (.int .i64 n) := by rw [← hw0]; exact hp
  have hm0 : Ml w0 := hm.turns hT0 (fun x => x)
  clear hw0 hcount
  have hb2 : 8 * n ≤ 281474976710656 := by omega
  go_wp2_with (at_make; refine wpList_make_own _ rfl _ _ 55 rfl w0.heap.size 3 i0 _ 1 Tryz.underlying55 hi hz0 hz1 .i64 .i64 (n : Int) n rfl rfl rfl (by rw [hz2]; exact hb2) (by unfold maxLen; omega) (Nat.le_refl _) ?_)
  intro w1 hown hgrow
  have hT1 : Turns (fun _ => False) w0 w1 := (Turns.refl _ _).grown hgrow (fun k hk => by cases hk)
  have hm1 := hm0.turns hT1 (fun x => x)
  have c1 := hsp w1 hm1
  have hg1 : w0.heap.size < w1.heap.size := (hown.lt _ rfl).2
  clear hgrow hm0
  go_wp2_with fail
  refine c1.mono ?_
  rintro e w2 ⟨rfl, hw2⟩
  have hT2 : Turns (fun _ => False) w1 w2 := by rw [hw2]; exact (Turns.refl _ _).alloc _
  have hcell : ∀ (k : Nat) q, ps[k]? = some q → w2.cell? ⟨w1.heap.size, k, none⟩ = some (.string q) := by
    intro k q hk; rw [hw2, World.cell?_alloc_new]; simp [hk]
  have hsz2 : w1.heap.size < w2.heap.size := by rw [hw2]; simp
  have hstart : Hid (RankInv w0 n w1.heap.size ps res (.slice (some ⟨w0.heap.size, 0, none⟩) 0 n) (.int .i64 0) w2) :=
    ⟨0, w0.heap.size, n, [], rfl, Nat.zero_le _, rfl, rfl, owns_turns hown hT2, fun m hm => by (cases hm), HRES.out, hT1.trans hT2, by omega, hsz2, Nat.zero_le _, hcell⟩
  have HPZ : Hid (∀ x ∈ ps, x.size ≤ s.size) := hpz
  have HTW : Hid (Turns (fun _ => False) w w0) := hT0
  clear c1 hsp hw2 hown hcell hpz hT1 hT2 hm1 hT0
  have hpl : ps.length = n := HN.out
  obtain ⟨pb, hpb⟩ : ∃ pb, w1.heap.size = pb := ⟨_, rfl⟩
  go_wp2
  rw [hpb] at hstart
  clear hpb
  go_loopw [6, 31] (fun v iv wr => RankInv w0 n pb ps res v iv wr) (fun _ iv _ => n - (intOf iv).toNat)
  case atStart => exact hstart.out
  case round =>
    clear hstart
    obtain ⟨k, g, cap, acc, rfl, hk, hacc, rfl, hown, hlt, hgo, hTr, hgp, hpbl, hkc, hcell⟩ := hrel
    have hb0 : wr.cell? ⟨b, 0, none⟩ = some (.int .i64 n) := by
      have hbw : b < w0.heap.size := by have := HTW.out.size; omega
      exact (hTr.cell (a := ⟨b, 0, none⟩) hbw (fun x => x)).trans hp0
    have HTT : Hid (Turns (fun _ => False) w wr) := HTW.out.trans hTr
    by_cases hkn : k < n
    · obtain ⟨q, hq⟩ : ∃ q, ps[k]? = some q := ⟨_, List.getElem?_eq_getElem (by omega)⟩
      have hcq := hcell k q hq
      have hqs : q.size ≤ maxLen := by have := HPZ.out q (List.mem_of_getElem? hq); unfold maxLen; omega
      have hki : (k : Int) < (n : Int) := by omega
      have hdrop : (ps.map (·.data.toList)).drop k = q.data.toList :: (ps.map (·.data.toList)).drop (k + 1) := by
        rw [List.drop_eq_getElem_cons (by simp; omega)]
        congr 1
        rw [List.getElem_map]
        rw [(List.getElem?_eq_some_iff.1 hq).2]
      rw [hdrop] at hgo
      clear hdrop
      cases hwi : Pu.within q.data.toList 0 ((n : Int) - 1) with
      | none =>
        have HR : Hid (res = none) := by show res = none; rw [← hgo, Pu.ordGo_none hwi]
        have c3 := within_none q 0 ((n : Int) - 1) wr hqs hwi
        clear hwi hgo hown hcell hq hlt hTr
        go_wp2_with fail
        refine c3.mono ?_
        rintro e w3 ⟨rfl, hw3⟩
        subst w3
        clear c3
        go_wp2
        exact bodyPost_ret (v := .tuple #[.slice none 0 0, .bool false]) (by simp [results, Tryz.results54, go_sem]) rfl (by rw [HR.out]; exact ⟨HTT.out, rfl⟩)
      | some y =>
        have hyb := (Pu.within_some hwi).2
        obtain ⟨x, rfl⟩ := Int.eq_ofNat_of_zero_le (show 0 ≤ y by omega)
        have c3 := within_some q 0 ((n : Int) - 1) (x : Int) wr hqs hwi
        have hzs : ∀ j, j < (acc.map fun (m : Nat) => (m : Int)).length → wr.cell? ⟨g, 0 + j, none⟩ = some (.int .i64 ((acc.map fun (m : Nat) => (m : Int)).getD j 0)) := by
          intro j hj
          simp only [List.length_map] at hj
          rw [Nat.zero_add, hown.cellAt j (by omega)]
          simp [vals, List.getD, hj]
        have c4 := slices_Contains_int g 0 k cap (acc.map fun (m : Nat) => (m : Int)) (x : Int) wr (by simp; omega) (by omega) hzs
        have hct : ((acc.map fun (m : Nat) => (m : Int)).take k).contains (x : Int) = decide (x ∈ acc) := by
          rw [List.take_of_length_le (by simp; omega)]
          by_cases hx : x ∈ acc
          · rw [decide_eq_true hx]; simp; exact ⟨x, hx, rfl⟩
          · rw [decide_eq_false hx]
            simp
            intro m hm' c
            have e : m = x := by omega
            rw [e] at hm'
            exact hx hm'
        rw [hct] at c4
        clear hct hzs
        by_cases hx : x ∈ acc
        · have HR : Hid (res = none) := by show res = none; rw [← hgo, Pu.ordGo_twice hwi hx]
          rw [decide_eq_true hx] at c4
          clear hwi hgo hown hcell hq hlt hTr hx
          go_wp2_with fail
          refine c3.mono ?_
          rintro e w3 ⟨rfl, hw3⟩
          subst w3
          clear c3
          go_wp2_with (go_at_call 90; refine c4.mono ?_; rintro e w3 ⟨rfl, hw3⟩; subst w3)
          exact bodyPost_ret (v := .tuple #[.slice none 0 0, .bool false]) (by simp [results, Tryz.results54, go_sem]) rfl (by rw [HR.out]; exact ⟨HTT.out, rfl⟩)
        · rw [decide_eq_false hx] at c4
          have HG : Hid (Pu.ordGo n ((ps.map (·.data.toList)).drop (k + 1)) (acc ++ [x]) = res) := by show _ = _; rw [← hgo, Pu.ordGo_next hwi hx]
          have HC : Hid (∀ (j : Nat) q, ps[j]? = some q → wr.cell? ⟨pb, j, none⟩ = some (.string q)) := hcell
          have HL : Hid (∀ m ∈ acc, m < n) := hlt
          have hxn : x < n := by omega
          have hsz0 := hTr.size
          have hglt := (hown.lt g rfl)
          clear hwi hgo hcell hq hlt hx
          go_wp2_with fail
          refine c3.mono ?_
          rintro e w3 ⟨rfl, hw3⟩
          subst w3
          clear c3
          go_wp2_with (first
            | (go_at_call 90; refine c4.mono ?_; rintro e w3 ⟨rfl, hw3⟩; subst w3)
            | (at_builtin; refine wpList_append_own_at _ rfl _ _ 55 rfl w0.heap.size 3 i0 (.int .i64 0) 1 8 Tryz.underlying55 hi hz0 hz1 hz2 rfl (by decide) _ _ _ rfl (hown.alloc _) ⟨wr.heap.size, 0, none⟩ 1 1 [.int .i64 (x : Int)] rfl rfl ?c1 ?c2 ?c3 ?c4 ?c5 ?_))
          case c1 => exact cell_one_new _ _ _
          case c2 => intro u hu; simp at hu; subst hu; rfl
          case c3 => unfold maxLen; omega
          case c4 => omega
          case c5 => simp; omega
          intro v' w4 hown4 hgrow _ hat
          obtain ⟨g', cap', hv'⟩ := owns_form hown4
          subst hv'
          rw [vals_snoc] at hown4
          have hcap' : k + 1 ≤ cap' := by
            rcases hown4.2 with ⟨h', _⟩ | ⟨_, _, _, h', _, _, h'', _⟩
            · cases h'
            · injection h' with _ _ h3; omega
          have hT4 : Turns (fun q => some q = some g) wr w4 := ((Turns.refl _ wr).alloc _).grown hgrow (fun q hq => Or.inr hq.symm)
          have hTw4 : Turns (fun _ => False) w0 w4 := (hTr.alloc _).grown hgrow (fun q hq => Or.inl (by cases hq; exact hglt.1))
          have hgp' : g' ≠ pb := by
            rcases hat with h' | h'
            · simp only [Value.ownBlock, Option.some.injEq] at h'; omega
            · simp [Value.ownBlock] at h'; omega
          have HX : Hid (RankInv w0 n pb ps res (.slice (some ⟨g', 0, none⟩) (k + 1) cap') (.int .i64 ((k : Int) + 1)) w4) := by
            refine ⟨k + 1, g', cap', acc ++ [x], by go_num, by omega, by simp; omega, rfl, hown4, fun m hm => ?_, HG.out, hTw4, hgp', Nat.lt_of_lt_of_le hpbl hT4.size, hcap', fun j q hq => ?_⟩
            · rcases List.mem_append.1 hm with h' | h'
              · exact HL.out m h'
              · rw [List.mem_singleton] at h'; omega
            · exact (hT4.cell (a := ⟨pb, j, none⟩) hpbl (fun c => by cases c; exact hgp rfl)).trans (HC.out j q hq)
          clear hown4 hgrow hat hT4 hTw4 HG HC HL hown c4
          go_wp2
          go_roundw
          case measure => simp [intOf]; omega
          case rel => exact HX.out
    · have hke : k = n := by omega
      have hres : res = some acc := by rw [← hgo, List.drop_of_length_le (by simp; omega), Pu.ordGo]
      have HX : Hid (RankPost w n res (.returned (.tuple #[.slice (some ⟨g, 0, none⟩) n cap, .bool true])) wr) := by
        rw [hres]
        refine ⟨HTT.out, g, cap, rfl, ⟨by omega, fun j m hm => ⟨hlt m (List.mem_of_getElem? hm), ?_⟩⟩, by omega⟩
        have hjl := (List.getElem?_eq_some_iff.1 hm).1
        rw [hown.cellAt j (by omega)]
        simp [vals, hm]
      clear hres hgo hown hcell hlt hTr
      have hkn' : ¬ (k : Int) < (n : Int) := by omega
      go_wp2
      exact bodyPost_ret (v := .tuple #[.slice (some ⟨g, 0, none⟩) n cap, .bool true]) (by simp [results, Tryz.results54, go_sem]) rfl HX.out
/-- ranks.Parse reads an order that is not empty as the document has it. -/
theorem rank_any (s : ByteArray) (w : World) (b n : Nat) (R : Int) (len : Nat → Nat → Int) (hs0 : 0 < s.size) (hs : s.size ≤ 2000000) (hn1 : 1 ≤ n) (hn : n ≤ 40) (hM : MapAt w b n R len) (hm : Ml w) :
    Calls Tryz.prog 54 #[.pointer (some ⟨b, 0, none⟩), .string s] w (RankPost w n (Pu.order n s.data.toList)) := by
  unfold Pu.order
  by_cases hc : (Pu.cuts 32 s.data.toList).length = n
  · rw [if_pos hc]; exact rank_main s w b n R len hs0 hs hn1 hn hM hm hc
  · rw [if_neg hc]; exact rank_count s w b n R len hs0 hn1 hn hM hc
#print axioms rank_any
end Go.Proofs.YtdogncjcainhlaaGreatDoor
