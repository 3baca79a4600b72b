/- Pack10: texts of one proof, one behind the other. -/
import Derived.Test.YtdogncjcainhlaaGreatDoorPack2
import Derived.Test.YtdogncjcainhlaaGreatDoorPack9
import Derived.Test.YtdogncjcainhlaaGreatDoorPlain
import Derived.Test.YtdogncjcainhlaaGreatDoorPack7
import Derived.Test.YtdogncjcainhlaaGreatDoorPack3
import Derived.Lib.SlBytesConst
import Derived.ArgAppend
import Derived.Shelf.SlSortCmp.Whole1
import Derived.Test.YtdogncjcainhlaaGreatDoorProg
import Derived.Deep.MidRow
import Derived.Test.YtdogncjcainhlaaGreatDoorPack8
import Derived.Deep.RegionHeld3
/- The walk of atlas.Parse. -/
namespace Go.Proofs.YtdogncjcainhlaaGreatDoor
open Go.RowKit
open Mem

/-- What Parse hands back. -/
def ParsePost (w : World) (r : Pu.Res) (e : Ending) (w' : World) : Prop :=
  Turns (fun _ => False) w w' ∧ match r with
    | .err c p => e = .returned (.tuple #[.pointer none, .int .i64 c, .int .i64 p])
    | .ok n k len => ∃ b, e = .returned (.tuple #[.pointer (some ⟨b, 0, none⟩), .int .i64 0, .int .i64 0]) ∧ w.heap.size ≤ b ∧ MapAt w' b n k len

set_option maxHeartbeats 400000 in
theorem parse_long (s : ByteArray) (w : World) (hs : s.size ≤ maxLen) (h : 4000 < s.size) : Calls Tryz.prog 41 #[.string s] w (ParsePost w (.err 1 0)) := by
  unfold maxLen at hs
  go_enter Tryz.func41, Tryz.ntmps41
  go_wp2
  go_ret3
  exact ⟨Turns.refl _ _, rfl⟩
set_option maxHeartbeats 400000 in
theorem parse_many (s : ByteArray) (w : World) (h : s.size ≤ 4000) (h2 : 200 < s.data.toList.count 10) : Calls Tryz.prog 41 #[.string s] w (ParsePost w (.err 1 0)) := by
  have hc := strings_Count_one s 10 w
  have hl : s.data.toList.count 10 ≤ 4000 := Nat.le_trans List.count_le_length (by simpa using h)
  unfold Lib.countByte at hc
  generalize List.count 10 s.data.toList = c at *
  go_enter Tryz.func41, Tryz.ntmps41
  go_wp2_with (go_at_call 75; refine hc.mono ?_; rintro e w' ⟨rfl, rfl⟩)
  go_ret3
  exact ⟨Turns.refl _ _, rfl⟩
set_option maxHeartbeats 400000 in
theorem parse_first (s P0 : ByteArray) (T : List ByteArray) (w : World) (h : s.size ≤ 4000) (hm : Ml w) (h2 : s.data.toList.count 10 ≤ 200) (hp : Pu.pieces 10 s = P0 :: T) (hw : Pu.within P0.data.toList 1 40 = none) :
    Calls Tryz.prog 41 #[.string s] w (ParsePost w (.err 2 0)) := by
  have hc := strings_Count_one s 10 w
  have hsp := split_any s 10 w h hm
  rw [hp] at hsp
  have hpl := Pu.pieces_count 10 s
  have hP0 : P0.size ≤ maxLen := by have := Pu.pieces_size (c := 10) (s := s) (p := P0) (by rw [hp]; simp); unfold maxLen; omega
  rw [hp] at hpl
  unfold Lib.countByte at hc
  generalize List.count 10 s.data.toList = c at *
  simp only [List.length_cons] at hpl hsp
  have hT : T.length ≤ 200 := by omega
  clear hpl hp
  go_enter Tryz.func41, Tryz.ntmps41
  go_wp2_with (go_at_call 75; refine hc.mono ?_; rintro e w' ⟨rfl, rfl⟩)
  refine hsp.mono ?_
  rintro e w1 ⟨rfl, rfl⟩
  clear hsp hc
  go_wp2_with fail
  refine (within_none P0 1 40 _ hP0 hw).mono ?_
  rintro e w1 ⟨rfl, hw1⟩
  subst hw1
  clear hw
  go_wp2
  go_ret3
  exact ⟨(Turns.refl _ _).alloc _, rfl⟩

theorem info106 : (Tryz.prog.info? 178).map (fun i => (i.zero, i.size, i.bytes)) = some (some (.agg #[.int .i64 0, .int .i64 0, .int .i64 0]), 3, 24) := by kernel_rfl

/-- What holds ahead of each round of Parse: the roads acc of the first k lines lie in the row v. -/
def ParseInv (w1 : World) (n : Nat) (T : List (List UInt8)) (v i : Value) (wr : World) : Prop :=
  ∃ (k g cap : Nat) (acc : List Pu.Rd), i = .int .i64 k ∧ k ≤ T.length ∧ acc.length = k ∧ v = .slice (some ⟨g, 0, none⟩) k cap ∧ wr.ownsRow w1.heap.size 178 3 (.slice (some ⟨g, 0, none⟩) k cap) k (Pu.rdVals acc) ∧
    (∀ r ∈ acc, Pu.RdOk n r) ∧ Pu.join acc (Pu.roads n (T.drop k) k) = Pu.roads n T 0 ∧ Turns (fun _ => False) w1 wr

set_option maxRecDepth 1000000 in
set_option maxHeartbeats 1000000 in
theorem parse_main (s P0 : ByteArray) (T : List ByteArray) (n : Nat) (w : World) (h : s.size ≤ 4000) (hm : Ml w) (h2 : s.data.toList.count 10 ≤ 200) (hp : Pu.pieces 10 s = P0 :: T) (hw : Pu.within P0.data.toList 1 40 = some (n : Int)) (hTn : ¬ T = []) :
    Calls Tryz.prog 41 #[.string s] w (ParsePost w (Pu.parseRows P0.data.toList (T.map (·.data.toList)))) := by
  have hc := strings_Count_one s 10 w
  have hsp := split_any s 10 w h hm
  rw [hp] at hsp
  have hpl := Pu.pieces_count 10 s
  have hP0 : P0.size ≤ maxLen := by have := Pu.pieces_size (c := 10) (s := s) (p := P0) (by rw [hp]; simp); unfold maxLen; omega
  have hTs : ∀ p ∈ T, p.size ≤ 4000 := fun p hp' => Nat.le_trans (Pu.pieces_size (c := 10) (s := s) (p := p) (by rw [hp]; simp [hp'])) h
  rw [hp] at hpl
  unfold Lib.countByte at hc
  generalize List.count 10 s.data.toList = c at *
  simp only [List.length_cons] at hpl hsp
  have hT : T.length ≤ 200 := by omega
  have hn := Pu.within_some hw
  have hn1 := hn.2.1
  have hn2 := hn.2.2
  have HP : Hid (Pu.parseRows P0.data.toList (T.map (·.data.toList)) = match Pu.roads n (T.map (·.data.toList)) 0 with
    | .inl i => .err 2 ((i : Int) + 1)
    | .inr rs => match Pu.lay (fun _ _ => 0) rs 0 with
      | .inl i => .err 3 ((i : Int) + 1)
      | .inr len => .ok n rs.length len) := by unfold Pu.parseRows; rw [hw]; simp only [Int.toNat_natCast]; rfl
  clear hpl hp hn
  go_enter Tryz.func41, Tryz.ntmps41
  go_wp2_with (go_at_call 75; refine hc.mono ?_; rintro e w' ⟨rfl, hw'⟩; subst w')
  refine hsp.mono ?_
  rintro e w1 ⟨rfl, hw1⟩
  have hT1 : Turns (fun _ => False) w w1 := by rw [hw1]; exact (Turns.refl _ _).alloc _
  have hs1 : w.heap.size < w1.heap.size := by rw [hw1]; simp
  have hc0 : w1.cell? ⟨w.heap.size, 0, none⟩ = some (.string P0) := by rw [hw1]; simp
  have hck : ∀ k p, T[k]? = some p → w1.cell? ⟨w.heap.size, 1 + k, none⟩ = some (.string p) := by
    intro k p hk; rw [hw1, World.cell?_alloc_new, Nat.add_comm]; simp [hk]
  have hm1 : Ml w1 := hm.turns hT1 (fun x => x)
  clear hsp hc hw1 hm
  go_wp2_with fail
  refine (within_some P0 1 40 (n : Int) _ hP0 hw).mono ?_
  rintro e w1' ⟨rfl, hw1⟩
  subst w1'
  clear hw
  obtain ⟨i0, hi, hz0, hz1, hz2⟩ := info_parts info106
  go_wp2_with (at_make; refine wpList_make_own _ rfl _ _ 176 rfl w1.heap.size 178 i0 _ 3 Tryz.underlying176 hi hz0 hz1 .i64 .i64 200 200 rfl rfl rfl (by rw [hz2]; decide) (by decide) (Nat.le_refl _) ?_)
  intro w2 hown hgrow
  have hT2 : Turns (fun _ => False) w1 w2 := (Turns.refl _ _).grown hgrow (fun k hk => by cases hk)
  clear hgrow
  go_wp2
  go_loopw [8, 36] (fun v i wr => ParseInv w1 n (T.map (·.data.toList)) v i wr) (fun _ i _ => T.length - (intOf i).toNat)
  case atStart => exact ⟨0, w1.heap.size, 200, [], rfl, Nat.zero_le _, rfl, rfl, hown, (fun r hr => by cases hr), Pu.join_nil _, hT2⟩
  case round =>
    clear hown hT2
    obtain ⟨k, g, cap, acc, rfl, hk, hak, rfl, hown, hok, hjoin, hTr⟩ := hrel
    have hk' : k ≤ T.length := by simpa using hk
    clear hk
    have hTs1 := hTr.size
    by_cases hlt : k < T.length
    · obtain ⟨q, hq⟩ : ∃ q, T[k]? = some q := ⟨_, List.getElem?_eq_getElem hlt⟩
      have hcq : wr.cell? ⟨w.heap.size, 1 + k, none⟩ = some (.string q) := (hTr.cell (a := ⟨w.heap.size, 1 + k, none⟩) hs1 (fun x => x)).trans (hck k q hq)
      have hqs := hTs q (List.mem_of_getElem? hq)
      have hdr : (T.map (·.data.toList)).drop k = q.data.toList :: (T.map (·.data.toList)).drop (k + 1) := by
        rw [List.drop_eq_getElem_cons (by simpa using hlt)]
        rw [List.getElem?_eq_getElem hlt] at hq
        simp at hq ⊢; rw [hq]
      rw [hdr] at hjoin
      have hmr : Ml wr := hm1.turns hTr (fun x => x)
      clear hdr hq
      go_wp2_with fail
      refine (road_any q (n : Int) _ hqs hmr hn1 hn2).mono ?_
      rintro e w3 ⟨rfl, hT3⟩
      have hs3 := hT3.size
      have hown3 : w3.ownsRow w1.heap.size 178 3 (.slice (some ⟨g, 0, none⟩) k cap) k (Pu.rdVals acc) := owns_turns hown hT3
      have hTw : Turns (fun _ => False) w1 w3 := hTr.trans ⟨hT3.os, hT3.tape, hT3.output, hT3.size, fun i hi _ => hT3.block i (by omega) (fun x => x)⟩
      cases hr : Pu.road q.data.toList (n : Int) with
      | none =>
        rw [Pu.roads_bad acc hr] at hjoin
        have HE : Hid (Pu.parseRows P0.data.toList (T.map (·.data.toList)) = .err 2 ((k : Int) + 1)) := by rw [HP.out, ← hjoin]; rfl
        clear hjoin hr hcq hown hown3 hok hTr hm1 hmr HP hck hT3
        simp only [roadV]
        go_wp2
        go_ret3
        refine ⟨hT1.trans (hTw.alloc _), ?_⟩
        rw [HE.out]
        rfl
      | some r =>
        obtain ⟨u, v, x⟩ := r
        have hrd := Pu.road_some hr
        have hu : ((u.toNat : Nat) : Int) = u := by omega
        have hv : ((v.toNat : Nat) : Int) = v := by omega
        rw [Pu.roads_good acc hr] at hjoin
        have hok2 : ∀ r ∈ acc ++ [(u.toNat, v.toNat, x)], Pu.RdOk n r := by
          intro r hr'
          rcases List.mem_append.1 hr' with h' | h'
          · exact hok r h'
          · rw [List.mem_singleton] at h'; subst h'; exact ⟨by simp only; omega, by simp only; omega, by simp only; omega, by simp only; omega⟩
        have hvals : Pu.rdVals acc ++ [.int .i64 u, .int .i64 v, .int .i64 x] = Pu.rdVals (acc ++ [(u.toNat, v.toNat, x)]) := by rw [Pu.rdVals_append]; simp only [Pu.rdVals, hu, hv]
        have HJ : Hid (Pu.join (acc ++ [(u.toNat, v.toNat, x)]) (Pu.roads n ((T.map (·.data.toList)).drop (k + 1)) (k + 1)) = Pu.roads n (T.map (·.data.toList)) 0) := hjoin
        have HV : Hid (Pu.rdVals acc ++ [.int .i64 u, .int .i64 v, .int .i64 x] = Pu.rdVals (acc ++ [(u.toNat, v.toNat, x)])) := hvals
        have HA : Hid (acc.length = k) := hak
        clear hjoin hr hcq hown hok hTr hmr hT3 hvals hu hv hak hrd
        simp only [roadV]
        go_wp2_with (at_builtin; refine wpList_append_own _ rfl _ _ 176 rfl w1.heap.size 178 i0 _ 3 24 Tryz.underlying176 hi hz0 hz1 hz2 rfl (by decide) _ _ _ rfl ((hown3.alloc _).alloc _) ⟨w3.heap.size + 1, 0, none⟩ 1 1 [.int .i64 u, .int .i64 v, .int .i64 x] rfl rfl ?c1 ?c2 ?c3 ?c4 ?c5 ?_)
        case c2 => exact ⟨rfl, rfl, rfl⟩
        case c3 => unfold maxLen; omega
        case c4 => omega
        case c5 => omega
        intro v' w4 hown4 hgrow _
        have hT4 : Turns (fun _ => False) w1 w4 := ((hTw.alloc _).alloc _).grown hgrow (fun k hk => Or.inl (hown3.lt k hk).1)
        obtain ⟨g', cap', hv'⟩ := owns_form hown4
        rw [hv'] at hown4 ⊢
        rw [HV.out] at hown4
        have HR : Hid (ParseInv w1 n (T.map (·.data.toList)) (.slice (some ⟨g', 0, none⟩) (k + 1) cap') (.int .i64 ((k : Int) + 1)) w4) :=
          ⟨k + 1, g', cap', acc ++ [(u.toNat, v.toNat, x)], by go_num, by simp; omega, by simp [HA.out], rfl, hown4, hok2, HJ.out, hT4⟩
        clear hown4 hgrow hT4 hown3 hTw hok2 HJ HV HA hv'
        go_wp2
        go_roundw
        case measure => simp [intOf]; omega
        case rel => exact HR.out
    · have ek : k = T.length := by omega
      have hjoin2 : Pu.roads n (T.map (·.data.toList)) 0 = .inr acc := by
        rw [← hjoin, List.drop_of_length_le (by simp; omega)]; simp [Pu.roads, Pu.join]
      have hg := hown.lt g rfl
      have hR : RoadsAt wr g acc := ⟨hg.2, fun j u v x e => by
          have := hown.cellAt (j * 3) (by have := (List.getElem?_eq_some_iff.1 e).1; omega)
          rw [this]; exact (Pu.rdVals_get acc j u v x e).1, fun j u v x e => by
          have := hown.cellAt (j * 3 + 1) (by have := (List.getElem?_eq_some_iff.1 e).1; omega)
          rw [this]; exact (Pu.rdVals_get acc j u v x e).2.1, fun j u v x e => by
          have := hown.cellAt (j * 3 + 2) (by have := (List.getElem?_eq_some_iff.1 e).1; omega)
          rw [this]; exact (Pu.rdVals_get acc j u v x e).2.2⟩
      have hlay := lay_any wr n g cap acc (by omega) hR hok (by omega)
      rw [hak] at hlay
      have hP2 := HP.out
      rw [hjoin2] at hP2
      have HE : Hid (Pu.parseRows P0.data.toList (T.map (·.data.toList)) = match Pu.lay (fun _ _ => 0) acc 0 with
        | .inl i => .err 3 ((i : Int) + 1)
        | .inr len => .ok n acc.length len) := hP2
      clear hjoin hjoin2 hR hown hok HP hck hP2 hc0 hm1 ek
      go_wp2_with fail
      refine hlay.mono ?_
      rintro e w5 ⟨hT5, h5⟩
      have hTw : Turns (fun _ => False) w w5 := hT1.trans ⟨(hT5.os).trans hTr.os, hT5.tape.trans hTr.tape, hT5.output.trans hTr.output, Nat.le_trans hTr.size hT5.size, fun i hi _ => (hT5.block i (by omega) (fun x => x)).trans (hTr.block i hi (fun x => x))⟩
      cases hl : Pu.lay (fun _ _ => 0) acc 0 with
      | inl i =>
        rw [hl] at h5
        simp only at h5
        subst h5
        have HE2 : Hid (Pu.parseRows P0.data.toList (T.map (·.data.toList)) = .err 3 ((i : Int) + 1)) := by rw [HE.out, hl]; rfl
        clear HE hl hlay hT5 hTr
        go_wp2
        go_ret3
        refine ⟨hTw, ?_⟩
        rw [HE2.out]
        rfl
      | inr len =>
        rw [hl] at h5
        simp only at h5
        obtain ⟨h5, hM⟩ := h5
        subst h5
        have HE2 : Hid (Pu.parseRows P0.data.toList (T.map (·.data.toList)) = .ok n acc.length len) := by rw [HE.out, hl]; rfl
        clear HE hl hlay hT5 hTr
        go_wp2
        go_ret3
        refine ⟨hTw, ?_⟩
        rw [HE2.out]
        exact ⟨wr.heap.size, rfl, by omega, hM⟩

set_option maxRecDepth 1000000 in
set_option maxHeartbeats 1000000 in
theorem parse_none (s P0 : ByteArray) (n : Nat) (w : World) (h : s.size ≤ 4000) (hm : Ml w) (h2 : s.data.toList.count 10 ≤ 200) (hp : Pu.pieces 10 s = [P0]) (hw : Pu.within P0.data.toList 1 40 = some (n : Int)) :
    Calls Tryz.prog 41 #[.string s] w (ParsePost w (.ok n 0 (fun _ _ => 0))) := by
  have hc := strings_Count_one s 10 w
  have hsp := split_any s 10 w h hm
  rw [hp] at hsp
  have hP0 : P0.size ≤ maxLen := by have := Pu.pieces_size (c := 10) (s := s) (p := P0) (by rw [hp]; simp); unfold maxLen; omega
  unfold Lib.countByte at hc
  generalize List.count 10 s.data.toList = c at *
  simp only [List.length_cons, List.length_nil, Nat.zero_add] at hsp
  have hn := Pu.within_some hw
  have hn1 := hn.2.1
  have hn2 := hn.2.2
  clear hp hn
  go_enter Tryz.func41, Tryz.ntmps41
  go_wp2_with (go_at_call 75; refine hc.mono ?_; rintro e w' ⟨rfl, hw'⟩; subst w')
  refine hsp.mono ?_
  rintro e w1 ⟨rfl, hw1⟩
  have hT1 : Turns (fun _ => False) w w1 := by rw [hw1]; exact (Turns.refl _ _).alloc _
  have hs1 : w.heap.size < w1.heap.size := by rw [hw1]; simp
  have hc0 : w1.cell? ⟨w.heap.size, 0, none⟩ = some (.string P0) := by rw [hw1]; simp
  clear hsp hc hw1 hm
  go_wp2_with fail
  refine (within_some P0 1 40 (n : Int) _ hP0 hw).mono ?_
  rintro e w1' ⟨rfl, hw1⟩
  subst w1'
  clear hw
  obtain ⟨i0, hi, hz0, hz1, hz2⟩ := info_parts info106
  go_wp2_with (at_make; refine wpList_make_own _ rfl _ _ 176 rfl w1.heap.size 178 i0 _ 3 Tryz.underlying176 hi hz0 hz1 .i64 .i64 200 200 rfl rfl rfl (by rw [hz2]; decide) (by decide) (Nat.le_refl _) ?_)
  intro w2 hown hgrow
  have hT2 : Turns (fun _ => False) w1 w2 := (Turns.refl _ _).grown hgrow (fun k hk => by cases hk)
  have hg := hown.lt w1.heap.size rfl
  have hR : RoadsAt w2 w1.heap.size [] := ⟨hg.2, fun j u v x e => by simp at e, fun j u v x e => by simp at e, fun j u v x e => by simp at e⟩
  have hlay := lay_any w2 n w1.heap.size 200 [] (by omega) hR (fun r hr => by cases hr) (by simp)
  clear hgrow hown hR
  go_wp2
  refine wp_loop_rounds 1 ?_
  rw [rounds_succ]
  go_wp2_with fail
  refine hlay.mono ?_
  rintro e w5 ⟨hT5, h5⟩
  have hTw : Turns (fun _ => False) w w5 := hT1.trans ⟨(hT5.os).trans hT2.os, hT5.tape.trans hT2.tape, hT5.output.trans hT2.output, Nat.le_trans hT2.size hT5.size, fun i hi _ => (hT5.block i (by omega) (fun x => x)).trans (hT2.block i hi (fun x => x))⟩
  simp only [Pu.lay] at h5
  obtain ⟨h5, hM⟩ := h5
  subst h5
  clear hlay hT5 hT2
  go_wp2
  go_ret3
  exact ⟨hTw, w2.heap.size, rfl, by omega, hM⟩

/-- Parse reads a map as the document has it. -/
theorem parseMap_any (s : ByteArray) (w : World) (hs : s.size ≤ maxLen) (hm : Ml w) : Calls Tryz.prog 41 #[.string s] w (ParsePost w (Pu.parse s.data.toList)) := by
  have hsz : s.data.toList.length = s.size := by simp
  unfold Pu.parse
  by_cases h : 4000 < s.size
  · rw [if_pos (Or.inl (by rw [hsz]; exact h))]; exact parse_long s w hs h
  · by_cases h2 : 200 < s.data.toList.count 10
    · rw [if_pos (Or.inr h2)]; exact parse_many s w (by omega) h2
    · rw [if_neg (by rw [hsz]; omega)]
      have hd := Pu.pieces_data 10 s
      have hl := Pu.pieces_length 10 s
      cases hp : Pu.pieces 10 s with
      | nil => rw [hp] at hl; simp at hl
      | cons P0 T =>
        rw [hp] at hd
        rw [← hd]
        simp only [List.map_cons]
        cases hw : Pu.within P0.data.toList 1 40 with
        | none =>
          have e : Pu.parseRows P0.data.toList (T.map (·.data.toList)) = .err 2 0 := by unfold Pu.parseRows; rw [hw]
          rw [e]; exact parse_first s P0 T w (by omega) hm (by omega) hp hw
        | some n' =>
          have hn := Pu.within_some hw
          obtain ⟨n, rfl⟩ : ∃ n : Nat, n' = n := ⟨n'.toNat, by omega⟩
          by_cases hT : T = []
          · subst hT
            have e : Pu.parseRows P0.data.toList (([] : List ByteArray).map (·.data.toList)) = .ok n 0 (fun _ _ => 0) := by unfold Pu.parseRows; rw [hw]; simp [Pu.roads, Pu.lay]
            rw [e]; exact parse_none s P0 n w (by omega) hm (by omega) hp hw
          · exact parse_main s P0 T n w (by omega) hm (by omega) hp hw hT
#print axioms parseMap_any
end Go.Proofs.YtdogncjcainhlaaGreatDoor
/- The walks of byway.Read and byway.Route. -/
namespace Go.Proofs.YtdogncjcainhlaaGreatDoor
open Go.RowKit
open Mem

set_option maxHeartbeats 400000 in
theorem has_no (w : World) (b n : Nat) (R p : Int) (len : Nat → Nat → Int) (hM : MapAt w b n R len) (h : ¬ (0 ≤ p ∧ p < n)) :
    Calls Tryz.prog 42 #[.pointer (some ⟨b, 0, none⟩), .int .i64 p] w fun e w' => e = .returned (.bool false) ∧ w' = w := by
  have h1 := hM.places
  rcases (show p < 0 ∨ (0 ≤ p ∧ (n : Int) ≤ p) by omega) with h2 | ⟨h2, h3⟩
  all_goals
    clear h
    go_enter Tryz.func42, Tryz.ntmps42
    go_wp2
    go_ret
    exact ⟨by simp; try omega, rfl⟩
set_option maxHeartbeats 400000 in
theorem has_yes (w : World) (b n : Nat) (R p : Int) (len : Nat → Nat → Int) (hM : MapAt w b n R len) (h : 0 ≤ p) (h' : p < n) :
    Calls Tryz.prog 42 #[.pointer (some ⟨b, 0, none⟩), .int .i64 p] w fun e w' => e = .returned (.bool true) ∧ w' = w := by
  have h1 := hM.places
  go_enter Tryz.func42, Tryz.ntmps42
  go_wp2
  go_ret
  exact ⟨by simp, rfl⟩

/-- The two are places of a map of n. -/
def InMap (n : Nat) (s t : Int) : Prop := 0 ≤ s ∧ s < n ∧ 0 ≤ t ∧ t < n
/-- What Route hands back. -/
def RoutePost (w : World) (r : Pu.Res) (s t : Int) (e : Ending) (w' : World) : Prop :=
  Turns (fun _ => False) w w' ∧ match r with
    | .err c p => e = .returned (.tuple #[.slice none 0 0, .int .i64 0, .int .i64 c, .int .i64 p])
    | .ok n _ len => (¬ InMap n s t ∧ e = .returned (.tuple #[.slice none 0 0, .int .i64 0, .int .i64 5, .int .i64 0])) ∨
        (InMap n s t ∧ ∃ far, Pu.Dist n len t.toNat far ∧
          ((far s.toNat = -1 ∧ e = .returned (.tuple #[.slice none 0 0, .int .i64 0, .int .i64 6, .int .i64 0])) ∨
           (0 ≤ far s.toNat ∧ ∃ way v, Way n len far t.toNat s.toNat way ∧ e = .returned (.tuple #[v, .int .i64 (far s.toNat), .int .i64 0, .int .i64 0]) ∧ w'.ownsRow w.heap.size 3 1 v way.length (vals way))))

set_option maxHeartbeats 400000 in
theorem route_err (x : ByteArray) (s t : Int) (w : World) (hs : x.size ≤ maxLen) (hm : Ml w) (c p : Int) (hp : Pu.parse x.data.toList = .err c p) :
    Calls Tryz.prog 19 #[.string x, .int .i64 s, .int .i64 t] w (RoutePost w (.err c p) s t) := by
  have k := parseMap_any x w hs hm
  rw [hp] at k
  have he := Pu.parse_err hp
  have hne : (c != 0) = true := by simp; omega
  clear hp he
  go_enter Tryz.func19, Tryz.ntmps19
  go_wp2_with (go_at_call 41; refine k.mono ?_; rintro e w1 ⟨hT, rfl⟩)
  exact bodyPost_ret (v := .tuple #[.slice none 0 0, .int .i64 0, .int .i64 c, .int .i64 p]) (by simp [results, Tryz.results19, go_sem]) rfl ⟨‹_›, rfl⟩
set_option maxHeartbeats 400000 in
theorem route_out (x : ByteArray) (s t : Int) (w : World) (hs : x.size ≤ maxLen) (hm : Ml w) (n q : Nat) (len : Nat → Nat → Int) (hp : Pu.parse x.data.toList = .ok n q len) (hno : ¬ InMap n s t) :
    Calls Tryz.prog 19 #[.string x, .int .i64 s, .int .i64 t] w (RoutePost w (.ok n q len) s t) := by
  have k := parseMap_any x w hs hm
  rw [hp] at k
  clear hp
  by_cases h1 : 0 ≤ s ∧ s < n
  · have h2 : ¬ (0 ≤ t ∧ t < n) := fun h => hno ⟨h1.1, h1.2, h.1, h.2⟩
    go_enter Tryz.func19, Tryz.ntmps19
    go_wp2_with fail
    refine k.mono ?_
    rintro e w1 ⟨hT, b, rfl, hb, hM⟩
    clear k
    go_wp2_with fail
    refine (has_yes _ b n q s len hM h1.1 h1.2).mono ?_
    rintro e w2 ⟨rfl, hw2⟩
    subst w2
    go_wp2_with fail
    refine (has_no _ b n q t len hM h2).mono ?_
    rintro e w2 ⟨rfl, hw2⟩
    subst w2
    go_wp2
    exact bodyPost_ret (v := .tuple #[.slice none 0 0, .int .i64 0, .int .i64 5, .int .i64 0]) (by simp [results, Tryz.results19, go_sem]) rfl ⟨hT, Or.inl ⟨hno, rfl⟩⟩
  · go_enter Tryz.func19, Tryz.ntmps19
    go_wp2_with fail
    refine k.mono ?_
    rintro e w1 ⟨hT, b, rfl, hb, hM⟩
    clear k
    go_wp2_with fail
    refine (has_no _ b n q s len hM h1).mono ?_
    rintro e w2 ⟨rfl, hw2⟩
    subst w2
    go_wp2
    exact bodyPost_ret (v := .tuple #[.slice none 0 0, .int .i64 0, .int .i64 5, .int .i64 0]) (by simp [results, Tryz.results19, go_sem]) rfl ⟨hT, Or.inl ⟨hno, rfl⟩⟩
set_option maxHeartbeats 400000 in
theorem route_in (x : ByteArray) (s t : Nat) (w : World) (hs : x.size ≤ maxLen) (hm : Ml w) (n q : Nat) (len : Nat → Nat → Int) (hp : Pu.parse x.data.toList = .ok n q len) (hs' : s < n) (ht' : t < n) :
    Calls Tryz.prog 19 #[.string x, .int .i64 s, .int .i64 t] w (RoutePost w (.ok n q len) s t) := by
  have k := parseMap_any x w hs hm
  rw [hp] at k
  obtain ⟨hn1, hn2, _, hN⟩ := Pu.parse_ok hp
  clear hp
  go_enter Tryz.func19, Tryz.ntmps19
  go_wp2_with fail
  refine k.mono ?_
  rintro e w1 ⟨hT, b, rfl, hb, hM⟩
  clear k
  go_wp2_with fail
  refine (has_yes _ b n q s len hM (by omega) (by omega)).mono ?_
  rintro e w2 ⟨rfl, hw2⟩
  subst w2
  go_wp2_with fail
  refine (has_yes _ b n q t len hM (by omega) (by omega)).mono ?_
  rintro e w2 ⟨rfl, hw2⟩
  subst w2
  go_wp2_with fail
  refine (waysFirst_any _ b n s t q len hn2 hs' ht' hM hN.lens hN.sym).mono ?_
  rintro e w2 ⟨hT2, far, hD, h⟩
  have hTT : Turns (fun _ => False) w w2 := hT.trans ⟨hT2.os, hT2.tape, hT2.output, hT2.size, hT2.block⟩
  have hsz := hT.size
  have hin : InMap n s t := ⟨by omega, by omega, by omega, by omega⟩
  rcases h with ⟨h1, rfl⟩ | ⟨h1, way, v, h2, rfl, h3⟩
  · have HX : Hid (∃ far, Pu.Dist n len t far ∧ far s = -1) := ⟨far, hD, h1⟩
    clear h1 hD hT2 hT
    go_wp2
    obtain ⟨far, hD, h1⟩ := HX.out
    exact bodyPost_ret (v := .tuple #[.slice none 0 0, .int .i64 0, .int .i64 6, .int .i64 0]) (by simp [results, Tryz.results19, go_sem]) rfl ⟨hTT, Or.inr ⟨hin, far, by simpa using hD, Or.inl ⟨by simpa using h1, rfl⟩⟩⟩
  · have hne : (far s == -1) = false := by simp; omega
    have HX : Hid (∃ far', Pu.Dist n len t far' ∧ far' s = far s ∧ 0 ≤ far' s ∧ ∃ way, Way n len far' t s way ∧ w2.ownsRow w.heap.size 3 1 v way.length (vals way)) := ⟨far, hD, rfl, h1, way, h2, owns_mono h3 hsz⟩
    clear h1 hD hT2 hT h2 h3
    go_wp2
    obtain ⟨far', hD, e1, h1, way, h2, h3⟩ := HX.out
    exact bodyPost_ret (v := .tuple #[v, .int .i64 (far s), .int .i64 0, .int .i64 0]) (by simp [results, Tryz.results19, go_sem]) rfl ⟨hTT, Or.inr ⟨hin, far', by simpa using hD, Or.inr ⟨by simpa using h1, way, v, by simpa using h2, by simp [e1], h3⟩⟩⟩

/-- Route gives the first of all shortest ways, as the document has it. -/
theorem route_any (x : ByteArray) (s t : Int) (w : World) (hs : x.size ≤ maxLen) (hm : Ml w) :
    Calls Tryz.prog 19 #[.string x, .int .i64 s, .int .i64 t] w (RoutePost w (Pu.parse x.data.toList) s t) := by
  cases hp : Pu.parse x.data.toList with
  | err c p => exact route_err x s t w hs hm c p hp
  | ok n q len =>
    by_cases h : InMap n s t
    · obtain ⟨h1, h2, h3, h4⟩ := h
      obtain ⟨s, rfl⟩ := Int.eq_ofNat_of_zero_le h1
      obtain ⟨t, rfl⟩ := Int.eq_ofNat_of_zero_le h3
      exact route_in x s t w hs hm n q len hp (by omega) (by omega)
    · exact route_out x s t w hs hm n q len hp h
#print axioms route_any
end Go.Proofs.YtdogncjcainhlaaGreatDoor
/- The walk of bywaykeep.awake: the document's first example. -/
namespace Go.Proofs.YtdogncjcainhlaaGreatDoor
open Go.RowKit
open Mem

/-- The example's text. -/
def shown : ByteArray := ⟨#[52, 10, 48, 32, 49, 32, 53, 10, 49, 32, 50, 32, 49, 10, 48, 32, 50, 32, 55]⟩
/-- Its roads. -/
def shownLen : Nat → Nat → Int := Pu.layLen (Pu.layLen (Pu.layLen (fun _ _ => 0) 0 1 5) 1 2 1) 0 2 7
theorem shown_parse : Pu.parse shown.data.toList = .ok 4 3 shownLen := by kernel_rfl
def shownFar : Nat → Int := fun j => if j = 0 then 6 else if j = 1 then 1 else if j = 2 then 0 else -1
theorem four {P : Nat → Prop} (h0 : P 0) (h1 : P 1) (h2 : P 2) (h3 : P 3) : ∀ j, j < 4 → P j := by
  intro j hj
  match j, hj with
  | 0, _ => exact h0
  | 1, _ => exact h1
  | 2, _ => exact h2
  | 3, _ => exact h3
theorem shown_ed : ∀ i, i < 4 → ∀ j, j < 4 → 0 ≤ shownFar i → shownLen i j ≠ 0 → 0 ≤ shownFar j ∧ shownFar j ≤ shownFar i + shownLen i j := by
  refine four ?_ ?_ ?_ ?_ <;> refine four ?_ ?_ ?_ ?_ <;> decide
theorem shown_rng : ∀ j, j < 4 → shownFar j = -1 ∨ (0 ≤ shownFar j ∧ shownFar j ≤ 40000) := by refine four ?_ ?_ ?_ ?_ <;> decide
theorem shown_dist : Pu.Dist 4 shownLen 2 shownFar := by
  refine ⟨rfl, shown_rng, fun i j hi hj => shown_ed i hi j hj, ?_⟩
  intro j hj
  match j, hj with
  | 0, _ => exact fun _ _ => ⟨1, by decide⟩
  | 1, _ => exact fun _ _ => ⟨2, by decide⟩
  | 2, _ => exact fun h => absurd rfl h
  | 3, _ => exact fun _ h => absurd h (by decide)
theorem shown_net : Pu.Net 4 shownLen := (Pu.parse_ok shown_parse).2.2.2
theorem shown_good {far : Nat → Int} (hf : ∀ j, j < 4 → far j = shownFar j) {a j : Nat} (ha : a < 4) (hj : j < 4) : Good shownLen far a j ↔ Good shownLen shownFar a j := by
  unfold Good; rw [hf a ha, hf j hj]
/-- The first way of the example. -/
theorem shown_way {far : Nat → Int} (hD : Pu.Dist 4 shownLen 2 far) {way : List Nat} (h : Way 4 shownLen far 2 0 way) : way = [0, 1, 2] := by
  have hf : ∀ j, j < 4 → far j = shownFar j := Pu.Dist.unique shown_net.lens hD shown_dist
  cases h with
  | step _ j l _ hj hL hW =>
    have h1 : j = 1 := by
      have g := (shown_good hf (by omega) hj).1 hL.1
      match j, hj, g with
      | 0, _, g => exact absurd g (by unfold Good; decide)
      | 1, _, _ => rfl
      | 2, _, g => exact absurd g (by unfold Good; decide)
      | 3, _, g => exact absurd g (by unfold Good; decide)
    subst h1
    cases hW with
    | step _ j l' _ hj hL hW =>
      have h2 : j = 2 := by
        have g := (shown_good hf (by omega) hj).1 hL.1
        match j, hj, g with
        | 0, _, g => exact absurd g (by unfold Good; decide)
        | 1, _, g => exact absurd g (by unfold Good; decide)
        | 2, _, _ => rfl
        | 3, _, g => exact absurd g (by unfold Good; decide)
      subst h2
      cases hW with
      | done => rfl
      | step _ _ _ hne _ _ _ => exact absurd rfl hne

set_option maxHeartbeats 400000 in
theorem awake_any (w : World) (hm : Ml w) : Calls Tryz.prog 8 #[] w fun e w' => e = .returned (.bool true) ∧ Turns (fun _ => False) w w' := by
  have k := route_any shown 0 2 w (by decide) hm
  rw [shown_parse] at k
  go_enter Tryz.func8, Tryz.ntmps8
  go_wp2_with fail
  refine k.mono ?_
  rintro e w1 ⟨hT, h⟩
  rcases h with ⟨hno, _⟩ | ⟨_, far, hD, h⟩
  · exact absurd (by unfold InMap; omega) hno
  · have hf : ∀ j, j < 4 → far j = shownFar j := Pu.Dist.unique shown_net.lens (by simpa using hD) shown_dist
    have h6 : far (0 : Int).toNat = 6 := hf 0 (by omega)
    rcases h with ⟨h1, _⟩ | ⟨h0, way, v, hW, rfl, hown⟩
    · rw [h6] at h1; omega
    · have hway : way = [0, 1, 2] := shown_way (by simpa using hD) (by simpa using hW)
      subst hway
      rw [h6]
      obtain ⟨g, cap, rfl⟩ := owns_form hown
      have c0 := hown.cellAt 0 (by decide)
      have c1 := hown.cellAt 1 (by decide)
      have c2 := hown.cellAt 2 (by decide)
      simp only [vals] at c0 c1 c2
      clear hown hf hD hW h0 h6 k
      simp at c0 c1 c2
      simp only [List.length_cons, List.length_nil, Nat.zero_add]
      go_wp2
      go_ret
      exact ⟨rfl, hT⟩
#print axioms awake_any
end Go.Proofs.YtdogncjcainhlaaGreatDoor
/- The walks of records.hubsOf, records.writeLabel, records.Write. -/
namespace Go.Proofs.YtdogncjcainhlaaGreatDoor
open Go.RowKit Go.Deep
open Mem

/-- The labels that lie behind a slice. -/
def RdAt (w : World) (a : Option Addr) (L : List Pu.Rd) : Prop := ∀ (i p h : Nat) (f : Int), L[i]? = some (p, h, f) → ∃ g, a = some ⟨g, 0, none⟩ ∧ w.cell? ⟨g, i * 3, none⟩ = some (.int .i64 (p : Int)) ∧ w.cell? ⟨g, i * 3 + 1, none⟩ = some (.int .i64 (h : Int)) ∧ w.cell? ⟨g, i * 3 + 2, none⟩ = some (.int .i64 f)

theorem rdAt_own {w : World} {base : Nat} {v : Value} {L : List Pu.Rd} (h : w.ownsRow base 120 3 v L.length (Pu.rdVals L)) : ∃ a c, v = .slice a L.length c ∧ RdAt w a L := by
  rcases h.2 with ⟨h1, h2⟩ | ⟨g, cap, _, h1, _⟩
  · refine ⟨none, 0, by rw [h1, h2], fun i p q f hi => ?_⟩
    have := (List.getElem?_eq_some_iff.1 hi).1
    omega
  · refine ⟨some ⟨g, 0, none⟩, cap, h1, fun i p q f hi => ?_⟩
    subst h1
    have hil := (List.getElem?_eq_some_iff.1 hi).1
    obtain ⟨r1, r2, r3⟩ := Pu.rdVals_get _ i p q f hi
    exact ⟨g, rfl, by rw [h.cellAt _ (by omega)]; exact r1, by rw [h.cellAt _ (by omega)]; exact r2, by rw [h.cellAt _ (by omega)]; exact r3⟩
theorem RdAt.turns {w w' : World} {a : Option Addr} {L : List Pu.Rd} (h : RdAt w a L) (t : Turns (fun _ => False) w w') : RdAt w' a L := by
  intro i p q f hi
  obtain ⟨g, h0, h1, h2, h3⟩ := h i p q f hi
  exact ⟨g, h0, (t.cell (World.block_lt_of_cell? _ _ h1) (fun x => x)).trans h1, (t.cell (World.block_lt_of_cell? _ _ h2) (fun x => x)).trans h2, (t.cell (World.block_lt_of_cell? _ _ h3) (fun x => x)).trans h3⟩
namespace Pu
theorem nodup_idx {O : List Nat} (h : O.Nodup) {i j m : Nat} (hi : O[i]? = some m) (hj : O[j]? = some m) : i = j := by
  obtain ⟨a1, a2⟩ := List.getElem?_eq_some_iff.1 hi
  obtain ⟨b1, b2⟩ := List.getElem?_eq_some_iff.1 hj
  rcases Nat.lt_trichotomy i j with c | c | c
  · exact absurd (a2.trans b2.symm) (List.pairwise_iff_getElem.1 h i j a1 b1 c)
  · exact c
  · exact absurd (b2.trans a2.symm) (List.pairwise_iff_getElem.1 h j i b1 a1 c)
theorem labK_place {D : Nat → Nat → Int} {O : List Nat} {v k : Nat} : ∀ x ∈ labK D O v k, x.1 = v := fun x hx => by
  obtain ⟨j, h, _, _, _, rfl⟩ := (labK_mem k).1 hx
  rfl
/-- Of all labels those of one place. -/
theorem labP_filter (D : Nat → Nat → Int) (O : List Nat) (v : Nat) : ∀ p, (labP D O p).filter (fun r => r.1 == v) = if v < p then labK D O v O.length else []
  | 0 => by simp [labP]
  | p + 1 => by
    rw [labP, List.filter_append, labP_filter D O v p]
    by_cases e : v = p
    · subst e
      rw [if_neg (by omega), if_pos (by omega), List.nil_append, List.filter_eq_self.2]
      intro x hx
      simp [labK_place x hx]
    · have : (labK D O p O.length).filter (fun r => r.1 == v) = [] := by
        rw [List.filter_eq_nil_iff]
        intro x hx
        simp [labK_place x hx]
        omega
      rw [this, List.append_nil]
      by_cases h : v < p
      · rw [if_pos h, if_pos (by omega)]
      · rw [if_neg h, if_neg (by omega)]
end Pu
set_option maxRecDepth 100000 in
set_option maxHeartbeats 2000000 in
/-- records.hubsOf: those of one place. -/
theorem hubsOf_any (w : World) (v cap : Nat) (a : Option Addr) (L : List Pu.Rd) (hL : L.length ≤ 1600) (hR : RdAt w a L) :
    Calls Tryz.prog 62 #[.int .i64 v, .slice a L.length cap] w fun e w' => Turns (fun _ => False) w w' ∧ ∃ x, e = .returned x ∧ w'.ownsRow w.heap.size 120 3 x (L.filter fun r => r.1 == v).length (Pu.rdVals (L.filter fun r => r.1 == v)) := by
  obtain ⟨ll, hll⟩ : ∃ ll, L.length = ll := ⟨_, rfl⟩
  have HLL : Hid (L.length = ll) := hll
  rw [hll] at hL ⊢
  have HR : Hid (RdAt w a L) := hR
  clear hR hll
  have H0 : Hid (OwnG w (.slice none 0 0) w.heap.size 120 3 (.slice none 0 0) ((L.take 0).filter fun r => r.1 == v).length (Pu.rdVals ((L.take 0).filter fun r => r.1 == v)) w) := OwnG.nil _ _ _ _
  go_enter Tryz.func62, Tryz.ntmps62
  go_wp2
  go_loopw [5, 10] (fun xv iv wr => ∃ (i : Nat) (x : Value) (wy : World), x = xv ∧ iv = .int .i64 i ∧ i ≤ ll ∧ wy = wr ∧ Hid (OwnG w (.slice none 0 0) w.heap.size 120 3 x ((L.take i).filter fun r => r.1 == v).length (Pu.rdVals ((L.take i).filter fun r => r.1 == v)) wy)) (fun _ iv _ => ll - (intOf iv).toNat)
  case atStart => exact ⟨0, _, w, rfl, rfl, Nat.zero_le _, rfl, H0.out⟩
  case round =>
    clear H0
    obtain ⟨i, x, wr, hx, rfl, hil, hwy, HI⟩ := hrel
    subst hwy hx
    by_cases hlt : i < ll
    · have hii : (i : Int) < (ll : Int) := by omega
      obtain ⟨⟨p, q, f⟩, hph⟩ : ∃ y, L[i]? = some y := ⟨_, List.getElem?_eq_getElem (by rw [HLL.out]; exact hlt)⟩
      obtain ⟨g, hag, g1, g2, g3⟩ := HR.out i p q f hph
      have hT := HI.out.turns0
      have e1 := (hT.cell (a := ⟨g, i * 3, none⟩) (World.block_lt_of_cell? _ _ g1) (fun x => x)).trans g1
      have e2 := (hT.cell (a := ⟨g, i * 3 + 1, none⟩) (World.block_lt_of_cell? _ _ g2) (fun x => x)).trans g2
      have e3 := (hT.cell (a := ⟨g, i * 3 + 2, none⟩) (World.block_lt_of_cell? _ _ g3) (fun x => x)).trans g3
      subst hag
      have hfl : Hid (((L.take i).filter fun r => r.1 == v).length ≤ 1600) := by
        have := List.length_filter_le (fun r : Pu.Rd => r.1 == v) (L.take i)
        have h2 := List.length_take_le i L
        have h3 := HLL.out
        show _ ≤ _
        rw [List.length_take] at this
        omega
      by_cases hpv : p = v
      · subst hpv
        have HN : Hid ((L.take (i + 1)).filter (fun r => r.1 == p) = (L.take i).filter (fun r => r.1 == p) ++ [(p, q, f)]) := by
          show _ = _
          rw [List.take_add_one, hph, Option.toList_some, List.filter_append]
          simp
        obtain ⟨xs, hxs⟩ : ∃ xs, xs = Pu.rdVals ((L.take i).filter fun r => r.1 == p) := ⟨_, rfl⟩
        obtain ⟨nn, hnn⟩ : ∃ nn, nn = ((L.take i).filter fun r => r.1 == p).length := ⟨_, rfl⟩
        have HO : Hid (OwnG w (.slice none 0 0) w.heap.size 120 3 x nn xs wr) := by rw [hxs, hnn]; exact HI.out
        have HX : Hid (∀ v' w3, OwnG w (.slice none 0 0) w.heap.size 120 3 v' (nn + 1) (xs ++ (#[Value.int .i64 (p : Int), .int .i64 (q : Int), .int .i64 f] : Array Value).toList) w3 → OwnG w (.slice none 0 0) w.heap.size 120 3 v' ((L.take (i + 1)).filter fun r => r.1 == p).length (Pu.rdVals ((L.take (i + 1)).filter fun r => r.1 == p)) w3) := by
          intro v' w3 h3
          rw [HN.out, Pu.rdVals_append, List.length_append, ← hxs, ← hnn]
          exact h3
        have hnl : nn ≤ 1600 := by rw [hnn]; exact hfl.out
        have hsz : w.heap.size ≤ wr.heap.size := hT.size
        clear hxs hnn HI HN hph g1 g2 g3 hT hfl
        go_wp2_with (at_builtin; refine wpList_append_one rfl _ _ 72 rfl 120 3 24 _ Tryz.underlying72 infoL54 rfl (by decide) w (wr.alloc _) (.slice none 0 0) x w.heap.size nn xs _ rfl (by intro u hu; simp at hu; rcases hu with rfl | rfl | rfl <;> rfl) (HO.out.alloc _) (by simp; omega) (by omega) (by omega) rfl _ rfl (by simp) ?_)
        intro v' w3 hB
        have HY := HX.out v' w3 hB
        have HZ : Hid (OwnG w (.slice none 0 0) w.heap.size 120 3 v' ((L.take (i + 1)).filter fun r => r.1 == p).length (Pu.rdVals ((L.take (i + 1)).filter fun r => r.1 == p)) w3) := HY
        clear HX HY hB HO
        go_wp2
        go_roundw
        case rel => exact ⟨i + 1, v', w3, rfl, by go_num, by omega, rfl, HZ.out⟩
        case measure => simp [intOf]; omega
      · have hpi : ((p : Int) == (v : Int)) = false := by simp; omega
        have HN : Hid ((L.take (i + 1)).filter (fun r => r.1 == v) = (L.take i).filter (fun r => r.1 == v)) := by
          show _ = _
          rw [List.take_add_one, hph, Option.toList_some, List.filter_append]
          simp [hpv]
        have HX : Hid (∀ o, OwnG w (.slice none 0 0) w.heap.size 120 3 x ((L.take (i + 1)).filter fun r => r.1 == v).length (Pu.rdVals ((L.take (i + 1)).filter fun r => r.1 == v)) (wr.alloc o)) := by
          intro o
          rw [HN.out]
          exact HI.out.alloc o
        clear HI HN hph g1 g2 g3 hT hfl
        go_wp2
        go_roundw
        case rel => exact ⟨i + 1, x, _, rfl, by go_num, by omega, rfl, HX.out _⟩
        case measure => simp [intOf]; omega
    · have hii : ¬ (i : Int) < (ll : Int) := by omega
      have HN : Hid ((L.take i) = L) := List.take_of_length_le (by rw [HLL.out]; omega)
      have o1 := HI.out
      rw [HN.out] at o1
      have HX : Hid (Turns (fun _ => False) w wr ∧ ∃ y, Ending.returned x = .returned y ∧ wr.ownsRow w.heap.size 120 3 y (L.filter fun r => r.1 == v).length (Pu.rdVals (L.filter fun r => r.1 == v))) := ⟨o1.turns0, x, rfl, o1.own⟩
      clear HI o1 HN
      go_wp2
      exact bodyPost_ret (v := x) (by simp [results, Tryz.results62, go_sem]) rfl HX.out
set_option maxRecDepth 100000 in
set_option maxHeartbeats 2000000 in
/-- records.writeLabel. -/
theorem writeLabel_any (w : World) (rb n rcap lcap v : Nat) (a : Option Addr) (H : List (Nat × Int)) (pl : Nat → Nat) (hH : H.length ≤ 40) (hn : n ≤ 40) (hR : RdAt w a (H.map fun x => (v, pl x.1, x.2)))
    (hF : ∀ (i r : Nat) (f : Int), H[i]? = some (r, f) → r < n ∧ Pu.nxt 0 (H.take i) ≤ r ∧ 0 ≤ f ∧ f ≤ 40000) (hK : ∀ (i r : Nat) (f : Int), H[i]? = some (r, f) → pl r < n ∧ w.cell? ⟨rb, pl r, none⟩ = some (.int .i64 (r : Int))) :
    Calls Tryz.prog 61 #[.slice a H.length lcap, .slice (some ⟨rb, 0, none⟩) n rcap] w fun e w' => ∃ x, e = .returned x ∧ OwnB w (.slice none 0 0) w.heap.size x (Pu.labB H) w' := by
  have c0 := cappend_any (.slice none 0 0) H.length w.heap.size [] w (World.ownsRow_nil _ _ _ _) (Nat.le_refl _) (by simp) (by omega)
  have HC0 : Hid ([] ++ Pu.countB H.length = Pu.labT2 H 0) := by show _ = _; rw [Pu.labT2_zero]; rfl
  rw [HC0.out] at c0
  obtain ⟨ll, hll⟩ : ∃ ll, H.length = ll := ⟨_, rfl⟩
  have HLL : Hid (H.length = ll) := hll
  rw [hll] at hH c0 ⊢
  have HR : Hid (RdAt w a (H.map fun x => (v, pl x.1, x.2))) := hR
  have HF : Hid (∀ (i r : Nat) (f : Int), H[i]? = some (r, f) → r < n ∧ Pu.nxt 0 (H.take i) ≤ r ∧ 0 ≤ f ∧ f ≤ 40000) := hF
  have HK : Hid (∀ (i r : Nat) (f : Int), H[i]? = some (r, f) → pl r < n ∧ w.cell? ⟨rb, pl r, none⟩ = some (.int .i64 (r : Int))) := hK
  clear hR hF hK hll HC0
  go_enter Tryz.func61, Tryz.ntmps61
  go_wp2_with fail
  refine c0.mono ?_
  rintro e w1 ⟨x1, rfl, hB1⟩
  have H1 : Hid (OwnB w (.slice none 0 0) w.heap.size x1 (Pu.labT2 H 0) w1) := hB1
  clear hB1 c0
  go_wp2
  go_loopw [5, 6, 15] (fun xv nv iv wr => ∃ (i nx : Nat) (x : Value) (wy : World), x = xv ∧ nv = .int .i64 nx ∧ iv = .int .i64 i ∧ i ≤ ll ∧ nx ≤ 40 ∧ wy = wr ∧ Hid (OwnB w (.slice none 0 0) w.heap.size x (Pu.labT2 H i) wy ∧ nx = Pu.nxt 0 (H.take i))) (fun _ _ iv _ => ll - (intOf iv).toNat)
  case atStart => exact ⟨0, 0, _, w1, rfl, rfl, rfl, Nat.zero_le _, by omega, rfl, H1.out, rfl⟩
  case round =>
    clear H1
    obtain ⟨i, nx, x, wr, hx, rfl, rfl, hil, hnx, hwy, HI⟩ := hrel
    subst hwy hx
    by_cases hlt : i < ll
    · have hii : (i : Int) < (ll : Int) := by omega
      obtain ⟨⟨r, f⟩, hrf⟩ : ∃ y, H[i]? = some y := ⟨_, List.getElem?_eq_getElem (by rw [HLL.out]; exact hlt)⟩
      obtain ⟨g, hag, g1, g2, g3⟩ := HR.out i v (pl r) f (by rw [List.getElem?_map, hrf]; rfl)
      obtain ⟨f1, f2, f3, f4⟩ := HF.out i r f hrf
      obtain ⟨k1, k2⟩ := HK.out i r f hrf
      have hnr : nx ≤ r := by rw [HI.out.2]; exact f2
      have hT := HI.out.1.turns0
      have e1 := (hT.cell (a := ⟨g, i * 3, none⟩) (World.block_lt_of_cell? _ _ g1) (fun x => x)).trans g1
      have e2 := (hT.cell (a := ⟨g, i * 3 + 1, none⟩) (World.block_lt_of_cell? _ _ g2) (fun x => x)).trans g2
      have e3 := (hT.cell (a := ⟨g, i * 3 + 2, none⟩) (World.block_lt_of_cell? _ _ g3) (fun x => x)).trans g3
      have e4 := (hT.cell (a := ⟨rb, pl r, none⟩) (World.block_lt_of_cell? _ _ k2) (fun x => x)).trans k2
      have hrl : rb < wr.heap.size := World.block_lt_of_cell? _ _ e4
      have hrc : pl r ≤ rcap ∨ True := Or.inr trivial
      subst hag
      have hsub : (r : Int) - (nx : Int) = ((r - nx : Nat) : Int) := by omega
      have hff : (f.toNat : Int) = f := by omega
      have HLB : Hid ((Pu.labT2 H i).length ≤ 300) := by
        have := Pu.labT2_len H i
        rw [HLL.out] at this
        show _ ≤ _
        omega
      obtain ⟨n1, n2⟩ := Pu.labT2_next hrf
      have HNX : Hid (Pu.labT2 H (i + 1) = (Pu.labT2 H i ++ Pu.countB (r - nx)) ++ Pu.countB f.toNat ∧ r + 1 = Pu.nxt 0 (H.take (i + 1))) := ⟨by rw [n1, HI.out.2], n2.symm⟩
      have HO : Hid (OwnB w (.slice none 0 0) w.heap.size x (Pu.labT2 H i) wr) := HI.out.1
      have hwsz : Hid (w.heap.size ≤ wr.heap.size) := hT.size
      clear g1 g2 g3 hT k2 n1 n2 HI hrf f2
      go_wp2_with fail
      obtain ⟨wb, hwb⟩ : ∃ wb, wb = wr.alloc (.cells #[.int .i64 (v : Int), .int .i64 (pl r : Int), .int .i64 f] 120) := ⟨_, rfl⟩
      have HOb : Hid (OwnB w (.slice none 0 0) w.heap.size x (Pu.labT2 H i) wb) := by rw [hwb]; exact HO.out.then ((Turns.refl _ _).alloc _)
      have hbs : wb.heap.size = wr.heap.size + 1 := by rw [hwb]; simp
      have hfb : wb.cell? ⟨wr.heap.size, 2, none⟩ = some (.int .i64 f) := by rw [hwb, World.cell?_alloc_new]; rfl
      rw [← hwb]
      refine (cappend_any x (r - nx) w.heap.size (Pu.labT2 H i) wb HOb.out.own (by have := hwsz.out; omega) (by have := HLB.out; omega) (by omega)).mono ?_
      rintro e w2 ⟨x2, rfl, hB2⟩
      have hf2 : w2.cell? ⟨wr.heap.size, 2, none⟩ = some (.int .i64 f) := by
        refine (hB2.turns.cell (a := ⟨wr.heap.size, 2, none⟩) (by show wr.heap.size < _; omega) ?_).trans hfb
        intro c
        have : wr.heap.size < wr.heap.size := (HO.out.own.lt _ c).2
        omega
      have hl2 : wr.heap.size < w2.heap.size := by have := hB2.turns.size; omega
      have HO2 : Hid (OwnB w (.slice none 0 0) w.heap.size x2 (Pu.labT2 H i ++ Pu.countB (r - nx)) w2) := HOb.out.more hB2
      clear hB2 HOb hwb hfb hbs HO
      go_wp2_with fail
      rw [← hff]
      refine (cappend_any x2 f.toNat w.heap.size (Pu.labT2 H i ++ Pu.countB (r - nx)) w2 HO2.out.own HO2.out.turns0.size (by have := HLB.out; have := Pu.countB_len (r - nx); rw [List.length_append]; omega) (by omega)).mono ?_
      rintro e w3 ⟨x3, rfl, hB3⟩
      have HO3 : Hid (OwnB w (.slice none 0 0) w.heap.size x3 (Pu.labT2 H (i + 1)) w3) := by
        have := HO2.out.more hB3
        rwa [← HNX.out.1] at this
      clear hB3 HO2 hf2 hl2
      rw [hff]
      go_wp2
      go_roundw
      case rel => exact ⟨i + 1, r + 1, x3, w3, rfl, by go_num, by go_num, by omega, by omega, rfl, HO3.out, HNX.out.2⟩
      case measure => simp [intOf]; omega
    · have hii : ¬ (i : Int) < (ll : Int) := by omega
      have hE : Pu.labT2 H i = Pu.labB H := by rw [show i = H.length by rw [HLL.out]; omega, Pu.labT2_all]
      have o1 := HI.out.1
      rw [hE] at o1
      have HX : Hid (∃ y, Ending.returned x = .returned y ∧ OwnB w (.slice none 0 0) w.heap.size y (Pu.labB H) wr) := ⟨x, rfl, o1⟩
      clear HI o1 hE
      go_wp2
      exact bodyPost_ret (v := x) (by simp [results, Tryz.results61, go_sem]) rfl HX.out
end Go.Proofs.YtdogncjcainhlaaGreatDoor
/- The walk of records.Write. -/
namespace Go.Proofs.YtdogncjcainhlaaGreatDoor
open Go.RowKit Go.Deep
open Mem

/-- What holds ahead of each round of the second loop of records.Write: two rows of bytes, the ranks. -/
structure W2 (w : World) (rb n : Nat) (O : List Nat) (L : Nat → List (Nat × Int)) (v : Nat) (hv bb : Value) (wy : World) : Prop where
  held : wy.ownsRow w.heap.size 5 1 hv (Pu.headB O ++ Pu.sizesB L v).length (bv (Pu.headB O ++ Pu.sizesB L v))
  behind : wy.ownsRow w.heap.size 5 1 bb (Pu.labsB L v).length (bv (Pu.labsB L v))
  apart : ∀ q, hv.ownBlock = some q → bb.ownBlock ≠ some q
  hr : hv.ownBlock ≠ some rb
  br : bb.ownBlock ≠ some rb
  ranks : ∃ g, Ints wy rb n g ∧ ∀ j h : Nat, O[j]? = some h → g h = j
  turns : Turns (fun _ => False) w wy
theorem W2.then {w : World} {rb n : Nat} {O : List Nat} {L : Nat → List (Nat × Int)} {v : Nat} {hv bb : Value} {wy wz : World} (h : W2 w rb n O L v hv bb wy) (t : Turns (fun _ => False) wy wz) : W2 w rb n O L v hv bb wz := by
  obtain ⟨g, g1, g2⟩ := h.ranks
  exact ⟨owns_turns h.held t, owns_turns h.behind t, h.apart, h.hr, h.br, ⟨g, g1.turns t (fun x => x), g2⟩, h.turns.trans t⟩
set_option maxRecDepth 100000 in
set_option maxHeartbeats 4000000 in
/-- records.Write. -/
theorem recWrite_any (w : World) (ob n ocap lcap : Nat) (a : Option Addr) (D : Nat → Nat → Int) (O : List Nat) (hn1 : 1 ≤ n) (hn : n ≤ 40) (hO : Ord w ob n O) (hP : Pu.Perm n O) (hR : RdAt w a (Pu.labP D O n))
    (hF : ∀ (v i r : Nat) (f : Int), v < n → (Pu.hubK D O v n)[i]? = some (r, f) → r < n ∧ Pu.nxt 0 ((Pu.hubK D O v n).take i) ≤ r ∧ 0 ≤ f ∧ f ≤ 40000) :
    Calls Tryz.prog 25 #[.slice (some ⟨ob, 0, none⟩) n ocap, .slice a (Pu.labP D O n).length lcap] w fun e w' => e = .returned (.string ⟨(Pu.heldB O (fun v => Pu.hubK D O v n) n).toArray⟩) ∧ Turns (fun _ => False) w w' := by
  obtain ⟨i0, hi, hz0, hz1, hz2⟩ := info_parts info5
  have kc := fun (W : World) (C : Array Value) (m c : Nat) => Lib.run_convert_bytes_const (P := Tryz.prog) W 31 5 C m c Tryz.underlying31 Tryz.underlying5
  obtain ⟨ll, hll⟩ : ∃ ll, (Pu.labP D O n).length = ll := ⟨_, rfl⟩
  have HLL : Hid ((Pu.labP D O n).length = ll) := hll
  rw [hll]
  have HR : Hid (RdAt w a (Pu.labP D O n)) := hR
  have HO : Hid (Ord w ob n O) := hO
  clear hR hO hll
  go_enter Tryz.func25, Tryz.ntmps25
  go_wp2_with (at_builtin; refine wpList_append_grows _ rfl _ _ 31 rfl 5 i0 (.int .u8 0) 1 1 Tryz.underlying31 hi hz0 hz1 hz2 rfl (by decide) (some ⟨w.heap.size, 0, none⟩) 2 2 [.int .u8 98, .int .u8 119] rfl (by intro c; cases c) rfl ?_ ⟨w.heap.size + 1, 0, none⟩ 1 1 [.int .u8 (n : Int)] rfl rfl ?_ ?_ (by omega) (by unfold maxLen; omega) (by omega) ?_)
  · intro b hb j u hj
    injection hb with hb
    subst hb
    rw [addr_add]
    refine (Turns.cell (p := fun _ => False) ((Turns.refl _ (w.alloc (.cells #[.int .u8 98, .int .u8 119] 5 (2, 3)))).alloc _) (a := ⟨w.heap.size, j, none⟩) (by simp) (fun x => x)).trans ?_
    have hc : (w.alloc (.cells #[.int .u8 98, .int .u8 119] 5 (2, 3))).heap[w.heap.size]? = some (.cells #[.int .u8 98, .int .u8 119] 5 (2, 3)) := Array.getElem?_push_size
    rw [Lib.cell_of_heap hc, ← Array.getElem?_toList]
    exact hj
  · intro j u hj
    rw [addr_add]
    have := World.cell?_alloc_new (w.alloc (.cells #[.int .u8 98, .int .u8 119] 5 (2, 3))) #[.int .u8 (n : Int)] 5 j
    simp only [World.size_alloc] at this
    rw [this, ← Array.getElem?_toList]
    exact hj
  · intro u hu; simp at hu; subst hu; rfl
  intro v0 w2 hown2 hgrow2
  have hT2 : Turns (fun _ => False) w w2 := (((Turns.refl _ w).alloc _).alloc _).grown hgrow2 (fun q hq => by cases hq)
  have hs2 := hT2.size
  have hOl : O.length = n := HO.out.1
  have HH0 : Hid (w2.ownsRow w.heap.size 5 1 v0 (98 :: 119 :: UInt8.ofNat n :: (O.take 0).map UInt8.ofNat).length (bv (98 :: 119 :: UInt8.ofNat n :: (O.take 0).map UInt8.ofNat)) ∧ Turns (fun _ => False) w w2) := by
    refine ⟨?_, hT2⟩
    have e : bv (98 :: 119 :: UInt8.ofNat n :: (O.take 0).map UInt8.ofNat) = [Value.int .u8 98, .int .u8 119] ++ [.int .u8 (n : Int)] := by
      show Value.int .u8 98 :: Value.int .u8 119 :: bv [UInt8.ofNat n] = _
      rw [bv_one_ofNat (by omega)]; rfl
    rw [e]
    exact owns_mono hown2 (by omega)
  clear hown2 hgrow2 hT2
  have hmk := run_make_row' (P := Tryz.prog) 55 3 (.int .i64 0) 8 Tryz.underlying55 info3 rfl .i64 .i64 n (by omega) (by omega)
  have H1 : Hid (∃ (i : Nat) (x : Value) (wy : World) (g : Nat → Int), x = v0 ∧ Value.int .i64 0 = .int .i64 (i : Int) ∧ i ≤ n ∧ wy = w2.alloc (.cells (madeCells #[.int .i64 0] n) 3) ∧ Hid (wy.ownsRow w.heap.size 5 1 x (98 :: 119 :: UInt8.ofNat n :: (O.take i).map UInt8.ofNat).length (bv (98 :: 119 :: UInt8.ofNat n :: (O.take i).map UInt8.ofNat)) ∧ Turns (fun _ => False) w wy ∧ Ints wy w2.heap.size n g ∧ (∀ j h : Nat, j < i → O[j]? = some h → g h = j) ∧ x.ownBlock ≠ some w2.heap.size)) := by
    refine ⟨0, v0, _, fun _ => 0, rfl, rfl, Nat.zero_le _, rfl, HH0.out.1.alloc _, HH0.out.2.alloc _, Ints.made _ _ _ _, fun j h hj => by omega, fun c => ?_⟩
    have := (HH0.out.1.lt _ c).2
    omega
  clear HH0
  go_wp2
  go_loopw [5, 24] (fun xv iv wr => ∃ (i : Nat) (x : Value) (wy : World) (g : Nat → Int), x = xv ∧ iv = .int .i64 (i : Int) ∧ i ≤ n ∧ wy = wr ∧ Hid (wy.ownsRow w.heap.size 5 1 x (98 :: 119 :: UInt8.ofNat n :: (O.take i).map UInt8.ofNat).length (bv (98 :: 119 :: UInt8.ofNat n :: (O.take i).map UInt8.ofNat)) ∧ Turns (fun _ => False) w wy ∧ Ints wy w2.heap.size n g ∧ (∀ j h : Nat, j < i → O[j]? = some h → g h = j) ∧ x.ownBlock ≠ some w2.heap.size)) (fun _ iv _ => n - (intOf iv).toNat)
  case atStart => exact H1.out
  case round =>
    clear H1 hmk
    obtain ⟨i, x, wr, g, hx, rfl, hin, hwy, HI⟩ := hrel
    subst hwy hx
    by_cases hlt : i < n
    · have hii : (i : Int) < (n : Int) := by omega
      obtain ⟨m, hm⟩ : ∃ m, O[i]? = some m := ⟨_, List.getElem?_eq_getElem (by omega)⟩
      obtain ⟨hmn, hcm⟩ := HO.out.2 i m hm
      obtain ⟨o1, o2, o3, o4, o5⟩ := HI.out
      have e1 := (o2.cell (a := ⟨ob, i, none⟩) (World.block_lt_of_cell? _ _ hcm) (fun x => x)).trans hcm
      obtain ⟨l2, hl2⟩ : ∃ l2, l2 = (98 :: 119 :: UInt8.ofNat n :: (O.take i).map UInt8.ofNat) ++ [UInt8.ofNat m] := ⟨_, rfl⟩
      have HL2 : Hid (l2 = (98 :: 119 :: UInt8.ofNat n :: (O.take i).map UInt8.ofNat) ++ [UInt8.ofNat m] ∧ l2 = 98 :: 119 :: UInt8.ofNat n :: (O.take (i + 1)).map UInt8.ofNat) := by
        refine ⟨hl2, ?_⟩
        rw [hl2, List.take_add_one, hm, Option.toList_some, List.map_append]; rfl
      have HOB : Hid (OwnB wr x w.heap.size x (98 :: 119 :: UInt8.ofNat n :: (O.take i).map UInt8.ofNat) wr) := OwnB.refl o1
      have HSZ : Hid (w.heap.size ≤ wr.heap.size ∧ (98 :: 119 :: UInt8.ofNat n :: (O.take i).map UInt8.ofNat).length ≤ 200000) := by
        refine ⟨o2.size, ?_⟩
        simp; omega
      clear hl2 o1 o2 o3 o4 o5
      go_wp2_with (at_builtin; refine wpList_append_byte rfl _ _ rfl wr wr x x w.heap.size _ l2 _ m HL2.out.1 rfl (by omega) HOB.out HSZ.out.1 HSZ.out.2 rfl rfl ?_)
      intro x' w3 hB
      obtain ⟨o1, o2, o3, o4, o5⟩ := HI.out
      have hI3 : Ints w3 w2.heap.size n g := o3.turns hB.turns o5
      have d1 := hI3.cell m hmn
      have d2 := hI3.free m hmn
      have HX : Hid (∃ (i' : Nat) (y : Value) (wy : World) (g' : Nat → Int), y = x' ∧ Value.int .i64 ((i : Int) + 1) = .int .i64 (i' : Int) ∧ i' ≤ n ∧ wy = w3.setCell ⟨w2.heap.size, m, none⟩ (.int .i64 (i : Int)) ∧ Hid (wy.ownsRow w.heap.size 5 1 y (98 :: 119 :: UInt8.ofNat n :: (O.take i').map UInt8.ofNat).length (bv (98 :: 119 :: UInt8.ofNat n :: (O.take i').map UInt8.ofNat)) ∧ Turns (fun _ => False) w wy ∧ Ints wy w2.heap.size n g' ∧ (∀ j h : Nat, j < i' → O[j]? = some h → g' h = j) ∧ y.ownBlock ≠ some w2.heap.size)) := by
        have hne : x'.ownBlock ≠ some w2.heap.size := by
          intro c
          rcases hB.block _ c with h | h
          · exact o5 h
          · have := o3.lt; omega
        refine ⟨i + 1, x', _, upd g m i, rfl, by go_num, by omega, rfl, ownsRow_setCell_other (by rw [← HL2.out.2]; exact hB.own) hne _, (turns_over o2 hB.turns (fun b hb => (o1.lt b hb).1)).setCell (Or.inl hs2) _, hI3.set hmn _, ?_, hne⟩
        intro j h hj hjh
        by_cases e : j = i
        · subst e
          rw [hm] at hjh
          injection hjh with hjh
          subst hjh
          exact upd_same _ _ _
        · have hne2 : h ≠ m := by
            rintro rfl
            exact e (Pu.nodup_idx hP.nodup hjh hm)
          rw [upd_other _ _ _ _ hne2]
          exact o4 j h (by omega) hjh
      clear HI HOB HSZ HL2 hB o1 o2 o3 o4 o5 hI3 hcm e1 hm
      go_wp2
      go_roundw
      case rel => exact HX.out
      case measure => simp [intOf]; omega
    · have hii : ¬ (i : Int) < (n : Int) := by omega
      have hin2 : i = n := by omega
      obtain ⟨L, hL⟩ : ∃ L, L = fun v => Pu.hubK D O v n := ⟨_, rfl⟩
      have HW0 : Hid (W2 w w2.heap.size n O L 0 x (.slice none 0 0) wr) := by
        obtain ⟨o1, o2, o3, o4, o5⟩ := HI.out
        have e : 98 :: 119 :: UInt8.ofNat n :: (O.take i).map UInt8.ofNat = Pu.headB O ++ Pu.sizesB L 0 := by
          rw [List.take_of_length_le (by omega), Pu.headB, hOl]; simp [Pu.sizesB]
        rw [e] at o1
        exact ⟨o1, World.ownsRow_nil _ _ _ _, fun q _ c => (by cases c), o5, fun c => (by cases c), ⟨g, o3, fun j h hj => o4 j h (by have := (List.getElem?_eq_some_iff.1 hj).1; omega) hj⟩, o2⟩
      have HF : Hid (∀ (v i r : Nat) (f : Int), v < n → (L v)[i]? = some (r, f) → r < n ∧ Pu.nxt 0 ((L v).take i) ≤ r ∧ 0 ≤ f ∧ f ≤ 40000) := by rw [hL]; exact hF
      have HLF : Hid (∀ v, v < n → (Pu.labP D O n).filter (fun r => r.1 == v) = (L v).map (fun x => (v, O.getD x.1 0, x.2)) ∧ (L v).length ≤ n) := by
        intro v hv
        rw [Pu.labP_filter, if_pos hv, hOl, Pu.hubK_lab, hL]
        exact ⟨rfl, Pu.hubK_len _ _ _ _⟩
      have HE : Hid (Pu.heldB O (fun v => Pu.hubK D O v n) n = Pu.headB O ++ Pu.sizesB L n ++ Pu.labsB L n) := by rw [hL]; rfl
      have hll : ll ≤ 1600 := by
        have := Pu.labP_len D O n
        have h2 : n * O.length ≤ 40 * 40 := Nat.mul_le_mul (by omega) (by omega)
        have := HLL.out
        omega
      clear HI hL hF hin2
      go_wp2
      go_loopw [5, 9, 41] (fun xv bw vv wr => ∃ (v : Nat) (x y : Value) (wy : World), x = xv ∧ y = bw ∧ vv = .int .i64 (v : Int) ∧ v ≤ n ∧ wy = wr ∧ Hid (W2 w w2.heap.size n O L v x y wy)) (fun _ _ vv _ => n - (intOf vv).toNat)
      case atStart => exact ⟨0, x, _, wr, rfl, rfl, rfl, Nat.zero_le _, rfl, HW0.out⟩
      case round =>
        clear HW0
        obtain ⟨v, x, y, wr, hx, hy, rfl, hvn, hwy, HW⟩ := hrel
        subst hwy hx hy
        by_cases hlt : v < n
        · have hvi : (v : Int) < (n : Int) := by omega
          have hRr := HR.out.turns HW.out.turns
          have ch := hubsOf_any wr v lcap a (Pu.labP D O n) (by rw [HLL.out]; exact hll) hRr
          rw [(HLF.out v hlt).1, HLL.out] at ch
          clear hRr
          go_wp2_with fail
          refine ch.mono ?_
          rintro e w3 ⟨hT3, xh, rfl, hown3⟩
          obtain ⟨ah, chp, hxh, hRd⟩ := rdAt_own hown3
          rw [List.length_map] at hxh
          subst hxh
          have HW3 : Hid (W2 w w2.heap.size n O L v x y w3) := HW.out.then hT3
          have cl := writeLabel_any w3 w2.heap.size n n chp v ah (L v) (fun r => O.getD r 0) (by have := (HLF.out v hlt).2; omega) hn hRd (fun i r f h => HF.out v i r f hlt h) (by
            intro i r f h
            obtain ⟨f1, _⟩ := HF.out v i r f hlt h
            obtain ⟨g, g1, g2⟩ := HW3.out.ranks
            obtain ⟨m, hm⟩ : ∃ m, O[r]? = some m := ⟨_, List.getElem?_eq_getElem (by omega)⟩
            have hmn := hP.lt m (List.mem_of_getElem? hm)
            have e : O.getD r 0 = m := by rw [List.getD_eq_getElem?_getD, hm]; rfl
            simp only [e]
            exact ⟨hmn, by rw [g1.cell m hmn, g2 r m hm]⟩)
          clear ch hown3 hRd hT3 HW
          go_wp2_with fail
          refine cl.mono ?_
          rintro e w4 ⟨xl, rfl, hB4⟩
          have HB4 : Hid (OwnB w3 (.slice none 0 0) w3.heap.size xl (Pu.labB (L v)) w4) := hB4
          have HW4 : Hid (W2 w w2.heap.size n O L v x y w4) := HW3.out.then hB4.turns0
          have hlb := Pu.labB_len (L v)
          have hlb2 := (HLF.out v hlt).2
          have hl0 := (Pu.countB_len (L v).length).1
          have hl1 : 1 ≤ (Pu.labB (L v)).length := by rw [Pu.labB, List.length_append]; omega
          obtain ⟨m, hm⟩ : ∃ m, (Pu.labB (L v)).length = m + 1 := ⟨(Pu.labB (L v)).length - 1, by omega⟩
          have hB4o := hB4.own
          rw [hm] at hB4o
          obtain ⟨gl, cpl, hxl⟩ := owns_form hB4o
          subst hxl
          have hglb : w3.heap.size ≤ gl := by
            rcases hB4.block gl rfl with c | c
            · cases c
            · exact c
          have hgll : gl < w4.heap.size := (hB4.own.lt gl rfl).2
          have ca := cappend_any x (m + 1) w.heap.size (Pu.headB O ++ Pu.sizesB L v) w4 HW4.out.held HW4.out.turns.size (by
            rw [List.length_append, Pu.headB_len]
            have := Pu.sizesB_len L v
            omega) (by omega)
          have HXB : Hid (∀ b, x.ownBlock = some b → b < w3.heap.size) := fun b hb => (HW3.out.held.lt b hb).2
          have HYB : Hid (∀ b, y.ownBlock = some b → b < w3.heap.size) := fun b hb => (HW3.out.behind.lt b hb).2
          clear cl hB4 hB4o HW3
          go_wp2_with fail
          refine ca.mono ?_
          rintro e w5 ⟨x5, rfl, hB5⟩
          have hs5 := hB5.turns.size
          have hcells5 : ∀ (j : Nat) (b : UInt8), (Pu.labB (L v))[j]? = some b → w5.cell? ((⟨gl, 0, none⟩ : Addr).add j) = some (.int .u8 (b.toNat : Int)) := by
            intro j b hj
            rw [addr_add]
            refine (hB5.turns.cell (a := ⟨gl, j, none⟩) hgll ?_).trans ?_
            · intro c
              have : gl < w3.heap.size := HXB.out gl c
              omega
            · have := HB4.out.own.cells (g := gl) (by rw [← hm]; rfl) j (.int .u8 (b.toNat : Int)) (by rw [bv, List.getElem?_map, hj]; rfl)
              rwa [addr_add] at this
          have HB5 : Hid (OwnB w4 x w.heap.size x5 (Pu.headB O ++ Pu.sizesB L v ++ Pu.countB (m + 1)) w5) := hB5
          have HY5 : Hid (OwnB w5 y w.heap.size y (Pu.labsB L v) w5) := OwnB.refl (owns_over HW4.out.behind hB5.turns (fun b hb c => HW4.out.apart b c hb))
          have HS5 : Hid (w.heap.size ≤ w5.heap.size ∧ (Pu.labsB L v).length + (m + 1) ≤ 200000) := by
            refine ⟨Nat.le_trans HW4.out.turns.size hs5, ?_⟩
            have := Pu.labsB_len L n v (fun u hu => (HLF.out u (by omega)).2)
            have h2 : (3 + 6 * n) * v ≤ 243 * 40 := Nat.mul_le_mul (by omega) (by omega)
            omega
          have HC5 : Hid (∀ (j : Nat) (b : UInt8), (Pu.labB (L v))[j]? = some b → w5.cell? ((⟨gl, 0, none⟩ : Addr).add j) = some (.int .u8 (b.toNat : Int))) := hcells5
          have HM : Hid ((Pu.labB (L v)).length = m + 1) := hm
          obtain ⟨l2, hl2⟩ : ∃ l2, l2 = Pu.labsB L v ++ Pu.labB (L v) := ⟨_, rfl⟩
          have HL2 : Hid (l2 = Pu.labsB L v ++ Pu.labB (L v)) := hl2
          clear ca hB5 hcells5 hm hl2
          go_wp2_with (at_builtin; refine wpList_append_bytes rfl _ _ rfl w5 w5 y y w.heap.size (Pu.labsB L v) (Pu.labB (L v)) l2 ⟨gl, 0, none⟩ (m + 1) cpl HL2.out HM.out HC5.out HY5.out HS5.out.1 HS5.out.2 rfl rfl ?_)
          intro y6 w6 hB6
          have HX : Hid (W2 w w2.heap.size n O L (v + 1) x5 y6 w6) := by
            obtain ⟨g, g1, g2⟩ := HW4.out.ranks
            have b5 := HB5.out
            have i5 : Ints w5 w2.heap.size n g := g1.turns b5.turns HW4.out.hr
            have i6 : Ints w6 w2.heap.size n g := i5.turns hB6.turns HW4.out.br
            have t5 : Turns (fun _ => False) w w5 := turns_over HW4.out.turns b5.turns (fun b hb => (HW4.out.held.lt b hb).1)
            have t6 : Turns (fun _ => False) w w6 := turns_over t5 hB6.turns (fun b hb => (HW4.out.behind.lt b hb).1)
            have ap : ∀ q, x5.ownBlock = some q → y.ownBlock ≠ some q := by
              intro q hq c
              rcases b5.block q hq with h | h
              · exact HW4.out.apart q h c
              · have := HYB.out q c
                omega
            refine ⟨?_, ?_, ?_, ?_, ?_, ⟨g, i6, g2⟩, t6⟩
            · rw [Pu.sizesB, HM.out, ← List.append_assoc]
              exact owns_over b5.own hB6.turns (fun b hb c => ap b hb c)
            · rw [Pu.labsB, ← HL2.out]; exact hB6.own
            · intro q hq c
              rcases hB6.block q c with h | h
              · exact ap q hq h
              · have := (b5.own.lt q hq).2
                omega
            · intro c
              rcases b5.block _ c with h | h
              · exact HW4.out.hr h
              · have := g1.lt; omega
            · intro c
              rcases hB6.block _ c with h | h
              · exact HW4.out.br h
              · have := i5.lt; omega
          clear hB6 HB5 HY5 HS5 HC5 HM HL2 HW4 HB4 HXB HYB
          go_wp2
          go_roundw
          case rel => exact ⟨v + 1, x5, y6, w6, rfl, rfl, by go_num, by omega, rfl, HX.out⟩
          case measure => simp [intOf]; omega
        · have hvi : ¬ (v : Int) < (n : Int) := by omega
          have hvn2 : v = n := by omega
          have HV : Hid (W2 w w2.heap.size n O L n x y wr) := hvn2 ▸ HW.out
          clear HW hvn2
          obtain ⟨M, hM⟩ : ∃ M, (Pu.labsB L n).length = M + 1 := by
            obtain ⟨k, rfl⟩ : ∃ k, n = k + 1 := ⟨n - 1, by omega⟩
            refine ⟨(Pu.labsB L (k + 1)).length - 1, ?_⟩
            have := (Pu.countB_len (L k).length).1
            rw [Pu.labsB, Pu.labB, List.length_append, List.length_append]
            omega
          have hyo := HV.out.behind
          rw [hM] at hyo
          obtain ⟨gy, cy, hy⟩ := owns_form hyo
          subst hy
          have HC : Hid (∀ (j : Nat) (b : UInt8), (Pu.labsB L n)[j]? = some b → wr.cell? ((⟨gy, 0, none⟩ : Addr).add j) = some (.int .u8 (b.toNat : Int))) := by
            intro j b hj
            exact HV.out.behind.cells (g := gy) (by rw [← hM]; rfl) j (.int .u8 (b.toNat : Int)) (by rw [bv, List.getElem?_map, hj]; rfl)
          have HM : Hid ((Pu.labsB L n).length = M + 1) := hM
          have HOB : Hid (OwnB wr x w.heap.size x (Pu.headB O ++ Pu.sizesB L n) wr) := OwnB.refl HV.out.held
          have HS : Hid (w.heap.size ≤ wr.heap.size ∧ (Pu.headB O ++ Pu.sizesB L n).length + (M + 1) ≤ 200000) := by
            refine ⟨HV.out.turns.size, ?_⟩
            have := Pu.labsB_len L n n (fun u hu => (HLF.out u hu).2)
            have h2 : (3 + 6 * n) * n ≤ 243 * 40 := Nat.mul_le_mul (by omega) (by omega)
            have h3 := Pu.sizesB_len L n
            rw [List.length_append, Pu.headB_len]
            omega
          obtain ⟨l2, hl2⟩ : ∃ l2, l2 = Pu.headB O ++ Pu.sizesB L n ++ Pu.labsB L n := ⟨_, rfl⟩
          have HL2 : Hid (l2 = Pu.headB O ++ Pu.sizesB L n ++ Pu.labsB L n) := hl2
          clear hl2 hM hyo
          go_wp2_with (at_builtin; refine wpList_append_bytes rfl _ _ rfl wr wr x x w.heap.size (Pu.headB O ++ Pu.sizesB L n) (Pu.labsB L n) l2 ⟨gy, 0, none⟩ (M + 1) cy HL2.out HM.out HC.out HOB.out HS.out.1 HS.out.2 rfl rfl ?_)
          intro x6 w6 hB6
          have hB6o := hB6.own
          obtain ⟨m2, hm2⟩ : ∃ m2, l2.length = m2 + 1 := ⟨l2.length - 1, by
            have := HM.out
            rw [HL2.out, List.length_append]; omega⟩
          rw [hm2] at hB6o
          obtain ⟨g6, c6, hx6⟩ := owns_form hB6o
          subst hx6
          have hcv : (convert 31 9 (.slice (some ⟨g6, 0, none⟩) (m2 + 1) c6)).run Tryz.prog w6 = .ok (.string ⟨l2.toArray⟩) w6 := by
            rw [← hm2]
            refine run_convert_bytes_back w6 31 9 5 ⟨g6, 0, none⟩ c6 l2 Tryz.underlying31 Tryz.underlying5 Tryz.underlying9 ?_
            intro j hj
            exact hB6.own.cells (g := g6) (by rw [← hm2]; rfl) j (.int .u8 (l2[j].toNat : Int)) (by rw [bv, List.getElem?_map, List.getElem?_eq_getElem hj]; rfl)
          have HT6 : Hid (Turns (fun _ => False) w w6) := turns_over HV.out.turns hB6.turns (fun b hb => (HV.out.held.lt b hb).1)
          have HE2 : Hid (l2 = Pu.heldB O (fun v => Pu.hubK D O v n) n) := HL2.out.trans HE.out.symm
          clear hB6 hB6o HOB HS HC HV HM HL2 HE
          go_wp2
          exact bodyPost_ret (v := .string ⟨l2.toArray⟩) (by simp [results, Tryz.results25, go_sem]) rfl ⟨by rw [HE2.out], HT6.out⟩
#print axioms recWrite_any
end Go.Proofs.YtdogncjcainhlaaGreatDoor
/- The library's contract of slices.SortFunc, laid at this translation. -/
namespace Go.Proofs.YtdogncjcainhlaaGreatDoor
open Go.Shelf Go.Lib Go.RowKit Go.Sort
def sortInt_ren : Go.Shelf.Ren := ⟨fun | 6 => 141 | 15 => 87 | 14 => 169 | 28 => 138 | 29 => 139 | 20 => 187 | 21 => 188 | 22 => 189 | 23 => 190 | 24 => 191 | 25 => 192 | 26 => 193 | 27 => 194 | 46 => 201 | 47 => 165 | 48 => 166 | 49 => 202 | 50 => 203 | 57 => 206 | n => n, fun | 22 => 55 | 24 => 3 | 25 => 32 | 3 => 3 | 39 => 194 | 0 => 0 | 53 => 88 | 55 => 244 | 4 => 4 | 46 => 237 | 45 => 236 | 50 => 174 | 5 => 5 | 9 => 9 | 66 => 265 | 70 => 269 | 76 => 285 | 77 => 167 | n => n, fun | n => n⟩
theorem sortInt : Go.Proofs.SlLaysF.n6 Tryz.prog sortInt_ren := {
  mixed := by kernel_rfl
  f6 := ⟨Tryz.f141.name, by decide, Tryz.func141.trans (congrArg some (by kernel_rfl))⟩
  f14 := ⟨Tryz.f169.name, by decide, Tryz.func169.trans (congrArg some (by kernel_rfl))⟩
  f15 := Tryz.func87.trans (congrArg some (by kernel_rfl))
  f20 := ⟨Tryz.f187.name, by decide, Tryz.func187.trans (congrArg some (by kernel_rfl))⟩
  f21 := ⟨Tryz.f188.name, by decide, Tryz.func188.trans (congrArg some (by kernel_rfl))⟩
  f22 := ⟨Tryz.f189.name, by decide, Tryz.func189.trans (congrArg some (by kernel_rfl))⟩
  f23 := ⟨Tryz.f190.name, by decide, Tryz.func190.trans (congrArg some (by kernel_rfl))⟩
  f24 := ⟨Tryz.f191.name, by decide, Tryz.func191.trans (congrArg some (by kernel_rfl))⟩
  f25 := ⟨Tryz.f192.name, by decide, Tryz.func192.trans (congrArg some (by kernel_rfl))⟩
  f26 := ⟨Tryz.f193.name, by decide, Tryz.func193.trans (congrArg some (by kernel_rfl))⟩
  f27 := ⟨Tryz.f194.name, by decide, Tryz.func194.trans (congrArg some (by kernel_rfl))⟩
  f28 := Tryz.func138.trans (congrArg some (by kernel_rfl))
  f29 := Tryz.func139.trans (congrArg some (by kernel_rfl))
  f46 := ⟨Tryz.f201.name, by decide, Tryz.func201.trans (congrArg some (by kernel_rfl))⟩
  f47 := Tryz.func165.trans (congrArg some (by kernel_rfl))
  f48 := Tryz.func166.trans (congrArg some (by kernel_rfl))
  f49 := ⟨Tryz.f202.name, by decide, Tryz.func202.trans (congrArg some (by kernel_rfl))⟩
  f50 := ⟨Tryz.f203.name, by decide, Tryz.func203.trans (congrArg some (by kernel_rfl))⟩
  f57 := ⟨Tryz.f206.name, by decide, Tryz.func206.trans (congrArg some (by kernel_rfl))⟩
  t0 := Tryz.underlying0
  a0 := Tryz.isAgg0
  z0 := Tryz.sizeOf0
  v0 := Tryz.zeroValue0
  t3 := Tryz.underlying3
  a3 := Tryz.isAgg3
  z3 := Tryz.sizeOf3
  v3 := Tryz.zeroValue3
  t4 := Tryz.underlying4
  a4 := Tryz.isAgg4
  z4 := Tryz.sizeOf4
  v4 := Tryz.zeroValue4
  t5 := Tryz.underlying5
  a5 := Tryz.isAgg5
  z5 := Tryz.sizeOf5
  v5 := Tryz.zeroValue5
  t9 := Tryz.underlying9
  a9 := Tryz.isAgg9
  z9 := Tryz.sizeOf9
  v9 := Tryz.zeroValue9
  t22 := Tryz.underlying55
  a22 := Tryz.isAgg55
  z22 := Tryz.sizeOf55
  v22 := Tryz.zeroValue55
  a24 := Tryz.isAgg3
  z24 := Tryz.sizeOf3
  t25 := Tryz.underlying32
  a25 := Tryz.isAgg32
  z25 := Tryz.sizeOf32
  v25 := Tryz.zeroValue32
  t39 := Tryz.underlying194
  a39 := Tryz.isAgg194
  z39 := Tryz.sizeOf194
  v39 := Tryz.zeroValue194
  t45 := Tryz.underlying236
  a45 := Tryz.isAgg236
  z45 := Tryz.sizeOf236
  v45 := Tryz.zeroValue236
  t46 := Tryz.underlying237
  a46 := Tryz.isAgg237
  z46 := Tryz.sizeOf237
  v46 := Tryz.zeroValue237
  t50 := Tryz.underlying174
  a50 := Tryz.isAgg174
  z50 := Tryz.sizeOf174
  v50 := Tryz.zeroValue174
  t53 := Tryz.underlying88
  a53 := Tryz.isAgg88
  z53 := Tryz.sizeOf88
  v53 := Tryz.zeroValue88
  t55 := Tryz.underlying244
  a55 := Tryz.isAgg244
  z55 := Tryz.sizeOf244
  v55 := Tryz.zeroValue244
  t66 := Tryz.underlying265
  a66 := Tryz.isAgg265
  z66 := Tryz.sizeOf265
  v66 := Tryz.zeroValue265
  t70 := Tryz.underlying269
  a70 := Tryz.isAgg269
  z70 := Tryz.sizeOf269
  v70 := Tryz.zeroValue269
  t76 := Tryz.underlying285
  a76 := Tryz.isAgg285
  z76 := Tryz.sizeOf285
  v76 := Tryz.zeroValue285
  t77 := Tryz.underlying167
  a77 := Tryz.isAgg167
  z77 := Tryz.sizeOf167
  v77 := Tryz.zeroValue167 }
theorem slices_SortFunc_int {α : Type} [Inhabited α] (enc : α → Value) (h1 : OneCell enc) (cf : α → α → Int) (hO : SWO (ltOf cf)) (g : Nat) (cb : Array Value) (blk off cap : Nat) (d : Array α) (w : World)
    (eg : ∀ args w, (callFunc g args).run Tryz.prog w = .ok (.enter g args) w) (hcmp : CmpLays1 Tryz.prog g cb enc cf blk off d.size w) (hH : Holds enc w blk off d) (hblk : blk < w.heap.size) (hsz : d.size < 4611686018427387904) :
    Calls Tryz.prog 141 #[.slice (some ⟨blk, off, none⟩) d.size cap, .func (.func g) #[] cb] w fun e w' =>
      e = .returned (.tuple #[]) ∧ ∃ d' n os, PermIn 0 d.size d d' ∧ SortedIn (ltOf cf) 0 d.size d' ∧ w' = sortWorld enc w blk off n d' os := Any.slices_SortFunc sortInt enc h1 cf hO g cb blk off cap d w eg hcmp hH hblk hsz
#print axioms slices_SortFunc_int
end Go.Proofs.YtdogncjcainhlaaGreatDoor
/- The walks of cmp.Compare and cmp.Or at int. -/
namespace Go.Proofs.YtdogncjcainhlaaGreatDoor
open Go.RowKit
open Mem

namespace Pu
/-- The sign by which two numbers stand to each other. -/
def sgn (x y : Int) : Int := if x < y then -1 else if y < x then 1 else 0
/-- The first that is not 0. -/
def or2 (a b : Int) : Int := if a = 0 then b else a
end Pu

theorem isNaN_any (x : Int) (w : World) : Calls Tryz.prog 88 #[.int .i64 x] w fun e w' => e = .returned (.bool false) ∧ w' = w := by
  have h : (x != x) = false := by simp
  go_enter Tryz.func88, Tryz.ntmps88
  go_wp2
  go_ret
  exact ⟨by simp, rfl⟩
set_option maxRecDepth 100000 in
set_option maxHeartbeats 400000 in
theorem compare_any (x y : Int) (w : World) : Calls Tryz.prog 52 #[.int .i64 x, .int .i64 y] w fun e w' => e = .returned (.int .i64 (Pu.sgn x y)) ∧ w' = w := by
  have k1 := fun w => isNaN_any x w
  have k2 := fun w => isNaN_any y w
  by_cases h1 : x < y
  · have e : Pu.sgn x y = -1 := by unfold Pu.sgn; rw [if_pos h1]
    rw [e]
    clear e
    go_enter Tryz.func52, Tryz.ntmps52
    go_wp2_with (go_at_call 88; first | (refine (k1 _).mono ?_; rintro e w1 ⟨rfl, rfl⟩) | (refine (k2 _).mono ?_; rintro e w2 ⟨rfl, rfl⟩))
    go_ret
    exact ⟨rfl, rfl⟩
  · by_cases h2 : y < x
    · have e : Pu.sgn x y = 1 := by unfold Pu.sgn; rw [if_neg h1, if_pos h2]
      rw [e]
      clear e
      go_enter Tryz.func52, Tryz.ntmps52
      go_wp2_with (go_at_call 88; first | (refine (k1 _).mono ?_; rintro e w1 ⟨rfl, rfl⟩) | (refine (k2 _).mono ?_; rintro e w2 ⟨rfl, rfl⟩))
      go_ret
      exact ⟨rfl, rfl⟩
    · have e : Pu.sgn x y = 0 := by unfold Pu.sgn; rw [if_neg h1, if_neg h2]
      rw [e]
      clear e
      go_enter Tryz.func52, Tryz.ntmps52
      go_wp2_with (go_at_call 88; first | (refine (k1 _).mono ?_; rintro e w1 ⟨rfl, rfl⟩) | (refine (k2 _).mono ?_; rintro e w2 ⟨rfl, rfl⟩))
      go_ret
      exact ⟨rfl, rfl⟩
set_option maxHeartbeats 400000 in
theorem or_any (a b : Int) (g : Nat) (w : World) (c0 : w.cell? ⟨g, 0, none⟩ = some (.int .i64 a)) (c1 : w.cell? ⟨g, 1, none⟩ = some (.int .i64 b)) : Calls Tryz.prog 51 #[.slice (some ⟨g, 0, none⟩) 2 2] w fun e w' => e = .returned (.int .i64 (Pu.or2 a b)) ∧ w' = w := by
  obtain ⟨r, hr⟩ : ∃ r, Pu.or2 a b = r := ⟨_, rfl⟩
  have HR : Hid (Pu.or2 a b = r) := hr
  rw [hr]
  clear hr
  go_enter Tryz.func51, Tryz.ntmps51
  go_wp2
  go_loopw [8] (fun iv wr => wr = w ∧ (iv = .int .i64 0 ∨ (iv = .int .i64 1 ∧ a = 0) ∨ (iv = .int .i64 2 ∧ a = 0 ∧ b = 0))) (fun iv _ => 2 - (intOf iv).toNat)
  case atStart => exact ⟨rfl, Or.inl rfl⟩
  case round =>
    obtain ⟨hw, h⟩ := hrel
    subst hw
    rcases h with rfl | ⟨rfl, ha⟩ | ⟨rfl, ha, hb⟩
    · by_cases h : a = 0
      · have hb : (a != 0) = false := by simp [h]
        go_wp2
        go_roundw
        case measure => simp [intOf]
        case rel => exact ⟨by first | rfl | trivial, Or.inr (Or.inl ⟨rfl, h⟩)⟩
      · have hb : (a != 0) = true := by simp [h]
        have e : r = a := by rw [← HR.out]; unfold Pu.or2; rw [if_neg h]
        subst e
        clear HR
        go_wp2
        go_ret
        exact ⟨rfl, rfl⟩
    · by_cases h : b = 0
      · have hb : (b != 0) = false := by simp [h]
        go_wp2
        go_roundw
        case measure => simp [intOf]
        case rel => exact ⟨by first | rfl | trivial, Or.inr (Or.inr ⟨rfl, ha, h⟩)⟩
      · have hb : (b != 0) = true := by simp [h]
        have e : r = b := by rw [← HR.out]; unfold Pu.or2; rw [if_pos ha]
        subst e
        clear HR
        go_wp2
        go_ret
        exact ⟨rfl, rfl⟩
    · have e : r = 0 := by rw [← HR.out]; unfold Pu.or2; rw [if_pos ha]; exact hb
      subst e
      clear HR
      go_wp2
      go_ret
      exact ⟨rfl, rfl⟩
theorem run_index81 (cs : List Value) (k : Nat) (x : Int) (hk : k < 40) (hx : cs[k]? = some (.int .i64 x)) (W : World) : (Instr.index 182 (.agg cs.toArray) (.int .i64 (k : Int))).run Tryz.prog W = .ok (.int .i64 x) W := by
  have hu : Tryz.prog.underlying 182 = some (.array 40 3) := Tryz.underlying182
  simp [Instr.index, run_underlying hu, asIntOf, go_sem, part, Tryz.sizeOf3, Tryz.isAgg3, hx]
  omega
theorem info81 : (Tryz.prog.info? 182).map (·.size) = some 40 := by kernel_rfl
set_option maxHeartbeats 400000 in
set_option maxRecDepth 100000 in
theorem count_any (w : World) (b n v : Nat) (R : Int) (len : Nat → Nat → Int) (hn : n ≤ 40) (hv : v < n) (hM : MapAt w b n R len) (N : Pu.Net n len) : Calls Tryz.prog 140 #[.pointer (some ⟨b, 0, none⟩), .int .i64 v] w fun e w' => e = .returned (.int .i64 (Pu.rowCnt len v n : Nat)) ∧ w' = w := by
  obtain ⟨cs, hcs, hcl, hcg⟩ : ∃ cs : List Value, w.rangeAt b (2 + v * 40) cs ∧ cs.length = 40 ∧ ∀ j, j < 40 → cs[j]? = some (.int .i64 (len v j)) := by
    refine ⟨(List.range 40).map fun j => .int .i64 (len v j), fun j x hx => ?_, by simp, fun j hj => by simp [hj]⟩
    have hj : j < 40 := by have := (List.getElem?_eq_some_iff.1 hx).1; simpa using this
    have := hM.cell v j (by omega) hj
    simp [hj] at hx
    rw [← hx]; exact this
  have hi81 : (Tryz.prog.info? 182).map (·.size) = some cs.length := by rw [hcl]; exact info81
  have HG : Hid (∀ j, j < 40 → cs[j]? = some (.int .i64 (len v j))) := hcg
  have HN : Hid (∀ k, n ≤ k → Pu.rowCnt len v k = Pu.rowCnt len v n) := by
    intro k hk
    induction k with
    | zero => have : n = 0 := by omega
              rw [this]
    | succ k ih =>
      by_cases e : n = k + 1
      · rw [e]
      · have h0 : len v k = 0 := by
          by_cases c : len v k = 0
          · exact c
          · have := N.out v k c; omega
        rw [Pu.rowCnt, if_neg (by omega), ih (by omega)]; rfl
  have hR := fun j => N.lens.rng v j
  obtain ⟨tot, htot⟩ : ∃ tot, Pu.rowCnt len v n = tot := ⟨_, rfl⟩
  have HTOT : Hid (Pu.rowCnt len v n = tot) := htot
  rw [htot]
  clear htot hcg hM N
  go_enter Tryz.func140, Tryz.ntmps140
  go_wp2_with (refine wpList_load_mid rfl 182 _ rfl b (2 + v * 40) rfl cs _ hcs Tryz.underlying182 rfl hi81 ?_)
  clear hi81 hcs
  go_loopw [5, 14] (fun cv iv wr => ∃ k : Nat, k ≤ 40 ∧ iv = .int .i64 k ∧ cv = .int .i64 (Pu.rowCnt len v k : Nat) ∧ wr = w) (fun _ iv _ => 40 - (intOf iv).toNat)
  case atStart => exact ⟨0, by omega, rfl, rfl, rfl⟩
  case round =>
    obtain ⟨k, hk, rfl, rfl, hw⟩ := hrel
    subst hw
    have hcb : Pu.rowCnt len v k ≤ k := by
      have aux : ∀ k, Pu.rowCnt len v k ≤ k := fun k => by
        induction k with
        | zero => exact Nat.le_refl _
        | succ k ih => rw [Pu.rowCnt]; split <;> omega
      exact aux k
    by_cases hk4 : k < 40
    · have hki : (k : Int) < 40 := by omega
      have hck0 := HG.out k hk4
      have hrk := hR k
      have HC : Hid (Pu.rowCnt len v (k + 1) = Pu.rowCnt len v k + if 0 < len v k then 1 else 0) := rfl
      obtain ⟨c, hc⟩ : ∃ c, Pu.rowCnt len v k = c := ⟨_, rfl⟩
      obtain ⟨x, hx⟩ : ∃ x, len v k = x := ⟨_, rfl⟩
      rw [hc, hx] at HC
      rw [hc] at hcb ⊢
      rw [hx] at hck0 hrk
      have hck := fun W => run_index81 cs k x hk4 hck0 W
      clear hc hx hR hck0
      by_cases h0 : x = 0
      · have hb : (x != 0) = false := by simp [h0]
        go_wp2
        go_roundw
        case measure => simp [intOf]; omega
        case rel => exact ⟨k + 1, by omega, by go_num, by rw [HC.out, if_neg (by omega)]; rfl, by first | rfl | trivial⟩
      · have hb : (x != 0) = true := by simp [h0]
        go_wp2
        go_roundw
        case measure => simp [intOf]; omega
        case rel => exact ⟨k + 1, by omega, by go_num, by rw [HC.out, if_pos (by omega)]; go_num, by first | rfl | trivial⟩
    · have hke : k = 40 := by omega
      subst hke
      rw [HN.out 40 hn, HTOT.out] at hcb ⊢
      clear hR
      go_wp2
      go_ret
      exact ⟨rfl, rfl⟩
#print axioms count_any
end Go.Proofs.YtdogncjcainhlaaGreatDoor
/- The walk of ranks.byRoads. -/
namespace Go.Proofs.YtdogncjcainhlaaGreatDoor
open Go.RowKit Go.Deep
open Mem

namespace Pu
/-- What the closure makes of two places. -/
def byCmp (d : Nat → Nat) (a b : Nat) : Int := or2 (sgn (d b) (d a)) (sgn a b)
theorem byCmp_lt (d : Nat → Nat) (a b : Nat) : byCmp d a b < 0 ↔ Above d a b := by
  unfold byCmp or2 sgn Above
  repeat' split
  all_goals omega
end Pu

theorem alloc_drew_grow (W : World) (o : Obj) : (W.alloc o).drew = Sort.grow (W.drewN 1) #[o] := by
  unfold Sort.grow
  show (W.alloc o).drew = { W.drewN 1 with heap := W.heap ++ #[o] }
  rw [← Array.push_eq_append]
  rfl
set_option maxRecDepth 100000 in
set_option maxHeartbeats 400000 in
theorem closure_any (W : World) (rb rg n a b : Nat) (da db : Int) (ha : a < n) (hb : b < n) (c0 : W.cell? ⟨rb, 0, none⟩ = some (.slice (some ⟨rg, 0, none⟩) n n)) (ca : W.cell? ⟨rg, a, none⟩ = some (.int .i64 da)) (cb : W.cell? ⟨rg, b, none⟩ = some (.int .i64 db)) :
    Calls Tryz.prog 142 #[.int .i64 a, .int .i64 b, .pointer (some ⟨rb, 0, none⟩)] W fun e w' => e = .returned (.int .i64 (Pu.or2 (Pu.sgn db da) (Pu.sgn a b))) ∧ ∃ q os', w' = Sort.grow (W.drewN q) os' := by
  have hai : (a : Int) < (n : Int) := by omega
  have hbi : (b : Int) < (n : Int) := by omega
  have K3 : Calls Tryz.prog 51 #[.slice (some ⟨W.heap.size, 0, none⟩) 2 2] (W.alloc (.cells #[.int .i64 (Pu.sgn db da), .int .i64 (Pu.sgn a b)] 3)).drew fun e w' => e = .returned (.int .i64 (Pu.or2 (Pu.sgn db da) (Pu.sgn a b))) ∧ w' = (W.alloc (.cells #[.int .i64 (Pu.sgn db da), .int .i64 (Pu.sgn a b)] 3)).drew :=
    or_any _ _ _ _ (by show (W.alloc _).cell? _ = _; rw [World.cell?_alloc_new]; rfl) (by show (W.alloc _).cell? _ = _; rw [World.cell?_alloc_new]; rfl)
  go_enter Tryz.func142, Tryz.ntmps142
  go_wp2_with fail
  go_region_held3 (fun w' => w'.cell? ⟨rb, 0, none⟩ = some (.slice (some ⟨rg, 0, none⟩) n n) ∧ w'.cell? ⟨rg, a, none⟩ = some (.int .i64 da) ∧ w'.cell? ⟨rg, b, none⟩ = some (.int .i64 db)) (go_keep)
    (first
      | (go_at_call 52; refine (compare_any _ _ _).mono ?_; rintro e1 w1 ⟨rfl, hw1⟩; subst hw1)
      | (go_at_call 51; refine K3.mono ?_; rintro e1 w1 ⟨rfl, hw1⟩; subst hw1))
  all_goals clear K3
  all_goals go_wp2
  all_goals go_ret
  all_goals exact ⟨rfl, 1, #[.cells #[.int .i64 (Pu.sgn db da), .int .i64 (Pu.sgn a b)] 3], alloc_drew_grow W _⟩
#print axioms closure_any
end Go.Proofs.YtdogncjcainhlaaGreatDoor
/- The places, sorted by their roads: slices.SortFunc with byRoads' closure. -/
namespace Go.Proofs.YtdogncjcainhlaaGreatDoor
open Go.RowKit Go.Deep
open Mem

theorem grow_turns (w : World) (os : Array Obj) : Turns (fun _ => False) w (Sort.grow w os) :=
  ⟨rfl, rfl, rfl, by simp [Sort.grow], fun k hk _ => by
    show (w.heap ++ os)[k]? = w.heap[k]?
    rw [Array.getElem?_append_left hk]⟩
theorem putRow_turns {α : Type} [Inhabited α] (enc : α → Value) (w : World) (blk off : Nat) (d : Array α) : Turns (fun k => k = blk) w (Sort.putRow enc w blk off d) :=
  ⟨rfl, rfl, rfl, by simp, fun k _ hp => by
    show (w.heap.modify blk _)[k]? = w.heap[k]?
    rw [Array.getElem?_modify, if_neg (fun c => hp c.symm)]⟩
theorem sortWorld_turns {α : Type} [Inhabited α] (enc : α → Value) (w : World) (blk off m : Nat) (d : Array α) (os : Array Obj) : Turns (fun k => k = blk) w (sortWorld enc w blk off m d os) := by
  have h0 : Turns (fun k => k = blk) w (Sort.ahead w m) := ⟨rfl, rfl, rfl, Nat.le_refl _, fun _ _ _ => rfl⟩
  exact (h0.trans (putRow_turns enc _ blk off d)).trans ((grow_turns _ os).mono (fun _ _ h => h.elim))

namespace Pu
/-- The closure's order, on the places. -/
def finCmp (d : Nat → Nat) (n : Nat) (a b : Fin n) : Int := byCmp d a.val b.val
theorem finCmp_lt (d : Nat → Nat) (n : Nat) (a b : Fin n) : ltOf (finCmp d n) a b = true ↔ Above d a.val b.val := by
  unfold ltOf finCmp
  rw [decide_eq_true_iff]
  exact byCmp_lt d a.val b.val
theorem finCmp_no (d : Nat → Nat) (n : Nat) (a b : Fin n) : ltOf (finCmp d n) a b = false ↔ ¬ Above d a.val b.val := by
  rw [← finCmp_lt, Bool.not_eq_true]
theorem finCmp_swo (d : Nat → Nat) (n : Nat) : Sort.SWO (ltOf (finCmp d n)) := {
  irrefl := fun x => by rw [finCmp_no]; unfold Above; omega
  trans := fun x y z h1 h2 => by rw [finCmp_lt] at *; unfold Above at *; omega
  ntrans := fun x y z h1 h2 => by rw [finCmp_no] at *; unfold Above at *; omega }
/-- A permutation of the places, none later above an earlier: the order by roads. -/
theorem sorted_ranked {n : Nat} [Inhabited (Fin n)] {d : Nat → Nat} (hd : ∀ x, x < n → d x ≤ n) {D' : Array (Fin n)} (hp : Sort.PermIn 0 n (Array.ofFn (n := n) id) D') (hs : Sort.SortedIn (ltOf (finCmp d n)) 0 n D') : D'.size = n ∧ D'.toList.map Fin.val = ranked d n := by
  obtain ⟨h1, _, h3⟩ := hp
  have hsz : D'.size = n := by rw [h1]; simp
  have e1 : D'.extract 0 n = D' := by
    have := Array.extract_size (xs := D')
    rwa [hsz] at this
  have e2 : (Array.ofFn (n := n) id).extract 0 n = Array.ofFn (n := n) id := by
    simp
  rw [e1, e2] at h3
  have hnd : D'.toList.Nodup := h3.symm.nodup (List.pairwise_iff_getElem.2 (fun i j hi hj hij c => by simp at c; omega))
  refine ⟨hsz, ranked_one hd ?_ ?_⟩
  · rw [List.pairwise_map, List.pairwise_iff_getElem]
    intro i j hi hj hij
    have hi' : i < D'.size := by simpa using hi
    have hj' : j < D'.size := by simpa using hj
    have := hs i j (Nat.zero_le _) hij (by omega)
    rw [finCmp_no, getElem!_pos D' i hi', getElem!_pos D' j hj'] at this
    have hne : D'.toList[i] ≠ D'.toList[j] := List.pairwise_iff_getElem.1 hnd i j hi hj hij
    have hne' : (D'.toList[i]).val ≠ (D'.toList[j]).val := fun c => hne (Fin.ext c)
    simp only [Above, Array.getElem_toList] at this hne' ⊢
    omega
  · intro x
    constructor
    · intro hx
      obtain ⟨y, _, rfl⟩ := List.mem_map.1 hx
      exact y.2
    · intro hx
      refine List.mem_map.2 ⟨⟨x, hx⟩, h3.symm.mem_iff.1 ?_, rfl⟩
      simp
end Pu

theorem sort_any (w : World) (ob cap rb rg n : Nat) (d : Nat → Nat) (hn1 : 1 ≤ n) (hn : n ≤ 40) (hd : ∀ x, x < n → d x ≤ n) (hO : ∀ j, j < n → w.cell? ⟨ob, j, none⟩ = some (.int .i64 (j : Int)) ∧ w.frozen? ⟨ob, j, none⟩ = false)
    (hrb : w.cell? ⟨rb, 0, none⟩ = some (.slice (some ⟨rg, 0, none⟩) n n)) (hR : ∀ j, j < n → w.cell? ⟨rg, j, none⟩ = some (.int .i64 (d j : Nat))) (h1 : rb ≠ ob) (h2 : rg ≠ ob) :
    Calls Tryz.prog 141 #[.slice (some ⟨ob, 0, none⟩) n cap, .func (.func 142) #[] #[.pointer (some ⟨rb, 0, none⟩)]] w fun e w' => e = .returned (.tuple #[]) ∧ Turns (fun k => k = ob) w w' ∧ Ord w' ob n (Pu.ranked d n) := by
  haveI : Inhabited (Fin n) := ⟨⟨0, hn1⟩⟩
  obtain ⟨A, hA⟩ : ∃ A : Array (Fin n), A = Array.ofFn (n := n) id := ⟨_, rfl⟩
  have hAs : A.size = n := by rw [hA]; simp
  have hAg : ∀ j (hj : j < n), A[j]! = ⟨j, hj⟩ := fun j hj => by
    rw [getElem!_pos A j (by omega)]; simp [hA]
  have eg : ∀ args w, (callFunc 142 args).run Tryz.prog w = .ok (.enter 142 args) w := enters_of Tryz.func142 (by kernel_rfl) rfl
  have hbl : ob < w.heap.size := World.block_lt_of_cell? _ _ (hO 0 (by omega)).1
  have hrl : rg < w.heap.size := World.block_lt_of_cell? _ _ (hR 0 (by omega))
  have hcmp : CmpLays1 Tryz.prog 142 #[.pointer (some ⟨rb, 0, none⟩)] (fun i : Fin n => Value.int .i64 (i.val : Int)) (Pu.finCmp d n) ob 0 A.size w := by
    intro m os dk _ x y
    have t := sortWorld_turns (fun i : Fin n => Value.int .i64 (i.val : Int)) w ob 0 m dk os
    refine closure_any _ rb rg n x.val y.val (d x.val) (d y.val) x.2 y.2 ?_ ?_ ?_
    · exact (t.cell (a := ⟨rb, 0, none⟩) (World.block_lt_of_cell? _ _ hrb) h1).trans hrb
    · exact (t.cell (a := ⟨rg, x.val, none⟩) hrl h2).trans (hR _ x.2)
    · exact (t.cell (a := ⟨rg, y.val, none⟩) hrl h2).trans (hR _ y.2)
  have hH : Sort.Holds (fun i : Fin n => Value.int .i64 (i.val : Int)) w ob 0 A := by
    intro j hj
    have hj' : j < n := by omega
    rw [hAg j hj']
    simpa using hO j hj'
  have k := slices_SortFunc_int (fun i : Fin n => Value.int .i64 (i.val : Int)) (fun _ => rfl) (Pu.finCmp d n) (Pu.finCmp_swo d n) 142 #[.pointer (some ⟨rb, 0, none⟩)] ob 0 cap A w eg hcmp hH hbl (by omega)
  rw [hAs] at k
  refine k.mono ?_
  rintro e w' ⟨rfl, D', m, os, hp, hs, rfl⟩
  rw [hA] at hp
  obtain ⟨hsz, hl⟩ := Pu.sorted_ranked hd hp hs
  refine ⟨rfl, sortWorld_turns _ _ _ _ _ _ _, ?_, fun j x hx => ?_⟩
  · rw [← hl]; simp [hsz]
  · rw [← hl] at hx
    have hjl : j < D'.size := by have := (List.getElem?_eq_some_iff.1 hx).1; simpa using this
    have hxv : (D'[j]).val = x := by simpa [hjl] using hx
    refine ⟨by rw [← hxv]; exact (D'[j]).2, ?_⟩
    have hH' : Sort.Holds (fun i : Fin n => Value.int .i64 (i.val : Int)) (Sort.ahead w m) ob 0 A := hH
    have c := Sort.cell?_putRow (fun i : Fin n => Value.int .i64 (i.val : Int)) (Sort.ahead w m) ob 0 A D' hH' (by omega) j hjl
    rw [getElem!_pos D' j hjl, hxv, Nat.zero_add] at c
    exact ((grow_turns _ os).cell (World.block_lt_of_cell? _ _ c) (fun x => x)).trans c
#print axioms sort_any
end Go.Proofs.YtdogncjcainhlaaGreatDoor
