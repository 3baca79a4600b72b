/- The walk of atlas.Parse. -/
import Derived.Test.YtdogncjcainhlaaGreatDoorRoad
import Derived.Test.YtdogncjcainhlaaGreatDoorLay
import Derived.Test.YtdogncjcainhlaaGreatDoorPlain
namespace Go.Proofs.YtdogncjcainhlaaGreatDoor
open Go.RowKit
open Mem

/-- What Parse hands back. -/
def ParsePost (w : World) (r : Pu.Res) (e : Ending) (w' : World) : Prop :=
  Turns (fun _ => False) w w' ∧ match r with
    | .err c p => e = .returned (.tuple #[.pointer none, .int .i64 c, .int .i64 p])
    | .ok n k len => ∃ b, e = .returned (.tuple #[.pointer (some ⟨b, 0, none⟩), .int .i64 0, .int .i64 0]) ∧ w.heap.size ≤ b ∧ MapAt w' b n k len

set_option maxHeartbeats 400000 in
theorem parse_long (s : ByteArray) (w : World) (hs : s.size ≤ maxLen) (h : 4000 < s.size) : Calls Tryz.prog 41 #[.string s] w (ParsePost w (.err 1 0)) := by
  unfold maxLen at hs
  go_enter Tryz.func41, Tryz.ntmps41
  go_wp2
  go_ret3
  exact ⟨Turns.refl _ _, rfl⟩
set_option maxHeartbeats 400000 in
theorem parse_many (s : ByteArray) (w : World) (h : s.size ≤ 4000) (h2 : 200 < s.data.toList.count 10) : Calls Tryz.prog 41 #[.string s] w (ParsePost w (.err 1 0)) := by
  have hc := strings_Count_one s 10 w
  have hl : s.data.toList.count 10 ≤ 4000 := Nat.le_trans List.count_le_length (by simpa using h)
  unfold Lib.countByte at hc
  generalize List.count 10 s.data.toList = c at *
  go_enter Tryz.func41, Tryz.ntmps41
  go_wp2_with (go_at_call 75; refine hc.mono ?_; rintro e w' ⟨rfl, rfl⟩)
  go_ret3
  exact ⟨Turns.refl _ _, rfl⟩
set_option maxHeartbeats 400000 in
theorem parse_first (s P0 : ByteArray) (T : List ByteArray) (w : World) (h : s.size ≤ 4000) (hm : Ml w) (h2 : s.data.toList.count 10 ≤ 200) (hp : Pu.pieces 10 s = P0 :: T) (hw : Pu.within P0.data.toList 1 40 = none) :
    Calls Tryz.prog 41 #[.string s] w (ParsePost w (.err 2 0)) := by
  have hc := strings_Count_one s 10 w
  have hsp := split_any s 10 w h hm
  rw [hp] at hsp
  have hpl := Pu.pieces_count 10 s
  have hP0 : P0.size ≤ maxLen := by have := Pu.pieces_size (c := 10) (s := s) (p := P0) (by rw [hp]; simp); unfold maxLen; omega
  rw [hp] at hpl
  unfold Lib.countByte at hc
  generalize List.count 10 s.data.toList = c at *
  simp only [List.length_cons] at hpl hsp
  have hT : T.length ≤ 200 := by omega
  clear hpl hp
  go_enter Tryz.func41, Tryz.ntmps41
  go_wp2_with (go_at_call 75; refine hc.mono ?_; rintro e w' ⟨rfl, rfl⟩)
  refine hsp.mono ?_
  rintro e w1 ⟨rfl, rfl⟩
  clear hsp hc
  go_wp2_with fail
  refine (within_none P0 1 40 _ hP0 hw).mono ?_
  rintro e w1 ⟨rfl, hw1⟩
  subst hw1
  clear hw
  go_wp2
  go_ret3
  exact ⟨(Turns.refl _ _).alloc _, rfl⟩

theorem info106 : (Tryz.prog.info? 178).map (fun i => (i.zero, i.size, i.bytes)) = some (some (.agg #[.int .i64 0, .int .i64 0, .int .i64 0]), 3, 24) := by kernel_rfl

/-- What holds ahead of each round of Parse: the roads acc of the first k lines lie in the row v. -/
def ParseInv (w1 : World) (n : Nat) (T : List (List UInt8)) (v i : Value) (wr : World) : Prop :=
  ∃ (k g cap : Nat) (acc : List Pu.Rd), i = .int .i64 k ∧ k ≤ T.length ∧ acc.length = k ∧ v = .slice (some ⟨g, 0, none⟩) k cap ∧ wr.ownsRow w1.heap.size 178 3 (.slice (some ⟨g, 0, none⟩) k cap) k (Pu.rdVals acc) ∧
    (∀ r ∈ acc, Pu.RdOk n r) ∧ Pu.join acc (Pu.roads n (T.drop k) k) = Pu.roads n T 0 ∧ Turns (fun _ => False) w1 wr

set_option maxRecDepth 1000000 in
set_option maxHeartbeats 1000000 in
theorem parse_main (s P0 : ByteArray) (T : List ByteArray) (n : Nat) (w : World) (h : s.size ≤ 4000) (hm : Ml w) (h2 : s.data.toList.count 10 ≤ 200) (hp : Pu.pieces 10 s = P0 :: T) (hw : Pu.within P0.data.toList 1 40 = some (n : Int)) (hTn : ¬ T = []) :
    Calls Tryz.prog 41 #[.string s] w (ParsePost w (Pu.parseRows P0.data.toList (T.map (·.data.toList)))) := by
  have hc := strings_Count_one s 10 w
  have hsp := split_any s 10 w h hm
  rw [hp] at hsp
  have hpl := Pu.pieces_count 10 s
  have hP0 : P0.size ≤ maxLen := by have := Pu.pieces_size (c := 10) (s := s) (p := P0) (by rw [hp]; simp); unfold maxLen; omega
  have hTs : ∀ p ∈ T, p.size ≤ 4000 := fun p hp' => Nat.le_trans (Pu.pieces_size (c := 10) (s := s) (p := p) (by rw [hp]; simp [hp'])) h
  rw [hp] at hpl
  unfold Lib.countByte at hc
  generalize List.count 10 s.data.toList = c at *
  simp only [List.length_cons] at hpl hsp
  have hT : T.length ≤ 200 := by omega
  have hn := Pu.within_some hw
  have hn1 := hn.2.1
  have hn2 := hn.2.2
  have HP : Hid (Pu.parseRows P0.data.toList (T.map (·.data.toList)) = match Pu.roads n (T.map (·.data.toList)) 0 with
    | .inl i => .err 2 ((i : Int) + 1)
    | .inr rs => match Pu.lay (fun _ _ => 0) rs 0 with
      | .inl i => .err 3 ((i : Int) + 1)
      | .inr len => .ok n rs.length len) := by unfold Pu.parseRows; rw [hw]; simp only [Int.toNat_natCast]; rfl
  clear hpl hp hn
  go_enter Tryz.func41, Tryz.ntmps41
  go_wp2_with (go_at_call 75; refine hc.mono ?_; rintro e w' ⟨rfl, hw'⟩; subst w')
  refine hsp.mono ?_
  rintro e w1 ⟨rfl, hw1⟩
  have hT1 : Turns (fun _ => False) w w1 := by rw [hw1]; exact (Turns.refl _ _).alloc _
  have hs1 : w.heap.size < w1.heap.size := by rw [hw1]; simp
  have hc0 : w1.cell? ⟨w.heap.size, 0, none⟩ = some (.string P0) := by rw [hw1]; simp
  have hck : ∀ k p, T[k]? = some p → w1.cell? ⟨w.heap.size, 1 + k, none⟩ = some (.string p) := by
    intro k p hk; rw [hw1, World.cell?_alloc_new, Nat.add_comm]; simp [hk]
  have hm1 : Ml w1 := hm.turns hT1 (fun x => x)
  clear hsp hc hw1 hm
  go_wp2_with fail
  refine (within_some P0 1 40 (n : Int) _ hP0 hw).mono ?_
  rintro e w1' ⟨rfl, hw1⟩
  subst w1'
  clear hw
  obtain ⟨i0, hi, hz0, hz1, hz2⟩ := info_parts info106
  go_wp2_with (at_make; refine wpList_make_own _ rfl _ _ 176 rfl w1.heap.size 178 i0 _ 3 Tryz.underlying176 hi hz0 hz1 .i64 .i64 200 200 rfl rfl rfl (by rw [hz2]; decide) (by decide) (Nat.le_refl _) ?_)
  intro w2 hown hgrow
  have hT2 : Turns (fun _ => False) w1 w2 := (Turns.refl _ _).grown hgrow (fun k hk => by cases hk)
  clear hgrow
  go_wp2
  go_loopw [8, 36] (fun v i wr => ParseInv w1 n (T.map (·.data.toList)) v i wr) (fun _ i _ => T.length - (intOf i).toNat)
  case atStart => exact ⟨0, w1.heap.size, 200, [], rfl, Nat.zero_le _, rfl, rfl, hown, (fun r hr => by cases hr), Pu.join_nil _, hT2⟩
  case round =>
    clear hown hT2
    obtain ⟨k, g, cap, acc, rfl, hk, hak, rfl, hown, hok, hjoin, hTr⟩ := hrel
    have hk' : k ≤ T.length := by simpa using hk
    clear hk
    have hTs1 := hTr.size
    by_cases hlt : k < T.length
    · obtain ⟨q, hq⟩ : ∃ q, T[k]? = some q := ⟨_, List.getElem?_eq_getElem hlt⟩
      have hcq : wr.cell? ⟨w.heap.size, 1 + k, none⟩ = some (.string q) := (hTr.cell (a := ⟨w.heap.size, 1 + k, none⟩) hs1 (fun x => x)).trans (hck k q hq)
      have hqs := hTs q (List.mem_of_getElem? hq)
      have hdr : (T.map (·.data.toList)).drop k = q.data.toList :: (T.map (·.data.toList)).drop (k + 1) := by
        rw [List.drop_eq_getElem_cons (by simpa using hlt)]
        rw [List.getElem?_eq_getElem hlt] at hq
        simp at hq ⊢; rw [hq]
      rw [hdr] at hjoin
      have hmr : Ml wr := hm1.turns hTr (fun x => x)
      clear hdr hq
      go_wp2_with fail
      refine (road_any q (n : Int) _ hqs hmr hn1 hn2).mono ?_
      rintro e w3 ⟨rfl, hT3⟩
      have hs3 := hT3.size
      have hown3 : w3.ownsRow w1.heap.size 178 3 (.slice (some ⟨g, 0, none⟩) k cap) k (Pu.rdVals acc) := owns_turns hown hT3
      have hTw : Turns (fun _ => False) w1 w3 := hTr.trans ⟨hT3.os, hT3.tape, hT3.output, hT3.size, fun i hi _ => hT3.block i (by omega) (fun x => x)⟩
      cases hr : Pu.road q.data.toList (n : Int) with
      | none =>
        rw [Pu.roads_bad acc hr] at hjoin
        have HE : Hid (Pu.parseRows P0.data.toList (T.map (·.data.toList)) = .err 2 ((k : Int) + 1)) := by rw [HP.out, ← hjoin]; rfl
        clear hjoin hr hcq hown hown3 hok hTr hm1 hmr HP hck hT3
        simp only [roadV]
        go_wp2
        go_ret3
        refine ⟨hT1.trans (hTw.alloc _), ?_⟩
        rw [HE.out]
        rfl
      | some r =>
        obtain ⟨u, v, x⟩ := r
        have hrd := Pu.road_some hr
        have hu : ((u.toNat : Nat) : Int) = u := by omega
        have hv : ((v.toNat : Nat) : Int) = v := by omega
        rw [Pu.roads_good acc hr] at hjoin
        have hok2 : ∀ r ∈ acc ++ [(u.toNat, v.toNat, x)], Pu.RdOk n r := by
          intro r hr'
          rcases List.mem_append.1 hr' with h' | h'
          · exact hok r h'
          · rw [List.mem_singleton] at h'; subst h'; exact ⟨by simp only; omega, by simp only; omega, by simp only; omega, by simp only; omega⟩
        have hvals : Pu.rdVals acc ++ [.int .i64 u, .int .i64 v, .int .i64 x] = Pu.rdVals (acc ++ [(u.toNat, v.toNat, x)]) := by rw [Pu.rdVals_append]; simp only [Pu.rdVals, hu, hv]
        have HJ : Hid (Pu.join (acc ++ [(u.toNat, v.toNat, x)]) (Pu.roads n ((T.map (·.data.toList)).drop (k + 1)) (k + 1)) = Pu.roads n (T.map (·.data.toList)) 0) := hjoin
        have HV : Hid (Pu.rdVals acc ++ [.int .i64 u, .int .i64 v, .int .i64 x] = Pu.rdVals (acc ++ [(u.toNat, v.toNat, x)])) := hvals
        have HA : Hid (acc.length = k) := hak
        clear hjoin hr hcq hown hok hTr hmr hT3 hvals hu hv hak hrd
        simp only [roadV]
        go_wp2_with (at_builtin; refine wpList_append_own _ rfl _ _ 176 rfl w1.heap.size 178 i0 _ 3 24 Tryz.underlying176 hi hz0 hz1 hz2 rfl (by decide) _ _ _ rfl ((hown3.alloc _).alloc _) ⟨w3.heap.size + 1, 0, none⟩ 1 1 [.int .i64 u, .int .i64 v, .int .i64 x] rfl rfl ?c1 ?c2 ?c3 ?c4 ?c5 ?_)
        case c2 => exact ⟨rfl, rfl, rfl⟩
        case c3 => unfold maxLen; omega
        case c4 => omega
        case c5 => omega
        intro v' w4 hown4 hgrow _
        have hT4 : Turns (fun _ => False) w1 w4 := ((hTw.alloc _).alloc _).grown hgrow (fun k hk => Or.inl (hown3.lt k hk).1)
        obtain ⟨g', cap', hv'⟩ := owns_form hown4
        rw [hv'] at hown4 ⊢
        rw [HV.out] at hown4
        have HR : Hid (ParseInv w1 n (T.map (·.data.toList)) (.slice (some ⟨g', 0, none⟩) (k + 1) cap') (.int .i64 ((k : Int) + 1)) w4) :=
          ⟨k + 1, g', cap', acc ++ [(u.toNat, v.toNat, x)], by go_num, by simp; omega, by simp [HA.out], rfl, hown4, hok2, HJ.out, hT4⟩
        clear hown4 hgrow hT4 hown3 hTw hok2 HJ HV HA hv'
        go_wp2
        go_roundw
        case measure => simp [intOf]; omega
        case rel => exact HR.out
    · have ek : k = T.length := by omega
      have hjoin2 : Pu.roads n (T.map (·.data.toList)) 0 = .inr acc := by
        rw [← hjoin, List.drop_of_length_le (by simp; omega)]; simp [Pu.roads, Pu.join]
      have hg := hown.lt g rfl
      have hR : RoadsAt wr g acc := ⟨hg.2, fun j u v x e => by
          have := hown.cellAt (j * 3) (by have := (List.getElem?_eq_some_iff.1 e).1; omega)
          rw [this]; exact (Pu.rdVals_get acc j u v x e).1, fun j u v x e => by
          have := hown.cellAt (j * 3 + 1) (by have := (List.getElem?_eq_some_iff.1 e).1; omega)
          rw [this]; exact (Pu.rdVals_get acc j u v x e).2.1, fun j u v x e => by
          have := hown.cellAt (j * 3 + 2) (by have := (List.getElem?_eq_some_iff.1 e).1; omega)
          rw [this]; exact (Pu.rdVals_get acc j u v x e).2.2⟩
      have hlay := lay_any wr n g cap acc (by omega) hR hok (by omega)
      rw [hak] at hlay
      have hP2 := HP.out
      rw [hjoin2] at hP2
      have HE : Hid (Pu.parseRows P0.data.toList (T.map (·.data.toList)) = match Pu.lay (fun _ _ => 0) acc 0 with
        | .inl i => .err 3 ((i : Int) + 1)
        | .inr len => .ok n acc.length len) := hP2
      clear hjoin hjoin2 hR hown hok HP hck hP2 hc0 hm1 ek
      go_wp2_with fail
      refine hlay.mono ?_
      rintro e w5 ⟨hT5, h5⟩
      have hTw : Turns (fun _ => False) w w5 := hT1.trans ⟨(hT5.os).trans hTr.os, hT5.tape.trans hTr.tape, hT5.output.trans hTr.output, Nat.le_trans hTr.size hT5.size, fun i hi _ => (hT5.block i (by omega) (fun x => x)).trans (hTr.block i hi (fun x => x))⟩
      cases hl : Pu.lay (fun _ _ => 0) acc 0 with
      | inl i =>
        rw [hl] at h5
        simp only at h5
        subst h5
        have HE2 : Hid (Pu.parseRows P0.data.toList (T.map (·.data.toList)) = .err 3 ((i : Int) + 1)) := by rw [HE.out, hl]; rfl
        clear HE hl hlay hT5 hTr
        go_wp2
        go_ret3
        refine ⟨hTw, ?_⟩
        rw [HE2.out]
        rfl
      | inr len =>
        rw [hl] at h5
        simp only at h5
        obtain ⟨h5, hM⟩ := h5
        subst h5
        have HE2 : Hid (Pu.parseRows P0.data.toList (T.map (·.data.toList)) = .ok n acc.length len) := by rw [HE.out, hl]; rfl
        clear HE hl hlay hT5 hTr
        go_wp2
        go_ret3
        refine ⟨hTw, ?_⟩
        rw [HE2.out]
        exact ⟨wr.heap.size, rfl, by omega, hM⟩

set_option maxRecDepth 1000000 in
set_option maxHeartbeats 1000000 in
theorem parse_none (s P0 : ByteArray) (n : Nat) (w : World) (h : s.size ≤ 4000) (hm : Ml w) (h2 : s.data.toList.count 10 ≤ 200) (hp : Pu.pieces 10 s = [P0]) (hw : Pu.within P0.data.toList 1 40 = some (n : Int)) :
    Calls Tryz.prog 41 #[.string s] w (ParsePost w (.ok n 0 (fun _ _ => 0))) := by
  have hc := strings_Count_one s 10 w
  have hsp := split_any s 10 w h hm
  rw [hp] at hsp
  have hP0 : P0.size ≤ maxLen := by have := Pu.pieces_size (c := 10) (s := s) (p := P0) (by rw [hp]; simp); unfold maxLen; omega
  unfold Lib.countByte at hc
  generalize List.count 10 s.data.toList = c at *
  simp only [List.length_cons, List.length_nil, Nat.zero_add] at hsp
  have hn := Pu.within_some hw
  have hn1 := hn.2.1
  have hn2 := hn.2.2
  clear hp hn
  go_enter Tryz.func41, Tryz.ntmps41
  go_wp2_with (go_at_call 75; refine hc.mono ?_; rintro e w' ⟨rfl, hw'⟩; subst w')
  refine hsp.mono ?_
  rintro e w1 ⟨rfl, hw1⟩
  have hT1 : Turns (fun _ => False) w w1 := by rw [hw1]; exact (Turns.refl _ _).alloc _
  have hs1 : w.heap.size < w1.heap.size := by rw [hw1]; simp
  have hc0 : w1.cell? ⟨w.heap.size, 0, none⟩ = some (.string P0) := by rw [hw1]; simp
  clear hsp hc hw1 hm
  go_wp2_with fail
  refine (within_some P0 1 40 (n : Int) _ hP0 hw).mono ?_
  rintro e w1' ⟨rfl, hw1⟩
  subst w1'
  clear hw
  obtain ⟨i0, hi, hz0, hz1, hz2⟩ := info_parts info106
  go_wp2_with (at_make; refine wpList_make_own _ rfl _ _ 176 rfl w1.heap.size 178 i0 _ 3 Tryz.underlying176 hi hz0 hz1 .i64 .i64 200 200 rfl rfl rfl (by rw [hz2]; decide) (by decide) (Nat.le_refl _) ?_)
  intro w2 hown hgrow
  have hT2 : Turns (fun _ => False) w1 w2 := (Turns.refl _ _).grown hgrow (fun k hk => by cases hk)
  have hg := hown.lt w1.heap.size rfl
  have hR : RoadsAt w2 w1.heap.size [] := ⟨hg.2, fun j u v x e => by simp at e, fun j u v x e => by simp at e, fun j u v x e => by simp at e⟩
  have hlay := lay_any w2 n w1.heap.size 200 [] (by omega) hR (fun r hr => by cases hr) (by simp)
  clear hgrow hown hR
  go_wp2
  refine wp_loop_rounds 1 ?_
  rw [rounds_succ]
  go_wp2_with fail
  refine hlay.mono ?_
  rintro e w5 ⟨hT5, h5⟩
  have hTw : Turns (fun _ => False) w w5 := hT1.trans ⟨(hT5.os).trans hT2.os, hT5.tape.trans hT2.tape, hT5.output.trans hT2.output, Nat.le_trans hT2.size hT5.size, fun i hi _ => (hT5.block i (by omega) (fun x => x)).trans (hT2.block i hi (fun x => x))⟩
  simp only [Pu.lay] at h5
  obtain ⟨h5, hM⟩ := h5
  subst h5
  clear hlay hT5 hT2
  go_wp2
  go_ret3
  exact ⟨hTw, w2.heap.size, rfl, by omega, hM⟩

/-- Parse reads a map as the document has it. -/
theorem parseMap_any (s : ByteArray) (w : World) (hs : s.size ≤ maxLen) (hm : Ml w) : Calls Tryz.prog 41 #[.string s] w (ParsePost w (Pu.parse s.data.toList)) := by
  have hsz : s.data.toList.length = s.size := by simp
  unfold Pu.parse
  by_cases h : 4000 < s.size
  · rw [if_pos (Or.inl (by rw [hsz]; exact h))]; exact parse_long s w hs h
  · by_cases h2 : 200 < s.data.toList.count 10
    · rw [if_pos (Or.inr h2)]; exact parse_many s w (by omega) h2
    · rw [if_neg (by rw [hsz]; omega)]
      have hd := Pu.pieces_data 10 s
      have hl := Pu.pieces_length 10 s
      cases hp : Pu.pieces 10 s with
      | nil => rw [hp] at hl; simp at hl
      | cons P0 T =>
        rw [hp] at hd
        rw [← hd]
        simp only [List.map_cons]
        cases hw : Pu.within P0.data.toList 1 40 with
        | none =>
          have e : Pu.parseRows P0.data.toList (T.map (·.data.toList)) = .err 2 0 := by unfold Pu.parseRows; rw [hw]
          rw [e]; exact parse_first s P0 T w (by omega) hm (by omega) hp hw
        | some n' =>
          have hn := Pu.within_some hw
          obtain ⟨n, rfl⟩ : ∃ n : Nat, n' = n := ⟨n'.toNat, by omega⟩
          by_cases hT : T = []
          · subst hT
            have e : Pu.parseRows P0.data.toList (([] : List ByteArray).map (·.data.toList)) = .ok n 0 (fun _ _ => 0) := by unfold Pu.parseRows; rw [hw]; simp [Pu.roads, Pu.lay]
            rw [e]; exact parse_none s P0 n w (by omega) hm (by omega) hp hw
          · exact parse_main s P0 T n w (by omega) hm (by omega) hp hw hT
#print axioms parseMap_any
end Go.Proofs.YtdogncjcainhlaaGreatDoor
