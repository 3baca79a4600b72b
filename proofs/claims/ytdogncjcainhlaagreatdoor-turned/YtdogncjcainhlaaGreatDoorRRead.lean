/- The walk of the reference's Read. -/
import Derived.Test.YtdogncjcainhlaaGreatDoorRFill
import Derived.Test.YtdogncjcainhlaaGreatDoorRCut
import Derived.Test.YtdogncjcainhlaaGreatDoorPRef
import Derived.Deep.RegionLaw
import Derived.Deep.AppendLies
namespace Go.Proofs.YtdogncjcainhlaaGreatDoor
open Go.RowKit Go.Deep
open Mem

/-- What the reference's Read hands back. -/
def RReadPost (w : World) (r : Pu.Res) (e : Ending) (w' : World) : Prop := Turns (fun _ => False) w w' ∧ match r with
  | .err c p => e = .returned (.tuple #[.pointer none, .int .i64 c, .int .i64 p])
  | .ok n k len => ∃ (b lb lcap fg fcap : Nat) (rb fb : List Nat), e = .returned (.tuple #[.pointer (some ⟨b, 0, none⟩), .int .i64 0, .int .i64 0]) ∧ w.heap.size ≤ b ∧
      RB w' b n k (.slice (some ⟨lb, 0, none⟩) n lcap) (.slice (some ⟨fg, 0, none⟩) n fcap) ∧ rb.length = n ∧ fb.length = n ∧
      Grid w' w.heap.size n (.slice (some ⟨lb, 0, none⟩) n lcap) rb len ∧ Grid w' w.heap.size n (.slice (some ⟨fg, 0, none⟩) n fcap) fb (Pu.fillTo len n)

theorem heap_alloc2r (w : World) (o1 o2 : Obj) : ((w.alloc o1).alloc o2).heap[w.heap.size + 1]? = some o2 := by
  have h := heap_alloc_new (w.alloc o1) o2
  rw [World.size_alloc] at h
  exact h

/-- What holds ahead of each round of the first loop: rows without roads. -/
def RRead1 (w1 : World) (n : Nat) (i : Value) (wr : World) : Prop :=
  ∃ (v : Value) (rb : List Nat), i = .int .i64 rb.length ∧ rb.length ≤ n ∧ RB wr w1.heap.size n 0 v (.slice none 0 0) ∧ Grid wr (w1.heap.size + 1) n v rb (fun _ _ => 0) ∧ Turns (fun _ => False) w1 wr
/-- What holds ahead of each round of the second loop: the first k lines are roads, and stand in the rows. -/
def RRead2 (w1 : World) (n : Nat) (v : Value) (rb : List Nat) (T : List (List UInt8)) (tw i : Value) (wr : World) : Prop :=
  ∃ (k t : Nat) (acc : List Pu.Rd) (len : Nat → Nat → Int), i = .int .i64 ((k : Int) + 1) ∧ tw = .int .i64 (t : Int) ∧ k ≤ T.length ∧ acc.length = k ∧ Pu.join acc (Pu.roads n (T.drop k) k) = Pu.roads n T 0 ∧ (∀ r ∈ acc, Pu.RdOk n r) ∧ Pu.LaySt acc t len ∧
    RB wr w1.heap.size n k v (.slice none 0 0) ∧ Grid wr (w1.heap.size + 1) n v rb len ∧ Turns (fun _ => False) w1 wr

theorem rread1_step {w1 wr w4 : World} {n g cap' : Nat} {v : Value} {rb : List Nat} {o2 : Obj} (hlt : rb.length < n) (hB : RB wr w1.heap.size n 0 v (.slice none 0 0))
    (hG : Grid wr (w1.heap.size + 1) n v rb (fun _ _ => 0)) (hT : Turns (fun _ => False) w1 wr)
    (hown : w4.ownsRow (w1.heap.size + 1) 55 1 (.slice (some ⟨g, 0, none⟩) (rb.length + 1) cap') (rb.length + 1) (rowVals n rb ++ [.slice (some ⟨wr.heap.size, 0, none⟩) n n]))
    (hgrow : ((wr.alloc (.cells (madeCells #[.int .i64 0] n) 3)).alloc o2).drew.grownBy w4 v.ownBlock) (hat : v.ownBlock = some g ∨ g = wr.heap.size + 2) :
    RRead1 w1 n (.int .i64 ((rb.length : Int) + 1)) (w4.setCell ⟨w1.heap.size, 2, none⟩ (.slice (some ⟨g, 0, none⟩) (rb.length + 1) cap')) := by
  have hs : w1.heap.size + 1 ≤ wr.heap.size := hB.lt
  obtain ⟨hG4, hT4⟩ := hG.push hs (q := 1) hown hgrow hat (fun _ => rfl)
  have hv : ∀ k, v.ownBlock = some k → w1.heap.size + 1 ≤ k := fun k hk => (hG.own.lt k hk).1
  have hB4 := hB.turns hT4 (fun c => by have := hv _ c; omega)
  have hS : Turns (· = w1.heap.size) w4 (w4.setCell ⟨w1.heap.size, 2, none⟩ (.slice (some ⟨g, 0, none⟩) (rb.length + 1) cap')) := (Turns.refl (· = w1.heap.size) w4).setCell (Or.inr rfl) _
  refine ⟨_, rb ++ [wr.heap.size], by simp, by simp; omega, hB4.set2 _, hG4.turns hS (fun k hk => by omega), ?_⟩
  exact (hT.join hT4 (fun i hi _ c => by have := hv _ c; omega)).setCell (Or.inl (Nat.le_refl _)) _

theorem rread2_step {w1 wz : World} {n k t u v' ru rv : Nat} {x : Int} {v : Value} {rb : List Nat} {T : List (List UInt8)} {l : List UInt8} {acc : List Pu.Rd} {len : Nat → Nat → Int} (hk : acc.length = k) (hT : Turns (fun _ => False) w1 wz)
    (hl : T[k]? = some l) (hroad : Pu.road l n = some ((u : Int), (v' : Int), x)) (hj : Pu.join acc (Pu.roads n (T.drop k) k) = Pu.roads n T 0) (hok : ∀ r ∈ acc, Pu.RdOk n r) (hst : Pu.LaySt acc t len) (hpos : 0 ≤ len u v' ∨ t ≠ 0)
    (hB : RB wz w1.heap.size n k v (.slice none 0 0)) (hG : Grid wz (w1.heap.size + 1) n v rb len) (hru : rb[u]? = some ru) (hrv : rb[v']? = some rv) :
    RRead2 w1 n v rb T (.int .i64 ((if 0 < len u v' ∧ t = 0 then k + 1 else t : Nat) : Int)) (.int .i64 ((k : Int) + 1 + 1)) (((wz.setCell ⟨ru, v', none⟩ (.int .i64 x)).setCell ⟨rv, u, none⟩ (.int .i64 x)).setCell ⟨w1.heap.size, 1, none⟩ (.int .i64 ((k : Int) + 1))) := by
  have hr := Pu.road_some hroad
  have hkl := (List.getElem?_eq_some_iff.1 hl).1
  have r1 := hG.row _ _ hru
  have r2 := hG.row _ _ hrv
  have hTT : Turns (fun k => k = ru ∨ k = rv) wz ((wz.setCell ⟨ru, v', none⟩ (.int .i64 x)).setCell ⟨rv, u, none⟩ (.int .i64 x)) :=
    ((Turns.refl _ wz).setCell (Or.inr (Or.inl rfl)) _).setCell (Or.inr (Or.inr rfl)) _
  have hB2 := hB.turns hTT (by have := r1.2.1; have := r2.2.1; omega)
  have hG2 := (hG.set hru (show v' < n by omega) x).set hrv (show u < n by omega) x
  have hlen : (fun i j => if i = v' ∧ j = u then x else (if i = u ∧ j = v' then x else len i j)) = Pu.layLen len u v' x := by
    funext i j
    unfold Pu.layLen
    by_cases c1 : i = v' ∧ j = u
    · rw [if_pos c1, if_pos (Or.inr c1)]
    · by_cases c2 : i = u ∧ j = v'
      · rw [if_neg c1, if_pos c2, if_pos (Or.inl c2)]
      · rw [if_neg c1, if_neg c2, if_neg (fun c => c.elim c2 c1)]
  rw [hlen] at hG2
  have hS : Turns (· = w1.heap.size) ((wz.setCell ⟨ru, v', none⟩ (.int .i64 x)).setCell ⟨rv, u, none⟩ (.int .i64 x)) _ := (Turns.refl (· = w1.heap.size) _).setCell (x := ⟨w1.heap.size, 1, none⟩) (Or.inr rfl) (.int .i64 ((k : Int) + 1))
  refine ⟨k + 1, _, acc ++ [(u, v', x)], _, by simp, rfl, by omega, by simp [hk], ?_, ?_, by rw [← hk]; exact hst.step hpos, ?_, hG2.turns hS (fun q hq => by omega), ?_⟩
  · rw [← hj, List.drop_eq_getElem_cons hkl, show T[k] = l from (List.getElem?_eq_some_iff.1 hl).2, Pu.roads_good acc hroad]; simp
  · intro r hr'
    rcases List.mem_append.1 hr' with h | h
    · exact hok r h
    · rw [List.mem_singleton] at h; subst h; exact ⟨by simp only; omega, by simp only; omega, by simp only; omega, by simp only; omega⟩
  · have := hB2.set1 ((k : Int) + 1)
    simpa using this
  · exact (hT.join hTT (fun i hi _ c => by have := r1.2.1; have := r2.2.1; omega)).setCell (Or.inl (Nat.le_refl _)) _

set_option maxRecDepth 100000 in
set_option maxHeartbeats 400000 in
theorem rread_long (s : ByteArray) (w : World) (hs : s.size ≤ 2000000) (h : 4000 < s.size ∨ 200 < s.data.toList.count 10) : Calls Tryz.prog 66 #[.string s] w (RReadPost w (.err 1 0)) := by
  go_enter Tryz.func66, Tryz.ntmps66
  go_wp2_with fail
  refine (cut_any s 10 _ hs).mono ?_
  rintro e w1 ⟨hT1, g, cap, ps, rfl, hps, hown⟩
  have hpl : ps.length = s.data.toList.count 10 + 1 := by rw [← Pu.cuts_length, ← hps]; simp
  have hml : ps.length ≤ 2000001 := by
    have := List.count_le_length (a := (10 : UInt8)) (l := s.data.toList)
    have e : s.data.toList.length = s.size := by simp
    omega
  have hor : (4000 : Int) < (s.size : Int) ∨ ((s.size : Int) ≤ 4000 ∧ (201 : Int) < (ps.length : Int)) := by omega
  clear hpl hps hown h
  rcases hor with hc | ⟨hc, hc'⟩
  all_goals
    go_wp2
    exact bodyPost_ret (v := .tuple #[.pointer none, .int .i64 1, .int .i64 0]) (by simp [results, Tryz.results66, go_sem]) rfl ⟨hT1, rfl⟩
set_option maxRecDepth 100000 in
set_option maxHeartbeats 400000 in
theorem rread_form (s P0 : ByteArray) (T : List ByteArray) (w : World) (h : s.size ≤ 4000) (h2 : s.data.toList.count 10 ≤ 200) (hp : Pu.cuts 10 s.data.toList = P0.data.toList :: T.map (·.data.toList)) (hw : Pu.toRef 40 (Pu.num P0.data.toList) < 1) : Calls Tryz.prog 66 #[.string s] w (RReadPost w (.err 2 0)) := by
  go_enter Tryz.func66, Tryz.ntmps66
  go_wp2_with fail
  refine (cut_any s 10 _ (by omega)).mono ?_
  rintro e w1 ⟨hT1, g, cap, ps, rfl, hps, hown⟩
  have hpl : ps.length = s.data.toList.count 10 + 1 := by rw [← Pu.cuts_length, ← hps]; simp
  rw [hp] at hps
  obtain ⟨q0, qs, rfl, hq0, hqs⟩ : ∃ q0 qs, ps = q0 :: qs ∧ q0.data.toList = P0.data.toList ∧ qs.map (·.data.toList) = T.map (·.data.toList) := by
    cases ps with
    | nil => simp at hps
    | cons q0 qs => simp only [List.map_cons, List.cons.injEq] at hps; exact ⟨q0, qs, rfl, hps.1, hps.2⟩
  have hc0 : w1.cell? ⟨g, 0, none⟩ = some (.string q0) := by rw [hown.cellAt 0 (by simp)]; simp
  have hqs0 : q0.size ≤ maxLen := by
    have := Pu.cuts_le 10 s.data.toList q0.data.toList (by rw [hp, hq0]; simp)
    simp at this; unfold maxLen; omega
  have hll : (qs.length : Int) + 1 ≤ 201 := by simp only [List.length_cons] at hpl; omega
  have hnum := refnum_any q0 40 w1 hqs0 (by omega) (by omega)
  rw [hq0] at hnum
  generalize Pu.toRef 40 (Pu.num P0.data.toList) = r at *
  simp only [List.length_cons]
  clear hpl hps hown hqs hp hq0
  go_wp2_with fail
  refine hnum.mono ?_
  rintro e w2 ⟨rfl, hw2⟩
  subst w2
  go_wp2
  exact bodyPost_ret (v := .tuple #[.pointer none, .int .i64 2, .int .i64 0]) (by simp [results, Tryz.results66, go_sem]) rfl ⟨hT1, rfl⟩

set_option maxRecDepth 100000 in
set_option maxHeartbeats 2000000 in
theorem rread_main (s P0 : ByteArray) (T : List ByteArray) (n : Nat) (w : World) (h : s.size ≤ 4000) (h2 : s.data.toList.count 10 ≤ 200) (hp : Pu.cuts 10 s.data.toList = P0.data.toList :: T.map (·.data.toList)) (hw : Pu.toRef 40 (Pu.num P0.data.toList) = n) (hn1 : 1 ≤ n) (hn2 : n ≤ 40) :
    Calls Tryz.prog 66 #[.string s] w (RReadPost w (Pu.parseRows P0.data.toList (T.map (·.data.toList)))) := by
  have HP : Hid (Pu.parseRows P0.data.toList (T.map (·.data.toList)) = match Pu.roads n (T.map (·.data.toList)) 0 with
    | .inl i => .err 2 ((i : Int) + 1)
    | .inr rs => match Pu.lay (fun _ _ => 0) rs 0 with
      | .inl i => .err 3 ((i : Int) + 1)
      | .inr len => .ok n rs.length len) := Pu.rows_some hw hn1
  generalize Pu.parseRows P0.data.toList (T.map (·.data.toList)) = RES at *
  have hmk := run_make_row' (P := Tryz.prog) 55 3 (.int .i64 0) 8 Tryz.underlying55 info3 rfl .i64 .i64 n (by omega) (by omega)
  obtain ⟨i0, hi, hz0, hz1, hz2⟩ := info_parts info41r
  go_enter Tryz.func66, Tryz.ntmps66
  go_wp2_with fail
  refine (cut_any s 10 _ (by omega)).mono ?_
  rintro e w1 ⟨hT1, g, cap, ps, rfl, hps, hown⟩
  have hpl : ps.length = s.data.toList.count 10 + 1 := by rw [← Pu.cuts_length, ← hps]; simp
  rw [hp] at hps
  obtain ⟨q0, qs, rfl, hq0, hqs⟩ : ∃ q0 qs, ps = q0 :: qs ∧ q0.data.toList = P0.data.toList ∧ qs.map (·.data.toList) = T.map (·.data.toList) := by
    cases ps with
    | nil => simp at hps
    | cons q0 qs => simp only [List.map_cons, List.cons.injEq] at hps; exact ⟨q0, qs, rfl, hps.1, hps.2⟩
  have hc0 : w1.cell? ⟨g, 0, none⟩ = some (.string q0) := by rw [hown.cellAt 0 (by simp)]; simp
  have hsz : ∀ q ∈ q0 :: qs, q.size ≤ 4000 := fun q hq => by
    have := Pu.cuts_le 10 s.data.toList q.data.toList (by rw [hp, ← hq0, ← hqs]; exact List.mem_map_of_mem (f := fun x : ByteArray => x.data.toList) hq)
    simp at this; omega
  have hqs0 : q0.size ≤ maxLen := by have := hsz q0 (by simp); unfold maxLen; omega
  have hll : (qs.length : Int) + 1 ≤ 201 := by simp only [List.length_cons] at hpl; omega
  have hnum := refnum_any q0 40 w1 hqs0 (by omega) (by omega)
  rw [hq0, hw] at hnum
  rw [← hqs] at HP
  have HROW : Hid (∀ (k : Nat) (q : ByteArray), qs[k]? = some q → w1.cell? ⟨g, k + 1, none⟩ = some (.string q) ∧ q.size ≤ 4000) := fun k q hq => by
    have hkl := (List.getElem?_eq_some_iff.1 hq).1
    exact ⟨by rw [hown.cellAt (k + 1) (by simp; omega)]; simp [hq], hsz q (by simp [List.mem_of_getElem? hq])⟩
  have hgl : g < w1.heap.size := World.block_lt_of_cell? _ _ hc0
  simp only [List.length_cons]
  clear hpl hps hqs hp hq0 hsz hqs0 hown h2 hw
  go_wp2_with fail
  refine hnum.mono ?_
  rintro e w2 ⟨rfl, hw2⟩
  subst w2
  have hB0 : RB (w1.alloc (.cells #[.int .i64 n, .int .i64 0, .slice none 0 0, .slice none 0 0] 215)) w1.heap.size n 0 (.slice none 0 0) (.slice none 0 0) := RB.new w1 _ _ _ _
  clear hnum hc0
  go_wp2
  go_loopw [8] (fun i wr => RRead1 w1 n i wr) (fun i _ => n - (intOf i).toNat)
  case atStart => exact ⟨_, [], rfl, Nat.zero_le _, hB0, Grid.nil _ _ _ _, (Turns.refl _ _).alloc _⟩
  case round =>
    clear hB0
    obtain ⟨v, rb, rfl, hk, hB, hG, hT⟩ := hrel
    by_cases hlt : rb.length < n
    · have c2 := hB.c2
      have f2 := hB.free 2
      have hbl := hB.lt
      have hvn : v.ownBlock ≠ some w1.heap.size := fun c => by have := (hG.own.lt _ c).1; omega
      have hown := hG.own
      have HG : Hid (Grid wr (w1.heap.size + 1) n v rb (fun _ _ => 0)) := hG
      have HB : Hid (RB wr w1.heap.size n 0 v (.slice none 0 0)) := hB
      clear hG hB
      have d1 : ∀ o, (wr.alloc o).cell? ⟨w1.heap.size, 2, none⟩ = some v := fun o => (World.cell?_alloc_lt _ _ _ hbl).trans c2
      have d2 : ∀ o o', ((wr.alloc o).alloc o').cell? ⟨w1.heap.size, 2, none⟩ = some v := fun o o' => (World.cell?_alloc_lt _ _ _ (by simp; omega)).trans (d1 o)
      go_wp2_with fail
      go_region_law
        ((refine step_append_lies _ (by rfl) _ _ _ (by rfl) (w1.heap.size + 1) 55 i0 _ 1 24 Tryz.underlying23 hi hz0 hz1 hz2 rfl (by omega) v rb.length (rowVals n rb) (by rfl) (((hown.alloc _).alloc _).drew)
            ⟨wr.heap.size + 1, 0, none⟩ 1 1 [.slice (some ⟨wr.heap.size, 0, none⟩) n n] (by rfl) (by rfl) (World.news_of_block (cs := #[.slice (some ⟨wr.heap.size, 0, none⟩) n n]) (t := 55) (fr := (0, 0)) (heap_alloc2r wr _ _)) (by simp [Value.oneCell'])
            (by omega) (by unfold maxLen; omega) (by omega) (by simp; omega) (wr.heap.size + 2) (by simp) ?_; intro g' cap' w4 hown4 hgrow hat hlt4; have hT4 : Turns (fun k => v.ownBlock = some k) wr w4 := ((((Turns.refl _ wr).alloc _).alloc _).drew).grown hgrow (fun _ hk => Or.inr hk); have hB4 := HB.out.turns hT4 hvn; have hc4 := hB4.c2; have hf4 := hB4.free 2))
      all_goals
        have HX : Hid (RRead1 w1 n (.int .i64 ((rb.length : Int) + 1)) (w4.setCell ⟨w1.heap.size, 2, none⟩ (.slice (some ⟨g', 0, none⟩) (rb.length + 1) cap'))) := rread1_step hlt HB.out HG.out hT hown4 hgrow hat
        clear hown4 hgrow hat hT4 hB4 HG HB d1 d2 hown
        go_wp2
        go_roundw
        case measure => simp [intOf]; omega
        case rel => exact HX.out
    · have e : rb.length = n := by omega
      obtain ⟨lb, lcap, rfl, hlb, hlb2⟩ := hG.form (by omega)
      have HE : Hid (rb.length = n) := e
      have HG0 : Hid (RRead2 w1 n (.slice (some ⟨lb, 0, none⟩) rb.length lcap) rb (qs.map (·.data.toList)) (.int .i64 0) (.int .i64 1) wr) :=
        ⟨0, 0, [], fun _ _ => 0, rfl, rfl, Nat.zero_le _, rfl, by rw [Pu.join_nil]; rfl, fun r hr => by (cases hr), Pu.LaySt.zero, hB, hG, hT⟩
      rw [e] at HG0
      clear hB hG hT hk hmk hi hz0 hz1 hz2 e hlb hlb2 hlt
      have hrl : rb.length = n := HE.out
      rw [hrl]
      clear hrl
      go_wp2
      go_loopw [9, 10] (fun tw i wr => RRead2 w1 n (.slice (some ⟨lb, 0, none⟩) n lcap) rb (qs.map (·.data.toList)) tw i wr) (fun _ i _ => qs.length + 1 - (intOf i).toNat)
      case atStart => exact HG0.out
      case round =>
        clear HG0
        obtain ⟨k, t, acc, len, rfl, rfl, hk, hacc, hj, hok, hst, hB, hG, hT⟩ := hrel
        simp only [List.length_map] at hk
        by_cases hlt : k < qs.length
        · obtain ⟨q, hq⟩ : ∃ q, qs[k]? = some q := ⟨_, List.getElem?_eq_getElem hlt⟩
          obtain ⟨hcq, hqs⟩ := HROW.out k q hq
          have hcq' : wr.cell? ⟨g, k + 1, none⟩ = some (.string q) := (hT.cell (a := ⟨g, k + 1, none⟩) hgl (fun x => x)).trans hcq
          have hlti : (k : Int) + 1 < (qs.length : Int) + 1 := by omega
          have HL : Hid ((qs.map (·.data.toList))[k]? = some q.data.toList) := by show _ = _; rw [List.getElem?_map, hq]; rfl
          have HBAD : Hid (Pu.road q.data.toList n = none → ∀ w', Turns (fun _ => False) wr w' → RReadPost w RES (.returned (.tuple #[.pointer none, .int .i64 2, .int .i64 ((k : Int) + 1)])) w') := by
            intro hb w' hw'
            have hkl := (List.getElem?_eq_some_iff.1 HL.out).1
            have e : Pu.roads n (qs.map (·.data.toList)) 0 = .inl k := by
              rw [← hj, List.drop_eq_getElem_cons hkl, show (qs.map (·.data.toList))[k] = q.data.toList from (List.getElem?_eq_some_iff.1 HL.out).2]
              exact Pu.roads_bad acc hb
            rw [HP.out, e]
            exact ⟨(hT1.trans hT).trans hw', rfl⟩
          clear hcq hq HROW
          go_wp2_with fail
          refine (cut_any q 32 _ (by omega)).mono ?_
          rintro e w2 ⟨hT2, g2, cap2, ps, rfl, hps, hown⟩
          have hpl : ps.length = (Pu.cuts 32 q.data.toList).length := by rw [← hps]; simp
          have hpb : ps.length ≤ 4001 := by
            have := List.count_le_length (a := (32 : UInt8)) (l := q.data.toList)
            have e : q.data.toList.length = q.size := by simp
            have := Pu.cuts_length 32 q.data.toList
            omega
          by_cases h3 : ps.length = 3
          · obtain ⟨a, b, c, rfl⟩ : ∃ a b c, ps = [a, b, c] := by
              match ps, h3 with
              | [a, b, c], _ => exact ⟨a, b, c, rfl⟩
            simp only [List.map_cons, List.map_nil] at hps
            have ca : w2.cell? ⟨g2, 0, none⟩ = some (.string a) := by rw [hown.cellAt 0 (by simp)]; simp
            have cb : w2.cell? ⟨g2, 1, none⟩ = some (.string b) := by rw [hown.cellAt 1 (by simp)]; simp
            have cc : w2.cell? ⟨g2, 2, none⟩ = some (.string c) := by rw [hown.cellAt 2 (by simp)]; simp
            have sz : ∀ x ∈ [a, b, c], x.size ≤ maxLen := fun x hx => by
              have := Pu.cuts_le 32 q.data.toList x.data.toList (by rw [← hps]; simp at hx ⊢; rcases hx with rfl | rfl | rfl <;> simp)
              simp at this; unfold maxLen; omega
            have na := refnum_any a ((n : Int) - 1) w2 (sz a (by simp)) (by omega) (by omega)
            have nb := refnum_any b ((n : Int) - 1) w2 (sz b (by simp)) (by omega) (by omega)
            have nc := refnum_any c 1000 w2 (sz c (by simp)) (by omega) (by omega)
            have bu := Pu.toRef_bd (l := a.data.toList) (most := (n : Int) - 1)
            have bv := Pu.toRef_bd (l := b.data.toList) (most := (n : Int) - 1)
            have bx := Pu.toRef_bd (l := c.data.toList) (most := 1000)
            obtain ⟨U, hU⟩ : ∃ U, Pu.toRef ((n : Int) - 1) (Pu.num a.data.toList) = U := ⟨_, rfl⟩
            obtain ⟨V, hV⟩ : ∃ V, Pu.toRef ((n : Int) - 1) (Pu.num b.data.toList) = V := ⟨_, rfl⟩
            obtain ⟨X, hX⟩ : ∃ X, Pu.toRef 1000 (Pu.num c.data.toList) = X := ⟨_, rfl⟩
            have HROAD : Hid (Pu.road q.data.toList n = if U < 0 ∨ V ≤ U ∨ X < 1 then none else some (U, V, X)) := Pu.ref_road hps.symm hU hV hX
            rw [hU] at na bu
            rw [hV] at nb bv
            rw [hX] at nc bx
            simp only [List.length_cons, List.length_nil, Nat.zero_add]
            clear hU hV hX sz hown hps hpl hpb h3
            go_wp2_with fail
            refine na.mono ?_
            rintro e w3 ⟨rfl, hw3⟩
            subst w3
            go_wp2_with fail
            refine nb.mono ?_
            rintro e w3 ⟨rfl, hw3⟩
            subst w3
            go_wp2_with fail
            refine nc.mono ?_
            rintro e w3 ⟨rfl, hw3⟩
            subst w3
            clear na nb nc ca cb cc
            by_cases hbad : U < 0 ∨ V ≤ U ∨ X < 1
            · have HB2 := HBAD.out (by rw [HROAD.out, if_pos hbad]) _ hT2
              have HB3 : Hid (RReadPost w RES (.returned (.tuple #[.pointer none, .int .i64 2, .int .i64 ((k : Int) + 1)])) w2) := HB2
              clear HB2 HBAD HROAD hB hG hT hj hok hst bu bv bx
              rcases (show U < 0 ∨ (0 ≤ U ∧ V ≤ U) ∨ (0 ≤ U ∧ U < V ∧ X < 1) by omega) with hb | ⟨hb, hb'⟩ | ⟨hb, hb', hb''⟩
              all_goals
                clear hbad
                go_wp2
                exact bodyPost_ret (v := .tuple #[.pointer none, .int .i64 2, .int .i64 ((k : Int) + 1)]) (by simp [results, Tryz.results66, go_sem]) rfl HB3.out
            · have hu0 : 0 ≤ U := by omega
              have huv : U < V := by omega
              have hx1 : 1 ≤ X := by omega
              have hroad := HROAD.out
              rw [if_neg hbad] at hroad
              obtain ⟨u, rfl⟩ := Int.eq_ofNat_of_zero_le hu0
              obtain ⟨v, rfl⟩ := Int.eq_ofNat_of_zero_le (show 0 ≤ V by omega)
              have hrl := HE.out
              obtain ⟨ru, hru⟩ : ∃ ru, rb[u]? = some ru := ⟨_, List.getElem?_eq_getElem (by omega)⟩
              obtain ⟨rv, hrv⟩ : ∃ rv, rb[v]? = some rv := ⟨_, List.getElem?_eq_getElem (by omega)⟩
              have hB2 := hB.turns hT2 (fun x => x)
              have hG2 := hG.turns hT2 (fun _ _ x => x)
              have hpos : 0 ≤ len u v ∨ t ≠ 0 := by
                rcases hst with ⟨hl, rfl⟩ | ⟨j, _, rfl⟩
                · left; exact ((Pu.Net.lay_all acc _ _ 0 (Pu.Net.zero n) hok hl).lens.rng u v).1
                · right; omega
              have HX := rread2_step (T := qs.map (·.data.toList)) hacc (hT.trans hT2) HL.out hroad hj hok hst hpos hB2 hG2 hru hrv
              have HX' : Hid (RRead2 w1 n (.slice (some ⟨lb, 0, none⟩) n lcap) rb (qs.map (·.data.toList)) (.int .i64 ((if 0 < len u v ∧ t = 0 then k + 1 else t : Nat) : Int)) (.int .i64 ((k : Int) + 1 + 1)) (((w2.setCell ⟨ru, v, none⟩ (.int .i64 X)).setCell ⟨rv, u, none⟩ (.int .i64 X)).setCell ⟨w1.heap.size, 1, none⟩ (.int .i64 ((k : Int) + 1)))) := HX
              have hGc := hG2
              rw [← hrl] at hGc
              have g1 := hGc.cell hru
              have g2' := hGc.cell hrv
              rw [hrl] at g1 g2'
              have r1 := hG2.row _ _ hru
              have r2 := hG2.row _ _ hrv
              have m1 := r1.1.cell v (by omega)
              have m2 := r2.1.cell u (by omega)
              have f1 := r1.1.free v (by omega)
              have f2 := r2.1.free u (by omega)
              have c2 := hB2.c2
              have c1 := hB2.c1
              have fb1 := hB2.free 1
              have n1 : ru ≠ w1.heap.size := by have := r1.2.1; omega
              have n1' : rv ≠ w1.heap.size := by have := r2.2.1; omega
              have n2 : ru ≠ lb := fun c => r1.2.2 (by rw [c]; rfl)
              have n3 : ru ≠ rv := fun c => by have := hG.inj u v ru hru (by rw [hrv, c]); omega
              have s1 : ∀ y, (w2.setCell ⟨ru, v, none⟩ y).cell? ⟨w1.heap.size, 2, none⟩ = some (.slice (some ⟨lb, 0, none⟩) n lcap) := fun y => (World.cell?_setCell_other _ _ _ _ (by intro c; injection c with c; exact n1 c)).trans c2
              have s2 : ∀ y, (w2.setCell ⟨ru, v, none⟩ y).cell? ⟨lb, v, none⟩ = some (.slice (some ⟨rv, 0, none⟩) n n) := fun y => (World.cell?_setCell_other _ _ _ _ (by intro c; injection c with c; exact n2 c)).trans g2'
              have s3 : ∀ y, (w2.setCell ⟨ru, v, none⟩ y).cell? ⟨rv, u, none⟩ = some (.int .i64 (len v u)) := fun y => (World.cell?_setCell_other _ _ _ _ (by intro c; injection c with c; exact n3 c)).trans m2
              have s4 : ∀ y y', ((w2.setCell ⟨ru, v, none⟩ y).setCell ⟨rv, u, none⟩ y').cell? ⟨w1.heap.size, 1, none⟩ = some (.int .i64 k) := fun y y' => (World.cell?_setCell_other _ _ _ _ (by intro c; injection c with c; exact n1' c)).trans ((World.cell?_setCell_other _ _ _ _ (by intro c; injection c with c; exact n1 c)).trans c1)
              have hui : (u : Int) < (n : Int) := by omega
              have hvi : (v : Int) < (n : Int) := by omega
              clear HX hB hG hT hj hok hst bu bv hpos hB2 hG2 hGc r1 r2 hru hrv hbad hroad HBAD HROAD hrl c1 hT2
              by_cases hp1 : 0 < len u v
              · by_cases ht0 : t = 0
                · have htb : ((t : Int) == 0) = true := by simp [ht0]
                  have HY := HX'.out
                  rw [if_pos ⟨hp1, ht0⟩] at HY
                  have HZ : Hid (RRead2 w1 n (.slice (some ⟨lb, 0, none⟩) n lcap) rb (qs.map (·.data.toList)) (.int .i64 ((k : Int) + 1)) (.int .i64 ((k : Int) + 1 + 1)) (((w2.setCell ⟨ru, v, none⟩ (.int .i64 X)).setCell ⟨rv, u, none⟩ (.int .i64 X)).setCell ⟨w1.heap.size, 1, none⟩ (.int .i64 ((k : Int) + 1)))) := by show RRead2 _ _ _ _ _ _ _ _; simpa using HY
                  clear HY HX' ht0
                  go_wp2
                  go_roundw
                  case measure => simp [intOf]; omega
                  case rel => exact HZ.out
                · have htb : ((t : Int) == 0) = false := by simp; omega
                  have HY := HX'.out
                  rw [if_neg (fun c => ht0 c.2)] at HY
                  have HZ : Hid (RRead2 w1 n (.slice (some ⟨lb, 0, none⟩) n lcap) rb (qs.map (·.data.toList)) (.int .i64 (t : Int)) (.int .i64 ((k : Int) + 1 + 1)) (((w2.setCell ⟨ru, v, none⟩ (.int .i64 X)).setCell ⟨rv, u, none⟩ (.int .i64 X)).setCell ⟨w1.heap.size, 1, none⟩ (.int .i64 ((k : Int) + 1)))) := HY
                  clear HY HX' ht0
                  go_wp2
                  go_roundw
                  case measure => simp [intOf]; omega
                  case rel => exact HZ.out
              · have hpn : (0 < len u v) = False := by simpa using hp1
                have HY := HX'.out
                rw [if_neg (fun c => hp1 c.1)] at HY
                have HZ : Hid (RRead2 w1 n (.slice (some ⟨lb, 0, none⟩) n lcap) rb (qs.map (·.data.toList)) (.int .i64 (t : Int)) (.int .i64 ((k : Int) + 1 + 1)) (((w2.setCell ⟨ru, v, none⟩ (.int .i64 X)).setCell ⟨rv, u, none⟩ (.int .i64 X)).setCell ⟨w1.heap.size, 1, none⟩ (.int .i64 ((k : Int) + 1)))) := HY
                clear HY HX' hp1
                go_wp2
                go_roundw
                case measure => simp [intOf]; omega
                case rel => exact HZ.out
          · have hne : ((ps.length : Int) != 3) = true := by simp; omega
            have HB3 : Hid (RReadPost w RES (.returned (.tuple #[.pointer none, .int .i64 2, .int .i64 ((k : Int) + 1)])) w2) := HBAD.out (Pu.road_ne (by rw [← hpl]; exact h3)) _ hT2
            clear HBAD hB hG hT hj hok hst hown hps hpl h3
            go_wp2
            exact bodyPost_ret (v := .tuple #[.pointer none, .int .i64 2, .int .i64 ((k : Int) + 1)]) (by simp [results, Tryz.results66, go_sem]) rfl HB3.out
        · have hlti : ¬ (k : Int) + 1 < (qs.length : Int) + 1 := by omega
          have hroads : Pu.roads n (qs.map (·.data.toList)) 0 = .inr acc := by
            rw [← hj, List.drop_of_length_le (by simp; omega), Pu.roads]; simp [Pu.join]
          rw [hroads] at HP
          simp only at HP
          rcases hst with ⟨hl, rfl⟩ | ⟨j, hl, rfl⟩
          · rw [hl] at HP
            simp only at HP
            have HRES : Hid (RES = .ok n acc.length len) := HP.out
            have hN := Pu.Net.lay_all acc _ _ 0 (Pu.Net.zero n) hok hl
            have hT01 := hT1.size
            have hTr := hT
            have hbl := hB.lt
            have hrl := HE.out
            have hfill := fill_any wr w1.heap.size (w1.heap.size + 1) n lb lcap k rb len hn1 hn2 (by rw [hrl]; exact hB) (by rw [hrl]; exact hG) hrl (by omega) hN.lens
            rw [hrl] at hfill
            have HZ : Hid (∀ w3 fv fb, fb.length = n → Fill2 wr w1.heap.size n k (.slice (some ⟨lb, 0, none⟩) n lcap) fv fb (Pu.fillTo len n) w3 → RReadPost w (.ok n acc.length len) (.returned (.tuple #[.pointer (some ⟨w1.heap.size, 0, none⟩), .int .i64 0, .int .i64 0])) w3) := by
              intro w3 fv fb hfb hF
              obtain ⟨fg, fcap, hfv, _, _⟩ := hF.2.1.form (by omega)
              subst hfv
              have hF1 := hF.1
              have hF2 := hF.2.1
              rw [hfb] at hF1 hF2
              have hsz := hT.size
              refine ⟨hT1.trans (hT.join hF.2.2 (fun i hi _ c => by omega)), w1.heap.size, lb, lcap, fg, fcap, rb, fb, rfl, hT01, by rw [hacc]; exact hF1, hrl, hfb, (hG.turns hF.2.2 (fun q hq c => by omega)).mono (by omega), hF2.mono (by omega)⟩
            clear hB hG hT hj hok hl hN HP hroads HROW hTr hT01 hbl
            go_wp2_with fail
            refine hfill.mono ?_
            rintro e w3 ⟨rfl, fv, fb, hfb, hF⟩
            have HZ3 : Hid (RReadPost w (.ok n acc.length len) (.returned (.tuple #[.pointer (some ⟨w1.heap.size, 0, none⟩), .int .i64 0, .int .i64 0])) w3) := HZ.out _ _ _ hfb hF
            clear hF hfill HZ hfb
            go_wp2
            exact bodyPost_ret (v := .tuple #[.pointer (some ⟨w1.heap.size, 0, none⟩), .int .i64 0, .int .i64 0]) (by simp [results, Tryz.results66, go_sem]) rfl (by rw [HRES.out]; exact HZ3.out)
          · rw [hl] at HP
            simp only at HP
            have HRES : Hid (RES = .err 3 ((j : Int) + 1)) := HP.out
            have hTT := hT1.trans hT
            have hj0 : (0 : Int) < (j : Int) + 1 := by omega
            have hji : ((j + 1 : Nat) : Int) = (j : Int) + 1 := by omega
            rw [hji]
            clear hB hG hT hj hok hl HP hroads HROW hji
            go_wp2
            exact bodyPost_ret (v := .tuple #[.pointer none, .int .i64 3, .int .i64 ((j : Int) + 1)]) (by simp [results, Tryz.results66, go_sem]) rfl (by rw [HRES.out]; exact ⟨hTT, rfl⟩)
/-- The reference reads a map as the document has it. -/
theorem rread_any (s : ByteArray) (w : World) (hs : s.size ≤ 2000000) : Calls Tryz.prog 66 #[.string s] w (RReadPost w (Pu.parse s.data.toList)) := by
  have e : s.data.toList.length = s.size := by simp
  by_cases h : 4000 < s.size ∨ 200 < s.data.toList.count 10
  · rw [Pu.parse_long (by rw [e]; exact h)]; exact rread_long s w hs h
  · obtain ⟨a, t, hc⟩ := Pu.cuts_ne 10 s.data.toList
    rw [Pu.parse_cut (by rw [e]; exact h) hc]
    have ht : t = (t.map (fun l => (⟨l.toArray⟩ : ByteArray))).map (·.data.toList) := by rw [List.map_map]; simp [Function.comp_def]
    have ha : a = (⟨a.toArray⟩ : ByteArray).data.toList := by simp
    rw [ht] at hc ⊢
    rw [ha] at hc ⊢
    have b0 := Pu.toRef_bd (l := (⟨a.toArray⟩ : ByteArray).data.toList) (most := 40)
    by_cases h1 : Pu.toRef 40 (Pu.num (⟨a.toArray⟩ : ByteArray).data.toList) < 1
    · rw [Pu.rows_none h1]; exact rread_form s _ _ w (by omega) (by omega) hc h1
    · obtain ⟨n, hn⟩ := Int.eq_ofNat_of_zero_le (show 0 ≤ Pu.toRef 40 (Pu.num (⟨a.toArray⟩ : ByteArray).data.toList) by omega)
      exact rread_main s _ _ n w (by omega) (by omega) hc hn (by omega) (by omega)
#print axioms rread_any
end Go.Proofs.YtdogncjcainhlaaGreatDoor
