/- Pack5: texts of one proof, one behind the other. -/
import Derived.Test.YtdogncjcainhlaaDoorPack4
import Derived.Test.YtdogncjcainhlaaDoorPlain
import Derived.Test.YtdogncjcainhlaaDoorPack3
import Derived.Deep.RegionLaw
import Derived.Deep.AppendLies
import Derived.Shelf.Slices.Turned
import Derived.Test.YtdogncjcainhlaaDoorProg
import Derived.Test.YtdogncjcainhlaaDoorPack2
import Derived.Deep.OwnRows
/- Plain: the reference reads a map's text as the document has it. No program in it. -/
namespace Go.Proofs.YtdogncjcainhlaaDoor.Pu

theorem toRef_bd {l : List UInt8} {most : Int} : toRef most (num l) = -1 ∨ (0 ≤ toRef most (num l) ∧ toRef most (num l) ≤ most) := by
  cases h : num l with
  | none => left; rfl
  | some v =>
    have := num_bd h
    show (if most < v then (-1 : Int) else v) = -1 ∨ _
    unfold toRef
    simp only
    split <;> omega
theorem within_ref (l : List UInt8) {lo hi : Int} (h0 : 0 ≤ lo) (r : Int) (hr : toRef hi (num l) = r) : within l lo hi = if r < lo then none else some r := by
  subst hr
  unfold within
  cases h : num l with
  | none => show none = if (-1 : Int) < lo then none else _; rw [if_pos (by omega)]
  | some v =>
    have := num_bd h
    unfold toRef
    simp only
    by_cases c : hi < v
    · rw [if_pos (by omega), if_pos c, if_pos (by omega)]
    · rw [if_neg c]
      by_cases d : v < lo
      · rw [if_pos (by omega), if_pos d]
      · rw [if_neg (by omega), if_neg d]
/-- A road's line, as the reference reads it. -/
theorem ref_road {l a b c : List UInt8} {n u v x : Int} (h : cuts 32 l = [a, b, c]) (hu : toRef (n - 1) (num a) = u) (hv : toRef (n - 1) (num b) = v) (hx : toRef 1000 (num c) = x) :
    road l n = if u < 0 ∨ v ≤ u ∨ x < 1 then none else some (u, v, x) := by
  rw [road_three h, within_ref b (by omega) v hv]
  have bu := toRef_bd (l := a) (most := n - 1)
  have bv := toRef_bd (l := b) (most := n - 1)
  rw [hu] at bu
  rw [hv] at bv
  have eu : ∀ v', v' = v → 0 ≤ v → within a 0 (v' - 1) = if u < 0 ∨ v ≤ u then none else some u := by
    rintro v' rfl h0
    rw [within_ref a (by omega) _ rfl]
    rw [← hu]
    cases hn : num a with
    | none =>
      show (if (-1 : Int) < 0 then none else some (-1 : Int)) = if (-1 : Int) < 0 ∨ v' ≤ (-1 : Int) then none else some (-1 : Int)
      rw [if_pos (by omega), if_pos (by omega)]
    | some z =>
      have hz := num_bd hn
      unfold toRef
      simp only
      by_cases c1 : v' - 1 < z
      · rw [if_pos c1, if_pos (by omega)]
        by_cases c2 : n - 1 < z
        · rw [if_pos c2, if_pos (by omega)]
        · rw [if_neg c2, if_pos (by omega)]
      · rw [if_neg c1, if_neg (by omega), if_neg (show ¬ n - 1 < z by omega), if_neg (by omega)]
  by_cases c1 : v < 0
  · rw [if_pos c1, if_pos (by omega)]
  · rw [if_neg c1]
    simp only
    rw [eu v rfl (by omega)]
    by_cases c2 : u < 0 ∨ v ≤ u
    · rw [if_pos c2, if_pos (by omega)]
    · rw [if_neg c2]
      simp only
      rw [within_ref c (by omega) x hx]
      by_cases c3 : x < 1
      · rw [if_pos c3, if_pos (by omega)]
      · rw [if_neg c3, if_neg (by omega)]

theorem lay_push_twice {len len' : Nat → Nat → Int} {u v : Nat} {x : Int} : ∀ (acc : List Rd) (i : Nat), lay len acc i = .inr len' → len' u v ≠ 0 → lay len (acc ++ [(u, v, x)]) i = .inl (i + acc.length)
  | [], i, h, h0 => by
    rw [lay] at h; cases h
    show lay len [(u, v, x)] i = _
    rw [lay_twice h0]; rfl
  | (a, b, c) :: acc, i, h, h0 => by
    by_cases e : len a b = 0
    · rw [lay_go e] at h
      show lay len ((a, b, c) :: (acc ++ [(u, v, x)])) i = _
      rw [lay_go e, lay_push_twice acc (i + 1) h h0]
      simp; omega
    · rw [lay_twice e] at h; cases h
theorem lay_push_no {r : Rd} {j : Nat} : ∀ (acc : List Rd) (i : Nat) (len : Nat → Nat → Int), lay len acc i = .inl j → lay len (acc ++ [r]) i = .inl j
  | [], i, len, h => by rw [lay] at h; cases h
  | (a, b, c) :: acc, i, len, h => by
    by_cases e : len a b = 0
    · rw [lay_go e] at h
      show lay len ((a, b, c) :: (acc ++ [r])) i = _
      rw [lay_go e]
      exact lay_push_no acc (i + 1) _ h
    · rw [lay_twice e] at h
      show lay len ((a, b, c) :: (acc ++ [r])) i = _
      rw [lay_twice e]; exact h

/-- What the reference knows of the roads acc: laid all (0), or the line of the first that was there already. -/
def LaySt (acc : List Rd) (t : Nat) (len : Nat → Nat → Int) : Prop := (lay (fun _ _ => 0) acc 0 = .inr len ∧ t = 0) ∨ ∃ j, lay (fun _ _ => 0) acc 0 = .inl j ∧ t = j + 1
theorem LaySt.zero : LaySt [] 0 (fun _ _ => 0) := Or.inl ⟨rfl, rfl⟩
theorem LaySt.step {acc : List Rd} {t u v : Nat} {x : Int} {len : Nat → Nat → Int} (h : LaySt acc t len) (hpos : 0 ≤ len u v ∨ t ≠ 0) : LaySt (acc ++ [(u, v, x)]) (if 0 < len u v ∧ t = 0 then acc.length + 1 else t) (layLen len u v x) := by
  rcases h with ⟨h, rfl⟩ | ⟨j, h, rfl⟩
  · by_cases c : 0 < len u v
    · rw [if_pos ⟨c, rfl⟩]
      exact Or.inr ⟨acc.length, by rw [lay_push_twice acc 0 h (by omega)]; simp, rfl⟩
    · rw [if_neg (fun d => c d.1)]
      exact Or.inl ⟨lay_push acc 0 h (by omega), rfl⟩
  · rw [if_neg (fun d => by omega)]
    exact Or.inr ⟨j, lay_push_no acc 0 _ h, rfl⟩
theorem parse_long {l : List UInt8} (h : 4000 < l.length ∨ 200 < l.count 10) : parse l = .err 1 0 := by unfold parse; rw [if_pos h]
theorem parse_cut {l a : List UInt8} {t : List (List UInt8)} (h : ¬ (4000 < l.length ∨ 200 < l.count 10)) (hc : cuts 10 l = a :: t) : parse l = parseRows a t := by unfold parse; rw [if_neg h, hc]
theorem rows_none {a : List UInt8} {t : List (List UInt8)} (h : toRef 40 (num a) < 1) : parseRows a t = .err 2 0 := by
  unfold parseRows; rw [within_ref a (by omega) _ rfl, if_pos h]
theorem rows_some {a : List UInt8} {t : List (List UInt8)} {n : Nat} (h : toRef 40 (num a) = n) (h1 : 1 ≤ n) : parseRows a t = match roads n t 0 with
    | .inl i => .err 2 ((i : Int) + 1)
    | .inr rs => match lay (fun _ _ => 0) rs 0 with
      | .inl i => .err 3 ((i : Int) + 1)
      | .inr len => .ok n rs.length len := by
  unfold parseRows; rw [within_ref a (by omega) _ h, if_neg (by omega)]; rfl
end Go.Proofs.YtdogncjcainhlaaDoor.Pu
/- The walk of the reference's Read. -/
namespace Go.Proofs.YtdogncjcainhlaaDoor
open Go.RowKit Go.Deep
open Mem

/-- What the reference's Read hands back. -/
def RReadPost (w : World) (r : Pu.Res) (e : Ending) (w' : World) : Prop := Turns (fun _ => False) w w' ∧ match r with
  | .err c p => e = .returned (.tuple #[.pointer none, .int .i64 c, .int .i64 p])
  | .ok n k len => ∃ (b lb lcap fg fcap : Nat) (rb fb : List Nat), e = .returned (.tuple #[.pointer (some ⟨b, 0, none⟩), .int .i64 0, .int .i64 0]) ∧ w.heap.size ≤ b ∧
      RB w' b n k (.slice (some ⟨lb, 0, none⟩) n lcap) (.slice (some ⟨fg, 0, none⟩) n fcap) ∧ rb.length = n ∧ fb.length = n ∧
      Grid w' w.heap.size n (.slice (some ⟨lb, 0, none⟩) n lcap) rb len ∧ Grid w' w.heap.size n (.slice (some ⟨fg, 0, none⟩) n fcap) fb (Pu.fillTo len n)

theorem heap_alloc2r (w : World) (o1 o2 : Obj) : ((w.alloc o1).alloc o2).heap[w.heap.size + 1]? = some o2 := by
  have h := heap_alloc_new (w.alloc o1) o2
  rw [World.size_alloc] at h
  exact h

/-- What holds ahead of each round of the first loop: rows without roads. -/
def RRead1 (w1 : World) (n : Nat) (i : Value) (wr : World) : Prop :=
  ∃ (v : Value) (rb : List Nat), i = .int .i64 rb.length ∧ rb.length ≤ n ∧ RB wr w1.heap.size n 0 v (.slice none 0 0) ∧ Grid wr (w1.heap.size + 1) n v rb (fun _ _ => 0) ∧ Turns (fun _ => False) w1 wr
/-- What holds ahead of each round of the second loop: the first k lines are roads, and stand in the rows. -/
def RRead2 (w1 : World) (n : Nat) (v : Value) (rb : List Nat) (T : List (List UInt8)) (tw i : Value) (wr : World) : Prop :=
  ∃ (k t : Nat) (acc : List Pu.Rd) (len : Nat → Nat → Int), i = .int .i64 ((k : Int) + 1) ∧ tw = .int .i64 (t : Int) ∧ k ≤ T.length ∧ acc.length = k ∧ Pu.join acc (Pu.roads n (T.drop k) k) = Pu.roads n T 0 ∧ (∀ r ∈ acc, Pu.RdOk n r) ∧ Pu.LaySt acc t len ∧
    RB wr w1.heap.size n k v (.slice none 0 0) ∧ Grid wr (w1.heap.size + 1) n v rb len ∧ Turns (fun _ => False) w1 wr

theorem rread1_step {w1 wr w4 : World} {n g cap' : Nat} {v : Value} {rb : List Nat} {o2 : Obj} (hlt : rb.length < n) (hB : RB wr w1.heap.size n 0 v (.slice none 0 0))
    (hG : Grid wr (w1.heap.size + 1) n v rb (fun _ _ => 0)) (hT : Turns (fun _ => False) w1 wr)
    (hown : w4.ownsRow (w1.heap.size + 1) 41 1 (.slice (some ⟨g, 0, none⟩) (rb.length + 1) cap') (rb.length + 1) (rowVals n rb ++ [.slice (some ⟨wr.heap.size, 0, none⟩) n n]))
    (hgrow : ((wr.alloc (.cells (madeCells #[.int .i64 0] n) 3)).alloc o2).drew.grownBy w4 v.ownBlock) (hat : v.ownBlock = some g ∨ g = wr.heap.size + 2) :
    RRead1 w1 n (.int .i64 ((rb.length : Int) + 1)) (w4.setCell ⟨w1.heap.size, 2, none⟩ (.slice (some ⟨g, 0, none⟩) (rb.length + 1) cap')) := by
  have hs : w1.heap.size + 1 ≤ wr.heap.size := hB.lt
  obtain ⟨hG4, hT4⟩ := hG.push hs (q := 1) hown hgrow hat (fun _ => rfl)
  have hv : ∀ k, v.ownBlock = some k → w1.heap.size + 1 ≤ k := fun k hk => (hG.own.lt k hk).1
  have hB4 := hB.turns hT4 (fun c => by have := hv _ c; omega)
  have hS : Turns (· = w1.heap.size) w4 (w4.setCell ⟨w1.heap.size, 2, none⟩ (.slice (some ⟨g, 0, none⟩) (rb.length + 1) cap')) := (Turns.refl (· = w1.heap.size) w4).setCell (Or.inr rfl) _
  refine ⟨_, rb ++ [wr.heap.size], by simp, by simp; omega, hB4.set2 _, hG4.turns hS (fun k hk => by omega), ?_⟩
  exact (hT.join hT4 (fun i hi _ c => by have := hv _ c; omega)).setCell (Or.inl (Nat.le_refl _)) _

theorem rread2_step {w1 wz : World} {n k t u v' ru rv : Nat} {x : Int} {v : Value} {rb : List Nat} {T : List (List UInt8)} {l : List UInt8} {acc : List Pu.Rd} {len : Nat → Nat → Int} (hk : acc.length = k) (hT : Turns (fun _ => False) w1 wz)
    (hl : T[k]? = some l) (hroad : Pu.road l n = some ((u : Int), (v' : Int), x)) (hj : Pu.join acc (Pu.roads n (T.drop k) k) = Pu.roads n T 0) (hok : ∀ r ∈ acc, Pu.RdOk n r) (hst : Pu.LaySt acc t len) (hpos : 0 ≤ len u v' ∨ t ≠ 0)
    (hB : RB wz w1.heap.size n k v (.slice none 0 0)) (hG : Grid wz (w1.heap.size + 1) n v rb len) (hru : rb[u]? = some ru) (hrv : rb[v']? = some rv) :
    RRead2 w1 n v rb T (.int .i64 ((if 0 < len u v' ∧ t = 0 then k + 1 else t : Nat) : Int)) (.int .i64 ((k : Int) + 1 + 1)) (((wz.setCell ⟨ru, v', none⟩ (.int .i64 x)).setCell ⟨rv, u, none⟩ (.int .i64 x)).setCell ⟨w1.heap.size, 1, none⟩ (.int .i64 ((k : Int) + 1))) := by
  have hr := Pu.road_some hroad
  have hkl := (List.getElem?_eq_some_iff.1 hl).1
  have r1 := hG.row _ _ hru
  have r2 := hG.row _ _ hrv
  have hTT : Turns (fun k => k = ru ∨ k = rv) wz ((wz.setCell ⟨ru, v', none⟩ (.int .i64 x)).setCell ⟨rv, u, none⟩ (.int .i64 x)) :=
    ((Turns.refl _ wz).setCell (Or.inr (Or.inl rfl)) _).setCell (Or.inr (Or.inr rfl)) _
  have hB2 := hB.turns hTT (by have := r1.2.1; have := r2.2.1; omega)
  have hG2 := (hG.set hru (show v' < n by omega) x).set hrv (show u < n by omega) x
  have hlen : (fun i j => if i = v' ∧ j = u then x else (if i = u ∧ j = v' then x else len i j)) = Pu.layLen len u v' x := by
    funext i j
    unfold Pu.layLen
    by_cases c1 : i = v' ∧ j = u
    · rw [if_pos c1, if_pos (Or.inr c1)]
    · by_cases c2 : i = u ∧ j = v'
      · rw [if_neg c1, if_pos c2, if_pos (Or.inl c2)]
      · rw [if_neg c1, if_neg c2, if_neg (fun c => c.elim c2 c1)]
  rw [hlen] at hG2
  have hS : Turns (· = w1.heap.size) ((wz.setCell ⟨ru, v', none⟩ (.int .i64 x)).setCell ⟨rv, u, none⟩ (.int .i64 x)) _ := (Turns.refl (· = w1.heap.size) _).setCell (x := ⟨w1.heap.size, 1, none⟩) (Or.inr rfl) (.int .i64 ((k : Int) + 1))
  refine ⟨k + 1, _, acc ++ [(u, v', x)], _, by simp, rfl, by omega, by simp [hk], ?_, ?_, by rw [← hk]; exact hst.step hpos, ?_, hG2.turns hS (fun q hq => by omega), ?_⟩
  · rw [← hj, List.drop_eq_getElem_cons hkl, show T[k] = l from (List.getElem?_eq_some_iff.1 hl).2, Pu.roads_good acc hroad]; simp
  · intro r hr'
    rcases List.mem_append.1 hr' with h | h
    · exact hok r h
    · rw [List.mem_singleton] at h; subst h; exact ⟨by simp only; omega, by simp only; omega, by simp only; omega, by simp only; omega⟩
  · have := hB2.set1 ((k : Int) + 1)
    simpa using this
  · exact (hT.join hTT (fun i hi _ c => by have := r1.2.1; have := r2.2.1; omega)).setCell (Or.inl (Nat.le_refl _)) _

set_option maxRecDepth 100000 in
set_option maxHeartbeats 400000 in
theorem rread_long (s : ByteArray) (w : World) (hs : s.size ≤ 2000000) (h : 4000 < s.size ∨ 200 < s.data.toList.count 10) : Calls Tryd.prog 23 #[.string s] w (RReadPost w (.err 1 0)) := by
  go_enter Tryd.func23, Tryd.ntmps23
  go_wp2_with fail
  refine (cut_any s 10 _ hs).mono ?_
  rintro e w1 ⟨hT1, g, cap, ps, rfl, hps, hown⟩
  have hpl : ps.length = s.data.toList.count 10 + 1 := by rw [← Pu.cuts_length, ← hps]; simp
  have hml : ps.length ≤ 2000001 := by
    have := List.count_le_length (a := (10 : UInt8)) (l := s.data.toList)
    have e : s.data.toList.length = s.size := by simp
    omega
  have hor : (4000 : Int) < (s.size : Int) ∨ ((s.size : Int) ≤ 4000 ∧ (201 : Int) < (ps.length : Int)) := by omega
  clear hpl hps hown h
  rcases hor with hc | ⟨hc, hc'⟩
  all_goals
    go_wp2
    exact bodyPost_ret (v := .tuple #[.pointer none, .int .i64 1, .int .i64 0]) (by simp [results, Tryd.results23, go_sem]) rfl ⟨hT1, rfl⟩
set_option maxRecDepth 100000 in
set_option maxHeartbeats 400000 in
theorem rread_form (s P0 : ByteArray) (T : List ByteArray) (w : World) (h : s.size ≤ 4000) (h2 : s.data.toList.count 10 ≤ 200) (hp : Pu.cuts 10 s.data.toList = P0.data.toList :: T.map (·.data.toList)) (hw : Pu.toRef 40 (Pu.num P0.data.toList) < 1) : Calls Tryd.prog 23 #[.string s] w (RReadPost w (.err 2 0)) := by
  go_enter Tryd.func23, Tryd.ntmps23
  go_wp2_with fail
  refine (cut_any s 10 _ (by omega)).mono ?_
  rintro e w1 ⟨hT1, g, cap, ps, rfl, hps, hown⟩
  have hpl : ps.length = s.data.toList.count 10 + 1 := by rw [← Pu.cuts_length, ← hps]; simp
  rw [hp] at hps
  obtain ⟨q0, qs, rfl, hq0, hqs⟩ : ∃ q0 qs, ps = q0 :: qs ∧ q0.data.toList = P0.data.toList ∧ qs.map (·.data.toList) = T.map (·.data.toList) := by
    cases ps with
    | nil => simp at hps
    | cons q0 qs => simp only [List.map_cons, List.cons.injEq] at hps; exact ⟨q0, qs, rfl, hps.1, hps.2⟩
  have hc0 : w1.cell? ⟨g, 0, none⟩ = some (.string q0) := by rw [hown.cellAt 0 (by simp)]; simp
  have hqs0 : q0.size ≤ maxLen := by
    have := Pu.cuts_le 10 s.data.toList q0.data.toList (by rw [hp, hq0]; simp)
    simp at this; unfold maxLen; omega
  have hll : (qs.length : Int) + 1 ≤ 201 := by simp only [List.length_cons] at hpl; omega
  have hnum := refnum_any q0 40 w1 hqs0 (by omega) (by omega)
  rw [hq0] at hnum
  generalize Pu.toRef 40 (Pu.num P0.data.toList) = r at *
  simp only [List.length_cons]
  clear hpl hps hown hqs hp hq0
  go_wp2_with fail
  refine hnum.mono ?_
  rintro e w2 ⟨rfl, hw2⟩
  subst w2
  go_wp2
  exact bodyPost_ret (v := .tuple #[.pointer none, .int .i64 2, .int .i64 0]) (by simp [results, Tryd.results23, go_sem]) rfl ⟨hT1, rfl⟩

set_option maxRecDepth 100000 in
set_option maxHeartbeats 2000000 in
theorem rread_main (s P0 : ByteArray) (T : List ByteArray) (n : Nat) (w : World) (h : s.size ≤ 4000) (h2 : s.data.toList.count 10 ≤ 200) (hp : Pu.cuts 10 s.data.toList = P0.data.toList :: T.map (·.data.toList)) (hw : Pu.toRef 40 (Pu.num P0.data.toList) = n) (hn1 : 1 ≤ n) (hn2 : n ≤ 40) :
    Calls Tryd.prog 23 #[.string s] w (RReadPost w (Pu.parseRows P0.data.toList (T.map (·.data.toList)))) := by
  have HP : Hid (Pu.parseRows P0.data.toList (T.map (·.data.toList)) = match Pu.roads n (T.map (·.data.toList)) 0 with
    | .inl i => .err 2 ((i : Int) + 1)
    | .inr rs => match Pu.lay (fun _ _ => 0) rs 0 with
      | .inl i => .err 3 ((i : Int) + 1)
      | .inr len => .ok n rs.length len) := Pu.rows_some hw hn1
  generalize Pu.parseRows P0.data.toList (T.map (·.data.toList)) = RES at *
  have hmk := run_make_row' (P := Tryd.prog) 41 3 (.int .i64 0) 8 Tryd.underlying41 info3 rfl .i64 .i64 n (by omega) (by omega)
  obtain ⟨i0, hi, hz0, hz1, hz2⟩ := info_parts info41r
  go_enter Tryd.func23, Tryd.ntmps23
  go_wp2_with fail
  refine (cut_any s 10 _ (by omega)).mono ?_
  rintro e w1 ⟨hT1, g, cap, ps, rfl, hps, hown⟩
  have hpl : ps.length = s.data.toList.count 10 + 1 := by rw [← Pu.cuts_length, ← hps]; simp
  rw [hp] at hps
  obtain ⟨q0, qs, rfl, hq0, hqs⟩ : ∃ q0 qs, ps = q0 :: qs ∧ q0.data.toList = P0.data.toList ∧ qs.map (·.data.toList) = T.map (·.data.toList) := by
    cases ps with
    | nil => simp at hps
    | cons q0 qs => simp only [List.map_cons, List.cons.injEq] at hps; exact ⟨q0, qs, rfl, hps.1, hps.2⟩
  have hc0 : w1.cell? ⟨g, 0, none⟩ = some (.string q0) := by rw [hown.cellAt 0 (by simp)]; simp
  have hsz : ∀ q ∈ q0 :: qs, q.size ≤ 4000 := fun q hq => by
    have := Pu.cuts_le 10 s.data.toList q.data.toList (by rw [hp, ← hq0, ← hqs]; exact List.mem_map_of_mem (f := fun x : ByteArray => x.data.toList) hq)
    simp at this; omega
  have hqs0 : q0.size ≤ maxLen := by have := hsz q0 (by simp); unfold maxLen; omega
  have hll : (qs.length : Int) + 1 ≤ 201 := by simp only [List.length_cons] at hpl; omega
  have hnum := refnum_any q0 40 w1 hqs0 (by omega) (by omega)
  rw [hq0, hw] at hnum
  rw [← hqs] at HP
  have HROW : Hid (∀ (k : Nat) (q : ByteArray), qs[k]? = some q → w1.cell? ⟨g, k + 1, none⟩ = some (.string q) ∧ q.size ≤ 4000) := fun k q hq => by
    have hkl := (List.getElem?_eq_some_iff.1 hq).1
    exact ⟨by rw [hown.cellAt (k + 1) (by simp; omega)]; simp [hq], hsz q (by simp [List.mem_of_getElem? hq])⟩
  have hgl : g < w1.heap.size := World.block_lt_of_cell? _ _ hc0
  simp only [List.length_cons]
  clear hpl hps hqs hp hq0 hsz hqs0 hown h2 hw
  go_wp2_with fail
  refine hnum.mono ?_
  rintro e w2 ⟨rfl, hw2⟩
  subst w2
  have hB0 : RB (w1.alloc (.cells #[.int .i64 n, .int .i64 0, .slice none 0 0, .slice none 0 0] 62)) w1.heap.size n 0 (.slice none 0 0) (.slice none 0 0) := RB.new w1 _ _ _ _
  clear hnum hc0
  go_wp2
  go_loopw [8] (fun i wr => RRead1 w1 n i wr) (fun i _ => n - (intOf i).toNat)
  case atStart => exact ⟨_, [], rfl, Nat.zero_le _, hB0, Grid.nil _ _ _ _, (Turns.refl _ _).alloc _⟩
  case round =>
    clear hB0
    obtain ⟨v, rb, rfl, hk, hB, hG, hT⟩ := hrel
    by_cases hlt : rb.length < n
    · have c2 := hB.c2
      have f2 := hB.free 2
      have hbl := hB.lt
      have hvn : v.ownBlock ≠ some w1.heap.size := fun c => by have := (hG.own.lt _ c).1; omega
      have hown := hG.own
      have HG : Hid (Grid wr (w1.heap.size + 1) n v rb (fun _ _ => 0)) := hG
      have HB : Hid (RB wr w1.heap.size n 0 v (.slice none 0 0)) := hB
      clear hG hB
      have d1 : ∀ o, (wr.alloc o).cell? ⟨w1.heap.size, 2, none⟩ = some v := fun o => (World.cell?_alloc_lt _ _ _ hbl).trans c2
      have d2 : ∀ o o', ((wr.alloc o).alloc o').cell? ⟨w1.heap.size, 2, none⟩ = some v := fun o o' => (World.cell?_alloc_lt _ _ _ (by simp; omega)).trans (d1 o)
      go_wp2_with fail
      go_region_law
        ((refine step_append_lies _ (by rfl) _ _ _ (by rfl) (w1.heap.size + 1) 41 i0 _ 1 24 Tryd.underlying33 hi hz0 hz1 hz2 rfl (by omega) v rb.length (rowVals n rb) (by rfl) (((hown.alloc _).alloc _).drew)
            ⟨wr.heap.size + 1, 0, none⟩ 1 1 [.slice (some ⟨wr.heap.size, 0, none⟩) n n] (by rfl) (by rfl) (World.news_of_block (cs := #[.slice (some ⟨wr.heap.size, 0, none⟩) n n]) (t := 41) (fr := (0, 0)) (heap_alloc2r wr _ _)) (by simp [Value.oneCell'])
            (by omega) (by unfold maxLen; omega) (by omega) (by simp; omega) (wr.heap.size + 2) (by simp) ?_; intro g' cap' w4 hown4 hgrow hat hlt4; have hT4 : Turns (fun k => v.ownBlock = some k) wr w4 := ((((Turns.refl _ wr).alloc _).alloc _).drew).grown hgrow (fun _ hk => Or.inr hk); have hB4 := HB.out.turns hT4 hvn; have hc4 := hB4.c2; have hf4 := hB4.free 2))
      all_goals
        have HX : Hid (RRead1 w1 n (.int .i64 ((rb.length : Int) + 1)) (w4.setCell ⟨w1.heap.size, 2, none⟩ (.slice (some ⟨g', 0, none⟩) (rb.length + 1) cap'))) := rread1_step hlt HB.out HG.out hT hown4 hgrow hat
        clear hown4 hgrow hat hT4 hB4 HG HB d1 d2 hown
        go_wp2
        go_roundw
        case measure => simp [intOf]; omega
        case rel => exact HX.out
    · have e : rb.length = n := by omega
      obtain ⟨lb, lcap, rfl, hlb, hlb2⟩ := hG.form (by omega)
      have HE : Hid (rb.length = n) := e
      have HG0 : Hid (RRead2 w1 n (.slice (some ⟨lb, 0, none⟩) rb.length lcap) rb (qs.map (·.data.toList)) (.int .i64 0) (.int .i64 1) wr) :=
        ⟨0, 0, [], fun _ _ => 0, rfl, rfl, Nat.zero_le _, rfl, by rw [Pu.join_nil]; rfl, fun r hr => by (cases hr), Pu.LaySt.zero, hB, hG, hT⟩
      rw [e] at HG0
      clear hB hG hT hk hmk hi hz0 hz1 hz2 e hlb hlb2 hlt
      have hrl : rb.length = n := HE.out
      rw [hrl]
      clear hrl
      go_wp2
      go_loopw [9, 10] (fun tw i wr => RRead2 w1 n (.slice (some ⟨lb, 0, none⟩) n lcap) rb (qs.map (·.data.toList)) tw i wr) (fun _ i _ => qs.length + 1 - (intOf i).toNat)
      case atStart => exact HG0.out
      case round =>
        clear HG0
        obtain ⟨k, t, acc, len, rfl, rfl, hk, hacc, hj, hok, hst, hB, hG, hT⟩ := hrel
        simp only [List.length_map] at hk
        by_cases hlt : k < qs.length
        · obtain ⟨q, hq⟩ : ∃ q, qs[k]? = some q := ⟨_, List.getElem?_eq_getElem hlt⟩
          obtain ⟨hcq, hqs⟩ := HROW.out k q hq
          have hcq' : wr.cell? ⟨g, k + 1, none⟩ = some (.string q) := (hT.cell (a := ⟨g, k + 1, none⟩) hgl (fun x => x)).trans hcq
          have hlti : (k : Int) + 1 < (qs.length : Int) + 1 := by omega
          have HL : Hid ((qs.map (·.data.toList))[k]? = some q.data.toList) := by show _ = _; rw [List.getElem?_map, hq]; rfl
          have HBAD : Hid (Pu.road q.data.toList n = none → ∀ w', Turns (fun _ => False) wr w' → RReadPost w RES (.returned (.tuple #[.pointer none, .int .i64 2, .int .i64 ((k : Int) + 1)])) w') := by
            intro hb w' hw'
            have hkl := (List.getElem?_eq_some_iff.1 HL.out).1
            have e : Pu.roads n (qs.map (·.data.toList)) 0 = .inl k := by
              rw [← hj, List.drop_eq_getElem_cons hkl, show (qs.map (·.data.toList))[k] = q.data.toList from (List.getElem?_eq_some_iff.1 HL.out).2]
              exact Pu.roads_bad acc hb
            rw [HP.out, e]
            exact ⟨(hT1.trans hT).trans hw', rfl⟩
          clear hcq hq HROW
          go_wp2_with fail
          refine (cut_any q 32 _ (by omega)).mono ?_
          rintro e w2 ⟨hT2, g2, cap2, ps, rfl, hps, hown⟩
          have hpl : ps.length = (Pu.cuts 32 q.data.toList).length := by rw [← hps]; simp
          have hpb : ps.length ≤ 4001 := by
            have := List.count_le_length (a := (32 : UInt8)) (l := q.data.toList)
            have e : q.data.toList.length = q.size := by simp
            have := Pu.cuts_length 32 q.data.toList
            omega
          by_cases h3 : ps.length = 3
          · obtain ⟨a, b, c, rfl⟩ : ∃ a b c, ps = [a, b, c] := by
              match ps, h3 with
              | [a, b, c], _ => exact ⟨a, b, c, rfl⟩
            simp only [List.map_cons, List.map_nil] at hps
            have ca : w2.cell? ⟨g2, 0, none⟩ = some (.string a) := by rw [hown.cellAt 0 (by simp)]; simp
            have cb : w2.cell? ⟨g2, 1, none⟩ = some (.string b) := by rw [hown.cellAt 1 (by simp)]; simp
            have cc : w2.cell? ⟨g2, 2, none⟩ = some (.string c) := by rw [hown.cellAt 2 (by simp)]; simp
            have sz : ∀ x ∈ [a, b, c], x.size ≤ maxLen := fun x hx => by
              have := Pu.cuts_le 32 q.data.toList x.data.toList (by rw [← hps]; simp at hx ⊢; rcases hx with rfl | rfl | rfl <;> simp)
              simp at this; unfold maxLen; omega
            have na := refnum_any a ((n : Int) - 1) w2 (sz a (by simp)) (by omega) (by omega)
            have nb := refnum_any b ((n : Int) - 1) w2 (sz b (by simp)) (by omega) (by omega)
            have nc := refnum_any c 1000 w2 (sz c (by simp)) (by omega) (by omega)
            have bu := Pu.toRef_bd (l := a.data.toList) (most := (n : Int) - 1)
            have bv := Pu.toRef_bd (l := b.data.toList) (most := (n : Int) - 1)
            have bx := Pu.toRef_bd (l := c.data.toList) (most := 1000)
            obtain ⟨U, hU⟩ : ∃ U, Pu.toRef ((n : Int) - 1) (Pu.num a.data.toList) = U := ⟨_, rfl⟩
            obtain ⟨V, hV⟩ : ∃ V, Pu.toRef ((n : Int) - 1) (Pu.num b.data.toList) = V := ⟨_, rfl⟩
            obtain ⟨X, hX⟩ : ∃ X, Pu.toRef 1000 (Pu.num c.data.toList) = X := ⟨_, rfl⟩
            have HROAD : Hid (Pu.road q.data.toList n = if U < 0 ∨ V ≤ U ∨ X < 1 then none else some (U, V, X)) := Pu.ref_road hps.symm hU hV hX
            rw [hU] at na bu
            rw [hV] at nb bv
            rw [hX] at nc bx
            simp only [List.length_cons, List.length_nil, Nat.zero_add]
            clear hU hV hX sz hown hps hpl hpb h3
            go_wp2_with fail
            refine na.mono ?_
            rintro e w3 ⟨rfl, hw3⟩
            subst w3
            go_wp2_with fail
            refine nb.mono ?_
            rintro e w3 ⟨rfl, hw3⟩
            subst w3
            go_wp2_with fail
            refine nc.mono ?_
            rintro e w3 ⟨rfl, hw3⟩
            subst w3
            clear na nb nc ca cb cc
            by_cases hbad : U < 0 ∨ V ≤ U ∨ X < 1
            · have HB2 := HBAD.out (by rw [HROAD.out, if_pos hbad]) _ hT2
              have HB3 : Hid (RReadPost w RES (.returned (.tuple #[.pointer none, .int .i64 2, .int .i64 ((k : Int) + 1)])) w2) := HB2
              clear HB2 HBAD HROAD hB hG hT hj hok hst bu bv bx
              rcases (show U < 0 ∨ (0 ≤ U ∧ V ≤ U) ∨ (0 ≤ U ∧ U < V ∧ X < 1) by omega) with hb | ⟨hb, hb'⟩ | ⟨hb, hb', hb''⟩
              all_goals
                clear hbad
                go_wp2
                exact bodyPost_ret (v := .tuple #[.pointer none, .int .i64 2, .int .i64 ((k : Int) + 1)]) (by simp [results, Tryd.results23, go_sem]) rfl HB3.out
            · have hu0 : 0 ≤ U := by omega
              have huv : U < V := by omega
              have hx1 : 1 ≤ X := by omega
              have hroad := HROAD.out
              rw [if_neg hbad] at hroad
              obtain ⟨u, rfl⟩ := Int.eq_ofNat_of_zero_le hu0
              obtain ⟨v, rfl⟩ := Int.eq_ofNat_of_zero_le (show 0 ≤ V by omega)
              have hrl := HE.out
              obtain ⟨ru, hru⟩ : ∃ ru, rb[u]? = some ru := ⟨_, List.getElem?_eq_getElem (by omega)⟩
              obtain ⟨rv, hrv⟩ : ∃ rv, rb[v]? = some rv := ⟨_, List.getElem?_eq_getElem (by omega)⟩
              have hB2 := hB.turns hT2 (fun x => x)
              have hG2 := hG.turns hT2 (fun _ _ x => x)
              have hpos : 0 ≤ len u v ∨ t ≠ 0 := by
                rcases hst with ⟨hl, rfl⟩ | ⟨j, _, rfl⟩
                · left; exact ((Pu.Net.lay_all acc _ _ 0 (Pu.Net.zero n) hok hl).lens.rng u v).1
                · right; omega
              have HX := rread2_step (T := qs.map (·.data.toList)) hacc (hT.trans hT2) HL.out hroad hj hok hst hpos hB2 hG2 hru hrv
              have HX' : Hid (RRead2 w1 n (.slice (some ⟨lb, 0, none⟩) n lcap) rb (qs.map (·.data.toList)) (.int .i64 ((if 0 < len u v ∧ t = 0 then k + 1 else t : Nat) : Int)) (.int .i64 ((k : Int) + 1 + 1)) (((w2.setCell ⟨ru, v, none⟩ (.int .i64 X)).setCell ⟨rv, u, none⟩ (.int .i64 X)).setCell ⟨w1.heap.size, 1, none⟩ (.int .i64 ((k : Int) + 1)))) := HX
              have hGc := hG2
              rw [← hrl] at hGc
              have g1 := hGc.cell hru
              have g2' := hGc.cell hrv
              rw [hrl] at g1 g2'
              have r1 := hG2.row _ _ hru
              have r2 := hG2.row _ _ hrv
              have m1 := r1.1.cell v (by omega)
              have m2 := r2.1.cell u (by omega)
              have f1 := r1.1.free v (by omega)
              have f2 := r2.1.free u (by omega)
              have c2 := hB2.c2
              have c1 := hB2.c1
              have fb1 := hB2.free 1
              have n1 : ru ≠ w1.heap.size := by have := r1.2.1; omega
              have n1' : rv ≠ w1.heap.size := by have := r2.2.1; omega
              have n2 : ru ≠ lb := fun c => r1.2.2 (by rw [c]; rfl)
              have n3 : ru ≠ rv := fun c => by have := hG.inj u v ru hru (by rw [hrv, c]); omega
              have s1 : ∀ y, (w2.setCell ⟨ru, v, none⟩ y).cell? ⟨w1.heap.size, 2, none⟩ = some (.slice (some ⟨lb, 0, none⟩) n lcap) := fun y => (World.cell?_setCell_other _ _ _ _ (by intro c; injection c with c; exact n1 c)).trans c2
              have s2 : ∀ y, (w2.setCell ⟨ru, v, none⟩ y).cell? ⟨lb, v, none⟩ = some (.slice (some ⟨rv, 0, none⟩) n n) := fun y => (World.cell?_setCell_other _ _ _ _ (by intro c; injection c with c; exact n2 c)).trans g2'
              have s3 : ∀ y, (w2.setCell ⟨ru, v, none⟩ y).cell? ⟨rv, u, none⟩ = some (.int .i64 (len v u)) := fun y => (World.cell?_setCell_other _ _ _ _ (by intro c; injection c with c; exact n3 c)).trans m2
              have s4 : ∀ y y', ((w2.setCell ⟨ru, v, none⟩ y).setCell ⟨rv, u, none⟩ y').cell? ⟨w1.heap.size, 1, none⟩ = some (.int .i64 k) := fun y y' => (World.cell?_setCell_other _ _ _ _ (by intro c; injection c with c; exact n1' c)).trans ((World.cell?_setCell_other _ _ _ _ (by intro c; injection c with c; exact n1 c)).trans c1)
              have hui : (u : Int) < (n : Int) := by omega
              have hvi : (v : Int) < (n : Int) := by omega
              clear HX hB hG hT hj hok hst bu bv hpos hB2 hG2 hGc r1 r2 hru hrv hbad hroad HBAD HROAD hrl c1 hT2
              by_cases hp1 : 0 < len u v
              · by_cases ht0 : t = 0
                · have htb : ((t : Int) == 0) = true := by simp [ht0]
                  have HY := HX'.out
                  rw [if_pos ⟨hp1, ht0⟩] at HY
                  have HZ : Hid (RRead2 w1 n (.slice (some ⟨lb, 0, none⟩) n lcap) rb (qs.map (·.data.toList)) (.int .i64 ((k : Int) + 1)) (.int .i64 ((k : Int) + 1 + 1)) (((w2.setCell ⟨ru, v, none⟩ (.int .i64 X)).setCell ⟨rv, u, none⟩ (.int .i64 X)).setCell ⟨w1.heap.size, 1, none⟩ (.int .i64 ((k : Int) + 1)))) := by show RRead2 _ _ _ _ _ _ _ _; simpa using HY
                  clear HY HX' ht0
                  go_wp2
                  go_roundw
                  case measure => simp [intOf]; omega
                  case rel => exact HZ.out
                · have htb : ((t : Int) == 0) = false := by simp; omega
                  have HY := HX'.out
                  rw [if_neg (fun c => ht0 c.2)] at HY
                  have HZ : Hid (RRead2 w1 n (.slice (some ⟨lb, 0, none⟩) n lcap) rb (qs.map (·.data.toList)) (.int .i64 (t : Int)) (.int .i64 ((k : Int) + 1 + 1)) (((w2.setCell ⟨ru, v, none⟩ (.int .i64 X)).setCell ⟨rv, u, none⟩ (.int .i64 X)).setCell ⟨w1.heap.size, 1, none⟩ (.int .i64 ((k : Int) + 1)))) := HY
                  clear HY HX' ht0
                  go_wp2
                  go_roundw
                  case measure => simp [intOf]; omega
                  case rel => exact HZ.out
              · have hpn : (0 < len u v) = False := by simpa using hp1
                have HY := HX'.out
                rw [if_neg (fun c => hp1 c.1)] at HY
                have HZ : Hid (RRead2 w1 n (.slice (some ⟨lb, 0, none⟩) n lcap) rb (qs.map (·.data.toList)) (.int .i64 (t : Int)) (.int .i64 ((k : Int) + 1 + 1)) (((w2.setCell ⟨ru, v, none⟩ (.int .i64 X)).setCell ⟨rv, u, none⟩ (.int .i64 X)).setCell ⟨w1.heap.size, 1, none⟩ (.int .i64 ((k : Int) + 1)))) := HY
                clear HY HX' hp1
                go_wp2
                go_roundw
                case measure => simp [intOf]; omega
                case rel => exact HZ.out
          · have hne : ((ps.length : Int) != 3) = true := by simp; omega
            have HB3 : Hid (RReadPost w RES (.returned (.tuple #[.pointer none, .int .i64 2, .int .i64 ((k : Int) + 1)])) w2) := HBAD.out (Pu.road_ne (by rw [← hpl]; exact h3)) _ hT2
            clear HBAD hB hG hT hj hok hst hown hps hpl h3
            go_wp2
            exact bodyPost_ret (v := .tuple #[.pointer none, .int .i64 2, .int .i64 ((k : Int) + 1)]) (by simp [results, Tryd.results23, go_sem]) rfl HB3.out
        · have hlti : ¬ (k : Int) + 1 < (qs.length : Int) + 1 := by omega
          have hroads : Pu.roads n (qs.map (·.data.toList)) 0 = .inr acc := by
            rw [← hj, List.drop_of_length_le (by simp; omega), Pu.roads]; simp [Pu.join]
          rw [hroads] at HP
          simp only at HP
          rcases hst with ⟨hl, rfl⟩ | ⟨j, hl, rfl⟩
          · rw [hl] at HP
            simp only at HP
            have HRES : Hid (RES = .ok n acc.length len) := HP.out
            have hN := Pu.Net.lay_all acc _ _ 0 (Pu.Net.zero n) hok hl
            have hT01 := hT1.size
            have hTr := hT
            have hbl := hB.lt
            have hrl := HE.out
            have hfill := fill_any wr w1.heap.size (w1.heap.size + 1) n lb lcap k rb len hn1 hn2 (by rw [hrl]; exact hB) (by rw [hrl]; exact hG) hrl (by omega) hN.lens
            rw [hrl] at hfill
            have HZ : Hid (∀ w3 fv fb, fb.length = n → Fill2 wr w1.heap.size n k (.slice (some ⟨lb, 0, none⟩) n lcap) fv fb (Pu.fillTo len n) w3 → RReadPost w (.ok n acc.length len) (.returned (.tuple #[.pointer (some ⟨w1.heap.size, 0, none⟩), .int .i64 0, .int .i64 0])) w3) := by
              intro w3 fv fb hfb hF
              obtain ⟨fg, fcap, hfv, _, _⟩ := hF.2.1.form (by omega)
              subst hfv
              have hF1 := hF.1
              have hF2 := hF.2.1
              rw [hfb] at hF1 hF2
              have hsz := hT.size
              refine ⟨hT1.trans (hT.join hF.2.2 (fun i hi _ c => by omega)), w1.heap.size, lb, lcap, fg, fcap, rb, fb, rfl, hT01, by rw [hacc]; exact hF1, hrl, hfb, (hG.turns hF.2.2 (fun q hq c => by omega)).mono (by omega), hF2.mono (by omega)⟩
            clear hB hG hT hj hok hl hN HP hroads HROW hTr hT01 hbl
            go_wp2_with fail
            refine hfill.mono ?_
            rintro e w3 ⟨rfl, fv, fb, hfb, hF⟩
            have HZ3 : Hid (RReadPost w (.ok n acc.length len) (.returned (.tuple #[.pointer (some ⟨w1.heap.size, 0, none⟩), .int .i64 0, .int .i64 0])) w3) := HZ.out _ _ _ hfb hF
            clear hF hfill HZ hfb
            go_wp2
            exact bodyPost_ret (v := .tuple #[.pointer (some ⟨w1.heap.size, 0, none⟩), .int .i64 0, .int .i64 0]) (by simp [results, Tryd.results23, go_sem]) rfl (by rw [HRES.out]; exact HZ3.out)
          · rw [hl] at HP
            simp only at HP
            have HRES : Hid (RES = .err 3 ((j : Int) + 1)) := HP.out
            have hTT := hT1.trans hT
            have hj0 : (0 : Int) < (j : Int) + 1 := by omega
            have hji : ((j + 1 : Nat) : Int) = (j : Int) + 1 := by omega
            rw [hji]
            clear hB hG hT hj hok hl HP hroads HROW hji
            go_wp2
            exact bodyPost_ret (v := .tuple #[.pointer none, .int .i64 3, .int .i64 ((j : Int) + 1)]) (by simp [results, Tryd.results23, go_sem]) rfl (by rw [HRES.out]; exact ⟨hTT, rfl⟩)
/-- The reference reads a map as the document has it. -/
theorem rread_any (s : ByteArray) (w : World) (hs : s.size ≤ 2000000) : Calls Tryd.prog 23 #[.string s] w (RReadPost w (Pu.parse s.data.toList)) := by
  have e : s.data.toList.length = s.size := by simp
  by_cases h : 4000 < s.size ∨ 200 < s.data.toList.count 10
  · rw [Pu.parse_long (by rw [e]; exact h)]; exact rread_long s w hs h
  · obtain ⟨a, t, hc⟩ := Pu.cuts_ne 10 s.data.toList
    rw [Pu.parse_cut (by rw [e]; exact h) hc]
    have ht : t = (t.map (fun l => (⟨l.toArray⟩ : ByteArray))).map (·.data.toList) := by rw [List.map_map]; simp [Function.comp_def]
    have ha : a = (⟨a.toArray⟩ : ByteArray).data.toList := by simp
    rw [ht] at hc ⊢
    rw [ha] at hc ⊢
    have b0 := Pu.toRef_bd (l := (⟨a.toArray⟩ : ByteArray).data.toList) (most := 40)
    by_cases h1 : Pu.toRef 40 (Pu.num (⟨a.toArray⟩ : ByteArray).data.toList) < 1
    · rw [Pu.rows_none h1]; exact rread_form s _ _ w (by omega) (by omega) hc h1
    · obtain ⟨n, hn⟩ := Int.eq_ofNat_of_zero_le (show 0 ≤ Pu.toRef 40 (Pu.num (⟨a.toArray⟩ : ByteArray).data.toList) by omega)
      exact rread_main s _ _ n w (by omega) (by omega) hc hn (by omega) (by omega)
#print axioms rread_any
end Go.Proofs.YtdogncjcainhlaaDoor
/- The library's contract of slices.Contains, laid at this translation. -/
namespace Go.Proofs.YtdogncjcainhlaaDoor
open Go.Shelf Go.Lib
def lays107_ren : Go.Shelf.Ren := ⟨fun | 107 => 63 | 108 => 82 | n => n, fun | 28 => 41 | 3 => 3 | 4 => 4 | 0 => 0 | n => n, fun | n => n⟩
theorem lays107 : Go.Proofs.Lays.n107 Tryd.prog lays107_ren := {
  mixed := by kernel_rfl
  f107 := Tryd.func63.trans (congrArg some (by kernel_rfl))
  f108 := Tryd.func82.trans (congrArg some (by kernel_rfl))
  t0 := Tryd.underlying0
  a0 := Tryd.isAgg0
  z0 := Tryd.sizeOf0
  v0 := Tryd.zeroValue0
  t3 := Tryd.underlying3
  a3 := Tryd.isAgg3
  z3 := Tryd.sizeOf3
  v3 := Tryd.zeroValue3
  t4 := Tryd.underlying4
  a4 := Tryd.isAgg4
  z4 := Tryd.sizeOf4
  v4 := Tryd.zeroValue4
  t28 := Tryd.underlying41
  a28 := Tryd.isAgg41
  z28 := Tryd.sizeOf41
  v28 := Tryd.zeroValue41 }
theorem slices_Contains_int (b off n c : Nat) (zs : List Int) (x : Int) (w : World) (hz : n ≤ zs.length) (hbig : n ≤ 9223372036854775807) (hc : ∀ j, j < zs.length → w.cell? ⟨b, off + j, none⟩ = some (.int .i64 (zs.getD j 0))) :
    Calls Tryd.prog 63 #[.slice (some ⟨b, off, none⟩) n c, .int .i64 x] w fun e w' => e = .returned (.bool ((zs.take n).contains x)) ∧ w' = w := Any.slices_Contains_int lays107 b off n c zs x w hz hbig hc
end Go.Proofs.YtdogncjcainhlaaDoor
/- The walk of ranks.Parse, where the order is not empty. -/
namespace Go.Proofs.YtdogncjcainhlaaDoor
open Go.RowKit Go.Deep
open Mem

theorem split_big (s : ByteArray) (c : UInt8) (w : World) (hs : s.size ≤ 2000000) (hm : Ml w) :
    Calls Tryd.prog 40 #[.string s, .string ⟨#[c]⟩] w fun e w' => e = .returned (.slice (some ⟨w.heap.size, 0, none⟩) (Pu.pieces c s).length (Pu.pieces c s).length) ∧ w' = w.alloc (.cells ((Pu.pieces c s).map Value.string).toArray 9) := by
  obtain ⟨m, hm⟩ := hm.2
  rw [Pu.pieces_length]
  exact strings_Split s ⟨#[c]⟩ m w (by omega) hm (Nat.le_refl 1)

/-- What ranks.Parse hands back. -/
def RankPost (w : World) (n : Nat) (o : Option (List Nat)) (e : Ending) (w' : World) : Prop := Turns (fun _ => False) w w' ∧ match o with
  | none => e = .returned (.tuple #[.slice none 0 0, .bool false])
  | some O => ∃ ob ocap, e = .returned (.tuple #[.slice (some ⟨ob, 0, none⟩) n ocap, .bool true]) ∧ Ord w' ob n O ∧ n ≤ ocap

set_option maxRecDepth 100000 in
set_option maxHeartbeats 1000000 in
theorem rank_count (s : ByteArray) (w : World) (b n : Nat) (R : Int) (len : Nat → Nat → Int) (hs0 : 0 < s.size) (hn1 : 1 ≤ n) (hn : n ≤ 40) (hM : MapAt w b n R len) (hc : (Pu.cuts 32 s.data.toList).length ≠ n) :
    Calls Tryd.prog 47 #[.pointer (some ⟨b, 0, none⟩), .string s] w (RankPost w n none) := by
  have he := nonempty_of hs0
  have hp := hM.places
  have hcl := Pu.cuts_length 32 s.data.toList
  have hcount := fun w' => strings_Count_one s 32 w'
  unfold Lib.countByte at hcount
  generalize List.count 32 s.data.toList = c at *
  have hne : ((c : Int) != (n : Int) - 1) = true := by simp; omega
  clear hM hcl hc
  go_enter Tryd.func47, Tryd.ntmps47
  go_wp2
  go_quiet ((go_at_call 39; exact Calls.quiet_of_same (hcount _)))
  go_wp2
  exact bodyPost_ret (v := .tuple #[.slice none 0 0, .bool false]) (by simp [results, Tryd.results47, go_sem]) rfl ⟨(Turns.refl _ w).drewN _, rfl⟩

/-- What holds ahead of each round: the places acc were read. -/
def RankInv (w1 : World) (n pb : Nat) (ps : List ByteArray) (res : Option (List Nat)) (v iv : Value) (wr : World) : Prop :=
  ∃ (k g cap : Nat) (acc : List Nat), iv = .int .i64 k ∧ k ≤ ps.length ∧ acc.length = k ∧ v = .slice (some ⟨g, 0, none⟩) k cap ∧ wr.ownsRow w1.heap.size 3 1 (.slice (some ⟨g, 0, none⟩) k cap) k (vals acc) ∧
    (∀ m ∈ acc, m < n) ∧ Pu.ordGo n ((ps.map (·.data.toList)).drop k) acc = res ∧ Turns (fun _ => False) w1 wr ∧ g ≠ pb ∧ pb < wr.heap.size ∧ k ≤ cap ∧
    ∀ (j : Nat) q, ps[j]? = some q → wr.cell? ⟨pb, j, none⟩ = some (.string q)

set_option maxRecDepth 100000 in
set_option maxHeartbeats 1000000 in
theorem rank_main (s : ByteArray) (w : World) (b n : Nat) (R : Int) (len : Nat → Nat → Int) (hs0 : 0 < s.size) (hs : s.size ≤ 2000000) (hn1 : 1 ≤ n) (hn : n ≤ 40) (hM : MapAt w b n R len) (hm : Ml w) (hc : (Pu.cuts 32 s.data.toList).length = n) :
    Calls Tryd.prog 47 #[.pointer (some ⟨b, 0, none⟩), .string s] w (RankPost w n (Pu.ordGo n (Pu.cuts 32 s.data.toList) [])) := by
  have he := nonempty_of hs0
  have hp := hM.places
  have hcl := Pu.cuts_length 32 s.data.toList
  have hcount := fun w' => strings_Count_one s 32 w'
  unfold Lib.countByte at hcount
  have hpd := Pu.pieces_data 32 s
  have hsp := fun w' hm' => split_big s 32 w' hs hm'
  have hpz : ∀ x ∈ Pu.pieces 32 s, x.size ≤ s.size := fun x hx => Pu.pieces_size hx
  rw [← hpd] at hc ⊢
  rw [← hpd] at hcl
  generalize List.count 32 s.data.toList = c at *
  generalize Pu.pieces 32 s = ps at *
  simp only [List.length_map] at hc hcl
  have hne : ((c : Int) != (n : Int) - 1) = false := by simp; omega
  obtain ⟨i0, hi, hz0, hz1, hz2⟩ := info_parts info3
  have hbl := hM.lt
  obtain ⟨res, hres⟩ : ∃ res, Pu.ordGo n (ps.map (·.data.toList)) [] = res := ⟨_, rfl⟩
  rw [hres]
  have HRES : Hid (Pu.ordGo n (ps.map (·.data.toList)) [] = res) := hres
  have HM : Hid (MapAt w b n R len) := hM
  have HN : Hid (ps.length = n) := hc
  clear hM hcl hres hpd
  go_enter Tryd.func47, Tryd.ntmps47
  go_wp2
  go_quiet ((go_at_call 39; exact Calls.quiet_of_same (hcount _)))
  rename_i nq
  obtain ⟨w0, hw0⟩ : ∃ w0, w.drewN nq = w0 := ⟨_, rfl⟩
  rw [hw0]
  have hT0 : Turns (fun _ => False) w w0 := by rw [← hw0]; exact (Turns.refl _ _).drewN _
  have hp0 : w0.cell? ⟨b, 0, none⟩ = some (.int .i64 n) := by rw [← hw0]; exact hp
  have hm0 : Ml w0 := hm.turns hT0 (fun x => x)
  clear hw0 hcount
  have hb2 : 8 * n ≤ 281474976710656 := by omega
  go_wp2_with (at_make; refine wpList_make_own _ rfl _ _ 41 rfl w0.heap.size 3 i0 _ 1 Tryd.underlying41 hi hz0 hz1 .i64 .i64 (n : Int) n rfl rfl rfl (by rw [hz2]; exact hb2) (by unfold maxLen; omega) (Nat.le_refl _) ?_)
  intro w1 hown hgrow
  have hT1 : Turns (fun _ => False) w0 w1 := (Turns.refl _ _).grown hgrow (fun k hk => by cases hk)
  have hm1 := hm0.turns hT1 (fun x => x)
  have c1 := hsp w1 hm1
  have hg1 : w0.heap.size < w1.heap.size := (hown.lt _ rfl).2
  clear hgrow hm0
  go_wp2_with fail
  refine c1.mono ?_
  rintro e w2 ⟨rfl, hw2⟩
  have hT2 : Turns (fun _ => False) w1 w2 := by rw [hw2]; exact (Turns.refl _ _).alloc _
  have hcell : ∀ (k : Nat) q, ps[k]? = some q → w2.cell? ⟨w1.heap.size, k, none⟩ = some (.string q) := by
    intro k q hk; rw [hw2, World.cell?_alloc_new]; simp [hk]
  have hsz2 : w1.heap.size < w2.heap.size := by rw [hw2]; simp
  have hstart : Hid (RankInv w0 n w1.heap.size ps res (.slice (some ⟨w0.heap.size, 0, none⟩) 0 n) (.int .i64 0) w2) :=
    ⟨0, w0.heap.size, n, [], rfl, Nat.zero_le _, rfl, rfl, owns_turns hown hT2, fun m hm => by (cases hm), HRES.out, hT1.trans hT2, by omega, hsz2, Nat.zero_le _, hcell⟩
  have HPZ : Hid (∀ x ∈ ps, x.size ≤ s.size) := hpz
  have HTW : Hid (Turns (fun _ => False) w w0) := hT0
  clear c1 hsp hw2 hown hcell hpz hT1 hT2 hm1 hT0
  have hpl : ps.length = n := HN.out
  obtain ⟨pb, hpb⟩ : ∃ pb, w1.heap.size = pb := ⟨_, rfl⟩
  go_wp2
  rw [hpb] at hstart
  clear hpb
  go_loopw [6, 31] (fun v iv wr => RankInv w0 n pb ps res v iv wr) (fun _ iv _ => n - (intOf iv).toNat)
  case atStart => exact hstart.out
  case round =>
    clear hstart
    obtain ⟨k, g, cap, acc, rfl, hk, hacc, rfl, hown, hlt, hgo, hTr, hgp, hpbl, hkc, hcell⟩ := hrel
    have hb0 : wr.cell? ⟨b, 0, none⟩ = some (.int .i64 n) := by
      have hbw : b < w0.heap.size := by have := HTW.out.size; omega
      exact (hTr.cell (a := ⟨b, 0, none⟩) hbw (fun x => x)).trans hp0
    have HTT : Hid (Turns (fun _ => False) w wr) := HTW.out.trans hTr
    by_cases hkn : k < n
    · obtain ⟨q, hq⟩ : ∃ q, ps[k]? = some q := ⟨_, List.getElem?_eq_getElem (by omega)⟩
      have hcq := hcell k q hq
      have hqs : q.size ≤ maxLen := by have := HPZ.out q (List.mem_of_getElem? hq); unfold maxLen; omega
      have hki : (k : Int) < (n : Int) := by omega
      have hdrop : (ps.map (·.data.toList)).drop k = q.data.toList :: (ps.map (·.data.toList)).drop (k + 1) := by
        rw [List.drop_eq_getElem_cons (by simp; omega)]
        congr 1
        rw [List.getElem_map]
        rw [(List.getElem?_eq_some_iff.1 hq).2]
      rw [hdrop] at hgo
      clear hdrop
      cases hwi : Pu.within q.data.toList 0 ((n : Int) - 1) with
      | none =>
        have HR : Hid (res = none) := by show res = none; rw [← hgo, Pu.ordGo_none hwi]
        have c3 := within_none q 0 ((n : Int) - 1) wr hqs hwi
        clear hwi hgo hown hcell hq hlt hTr
        go_wp2_with fail
        refine c3.mono ?_
        rintro e w3 ⟨rfl, hw3⟩
        subst w3
        clear c3
        go_wp2
        exact bodyPost_ret (v := .tuple #[.slice none 0 0, .bool false]) (by simp [results, Tryd.results47, go_sem]) rfl (by rw [HR.out]; exact ⟨HTT.out, rfl⟩)
      | some y =>
        have hyb := (Pu.within_some hwi).2
        obtain ⟨x, rfl⟩ := Int.eq_ofNat_of_zero_le (show 0 ≤ y by omega)
        have c3 := within_some q 0 ((n : Int) - 1) (x : Int) wr hqs hwi
        have hzs : ∀ j, j < (acc.map fun (m : Nat) => (m : Int)).length → wr.cell? ⟨g, 0 + j, none⟩ = some (.int .i64 ((acc.map fun (m : Nat) => (m : Int)).getD j 0)) := by
          intro j hj
          simp only [List.length_map] at hj
          rw [Nat.zero_add, hown.cellAt j (by omega)]
          simp [vals, List.getD, hj]
        have c4 := slices_Contains_int g 0 k cap (acc.map fun (m : Nat) => (m : Int)) (x : Int) wr (by simp; omega) (by omega) hzs
        have hct : ((acc.map fun (m : Nat) => (m : Int)).take k).contains (x : Int) = decide (x ∈ acc) := by
          rw [List.take_of_length_le (by simp; omega)]
          by_cases hx : x ∈ acc
          · rw [decide_eq_true hx]; simp; exact ⟨x, hx, rfl⟩
          · rw [decide_eq_false hx]
            simp
            intro m hm' c
            have e : m = x := by omega
            rw [e] at hm'
            exact hx hm'
        rw [hct] at c4
        clear hct hzs
        by_cases hx : x ∈ acc
        · have HR : Hid (res = none) := by show res = none; rw [← hgo, Pu.ordGo_twice hwi hx]
          rw [decide_eq_true hx] at c4
          clear hwi hgo hown hcell hq hlt hTr hx
          go_wp2_with fail
          refine c3.mono ?_
          rintro e w3 ⟨rfl, hw3⟩
          subst w3
          clear c3
          go_wp2_with (go_at_call 63; refine c4.mono ?_; rintro e w3 ⟨rfl, hw3⟩; subst w3)
          exact bodyPost_ret (v := .tuple #[.slice none 0 0, .bool false]) (by simp [results, Tryd.results47, go_sem]) rfl (by rw [HR.out]; exact ⟨HTT.out, rfl⟩)
        · rw [decide_eq_false hx] at c4
          have HG : Hid (Pu.ordGo n ((ps.map (·.data.toList)).drop (k + 1)) (acc ++ [x]) = res) := by show _ = _; rw [← hgo, Pu.ordGo_next hwi hx]
          have HC : Hid (∀ (j : Nat) q, ps[j]? = some q → wr.cell? ⟨pb, j, none⟩ = some (.string q)) := hcell
          have HL : Hid (∀ m ∈ acc, m < n) := hlt
          have hxn : x < n := by omega
          have hsz0 := hTr.size
          have hglt := (hown.lt g rfl)
          clear hwi hgo hcell hq hlt hx
          go_wp2_with fail
          refine c3.mono ?_
          rintro e w3 ⟨rfl, hw3⟩
          subst w3
          clear c3
          go_wp2_with (first
            | (go_at_call 63; refine c4.mono ?_; rintro e w3 ⟨rfl, hw3⟩; subst w3)
            | (at_builtin; refine wpList_append_own_at _ rfl _ _ 41 rfl w0.heap.size 3 i0 (.int .i64 0) 1 8 Tryd.underlying41 hi hz0 hz1 hz2 rfl (by decide) _ _ _ rfl (hown.alloc _) ⟨wr.heap.size, 0, none⟩ 1 1 [.int .i64 (x : Int)] rfl rfl ?c1 ?c2 ?c3 ?c4 ?c5 ?_))
          case c1 => exact cell_one_new _ _ _
          case c2 => intro u hu; simp at hu; subst hu; rfl
          case c3 => unfold maxLen; omega
          case c4 => omega
          case c5 => simp; omega
          intro v' w4 hown4 hgrow _ hat
          obtain ⟨g', cap', hv'⟩ := owns_form hown4
          subst hv'
          rw [vals_snoc] at hown4
          have hcap' : k + 1 ≤ cap' := by
            rcases hown4.2 with ⟨h', _⟩ | ⟨_, _, _, h', _, _, h'', _⟩
            · cases h'
            · injection h' with _ _ h3; omega
          have hT4 : Turns (fun q => some q = some g) wr w4 := ((Turns.refl _ wr).alloc _).grown hgrow (fun q hq => Or.inr hq.symm)
          have hTw4 : Turns (fun _ => False) w0 w4 := (hTr.alloc _).grown hgrow (fun q hq => Or.inl (by cases hq; exact hglt.1))
          have hgp' : g' ≠ pb := by
            rcases hat with h' | h'
            · simp only [Value.ownBlock, Option.some.injEq] at h'; omega
            · simp [Value.ownBlock] at h'; omega
          have HX : Hid (RankInv w0 n pb ps res (.slice (some ⟨g', 0, none⟩) (k + 1) cap') (.int .i64 ((k : Int) + 1)) w4) := by
            refine ⟨k + 1, g', cap', acc ++ [x], by go_num, by omega, by simp; omega, rfl, hown4, fun m hm => ?_, HG.out, hTw4, hgp', Nat.lt_of_lt_of_le hpbl hT4.size, hcap', fun j q hq => ?_⟩
            · rcases List.mem_append.1 hm with h' | h'
              · exact HL.out m h'
              · rw [List.mem_singleton] at h'; omega
            · exact (hT4.cell (a := ⟨pb, j, none⟩) hpbl (fun c => by cases c; exact hgp rfl)).trans (HC.out j q hq)
          clear hown4 hgrow hat hT4 hTw4 HG HC HL hown c4
          go_wp2
          go_roundw
          case measure => simp [intOf]; omega
          case rel => exact HX.out
    · have hke : k = n := by omega
      have hres : res = some acc := by rw [← hgo, List.drop_of_length_le (by simp; omega), Pu.ordGo]
      have HX : Hid (RankPost w n res (.returned (.tuple #[.slice (some ⟨g, 0, none⟩) n cap, .bool true])) wr) := by
        rw [hres]
        refine ⟨HTT.out, g, cap, rfl, ⟨by omega, fun j m hm => ⟨hlt m (List.mem_of_getElem? hm), ?_⟩⟩, by omega⟩
        have hjl := (List.getElem?_eq_some_iff.1 hm).1
        rw [hown.cellAt j (by omega)]
        simp [vals, hm]
      clear hres hgo hown hcell hlt hTr
      have hkn' : ¬ (k : Int) < (n : Int) := by omega
      go_wp2
      exact bodyPost_ret (v := .tuple #[.slice (some ⟨g, 0, none⟩) n cap, .bool true]) (by simp [results, Tryd.results47, go_sem]) rfl HX.out
/-- ranks.Parse reads an order that is not empty as the document has it. -/
theorem rank_any (s : ByteArray) (w : World) (b n : Nat) (R : Int) (len : Nat → Nat → Int) (hs0 : 0 < s.size) (hs : s.size ≤ 2000000) (hn1 : 1 ≤ n) (hn : n ≤ 40) (hM : MapAt w b n R len) (hm : Ml w) :
    Calls Tryd.prog 47 #[.pointer (some ⟨b, 0, none⟩), .string s] w (RankPost w n (Pu.order n s.data.toList)) := by
  unfold Pu.order
  by_cases hc : (Pu.cuts 32 s.data.toList).length = n
  · rw [if_pos hc]; exact rank_main s w b n R len hs0 hs hn1 hn hM hm hc
  · rw [if_neg hc]; exact rank_count s w b n R len hs0 hn1 hn hM hc
#print axioms rank_any
end Go.Proofs.YtdogncjcainhlaaDoor
/- The walk of the reference's Order, where the text is not empty. -/
namespace Go.Proofs.YtdogncjcainhlaaDoor
open Go.RowKit Go.Deep
open Mem

/-- What the reference's Order hands back. -/
def ROrdPost (w : World) (n : Nat) (o : Option (List Nat)) (e : Ending) (w' : World) : Prop := Turns (fun _ => False) w w' ∧ match o with
  | none => ∃ v, e = .returned (.tuple #[v, .bool false])
  | some O => ∃ ob ocap, e = .returned (.tuple #[.slice (some ⟨ob, 0, none⟩) n ocap, .bool true]) ∧ Ord w' ob n O

/-- What holds ahead of each round: the places acc were read. -/
def ROrdInv (w1 : World) (n : Nat) (ps : List ByteArray) (res : Option (List Nat)) (v iv : Value) (wr : World) : Prop :=
  ∃ (la : Option Addr) (lc : Nat) (acc : List Nat) (q : World), iv = .int .i64 acc.length ∧ acc.length ≤ ps.length ∧ v = .slice la acc.length lc ∧ wr.ownsRow w1.heap.size 3 1 (.slice la acc.length lc) acc.length (vals acc) ∧
    (∀ m ∈ acc, m < n) ∧ acc.Nodup ∧ Pu.ordGo n ((ps.map (·.data.toList)).drop acc.length) acc = res ∧ Turns (fun _ => False) w1 wr ∧ q = wr

set_option maxRecDepth 100000 in
set_option maxHeartbeats 2000000 in
theorem rord_text (s : ByteArray) (w : World) (b n : Nat) (R : Int) (lv fv : Value) (hs0 : 0 < s.size) (hs : s.size ≤ 2000000) (hn1 : 1 ≤ n) (hn : n ≤ 40) (hB : RB w b n R lv fv) :
    Calls Tryd.prog 60 #[.pointer (some ⟨b, 0, none⟩), .string s] w (ROrdPost w n (Pu.order n s.data.toList)) := by
  have he := nonempty_of hs0
  obtain ⟨i0, hi, hz0, hz1, hz2⟩ := info_parts info3
  obtain ⟨RES, hRES⟩ : ∃ RES, Pu.order n s.data.toList = RES := ⟨_, rfl⟩
  rw [hRES]
  have HB : Hid (RB w b n R lv fv) := hB
  have hbl := hB.lt
  clear hB
  go_enter Tryd.func60, Tryd.ntmps60
  go_wp2_with fail
  refine (cut_any s 32 _ hs).mono ?_
  rintro e w1 ⟨hT1, g, cap, ps, rfl, hps, hown⟩
  have hpl : ps.length ≤ 2000001 := by
    have h1 : ps.length = (Pu.cuts 32 s.data.toList).length := by rw [← hps]; simp
    have h2 := Pu.cuts_length 32 s.data.toList
    have h3 := List.count_le_length (a := (32 : UInt8)) (l := s.data.toList)
    have h4 : s.data.toList.length = s.size := by simp
    omega
  have HPZ : Hid (∀ (j : Nat) q, ps[j]? = some q → q.size ≤ maxLen ∧ w1.cell? ⟨g, j, none⟩ = some (.string q)) := by
    intro j q hq
    have hjl := (List.getElem?_eq_some_iff.1 hq).1
    refine ⟨?_, by rw [hown.cellAt j (by omega)]; simp [hq]⟩
    have := Pu.cuts_le 32 s.data.toList q.data.toList (by rw [← hps]; exact List.mem_map_of_mem (f := fun x : ByteArray => x.data.toList) (List.mem_of_getElem? hq))
    simp at this; unfold maxLen; omega
  have HRES : Hid (RES = if ps.length = n then Pu.ordGo n (ps.map (·.data.toList)) [] else none) := by
    show RES = _
    rw [← hRES]; unfold Pu.order; rw [← hps, List.length_map]
  have hgl : 0 < ps.length → g < w1.heap.size := fun h => by
    obtain ⟨q, hq⟩ : ∃ q, ps[0]? = some q := ⟨_, List.getElem?_eq_getElem h⟩
    exact World.block_lt_of_cell? _ _ (HPZ.out 0 q hq).2
  obtain ⟨res, hres⟩ : ∃ res, Pu.ordGo n (ps.map (·.data.toList)) [] = res := ⟨_, rfl⟩
  rw [hres] at HRES
  have HS : Hid (ROrdInv w1 n ps res (.slice none 0 0) (.int .i64 0) w1) := ⟨none, 0, [], w1, rfl, Nat.zero_le _, rfl, World.ownsRow_nil _ _ _ _, fun m hm => (by cases hm), List.nodup_nil, hres, Turns.refl _ _, rfl⟩
  have HT1 : Hid (Turns (fun _ => False) w w1) := hT1
  clear hps hown hres hRES hT1
  go_wp2
  go_loopw [6, 8] (fun v iv wr => ROrdInv w1 n ps res v iv wr) (fun _ iv _ => ps.length - (intOf iv).toNat)
  case atStart => exact HS.out
  case round =>
    clear HS
    obtain ⟨la, lc, acc, wq, rfl, hal, rfl, hown, hlt, hnd, hgo, hT, hwq⟩ := hrel
    subst hwq
    have hTT := HT1.out.trans hT
    have hB2 := HB.out.turns hTT (fun x => x)
    have c0 := hB2.c0
    have hacc := Pu.nodup_le n acc hnd hlt
    have hsz := hT.size
    by_cases hk : acc.length < ps.length
    · obtain ⟨p, hp⟩ : ∃ p, ps[acc.length]? = some p := ⟨_, List.getElem?_eq_getElem hk⟩
      obtain ⟨hpz, hpc⟩ := HPZ.out _ p hp
      have hpc' : wq.cell? ⟨g, acc.length, none⟩ = some (.string p) := (hT.cell (a := ⟨g, acc.length, none⟩) (hgl (by omega)) (fun x => x)).trans hpc
      have hki : (acc.length : Int) < (ps.length : Int) := by omega
      have hdrop : (ps.map (·.data.toList)).drop acc.length = p.data.toList :: (ps.map (·.data.toList)).drop (acc.length + 1) := by
        rw [List.drop_eq_getElem_cons (by simp; omega)]
        congr 1
        rw [List.getElem_map]
        rw [(List.getElem?_eq_some_iff.1 hp).2]
      rw [hdrop] at hgo
      have hnum := fun w' => refnum_any p ((n : Int) - 1) w' hpz (by omega) (by omega)
      have bd := Pu.toRef_bd (l := p.data.toList) (most := (n : Int) - 1)
      obtain ⟨r, hr⟩ : ∃ r, Pu.toRef ((n : Int) - 1) (Pu.num p.data.toList) = r := ⟨_, rfl⟩
      have hwi := Pu.within_ref p.data.toList (lo := 0) (hi := (n : Int) - 1) (by omega) r hr
      simp only [hr] at hnum bd
      have HNUM : Hid (∀ w', Calls Tryd.prog 37 #[.string p, .int .i64 ((n : Int) - 1)] w' fun e w'' => e = .returned (.int .i64 r) ∧ w'' = w') := hnum
      have HTT : Hid (Turns (fun _ => False) w wq) := hTT
      have HOWN : Hid (wq.ownsRow w1.heap.size 3 1 (.slice la acc.length lc) acc.length (vals acc) ∧ (∀ m ∈ acc, m < n) ∧ acc.Nodup ∧ Turns (fun _ => False) w1 wq) := ⟨hown, hlt, hnd, hT⟩
      obtain ⟨al, halx⟩ : ∃ al, acc.length = al := ⟨_, rfl⟩
      have HAL : Hid (acc.length = al) := halx
      rw [halx] at hpc' hki hacc hk hal HOWN ⊢
      clear hdrop hr hnum hTT hB2 hlt hnd hT hp hpc hown
      by_cases hr0 : r < 0
      · rw [if_pos hr0] at hwi
        have HR : Hid (res = none) := by show res = none; rw [← hgo, Pu.ordGo_none hwi]
        have HX : Hid (∀ q, ROrdPost w n RES (.returned (.tuple #[.slice none 0 0, .bool false])) (wq.drewN q)) := fun q => by
          have : RES = none := by rw [HRES.out, HR.out]; split <;> rfl
          rw [this]; exact ⟨HTT.out.drewN q, _, rfl⟩
        clear hgo hwi bd halx
        go_wp2_with fail
        go_quiet ((go_at_call 37; exact Calls.quiet_of_same (HNUM.out _)))
        go_wp2
        exact bodyPost_ret (v := .tuple #[.slice none 0 0, .bool false]) (by simp [results, Tryd.results60, go_sem]) rfl (HX.out _)
      · rw [if_neg hr0] at hwi
        obtain ⟨x, rfl⟩ := Int.eq_ofNat_of_zero_le (show 0 ≤ r by omega)
        have hxn : x < n := by omega
        have hx0 : ¬ (x : Int) < 0 := hr0
        have HGO : Hid ((x ∈ acc → res = none) ∧ (¬ x ∈ acc → Pu.ordGo n ((ps.map (·.data.toList)).drop (al + 1)) (acc ++ [x]) = res)) :=
          ⟨fun c => by rw [← hgo, Pu.ordGo_twice hwi c], fun c => by rw [← hgo, Pu.ordGo_next hwi c, HAL.out]⟩
        clear hgo hwi bd hr0 halx
        go_wp2_with fail
        go_quiet ((go_at_call 37; exact Calls.quiet_of_same (HNUM.out _)))
        rename_i nq
        obtain ⟨w3, hw3⟩ : ∃ w3, wq.drewN nq = w3 := ⟨_, rfl⟩
        rw [hw3]
        have HO3 : Hid (w3.ownsRow w1.heap.size 3 1 (.slice la al lc) al (vals acc) ∧ (∀ m ∈ acc, m < n) ∧ acc.Nodup ∧ Turns (fun _ => False) w1 w3 ∧ Turns (fun _ => False) w w3) := by
          rw [← hw3]; exact ⟨HOWN.out.1, HOWN.out.2.1, HOWN.out.2.2.1, HOWN.out.2.2.2.drewN nq, HTT.out.drewN nq⟩
        have hsz3 : w1.heap.size ≤ w3.heap.size := by rw [← hw3]; exact hsz
        clear hw3 HOWN HTT HNUM hpc' c0
        go_wp2
        go_loopw [10] (fun jv wx => ∃ j : Nat, jv = .int .i64 j ∧ j ≤ al ∧ (∀ (i m : Nat), i < j → acc[i]? = some m → m ≠ x) ∧ wx = w3) (fun jv _ => al - (intOf jv).toNat)
        case atStart => exact ⟨0, rfl, Nat.zero_le _, fun i m hi => by omega, rfl⟩
        case round =>
          obtain ⟨j, rfl, hj, hno, hwx⟩ := hrel
          subst hwx
          by_cases hja : j < al
          · obtain ⟨m, hm⟩ : ∃ m, acc[j]? = some m := ⟨_, List.getElem?_eq_getElem (by have := HAL.out; omega)⟩
            obtain ⟨ga, gca, hga, _, _⟩ := World.ownsRow.form HO3.out.1 (by omega)
            injection hga with e1 _ e2
            subst e1 e2
            have hcm : wr.cell? ⟨ga, j, none⟩ = some (.int .i64 (m : Int)) := by
              rw [World.ownsRow.cellAt HO3.out.1 j (by omega)]; simp [vals, hm]
            have hji : (j : Int) < (al : Int) := by omega
            by_cases hmx : m = x
            · have hb : ((m : Int) == (x : Int)) = true := by simp; omega
              have HX : Hid (ROrdPost w n RES (.returned (.tuple #[.slice none 0 0, .bool false])) wr) := by
                have : RES = none := by rw [HRES.out, HGO.out.1 (by rw [← hmx]; exact List.mem_of_getElem? hm)]; split <;> rfl
                rw [this]; exact ⟨HO3.out.2.2.2.2, _, rfl⟩
              clear hno hm hmx HGO HO3
              go_wp2
              exact bodyPost_ret (v := .tuple #[.slice none 0 0, .bool false]) (by simp [results, Tryd.results60, go_sem]) rfl HX.out
            · have hb : ((m : Int) == (x : Int)) = false := by simp; omega
              have HX : Hid (∃ j' : Nat, (Value.int .i64 ((j : Int) + 1)) = .int .i64 j' ∧ j' ≤ al ∧ (∀ (i m : Nat), i < j' → acc[i]? = some m → m ≠ x) ∧ wr = wr) := by
                refine ⟨j + 1, by go_num, by omega, fun i m' h1 h2 => ?_, rfl⟩
                by_cases c : i = j
                · subst c; rw [hm] at h2; cases h2; exact hmx
                · exact hno i m' (by omega) h2
              clear hno hm hmx HGO HO3
              go_wp2
              go_roundw
              case measure => simp [intOf]; omega
              case rel => obtain ⟨j', h1, h2, h3, _⟩ := HX.out; exact ⟨j', h1, h2, h3, trivial⟩
          · have hji : ¬ (j : Int) < (al : Int) := by omega
            have hxa : ¬ x ∈ acc := fun c => by
              obtain ⟨i, hi⟩ := List.mem_iff_getElem?.1 c
              have := (List.getElem?_eq_some_iff.1 hi).1
              exact hno i x (by have := HAL.out; omega) hi rfl
            have HG := HGO.out.2 hxa
            have HG' : Hid (Pu.ordGo n ((ps.map (·.data.toList)).drop (al + 1)) (acc ++ [x]) = res) := HG
            have HXA : Hid (¬ x ∈ acc) := hxa
            have hown := HO3.out.1
            clear hno HG hxa HGO
            go_wp2_with (at_builtin; refine wpList_append_own _ rfl _ _ 41 rfl w1.heap.size 3 i0 (.int .i64 0) 1 8 Tryd.underlying41 hi hz0 hz1 hz2 rfl (by decide) _ _ _ rfl (hown.alloc _) ⟨wr.heap.size, 0, none⟩ 1 1 [.int .i64 (x : Int)] rfl rfl ?c1 ?c2 ?c3 ?c4 ?c5 ?_)
            case c2 => first | (intro u hu; simp at hu; subst hu; rfl) | rfl | trivial | simp [Value.oneCell']
            case c3 => unfold maxLen; omega
            case c4 => omega
            case c5 => first | omega | (simp; omega)
            intro v' w4 hown4 hgrow _
            obtain ⟨g', cap', hv'⟩ := owns_form hown4
            subst hv'
            rw [vals_snoc] at hown4
            have hT4 : Turns (fun _ => False) w1 w4 := (HO3.out.2.2.2.1.alloc _).grown hgrow (fun q hq => Or.inl (hown.lt q hq).1)
            have HX : Hid (ROrdInv w1 n ps res (.slice (some ⟨g', 0, none⟩) (al + 1) cap') (.int .i64 ((al : Int) + 1)) w4) := by
              have hl := HAL.out
              refine ⟨some ⟨g', 0, none⟩, cap', acc ++ [x], w4, by simp [hl], by simp; omega, by simp [hl], by simpa [hl] using hown4, fun m hm => ?_, ?_, by simpa [hl] using HG'.out, hT4, rfl⟩
              · rcases List.mem_append.1 hm with h' | h'
                · exact HO3.out.2.1 m h'
                · rw [List.mem_singleton] at h'; omega
              · rw [List.nodup_append]
                exact ⟨HO3.out.2.2.1, by simp, fun a ha b hb c => by rw [List.mem_singleton] at hb; subst hb; subst c; exact HXA.out ha⟩
            clear hown4 hgrow hT4 HO3 hown HG' HXA
            go_wp2
            go_roundw
            case measure => simp [intOf]; omega
            case rel => exact HX.out
    · have hki : ¬ (acc.length : Int) < (ps.length : Int) := by omega
      have hres : res = some acc := by rw [← hgo, List.drop_of_length_le (by simp; omega), Pu.ordGo]
      have HX : Hid (∀ q, (acc.length = n → ROrdPost w n RES (.returned (.tuple #[.slice la n lc, .bool true])) (wq.drewN q)) ∧ (acc.length ≠ n → ROrdPost w n RES (.returned (.tuple #[.slice la acc.length lc, .bool false])) (wq.drewN q))) := by
        intro q
        constructor
        · intro hl
          have : RES = some acc := by rw [HRES.out, hres, if_pos (by omega)]
          rw [this]
          obtain ⟨ga, gca, hga, _, _⟩ := World.ownsRow.form hown (by omega)
          injection hga with e1 _ e2
          subst e1 e2
          refine ⟨hTT.drewN q, ga, _, rfl, hl, fun j m hm => ⟨hlt m (List.mem_of_getElem? hm), ?_⟩⟩
          have hjl := (List.getElem?_eq_some_iff.1 hm).1
          show wq.cell? _ = _
          rw [World.ownsRow.cellAt hown j (by omega)]; simp [vals, hm]
        · intro hl
          have : RES = none := by rw [HRES.out, if_neg (by omega)]
          rw [this]
          exact ⟨hTT.drewN q, _, rfl⟩
      clear hres hgo hown hlt hnd hT hTT hB2
      by_cases hl : acc.length = n
      · have hle : ((n : Int) == (n : Int)) = true := by simp
        have HY : Hid (∀ q, ROrdPost w n RES (.returned (.tuple #[.slice la n lc, .bool true])) (wq.drewN q)) := fun q => (HX.out q).1 hl
        clear HX
        go_wp2
        go_quiet (fail)
        go_wp2
        exact bodyPost_ret (v := .tuple #[.slice la n lc, .bool true]) (by simp [results, Tryd.results60, go_sem]) rfl (HY.out _)
      · have hle : ((acc.length : Int) == (n : Int)) = false := by simp; omega
        have HY : Hid (∀ q, ROrdPost w n RES (.returned (.tuple #[.slice la acc.length lc, .bool false])) (wq.drewN q)) := fun q => (HX.out q).2 hl
        clear HX
        go_wp2
        go_quiet (fail)
        go_wp2
        exact bodyPost_ret (v := .tuple #[.slice la acc.length lc, .bool false]) (by simp [results, Tryd.results60, go_sem]) rfl (HY.out _)
#print axioms rord_text
end Go.Proofs.YtdogncjcainhlaaDoor
/- The walk of the reference's Order, where the text is empty: the order by roads. -/
namespace Go.Proofs.YtdogncjcainhlaaDoor
open Go.RowKit Go.Deep
open Mem

/-- What holds of the list in hand: it is acc. -/
def RRInv (w : World) (n : Nat) (acc : List Nat) (v : Value) (wr : World) : Prop :=
  ∃ (la : Option Addr) (lc : Nat), v = .slice la acc.length lc ∧ wr.ownsRow w.heap.size 3 1 (.slice la acc.length lc) acc.length (vals acc) ∧ (∀ m ∈ acc, m < n) ∧ acc.length ≤ n ∧ Turns (fun _ => False) w wr
theorem Pu.lvl_le (d : Nat → Nat) (n k p : Nat) (hp : p ≤ n) (hk : k ≤ n) : (Pu.rankK d n k ++ Pu.lvl d (n - k) p).length ≤ n := by
  have h1 := Pu.rankK_sorted d n k (by omega)
  have h2 := Pu.lvl_sorted d (n - k) p
  have h3 : (Pu.rankK d n k ++ Pu.lvl d (n - k) p).Nodup := by
    rw [List.nodup_append]
    refine ⟨h1.imp (fun {a b} h c => by subst c; exact Pu.Above.anti d a a h h), h2.imp (fun {a b} h c => by subst c; exact Pu.Above.anti d a a h h), fun a ha b hb c => ?_⟩
    subst c
    have e1 := (Pu.rankK_mem k (by omega)).1 ha
    have e2 := Pu.lvl_mem.1 hb
    omega
  exact Pu.nodup_le n _ h3 (fun m hm => by
    rcases List.mem_append.1 hm with h | h
    · exact ((Pu.rankK_mem k (by omega)).1 h).1
    · have := (Pu.lvl_mem.1 h).1; omega)
theorem Pu.lvl_lt (d : Nat → Nat) (n k p : Nat) (hp : p ≤ n) (hk : k ≤ n) : ∀ m ∈ Pu.rankK d n k ++ Pu.lvl d (n - k) p, m < n := fun m hm => by
  rcases List.mem_append.1 hm with h | h
  · exact ((Pu.rankK_mem k (by omega)).1 h).1
  · have := (Pu.lvl_mem.1 h).1; omega

set_option maxRecDepth 100000 in
set_option maxHeartbeats 2000000 in
theorem rord_roads (s : ByteArray) (w : World) (b n lg lcap : Nat) (R : Int) (fv : Value) (len : Nat → Nat → Int) (hs : s.size = 0) (hn1 : 1 ≤ n) (hn : n ≤ 40) (hB : RB w b n R (.slice (some ⟨lg, 0, none⟩) n lcap) fv) (hL : Tab w lg n len) :
    Calls Tryd.prog 60 #[.pointer (some ⟨b, 0, none⟩), .string s] w (ROrdPost w n (some (Pu.ranked (fun v => Pu.rowCnt len v n) n))) := by
  have he := empty_of hs
  obtain ⟨i0, hi, hz0, hz1, hz2⟩ := info_parts info3
  obtain ⟨d, hd⟩ : ∃ d : Nat → Nat, (fun v => Pu.rowCnt len v n) = d := ⟨_, rfl⟩
  have HD : Hid (∀ v, Pu.rowCnt len v n = d v) := fun v => by rw [← hd]
  rw [hd]
  have HB : Hid (RB w b n R (.slice (some ⟨lg, 0, none⟩) n lcap) fv) := hB
  have HL : Hid (Tab w lg n len) := hL
  have c0 := hB.c0
  have HP : Hid (Pu.Perm n (Pu.ranked d n)) := Pu.ranked_perm (fun x _ => by rw [← HD.out x]; exact Pu.rowCnt_le' len x n)
  have HS : Hid (∃ k : Nat, k ≤ n + 1 ∧ (Value.int .i64 (n : Int)) = .int .i64 ((n : Int) - k) ∧ RRInv w n (Pu.rankK d n k) (.slice none 0 0) w) :=
    ⟨0, by omega, by simp, none, 0, rfl, World.ownsRow_nil _ _ _ _, fun m hm => (by cases hm), Nat.zero_le _, Turns.refl _ _⟩
  clear hB hd hL
  go_enter Tryd.func60, Tryd.ntmps60
  go_wp2
  clear c0
  go_loopw [6, 11] (fun v iv wr => ∃ k : Nat, k ≤ n + 1 ∧ iv = .int .i64 ((n : Int) - k) ∧ RRInv w n (Pu.rankK d n k) v wr) (fun _ iv _ => (intOf iv + 1).toNat)
  case atStart => exact HS.out
  case round =>
    clear HS
    obtain ⟨k, hk, rfl, la, lc, rfl, hown, hlt, hle, hT⟩ := hrel
    by_cases hkn : k ≤ n
    · have hki : (0 : Int) ≤ (n : Int) - k := by omega
      have HS2 : Hid (∃ p : Nat, p ≤ n ∧ (Value.int .i64 0) = .int .i64 p ∧ RRInv w n (Pu.rankK d n k ++ Pu.lvl d (n - k) p) (.slice la (Pu.rankK d n k).length lc) wr) := by
        have e : Pu.rankK d n k ++ Pu.lvl d (n - k) 0 = Pu.rankK d n k := by simp [Pu.lvl]
        refine ⟨0, Nat.zero_le _, rfl, ?_⟩
        rw [e]
        exact ⟨la, lc, rfl, hown, hlt, hle, hT⟩
      obtain ⟨ll, hll⟩ : ∃ ll, (Pu.rankK d n k).length = ll := ⟨_, rfl⟩
      rw [hll] at HS2 ⊢
      clear hown hlt hle hT hll
      go_wp2
      go_loopw [6, 12] (fun v iv wx => ∃ (p : Nat) (wz : World), p ≤ n ∧ iv = .int .i64 p ∧ RRInv w n (Pu.rankK d n k ++ Pu.lvl d (n - k) p) v wx ∧ wz = wx) (fun _ iv _ => n - (intOf iv).toNat)
      case atStart => obtain ⟨p, h1, h2, h3⟩ := HS2.out; exact ⟨p, _, h1, h2, h3, rfl⟩
      case round =>
        clear HS2
        obtain ⟨p, wz, hp, rfl, ⟨la, lc, rfl, hown, hlt, hle, hT⟩, hwz⟩ := hrel
        subst hwz
        have hB2 := HB.out.turns hT (fun x => x)
        have c0 := hB2.c0
        have c2 := hB2.c2
        have hL2 := HL.out.turns hT
        by_cases hpn : p < n
        · have hpi : (p : Int) < (n : Int) := by omega
          obtain ⟨rp, t1, t2⟩ := hL2 p hpn
          have HR : Hid (RRInv w n (Pu.rankK d n k ++ Pu.lvl d (n - k) p) (.slice la (Pu.rankK d n k ++ Pu.lvl d (n - k) p).length lc) wz) := ⟨la, lc, rfl, hown, hlt, hle, hT⟩
          obtain ⟨acc, hacc⟩ : ∃ acc, Pu.rankK d n k ++ Pu.lvl d (n - k) p = acc := ⟨_, rfl⟩
          have HA : Hid (Pu.rankK d n k ++ Pu.lvl d (n - k) p = acc) := hacc
          rw [hacc] at HR hown hle hlt ⊢
          obtain ⟨al, hal⟩ : ∃ al, acc.length = al := ⟨_, rfl⟩
          have HAL : Hid (acc.length = al) := hal
          rw [hal] at HR hown hle ⊢
          have HO : Hid (wz.ownsRow w.heap.size 3 1 (.slice la al lc) al (vals acc) ∧ (∀ m ∈ acc, m < n) ∧ Turns (fun _ => False) w wz) := ⟨hown, hlt, hT⟩
          have hsz := hT.size
          have H2 : Hid (∀ j, j < n → wz.cell? ⟨rp, j, none⟩ = some (.int .i64 (len p j))) := t2
          clear hown hlt hT hB2 hL2 hacc hal t2
          go_wp2
          go_loopw [13, 14] (fun cv jv wy => ∃ j : Nat, jv = .int .i64 j ∧ j ≤ n ∧ cv = .int .i64 (Pu.rowCnt len p j : Nat) ∧ wy = wz) (fun _ jv _ => n - (intOf jv).toNat)
          case atStart => exact ⟨0, rfl, Nat.zero_le _, rfl, rfl⟩
          case round =>
            obtain ⟨j, rfl, hj, rfl, hwy⟩ := hrel
            subst hwy
            have hcl := Pu.rowCnt_le' len p j
            by_cases hjn : j < n
            · have hji : (j : Int) < (n : Int) := by omega
              have hcj := H2.out j hjn
              by_cases hc : 0 < len p j
              · have HX : Hid ((Pu.rowCnt len p (j + 1)) = Pu.rowCnt len p j + 1) := by show _ = _; rw [Pu.rowCnt, if_pos hc]
                obtain ⟨c, hcc⟩ : ∃ c, Pu.rowCnt len p j = c := ⟨_, rfl⟩
                rw [hcc] at HX hcl ⊢
                clear hcc
                go_wp2
                go_roundw
                case measure => simp [intOf]; omega
                case rel => exact ⟨j + 1, by go_num, by omega, by rw [HX.out]; go_num, by first | rfl | trivial⟩
              · have HX : Hid ((Pu.rowCnt len p (j + 1)) = Pu.rowCnt len p j) := by show _ = _; rw [Pu.rowCnt, if_neg hc]; rfl
                obtain ⟨c, hcc⟩ : ∃ c, Pu.rowCnt len p j = c := ⟨_, rfl⟩
                rw [hcc] at HX hcl ⊢
                clear hcc
                go_wp2
                go_roundw
                case measure => simp [intOf]; omega
                case rel => exact ⟨j + 1, by go_num, by omega, by rw [HX.out], by first | rfl | trivial⟩
            · have hjn' : j = n := by omega
              subst hjn'
              have hji : ¬ (j : Int) < (j : Int) := by omega
              rw [HD.out p] at hcl ⊢
              by_cases hdp : d p = j - k
              · have hb : ((d p : Int) == (j : Int) - k) = true := by simp; omega
                have hal' : al + 1 ≤ j := by
                  have := Pu.lvl_le d j k (p + 1) (by omega) hkn
                  rw [Pu.lvl_hit hdp, ← List.append_assoc, HA.out] at this
                  simp [HAL.out] at this; omega
                have HX0 : Hid (Pu.rankK d j k ++ Pu.lvl d (j - k) (p + 1) = acc ++ [p]) := by
                  show _ = _
                  rw [Pu.lvl_hit hdp, ← List.append_assoc, HA.out]
                have hown := HO.out.1
                obtain ⟨dp, hdpe⟩ : ∃ dp, d p = dp := ⟨_, rfl⟩
                rw [hdpe] at hb ⊢
                clear hdp hdpe hcl
                go_wp2_with (at_builtin; refine wpList_append_own _ rfl _ _ 41 rfl w.heap.size 3 i0 (.int .i64 0) 1 8 Tryd.underlying41 hi hz0 hz1 hz2 rfl (by decide) _ _ _ rfl (hown.alloc _) ⟨wr.heap.size, 0, none⟩ 1 1 [.int .i64 (p : Int)] rfl rfl ?c1 ?c2 ?c3 ?c4 ?c5 ?_)
                case c2 => first | (intro u hu; simp at hu; subst hu; rfl) | rfl | trivial | simp [Value.oneCell']
                case c3 => unfold maxLen; omega
                case c4 => omega
                case c5 => first | omega | (simp; omega)
                intro v' w4 hown4 hgrow _
                obtain ⟨g', cap', hv'⟩ := owns_form hown4
                subst hv'
                rw [vals_snoc] at hown4
                have hT4 : Turns (fun _ => False) w w4 := (HO.out.2.2.alloc _).grown hgrow (fun q hq => Or.inl (hown.lt q hq).1)
                have HX : Hid (∃ p' : Nat, p' ≤ j ∧ (Value.int .i64 ((p : Int) + 1)) = .int .i64 p' ∧ RRInv w j (Pu.rankK d j k ++ Pu.lvl d (j - k) p') (.slice (some ⟨g', 0, none⟩) (al + 1) cap') w4) := by
                  refine ⟨p + 1, by omega, by go_num, ?_⟩
                  have hl := HAL.out
                  rw [HX0.out]
                  refine ⟨some ⟨g', 0, none⟩, cap', by simp [hl], by simpa [hl] using hown4, fun m hm => ?_, by simp; omega, hT4⟩
                  rcases List.mem_append.1 hm with h' | h'
                  · exact HO.out.2.1 m h'
                  · rw [List.mem_singleton] at h'; omega
                clear hown4 hgrow hT4 HO hown HX0
                go_wp2
                go_roundw
                case measure => simp [intOf]; omega
                case rel => obtain ⟨p, h1, h2, h3⟩ := HX.out; exact ⟨p, _, h1, h2, h3, rfl⟩
              · have hb : ((d p : Int) == (j : Int) - k) = false := by simp; omega
                have HX : Hid (∃ p' : Nat, p' ≤ j ∧ (Value.int .i64 ((p : Int) + 1)) = .int .i64 p' ∧ RRInv w j (Pu.rankK d j k ++ Pu.lvl d (j - k) p') (.slice la al lc) wr) := by
                  refine ⟨p + 1, by omega, by go_num, ?_⟩
                  rw [Pu.lvl_miss hdp, HA.out]
                  exact HR.out
                obtain ⟨dp, hdpe⟩ : ∃ dp, d p = dp := ⟨_, rfl⟩
                rw [hdpe] at hb ⊢
                clear hdp hdpe hcl
                go_wp2
                go_roundw
                case measure => simp [intOf]; omega
                case rel => obtain ⟨p, h1, h2, h3⟩ := HX.out; exact ⟨p, _, h1, h2, h3, rfl⟩
        · have hpn' : p = n := by omega
          subst hpn'
          have hpi : ¬ (p : Int) < (p : Int) := by omega
          have HX : Hid (∃ k' : Nat, k' ≤ p + 1 ∧ (Value.int .i64 ((p : Int) - k - 1)) = .int .i64 ((p : Int) - k') ∧ RRInv w p (Pu.rankK d p k') (.slice la (Pu.rankK d p k ++ Pu.lvl d (p - k) p).length lc) wz) := by
            refine ⟨k + 1, by omega, by go_num, ?_⟩
            rw [Pu.rankK]
            exact ⟨la, lc, rfl, hown, hlt, hle, hT⟩
          obtain ⟨al, hal⟩ : ∃ al, (Pu.rankK d p k ++ Pu.lvl d (p - k) p).length = al := ⟨_, rfl⟩
          rw [hal] at HX ⊢
          clear hown hlt hle hT hB2 hL2 hal c2
          go_wp2
          go_roundw
          case measure => simp [intOf]; omega
          case rel => exact HX.out
    · have hk' : k = n + 1 := by omega
      subst hk'
      have hki : ¬ (0 : Int) ≤ (n : Int) - ((n + 1 : Nat) : Int) := by omega
      have HX : Hid (ROrdPost w n (some (Pu.ranked d n)) (.returned (.tuple #[.slice la n lc, .bool true])) wr) := by
        have hl : (Pu.rankK d n (n + 1)).length = n := HP.out.1
        rw [hl] at hown
        obtain ⟨ga, gca, hga, _, _⟩ := World.ownsRow.form hown (by omega)
        injection hga with e1 _ e2
        subst e1 e2
        refine ⟨hT, ga, _, rfl, hl, fun j m hm => ⟨hlt m (List.mem_of_getElem? hm), ?_⟩⟩
        have hjl := (List.getElem?_eq_some_iff.1 hm).1
        have hm' : (Pu.rankK d n (n + 1))[j]? = some m := hm
        have hjl' : j < n := by rw [← hl]; exact hjl
        show wr.cell? _ = _
        rw [World.ownsRow.cellAt hown j (by omega)]; simp [vals, hm']
      have hl : (Pu.rankK d n (n + 1)).length = n := HP.out.1
      rw [hl]
      obtain ⟨z, hz⟩ : ∃ z, (n : Int) - ((n + 1 : Nat) : Int) = z := ⟨_, rfl⟩
      rw [hz] at hki ⊢
      clear hown hlt hle hT hl hz
      go_wp2
      exact bodyPost_ret (v := .tuple #[.slice la n lc, .bool true]) (by simp [results, Tryd.results60, go_sem]) rfl HX.out
#print axioms rord_roads
end Go.Proofs.YtdogncjcainhlaaDoor
/- The walk of the reference's labelled: a map's order and labels. -/
namespace Go.Proofs.YtdogncjcainhlaaDoor
open Go.RowKit Go.Deep
open Mem

theorem Mem.Grid.tab {w : World} {B n lb cap : Nat} {rb : List Nat} {len : Nat → Nat → Int} (h : Grid w B n (.slice (some ⟨lb, 0, none⟩) n cap) rb len) (hl : rb.length = n) : Tab w lb n len := fun i hi => by
  obtain ⟨r, hr⟩ : ∃ r, rb[i]? = some r := ⟨_, List.getElem?_eq_getElem (by omega)⟩
  refine ⟨r, ?_, fun j hj => (h.row i r hr).1.cell j hj⟩
  subst hl
  exact h.cell hr
theorem tab_congr {w : World} {fb n : Nat} {D D' : Nat → Nat → Int} (h : Tab w fb n D) (e : ∀ i j, i < n → j < n → D i j = D' i j) : Tab w fb n D' := fun i hi => by
  obtain ⟨r, h1, h2⟩ := h i hi
  exact ⟨r, h1, fun j hj => by rw [← e i j hi hj]; exact h2 j hj⟩

/-- What labelled hands back, o being the order that was asked for. -/
def RLabdPost (w : World) (r : Pu.Res) (o : Nat → (Nat → Nat → Int) → Option (List Nat)) (e : Ending) (w' : World) : Prop := Turns (fun _ => False) w w' ∧ match r with
  | .err c p => e = .returned (.tuple #[.slice none 0 0, .slice none 0 0, .int .i64 c, .int .i64 p])
  | .ok n _ len => match o n len with
    | none => e = .returned (.tuple #[.slice none 0 0, .slice none 0 0, .int .i64 4, .int .i64 0])
    | some O => ∃ (D : Nat → Nat → Int) (B ob ocap og oc : Nat) (hs : List Value), Pu.Cov n len D O ∧ e = .returned (.tuple #[.slice (some ⟨ob, 0, none⟩) n ocap, .slice (some ⟨og, 0, none⟩) n oc, .int .i64 0, .int .i64 0]) ∧
        Ord w' ob n O ∧ hs.length = n ∧ HubRows w' B (.slice (some ⟨og, 0, none⟩) n oc) hs (fun v => Pu.hubK D O v n)

set_option maxHeartbeats 400000 in
theorem rlabd_err (x s : ByteArray) (w : World) (o : Nat → (Nat → Nat → Int) → Option (List Nat)) (hx : x.size ≤ 2000000) (c p : Int) (hp : Pu.parse x.data.toList = .err c p) :
    Calls Tryd.prog 46 #[.string x, .string s] w (RLabdPost w (.err c p) o) := by
  have k := rread_any x w hx
  rw [hp] at k
  have he := Pu.parse_err hp
  have hne : (c != 0) = true := by simp; omega
  clear hp he
  go_enter Tryd.func46, Tryd.ntmps46
  go_wp2_with (go_at_call 23; refine k.mono ?_; rintro e w1 ⟨hT, rfl⟩)
  exact bodyPost_ret (v := .tuple #[.slice none 0 0, .slice none 0 0, .int .i64 c, .int .i64 p]) (by simp [results, Tryd.results46, go_sem]) rfl ⟨‹_›, rfl⟩

set_option maxRecDepth 100000 in
set_option maxHeartbeats 1000000 in
theorem rlabd_ok (x s : ByteArray) (w : World) (o : Nat → (Nat → Nat → Int) → Option (List Nat)) (hx : x.size ≤ 2000000) (n q : Nat) (len : Nat → Nat → Int) (hp : Pu.parse x.data.toList = .ok n q len) (hperm : ∀ O, o n len = some O → Pu.Perm n O)
    (hr : ∀ w1 b lb lcap fv, Turns (fun _ => False) w w1 → RB w1 b n q (.slice (some ⟨lb, 0, none⟩) n lcap) fv → Tab w1 lb n len → Calls Tryd.prog 60 #[.pointer (some ⟨b, 0, none⟩), .string s] w1 (ROrdPost w1 n (o n len))) :
    Calls Tryd.prog 46 #[.string x, .string s] w (RLabdPost w (.ok n q len) o) := by
  have k := rread_any x w hx
  rw [hp] at k
  obtain ⟨hn1, hn2, _, hN⟩ := Pu.parse_ok hp
  have hDD : ∀ i, ∃ far, Pu.Dist n len i far := fun i => Pu.Dist.any hN.lens hn2
  obtain ⟨D, hD⟩ : ∃ D : Nat → Nat → Int, ∀ i, Pu.Dist n len i (D i) := ⟨fun i => Classical.choose (hDD i), fun i => Classical.choose_spec (hDD i)⟩
  clear hp hDD
  go_enter Tryd.func46, Tryd.ntmps46
  go_wp2_with fail
  refine k.mono ?_
  rintro e w1 ⟨hT1, b, lb, lcap, fg, fcap, rb, fb, rfl, _, hB, hrl, hfl, hG, hF⟩
  have c2 := hr w1 b lb lcap _ hT1 hB (hG.tab hrl)
  have hTab : Tab w1 fg n (Pu.far9 D) := tab_congr (hF.tab hfl) (fun i j hi hj => by
    rw [Pu.table_says hN hn2 hj (hD j) hi, ← Pu.Dist.sym hN hj hi (hD i) (hD j)]; rfl)
  clear hrl hfl hG hF k hr
  cases ho : o n len with
  | none =>
    rw [ho] at c2
    clear hB hTab
    go_wp2_with fail
    refine c2.mono ?_
    rintro e w2 ⟨hT2, v, rfl⟩
    have HX : Hid (RLabdPost w (.ok n q len) o (.returned (.tuple #[.slice none 0 0, .slice none 0 0, .int .i64 4, .int .i64 0])) w2) := by
      refine ⟨hT1.trans hT2, ?_⟩
      dsimp only
      rw [ho]
    clear c2 hT1 hT2 ho hD hperm
    go_wp2
    exact bodyPost_ret (v := .tuple #[.slice none 0 0, .slice none 0 0, .int .i64 4, .int .i64 0]) (by simp [results, Tryd.results46, go_sem]) rfl HX.out
  | some O =>
    rw [ho] at c2
    have hC : Pu.Cov n len D O := ⟨hN, fun i _ => hD i, hperm O ho⟩
    go_wp2_with fail
    refine c2.mono ?_
    rintro e w2 ⟨hT2, ob, ocap, rfl, hOr⟩
    have c3 := rlab_any w2 b n fg fcap ob ocap q _ len D O hC (hB.turns hT2 (fun x => x)) (hTab.turns hT2) hOr hn1 hn2
    have HX : Hid (∀ (og oc : Nat) (hs : List Value) w3, Turns (fun _ => False) w2 w3 → hs.length = n → HubRows w3 w2.heap.size (.slice (some ⟨og, 0, none⟩) n oc) hs (fun v => Pu.hubK D O v n) → RLabdPost w (.ok n q len) o (.returned (.tuple #[.slice (some ⟨ob, 0, none⟩) n ocap, .slice (some ⟨og, 0, none⟩) n oc, .int .i64 0, .int .i64 0])) w3) := by
      intro og oc hs w3 hT3 hl hH
      refine ⟨(hT1.trans hT2).trans hT3, ?_⟩
      dsimp only
      rw [ho]
      exact ⟨D, _, ob, ocap, og, oc, hs, hC, rfl, hOr.turns hT3, hl, hH⟩
    clear c2 hT1 hT2 ho hD hC hOr hB hTab hperm
    go_wp2_with fail
    refine c3.mono ?_
    rintro e w3 ⟨hT3, og, oc, hs, rfl, hl, hH⟩
    have HY := HX.out og oc hs w3 hT3 hl hH
    have HZ : Hid (RLabdPost w (.ok n q len) o (.returned (.tuple #[.slice (some ⟨ob, 0, none⟩) n ocap, .slice (some ⟨og, 0, none⟩) n oc, .int .i64 0, .int .i64 0])) w3) := HY
    clear c3 hT3 hH HX hl HY
    go_wp2
    exact bodyPost_ret (v := .tuple #[.slice (some ⟨ob, 0, none⟩) n ocap, .slice (some ⟨og, 0, none⟩) n oc, .int .i64 0, .int .i64 0]) (by simp [results, Tryd.results46, go_sem]) rfl HZ.out

/-- The order that a text asks for. -/
def Pu.orderOf (s : List UInt8) (n : Nat) (len : Nat → Nat → Int) : Option (List Nat) := if s.length = 0 then some (Pu.ranked (fun v => Pu.rowCnt len v n) n) else Pu.order n s
theorem Pu.orderOf_perm {s : List UInt8} {n : Nat} {len : Nat → Nat → Int} {O : List Nat} (h : Pu.orderOf s n len = some O) : Pu.Perm n O := by
  unfold Pu.orderOf at h
  split at h
  · cases h; exact Pu.ranked_perm (fun x _ => Pu.rowCnt_le' len x n)
  · exact Pu.order_ok h
theorem rlabd_any (x s : ByteArray) (w : World) (hx : x.size ≤ 2000000) (hs : s.size ≤ 2000000) : Calls Tryd.prog 46 #[.string x, .string s] w (RLabdPost w (Pu.parse x.data.toList) (Pu.orderOf s.data.toList)) := by
  cases hp : Pu.parse x.data.toList with
  | err c p => exact rlabd_err x s w _ hx c p hp
  | ok n q len =>
    obtain ⟨hn1, hn2, _, _⟩ := Pu.parse_ok hp
    refine rlabd_ok x s w _ hx n q len hp (fun O hO => Pu.orderOf_perm hO) (fun w1 b lb lcap fv _ hB hL => ?_)
    have e : s.data.toList.length = s.size := by simp
    unfold Pu.orderOf
    by_cases h : s.size = 0
    · rw [if_pos (by rw [e]; exact h)]
      exact rord_roads s w1 b n lb lcap q fv len h hn1 hn2 hB hL
    · rw [if_neg (by rw [e]; exact h)]
      exact rord_text s w1 b n q _ fv (by omega) hs hn1 hn2 hB
#print axioms rlabd_any
end Go.Proofs.YtdogncjcainhlaaDoor
