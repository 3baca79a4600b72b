/- The walk of bywaykeep.town. -/
import Derived.Test.YtdogncjcainhlaaGreatDoorDec
import Derived.Test.YtdogncjcainhlaaGreatDoorPlain
import Derived.Test.YtdogncjcainhlaaGreatDoorPack2
import Derived.Deep.RegionLaw
import Derived.BigRegion
import Derived.Deep.AppendLies
import Derived.Deep.OwnRows
import Derived.Deep.QuietTactic
import Derived.BigQuiet
import Derived.StillTactics
import Derived.Laws.Pointers
namespace Go.Proofs.YtdogncjcainhlaaGreatDoor
open Go.RowKit Go.Deep
open Mem

theorem info3' : (Tryz.prog.info? 3).map (fun i => (i.zero, i.size, i.bytes)) = some (some (.int .i64 0), 1, 8) := by kernel_rfl
theorem info41 : (Tryz.prog.info? 55).map (fun i => (i.zero, i.size, i.bytes)) = some (some (.slice none 0 0), 1, 24) := by kernel_rfl

theorem heap_alloc2 (w : World) (o1 o2 : Obj) : ((w.alloc o1).alloc o2).heap[w.heap.size + 1]? = some o2 := by
  have h := heap_alloc_new (w.alloc o1) o2
  rw [World.size_alloc] at h
  exact h
theorem town_grown {w w4 : World} {v : Value} {o1 o2 : Obj} (hgrow : ((w.alloc o1).alloc o2).drew.grownBy w4 v.ownBlock) : Turns (fun k => v.ownBlock = some k) w w4 :=
  ((((Turns.refl _ w).alloc _).alloc _).drew).grown hgrow (fun _ hk => Or.inr hk)

/-- What holds ahead of each round of the first loop: k rows without roads. -/
def Town1 (w : World) (n : Nat) (txt0 : ByteArray) (i : Value) (wr : World) : Prop :=
  ∃ (k : Nat) (v : Value) (rb : List Nat), i = .int .i64 k ∧ k ≤ n ∧ TB wr (w.heap.size + 1) txt0 n v ∧ TB wr w.heap.size ⟨#[]⟩ 0 (.slice none 0 0) ∧ rb.length = k ∧ Grid wr (w.heap.size + 2) n v rb (fun _ _ => 0) ∧
    Turns (fun _ => False) w wr ∧ w.heap.size + 2 ≤ wr.heap.size

/-- What holds ahead of each round of the second loop: the roads acc stand in the rows and in the text. -/
def Town2 (w : World) (n : Nat) (v : Value) (rb : List Nat) (K : Nat) (i : Value) (wr : World) : Prop :=
  ∃ (k : Nat) (acc : List Pu.Rd) (len : Nat → Nat → Int) (txt : ByteArray), i = .int .i64 k ∧ (k ≤ K ∧ k ≤ 60) ∧ TB wr (w.heap.size + 1) txt n v ∧ TB wr w.heap.size ⟨#[]⟩ 0 (.slice none 0 0) ∧ Grid wr (w.heap.size + 2) n v rb len ∧
    txt.data.toList = Pu.townText n acc ∧ Pu.lay (fun _ _ => 0) acc 0 = .inr len ∧ (∀ r ∈ acc, Pu.RdOk n r) ∧ acc.length ≤ k ∧ Turns (fun _ => False) w wr ∧ w.heap.size + 2 ≤ wr.heap.size

/-- decimal's text under a name. -/
theorem dec_str (u : Nat) (hu : u < 10000) : ∃ D : ByteArray, Hid (D.data.toList = Pu.dec u) ∧ D.size ≤ 4 ∧ Hid (∀ w, Calls Tryz.prog 22 #[.int .i64 (u : Int)] w fun e w' => e = .returned (.string D) ∧ Turns (fun _ => False) w w') :=
  ⟨⟨(Pu.dec u).toArray⟩, rfl, Pu.dec_len4 hu, dec_any u (by omega)⟩
theorem dec_str' (x : Nat) (hx : x < 1000) : ∃ D : ByteArray, Hid (D.data.toList = Pu.dec (1 + x)) ∧ D.size ≤ 4 ∧ Hid (∀ w, Calls Tryz.prog 22 #[.int .i64 (1 + (x : Int))] w fun e w' => e = .returned (.string D) ∧ Turns (fun _ => False) w w') :=
  ⟨⟨(Pu.dec (1 + x)).toArray⟩, rfl, Pu.dec_len4 (by omega), fun w => by simpa using dec_any (1 + x) (by omega) w⟩

theorem town_line {txt DU DV DX : ByteArray} {a b x : Nat} (h1 : DU.data.toList = Pu.dec a) (h2 : DV.data.toList = Pu.dec b) (h3 : DX.data.toList = Pu.dec (1 + x)) :
    (txt ++ ⟨#[10]⟩ ++ DU ++ ⟨#[32]⟩ ++ DV ++ ⟨#[32]⟩ ++ DX : ByteArray).data.toList = txt.data.toList ++ 10 :: Pu.roadLine (a, b, ((1 + x : Nat) : Int)) := by
  have e : (((1 + x : Nat) : Int)).toNat = 1 + x := Int.toNat_natCast _
  unfold Pu.roadLine
  rw [e]
  simp only [ByteArray.data_append, Array.toList_append, h1, h2, h3, List.append_assoc]
  rfl

/-- What holds ahead of writing the road a b into the text: it stands in the rows already. -/
def TownReady (w : World) (n : Nat) (v : Value) (rb : List Nat) (K k a b x : Nat) (wr : World) (txt : ByteArray) : Prop :=
  TB wr (w.heap.size + 1) txt n v ∧ ∀ wr' : World, Turns (fun _ => False) wr wr' → ∀ t' : ByteArray, t'.data.toList = txt.data.toList ++ 10 :: Pu.roadLine (a, b, (x : Int)) →
    Town2 w n v rb K (.int .i64 ((k : Int) + 1)) (wr'.setCell ⟨w.heap.size + 1, 0, none⟩ (.string t'))
theorem town_ready {w wz : World} {n K k a b x ru rv : Nat} {v : Value} {rb : List Nat} {txt : ByteArray} {acc : List Pu.Rd} {len : Nat → Nat → Int} (hB : TB wz (w.heap.size + 1) txt n v) (hR : TB wz w.heap.size ⟨#[]⟩ 0 (.slice none 0 0))
    (hG : Grid wz (w.heap.size + 2) n v rb len) (hru : rb[a]? = some ru) (hrv : rb[b]? = some rv) (hab : a < b) (hb : b < n) (hx : x < 1000) (htx : txt.data.toList = Pu.townText n acc) (hlay : Pu.lay (fun _ _ => 0) acc 0 = .inr len)
    (hok : ∀ r ∈ acc, Pu.RdOk n r) (hac : acc.length ≤ k) (hT : Turns (fun _ => False) w wz) (hs : w.heap.size + 2 ≤ wz.heap.size) (hz : len a b = 0) (hk : k < K ∧ k < 60) :
    TownReady w n v rb K k a b (1 + x) ((wz.setCell ⟨ru, b, none⟩ (.int .i64 (1 + (x : Int)))).setCell ⟨rv, a, none⟩ (.int .i64 (1 + (x : Int)))) txt := by
  have r1 := hG.row _ _ hru
  have r2 := hG.row _ _ hrv
  have hTT : Turns (fun k => k = ru ∨ k = rv) wz ((wz.setCell ⟨ru, b, none⟩ (.int .i64 (1 + (x : Int)))).setCell ⟨rv, a, none⟩ (.int .i64 (1 + (x : Int)))) :=
    ((Turns.refl _ wz).setCell (Or.inr (Or.inl rfl)) _).setCell (Or.inr (Or.inr rfl)) _
  have hB2 := hB.turns hTT (by have := r1.2.1; have := r2.2.1; omega)
  have hR2 := hR.turns hTT (by have := r1.2.1; have := r2.2.1; omega)
  have hG2 := (hG.set hru hb (1 + (x : Int))).set hrv (show a < n by omega) (1 + (x : Int))
  have hlen : (fun i j => if i = b ∧ j = a then (1 + (x : Int)) else (if i = a ∧ j = b then (1 + (x : Int)) else len i j)) = Pu.layLen len a b (1 + (x : Int)) := by
    funext i j
    unfold Pu.layLen
    by_cases c1 : i = b ∧ j = a
    · rw [if_pos c1, if_pos (Or.inr c1)]
    · by_cases c2 : i = a ∧ j = b
      · rw [if_neg c1, if_pos c2, if_pos (Or.inl c2)]
      · rw [if_neg c1, if_neg c2, if_neg (fun c => c.elim c2 c1)]
  rw [hlen] at hG2
  refine ⟨hB2, fun wr' hW t' ht' => ?_⟩
  have hS : Turns (· = w.heap.size + 1) wr' (wr'.setCell ⟨w.heap.size + 1, 0, none⟩ (.string t')) := (Turns.refl (· = w.heap.size + 1) wr').setCell (Or.inr rfl) _
  have hsz := hW.size
  refine ⟨k + 1, acc ++ [(a, b, (1 + (x : Int)))], _, t', by simp, by omega, (hB2.turns hW (fun x => x)).set0 t', (hR2.turns hW (fun x => x)).turns hS (by omega), (hG2.turns hW (fun _ _ x => x)).turns hS (fun k hk => by omega),
    ?_, Pu.lay_push acc 0 hlay hz, ?_, by simp; omega, ?_, by simp at hsz ⊢; omega⟩
  · rw [Pu.townText_push, ht', htx]; simp
  · intro r hr
    rcases List.mem_append.1 hr with h | h
    · exact hok r h
    · rw [List.mem_singleton] at h; subst h; exact ⟨hab, hb, by simp only; omega, by simp only; omega⟩
  · exact ((hT.join hTT (fun i hi _ c => by have := r1.2.1; have := r2.2.1; omega)).trans hW).setCell (Or.inl (by simp)) _

theorem town1_step {w wr w4 : World} {n g cap' : Nat} {txt0 : ByteArray} {v : Value} {rb : List Nat} {o2 : Obj} (hlt : rb.length < n) (hB : TB wr (w.heap.size + 1) txt0 n v) (hR : TB wr w.heap.size ⟨#[]⟩ 0 (.slice none 0 0))
    (hG : Grid wr (w.heap.size + 2) n v rb (fun _ _ => 0)) (hT : Turns (fun _ => False) w wr) (hs : w.heap.size + 2 ≤ wr.heap.size)
    (hown : w4.ownsRow (w.heap.size + 2) 55 1 (.slice (some ⟨g, 0, none⟩) (rb.length + 1) cap') (rb.length + 1) (rowVals n rb ++ [.slice (some ⟨wr.heap.size, 0, none⟩) n n]))
    (hgrow : ((wr.alloc (.cells (madeCells #[.int .i64 0] n) 3)).alloc o2).drew.grownBy w4 v.ownBlock) (hat : v.ownBlock = some g ∨ g = wr.heap.size + 2) :
    Town1 w n txt0 (.int .i64 ((rb.length : Int) + 1)) (w4.setCell ⟨w.heap.size + 1, 2, none⟩ (.slice (some ⟨g, 0, none⟩) (rb.length + 1) cap')) := by
  obtain ⟨hG4, hT4⟩ := hG.push hs (q := 1) hown hgrow hat (fun _ => rfl)
  have hv : ∀ k, v.ownBlock = some k → w.heap.size + 2 ≤ k := fun k hk => (hG.own.lt k hk).1
  have hB4 := hB.turns hT4 (fun c => by have := hv _ c; omega)
  have hR4 := hR.turns hT4 (fun c => by have := hv _ c; omega)
  have hS : Turns (· = w.heap.size + 1) w4 (w4.setCell ⟨w.heap.size + 1, 2, none⟩ (.slice (some ⟨g, 0, none⟩) (rb.length + 1) cap')) := (Turns.refl (· = w.heap.size + 1) w4).setCell (Or.inr rfl) _
  have h4 := hT4.size
  refine ⟨rb.length + 1, _, rb ++ [wr.heap.size], by simp, by omega, hB4.set2 _, hR4.turns hS (by omega), by simp, hG4.turns hS (fun k hk => by omega), ?_, by simp; omega⟩
  exact (hT.join hT4 (fun i hi _ c => by have := hv _ c; omega)).setCell (Or.inl (by simp)) _

theorem town_fin {w wr wf : World} {txt : ByteArray} {n R lb lcap : Nat} {rb : List Nat} {len : Nat → Nat → Int} (h : TownIs wr (w.heap.size + 2) txt n R (.slice (some ⟨lb, 0, none⟩) rb.length lcap) rb len) (hT : Turns (fun _ => False) w wr)
    (hwf : (((wr.setCell ⟨w.heap.size, 0, none⟩ (.string txt)).setCell ⟨w.heap.size, 1, none⟩ (.int .i64 n)).setCell ⟨w.heap.size, 2, none⟩ (.slice (some ⟨lb, 0, none⟩) rb.length lcap)) = wf) :
    Turns (fun _ => False) w wf ∧ ∃ (txt' : ByteArray) (n' R' : Nat) (v' : Value) (rb' : List Nat) (len' : Nat → Nat → Int), Ending.returned (.agg #[.string txt, .int .i64 n, .slice (some ⟨lb, 0, none⟩) rb.length lcap]) = .returned (.agg #[.string txt', .int .i64 n', v']) ∧ TownIs wf w.heap.size txt' n' R' v' rb' len' := by
  have hS : Turns (· = w.heap.size) wr wf := by
    rw [← hwf]
    exact (((Turns.refl (· = w.heap.size) wr).setCell (Or.inr rfl) _).setCell (Or.inr rfl) _).setCell (Or.inr rfl) _
  refine ⟨hT.join hS (fun i hi _ c => by omega), txt, n, R, _, rb, len, rfl, ⟨h.n1, h.n2, h.size, h.parse, (h.grid.turns hS (fun k hk c => by omega)).mono (by omega), h.cnt⟩⟩

set_option maxRecDepth 100000 in
set_option maxHeartbeats 4000000 in
theorem town_any : TownSaid := by
  intro w size ra K cap raw h0 h1 hK hRaw
  have hp := Pu.pick_lt size (n := 14) (by omega)
  obtain ⟨n, hn⟩ : ∃ n : Nat, 1 + Pu.pick size 14 = n := ⟨_, rfl⟩
  have HN : Hid (1 + Pu.pick size 14 = n) := hn
  have hn1 : 1 ≤ n := by omega
  have hn2 : n ≤ 14 := by omega
  have hni : (1 : Int) + ((Pu.pick size 14 : Nat) : Int) = (n : Int) := by omega
  have hmk := run_make_row' (P := Tryz.prog) 55 3 (.int .i64 0) 8 Tryz.underlying55 info3' rfl .i64 .i64 n (by omega) (by omega)
  obtain ⟨i0, hi, hz0, hz1, hz2⟩ := info_parts info41
  clear hn
  go_enter Tryz.func7, Tryz.ntmps7
  go_wp2_with fail
  refine (pick_any size 14 _ h0 h1 (by omega) (by omega)).mono ?_
  rintro e w1 ⟨rfl, hw1⟩
  subst w1
  go_wp2_with fail
  refine (dec_any n (by omega) _).mono ?_
  rintro e w1 ⟨rfl, hT1⟩
  have hTW : Turns (fun _ => False) w w1 := (((Turns.refl _ w).alloc _).alloc _).trans hT1
  have hs1 : w.heap.size + 2 ≤ w1.heap.size := by have := hT1.size; simpa using this
  have hR1 : TB w1 w.heap.size ⟨#[]⟩ 0 (.slice none 0 0) := ((TB.new w _ _ _).turns ((Turns.refl (fun _ => False) _).alloc _) (fun x => x)).turns hT1 (fun x => x)
  have hB1 : TB w1 (w.heap.size + 1) ⟨#[]⟩ n (.slice none 0 0) := by
    have := (TB.new (w.alloc (.cells #[.string ⟨#[]⟩, .int .i64 0, .slice none 0 0] 25)) ⟨#[]⟩ n (.slice none 0 0)).turns hT1 (fun x => x)
    simpa using this
  have hB2 := hB1.set0 ⟨(Pu.dec n).toArray⟩
  have hR2 : TB (w1.setCell ⟨w.heap.size + 1, 0, none⟩ (.string ⟨(Pu.dec n).toArray⟩)) w.heap.size ⟨#[]⟩ 0 (.slice none 0 0) := hR1.turns ((Turns.refl (· = w.heap.size + 1) w1).setCell (Or.inr rfl) _) (by omega)
  have hT2 : Turns (fun _ => False) w (w1.setCell ⟨w.heap.size + 1, 0, none⟩ (.string ⟨(Pu.dec n).toArray⟩)) := hTW.setCell (Or.inl (by simp)) _
  have hs2 : w.heap.size + 2 ≤ (w1.setCell ⟨w.heap.size + 1, 0, none⟩ (.string ⟨(Pu.dec n).toArray⟩)).heap.size := by simpa using hs1
  have c0 := hB1.c0
  have f0 := hB1.free 0
  have ht0 : Hid ((⟨(Pu.dec n).toArray⟩ : ByteArray).data.toList = Pu.dec n) := rfl
  generalize (⟨(Pu.dec n).toArray⟩ : ByteArray) = txt0 at *
  clear hT1 hTW hR1 hB1
  go_wp2
  go_loopw [6] (fun i wr => Town1 w n txt0 i wr) (fun i _ => n - (intOf i).toNat)
  case atStart => exact ⟨0, _, [], rfl, Nat.zero_le _, hB2, hR2, rfl, Grid.nil _ _ _ _, hT2, hs2⟩
  case round =>
    clear hB2 hR2 hT2 hs2 c0 f0 hs1
    obtain ⟨_, v, rb, rfl, hk, hB, hR, rfl, hG, hT, hs⟩ := hrel
    have c1 := hB.c1
    have c2 := hB.c2
    by_cases hlt : rb.length < n
    · have f2 := hB.free 2
      have hbl := hB.lt
      have hvn : v.ownBlock ≠ some (w.heap.size + 1) := fun c => by have := (hG.own.lt _ c).1; omega
      have hown := hG.own
      have HG : Hid (Grid wr (w.heap.size + 2) n v rb (fun _ _ => 0)) := hG
      have HB : Hid (TB wr (w.heap.size + 1) txt0 n v) := hB
      have HR : Hid (TB wr w.heap.size ⟨#[]⟩ 0 (.slice none 0 0)) := hR
      clear hG hB hR
      have d1 : ∀ o, (wr.alloc o).cell? ⟨w.heap.size + 1, 2, none⟩ = some v := fun o => (World.cell?_alloc_lt _ _ _ hbl).trans c2
      have d2 : ∀ o o', ((wr.alloc o).alloc o').cell? ⟨w.heap.size + 1, 2, none⟩ = some v := fun o o' => (World.cell?_alloc_lt _ _ _ (by simp; omega)).trans (d1 o)
      go_wp2_with fail
      go_region_law
        ((refine step_append_lies _ (by rfl) _ _ _ (by rfl) (w.heap.size + 2) 55 i0 _ 1 24 Tryz.underlying23 hi hz0 hz1 hz2 rfl (by omega) v rb.length (rowVals n rb) (by rfl) (((hown.alloc _).alloc _).drew)
            ⟨wr.heap.size + 1, 0, none⟩ 1 1 [.slice (some ⟨wr.heap.size, 0, none⟩) n n] (by rfl) (by rfl) (World.news_of_block (cs := #[.slice (some ⟨wr.heap.size, 0, none⟩) n n]) (t := 55) (fr := (0, 0)) (heap_alloc2 wr _ _)) (by simp [Value.oneCell'])
            (by omega) (by unfold maxLen; omega) (by omega) (by simp; omega) (wr.heap.size + 2) (by simp) ?_; intro g cap' w4 hown4 hgrow hat hlt4; have hT4 := town_grown hgrow; have hB4 := HB.out.turns hT4 hvn; have hc4 := hB4.c2; have hc41 := hB4.c1; have hf4 := hB4.free 2))
      all_goals
        have HX : Hid (Town1 w n txt0 (.int .i64 ((rb.length : Int) + 1)) (w4.setCell ⟨w.heap.size + 1, 2, none⟩ (.slice (some ⟨g, 0, none⟩) (rb.length + 1) cap'))) := town1_step hlt HB.out HR.out HG.out hT hs hown4 hgrow hat
        clear hown4 hgrow hat hT4 hB4 HG HB HR d1 d2 hown
        go_wp2
        go_roundw
        case measure => simp [intOf]; omega
        case rel => exact HX.out
    · have e : rb.length = n := by omega
      obtain ⟨lb, lcap, rfl, hlb, hlb2⟩ := hG.form (by omega)
      have HE : Hid (rb.length = n) := e
      have HG0 : Hid (Town2 w n (.slice (some ⟨lb, 0, none⟩) rb.length lcap) rb K (.int .i64 0) wr) :=
        ⟨0, [], fun _ _ => 0, txt0, rfl, by omega, hB, hR, hG, by simp [Pu.townText, ht0.out], rfl, fun r hr => by (cases hr), by simp, hT, hs⟩
      clear hB hR hG hT hs c2 hk hmk hi hz0 hz1 hz2 e hlb hlb2
      go_wp2
      go_loopw [7] (fun i wr => Town2 w n (.slice (some ⟨lb, 0, none⟩) rb.length lcap) rb K i wr) (fun i _ => 60 - (intOf i).toNat)
      case atStart => exact HG0.out
      case round =>
        clear HG0 c1
        obtain ⟨k, acc, len, txt, rfl, hk, hB, hR, hG, htx, hlay, hok, hac, hT, hs⟩ := hrel
        by_cases hlt : k < K ∧ k < 60
        · obtain ⟨hl1, hl2⟩ := hlt
          obtain ⟨rr, ro, rfl, hrl, hraw⟩ := hRaw.at' (by omega)
          obtain ⟨q0, q1, q2⟩ := hraw k hl1
          have d0 : wr.cell? ⟨rr, ro + k * 3, none⟩ = some (.int .i64 (raw k).1) := (hT.cell (a := ⟨rr, ro + k * 3, none⟩) hrl (fun x => x)).trans q0
          have d1 : wr.cell? ⟨rr, ro + k * 3 + 1, none⟩ = some (.int .i64 (raw k).2.1) := (hT.cell (a := ⟨rr, ro + k * 3 + 1, none⟩) hrl (fun x => x)).trans q1
          have d2 : wr.cell? ⟨rr, ro + k * 3 + 2, none⟩ = some (.int .i64 (raw k).2.2) := (hT.cell (a := ⟨rr, ro + k * 3 + 2, none⟩) hrl (fun x => x)).trans q2
          obtain ⟨b0, b1, b2, b3, b4, b5⟩ := hRaw.rng k hl1
          have c1 := hB.c1
          generalize (raw k).1 = U at *
          generalize (raw k).2.1 = V at *
          generalize (raw k).2.2 = X at *
          clear q0 q1 q2 hraw
          go_wp2
          go_quiet ((go_at_call 10; exact Calls.quiet_of_same (pick_any _ n _ (by omega) (by omega) (by omega) (by omega))))
          obtain ⟨wq, hwq⟩ : ∃ wq, wr.drewN nq = wq := ⟨_, rfl⟩
          rw [hwq]
          have c1 : wq.cell? ⟨w.heap.size + 1, 1, none⟩ = some (.int .i64 n) := by rw [← hwq]; exact c1
          have d1 : wq.cell? ⟨rr, ro + k * 3 + 1, none⟩ = some (.int .i64 V) := by rw [← hwq]; exact d1
          have d2 : wq.cell? ⟨rr, ro + k * 3 + 2, none⟩ = some (.int .i64 X) := by rw [← hwq]; exact d2
          have hB : TB wq (w.heap.size + 1) txt n (.slice (some ⟨lb, 0, none⟩) rb.length lcap) := by rw [← hwq]; exact hB
          have hR : TB wq w.heap.size ⟨#[]⟩ 0 (.slice none 0 0) := by rw [← hwq]; exact hR
          have hG : Grid wq (w.heap.size + 2) n (.slice (some ⟨lb, 0, none⟩) rb.length lcap) rb len := by rw [← hwq]; exact hG.turns ((Turns.refl (fun _ => False) wr).drewN nq) (fun _ _ x => x)
          have hT : Turns (fun _ => False) w wq := by rw [← hwq]; exact hT.drewN nq
          have hs : w.heap.size + 2 ≤ wq.heap.size := by rw [← hwq]; exact hs
          clear hwq
          go_wp2
          go_quiet ((go_at_call 10; exact Calls.quiet_of_same (pick_any _ n _ (by omega) (by omega) (by omega) (by omega))))
          obtain ⟨wz, hwz⟩ : ∃ wz, wq.drewN nq = wz := ⟨_, rfl⟩
          rw [hwz]
          have d2 : wz.cell? ⟨rr, ro + k * 3 + 2, none⟩ = some (.int .i64 X) := by rw [← hwz]; exact d2
          have hB : TB wz (w.heap.size + 1) txt n (.slice (some ⟨lb, 0, none⟩) rb.length lcap) := by rw [← hwz]; exact hB
          have hR : TB wz w.heap.size ⟨#[]⟩ 0 (.slice none 0 0) := by rw [← hwz]; exact hR
          have hG : Grid wz (w.heap.size + 2) n (.slice (some ⟨lb, 0, none⟩) rb.length lcap) rb len := by rw [← hwz]; exact hG.turns ((Turns.refl (fun _ => False) wq).drewN nq) (fun _ _ x => x)
          have hT : Turns (fun _ => False) w wz := by rw [← hwz]; exact hT.drewN nq
          have hs : w.heap.size + 2 ≤ wz.heap.size := by rw [← hwz]; exact hs
          clear hwz
          go_wp2_with fail
          refine (pick_any X 1000 _ (by omega) (by omega) (by omega) (by omega)).mono ?_
          rintro e w5 ⟨rfl, hw5⟩
          subst w5
          have hu := Pu.pick_lt U (n := n) (by omega)
          have hv := Pu.pick_lt V (n := n) (by omega)
          have hx := Pu.pick_lt X (n := 1000) (by omega)
          generalize Pu.pick U n = u at *
          generalize Pu.pick V n = v at *
          generalize Pu.pick X 1000 = x at *
          clear b0 b1 b2 b3 b4 b5 d2 c1
          have c2 := hB.c2
          rcases (show u < v ∨ v < u ∨ u = v by omega) with hlt | hlt | hlt
          · obtain ⟨ru, hru⟩ : ∃ ru, rb[u]? = some ru := ⟨_, List.getElem?_eq_getElem (by have := HE.out; omega)⟩
            obtain ⟨rv, hrv⟩ : ∃ rv, rb[v]? = some rv := ⟨_, List.getElem?_eq_getElem (by have := HE.out; omega)⟩
            have g1 := hG.cell hru
            have g2 := hG.cell hrv
            have r1 := hG.row _ _ hru
            have r2 := hG.row _ _ hrv
            have m1 := r1.1.cell v (by omega)
            have m2 := r2.1.cell u (by omega)
            have f1 := r1.1.free v (by omega)
            have f2 := r2.1.free u (by omega)
            have hne : ((u : Int) == (v : Int)) = false := by simp; omega
            have hts : txt.size ≤ 1000 := by
              have := Pu.townText_le hn2 acc hok
              rw [← htx] at this; simp at this; omega
            have hL := (Pu.Net.lay_all acc _ _ 0 (Pu.Net.zero n) hok hlay).lens.rng u v
            have hrl : rb.length = n := HE.out
            have hl0 : (u : Int) < (rb.length : Int) := by omega
            have hl1' : (v : Int) < (rb.length : Int) := by omega
            clear hrl
            by_cases hz : len u v = 0
            · have hz' : (0 < len u v) = False := by simp; omega
              have n1 : ru ≠ w.heap.size + 1 := by have := r1.2.1; omega
              have n2 : ru ≠ lb := fun c => r1.2.2 (by rw [c]; rfl)
              have n3 : ru ≠ rv := fun c => by have := hG.inj u v ru hru (by rw [hrv, c]); omega
              have s1 : ∀ y, (wz.setCell ⟨ru, v, none⟩ y).cell? ⟨w.heap.size + 1, 2, none⟩ = some (.slice (some ⟨lb, 0, none⟩) rb.length lcap) := fun y => (World.cell?_setCell_other _ _ _ _ (by intro c; injection c with c; exact n1 c)).trans c2
              have s2 : ∀ y, (wz.setCell ⟨ru, v, none⟩ y).cell? ⟨lb, v, none⟩ = some (.slice (some ⟨rv, 0, none⟩) n n) := fun y => (World.cell?_setCell_other _ _ _ _ (by intro c; injection c with c; exact n2 c)).trans g2
              have s3 : ∀ y, (wz.setCell ⟨ru, v, none⟩ y).cell? ⟨rv, u, none⟩ = some (.int .i64 (len v u)) := fun y => (World.cell?_setCell_other _ _ _ _ (by intro c; injection c with c; exact n3 c)).trans m2
              have HP : Hid (TownReady w n (.slice (some ⟨lb, 0, none⟩) rb.length lcap) rb K k u v (1 + x) ((wz.setCell ⟨ru, v, none⟩ (.int .i64 (1 + (x : Int)))).setCell ⟨rv, u, none⟩ (.int .i64 (1 + (x : Int)))) txt) :=
                town_ready hB hR hG hru hrv (by omega) (by omega) hx htx hlay hok hac hT hs hz ⟨hl1, hl2⟩
              clear hB hR hG htx hlay hok hac hT hs r1 r2 hru hrv hL
              go_wp2
              obtain ⟨wy, hwy⟩ : ∃ wy, ((wz.setCell ⟨ru, v, none⟩ (.int .i64 (1 + (x : Int)))).setCell ⟨rv, u, none⟩ (.int .i64 (1 + (x : Int)))) = wy := ⟨_, rfl⟩
              rw [hwy] at HP ⊢
              have t0 := HP.out.1.c0
              have tf := HP.out.1.free 0
              have tl := HP.out.1.lt
              obtain ⟨DU, HDU, lDU, e1⟩ := dec_str u (by omega)
              obtain ⟨DV, HDV, lDV, e2⟩ := dec_str v (by omega)
              obtain ⟨DX, HDX, lDX, e3⟩ := dec_str' x (by omega)
              have b1 : (9223372036854775807 < txt.size + 1) = False := by simp; omega
              have b2 : (9223372036854775807 < txt.size + 1 + DU.size) = False := by simp; omega
              have b3 : (9223372036854775807 < txt.size + 1 + DU.size + 1) = False := by simp; omega
              have b4 : (9223372036854775807 < txt.size + 1 + DU.size + 1 + DV.size) = False := by simp; omega
              have b5 : (9223372036854775807 < txt.size + 1 + DU.size + 1 + DV.size + 1) = False := by simp; omega
              have b6 : (9223372036854775807 < txt.size + 1 + DU.size + 1 + DV.size + 1 + DX.size) = False := by simp; omega
              clear hwy s1 s2 s3 m1 m2 f1 f2 g1 g2 c2 hz hz' n1 n2 n3 hne hl0 hl1'
              go_region_with (first
                | (go_at_call_of 22 (Value.int IntKind.i64 (u : Int)); refine (e1.out _).mono ?_; rintro e wa ⟨rfl, hTa⟩; have ka : wa.cell? ⟨w.heap.size + 1, 0, none⟩ = some (.string txt) := (hTa.cell (a := ⟨w.heap.size + 1, 0, none⟩) tl (fun x => x)).trans t0; have fa : wa.frozen? ⟨w.heap.size + 1, 0, none⟩ = false := (hTa.frozen (a := ⟨w.heap.size + 1, 0, none⟩) tl (fun x => x)).trans tf; have ja : w.heap.size + 1 < wa.heap.size := Nat.lt_of_lt_of_le tl hTa.size)
                | (go_at_call_of 22 (Value.int IntKind.i64 (v : Int)); refine (e2.out _).mono ?_; rintro e wb ⟨rfl, hTb⟩; have kb : wb.cell? ⟨w.heap.size + 1, 0, none⟩ = some (.string txt) := (hTb.cell (a := ⟨w.heap.size + 1, 0, none⟩) ja (fun x => x)).trans ka; have fb : wb.frozen? ⟨w.heap.size + 1, 0, none⟩ = false := (hTb.frozen (a := ⟨w.heap.size + 1, 0, none⟩) ja (fun x => x)).trans fa; have jb : w.heap.size + 1 < wb.heap.size := Nat.lt_of_lt_of_le ja hTb.size)
                | (go_at_call 22; refine (e3.out _).mono ?_; rintro e wc ⟨rfl, hTc⟩; have kc : wc.cell? ⟨w.heap.size + 1, 0, none⟩ = some (.string txt) := (hTc.cell (a := ⟨w.heap.size + 1, 0, none⟩) jb (fun x => x)).trans kb; have fc : wc.frozen? ⟨w.heap.size + 1, 0, none⟩ = false := (hTc.frozen (a := ⟨w.heap.size + 1, 0, none⟩) jb (fun x => x)).trans fb; have jc : w.heap.size + 1 < wc.heap.size := Nat.lt_of_lt_of_le jb hTc.size))
              all_goals
                have HX : Hid (Town2 w n (.slice (some ⟨lb, 0, none⟩) rb.length lcap) rb K (.int .i64 ((k : Int) + 1)) (wc.setCell ⟨w.heap.size + 1, 0, none⟩ (.string (txt ++ ⟨#[10]⟩ ++ DU ++ ⟨#[32]⟩ ++ DV ++ ⟨#[32]⟩ ++ DX)))) :=
                  HP.out.2 wc (((((Turns.refl (fun _ => False) wy).drew).trans hTa).trans hTb).trans hTc) _ (town_line HDU.out HDV.out HDX.out)
                clear hTa hTb hTc ka kb kc fa fb fc e1 e2 e3
                go_wp2
                go_roundw
                case measure => simp [intOf]; omega
                case rel => exact HX.out
            · have hz' : 0 < len u v := by omega
              have HX : Hid (Town2 w n (.slice (some ⟨lb, 0, none⟩) rb.length lcap) rb K (.int .i64 ((k : Int) + 1)) wz) := ⟨k + 1, acc, len, txt, by go_num, by omega, hB, hR, hG, htx, hlay, hok, by omega, hT, hs⟩
              clear hB hR hG htx hlay hok hac hT hs r1 r2 hru hrv hL hz
              go_wp2
              go_roundw
              case measure => simp [intOf]; omega
              case rel => exact HX.out
          · obtain ⟨ru, hru⟩ : ∃ ru, rb[v]? = some ru := ⟨_, List.getElem?_eq_getElem (by have := HE.out; omega)⟩
            obtain ⟨rv, hrv⟩ : ∃ rv, rb[u]? = some rv := ⟨_, List.getElem?_eq_getElem (by have := HE.out; omega)⟩
            have g1 := hG.cell hru
            have g2 := hG.cell hrv
            have r1 := hG.row _ _ hru
            have r2 := hG.row _ _ hrv
            have m1 := r1.1.cell u (by omega)
            have m2 := r2.1.cell v (by omega)
            have f1 := r1.1.free u (by omega)
            have f2 := r2.1.free v (by omega)
            have hne : ((v : Int) == (u : Int)) = false := by simp; omega
            have hts : txt.size ≤ 1000 := by
              have := Pu.townText_le hn2 acc hok
              rw [← htx] at this; simp at this; omega
            have hL := (Pu.Net.lay_all acc _ _ 0 (Pu.Net.zero n) hok hlay).lens.rng v u
            have hrl : rb.length = n := HE.out
            have hl0 : (v : Int) < (rb.length : Int) := by omega
            have hl1' : (u : Int) < (rb.length : Int) := by omega
            clear hrl
            by_cases hz : len v u = 0
            · have hz' : (0 < len v u) = False := by simp; omega
              have n1 : ru ≠ w.heap.size + 1 := by have := r1.2.1; omega
              have n2 : ru ≠ lb := fun c => r1.2.2 (by rw [c]; rfl)
              have n3 : ru ≠ rv := fun c => by have := hG.inj v u ru hru (by rw [hrv, c]); omega
              have s1 : ∀ y, (wz.setCell ⟨ru, u, none⟩ y).cell? ⟨w.heap.size + 1, 2, none⟩ = some (.slice (some ⟨lb, 0, none⟩) rb.length lcap) := fun y => (World.cell?_setCell_other _ _ _ _ (by intro c; injection c with c; exact n1 c)).trans c2
              have s2 : ∀ y, (wz.setCell ⟨ru, u, none⟩ y).cell? ⟨lb, u, none⟩ = some (.slice (some ⟨rv, 0, none⟩) n n) := fun y => (World.cell?_setCell_other _ _ _ _ (by intro c; injection c with c; exact n2 c)).trans g2
              have s3 : ∀ y, (wz.setCell ⟨ru, u, none⟩ y).cell? ⟨rv, v, none⟩ = some (.int .i64 (len u v)) := fun y => (World.cell?_setCell_other _ _ _ _ (by intro c; injection c with c; exact n3 c)).trans m2
              have HP : Hid (TownReady w n (.slice (some ⟨lb, 0, none⟩) rb.length lcap) rb K k v u (1 + x) ((wz.setCell ⟨ru, u, none⟩ (.int .i64 (1 + (x : Int)))).setCell ⟨rv, v, none⟩ (.int .i64 (1 + (x : Int)))) txt) :=
                town_ready hB hR hG hru hrv (by omega) (by omega) hx htx hlay hok hac hT hs hz ⟨hl1, hl2⟩
              clear hB hR hG htx hlay hok hac hT hs r1 r2 hru hrv hL
              go_wp2
              obtain ⟨wy, hwy⟩ : ∃ wy, ((wz.setCell ⟨ru, u, none⟩ (.int .i64 (1 + (x : Int)))).setCell ⟨rv, v, none⟩ (.int .i64 (1 + (x : Int)))) = wy := ⟨_, rfl⟩
              rw [hwy] at HP ⊢
              have t0 := HP.out.1.c0
              have tf := HP.out.1.free 0
              have tl := HP.out.1.lt
              obtain ⟨DU, HDU, lDU, e1⟩ := dec_str v (by omega)
              obtain ⟨DV, HDV, lDV, e2⟩ := dec_str u (by omega)
              obtain ⟨DX, HDX, lDX, e3⟩ := dec_str' x (by omega)
              have b1 : (9223372036854775807 < txt.size + 1) = False := by simp; omega
              have b2 : (9223372036854775807 < txt.size + 1 + DU.size) = False := by simp; omega
              have b3 : (9223372036854775807 < txt.size + 1 + DU.size + 1) = False := by simp; omega
              have b4 : (9223372036854775807 < txt.size + 1 + DU.size + 1 + DV.size) = False := by simp; omega
              have b5 : (9223372036854775807 < txt.size + 1 + DU.size + 1 + DV.size + 1) = False := by simp; omega
              have b6 : (9223372036854775807 < txt.size + 1 + DU.size + 1 + DV.size + 1 + DX.size) = False := by simp; omega
              clear hwy s1 s2 s3 m1 m2 f1 f2 g1 g2 c2 hz hz' n1 n2 n3 hne hl0 hl1'
              go_region_with (first
                | (go_at_call_of 22 (Value.int IntKind.i64 (v : Int)); refine (e1.out _).mono ?_; rintro e wa ⟨rfl, hTa⟩; have ka : wa.cell? ⟨w.heap.size + 1, 0, none⟩ = some (.string txt) := (hTa.cell (a := ⟨w.heap.size + 1, 0, none⟩) tl (fun x => x)).trans t0; have fa : wa.frozen? ⟨w.heap.size + 1, 0, none⟩ = false := (hTa.frozen (a := ⟨w.heap.size + 1, 0, none⟩) tl (fun x => x)).trans tf; have ja : w.heap.size + 1 < wa.heap.size := Nat.lt_of_lt_of_le tl hTa.size)
                | (go_at_call_of 22 (Value.int IntKind.i64 (u : Int)); refine (e2.out _).mono ?_; rintro e wb ⟨rfl, hTb⟩; have kb : wb.cell? ⟨w.heap.size + 1, 0, none⟩ = some (.string txt) := (hTb.cell (a := ⟨w.heap.size + 1, 0, none⟩) ja (fun x => x)).trans ka; have fb : wb.frozen? ⟨w.heap.size + 1, 0, none⟩ = false := (hTb.frozen (a := ⟨w.heap.size + 1, 0, none⟩) ja (fun x => x)).trans fa; have jb : w.heap.size + 1 < wb.heap.size := Nat.lt_of_lt_of_le ja hTb.size)
                | (go_at_call 22; refine (e3.out _).mono ?_; rintro e wc ⟨rfl, hTc⟩; have kc : wc.cell? ⟨w.heap.size + 1, 0, none⟩ = some (.string txt) := (hTc.cell (a := ⟨w.heap.size + 1, 0, none⟩) jb (fun x => x)).trans kb; have fc : wc.frozen? ⟨w.heap.size + 1, 0, none⟩ = false := (hTc.frozen (a := ⟨w.heap.size + 1, 0, none⟩) jb (fun x => x)).trans fb; have jc : w.heap.size + 1 < wc.heap.size := Nat.lt_of_lt_of_le jb hTc.size))
              all_goals
                have HX : Hid (Town2 w n (.slice (some ⟨lb, 0, none⟩) rb.length lcap) rb K (.int .i64 ((k : Int) + 1)) (wc.setCell ⟨w.heap.size + 1, 0, none⟩ (.string (txt ++ ⟨#[10]⟩ ++ DU ++ ⟨#[32]⟩ ++ DV ++ ⟨#[32]⟩ ++ DX)))) :=
                  HP.out.2 wc (((((Turns.refl (fun _ => False) wy).drew).trans hTa).trans hTb).trans hTc) _ (town_line HDU.out HDV.out HDX.out)
                clear hTa hTb hTc ka kb kc fa fb fc e1 e2 e3
                go_wp2
                go_roundw
                case measure => simp [intOf]; omega
                case rel => exact HX.out
            · have hz' : 0 < len v u := by omega
              have HX : Hid (Town2 w n (.slice (some ⟨lb, 0, none⟩) rb.length lcap) rb K (.int .i64 ((k : Int) + 1)) wz) := ⟨k + 1, acc, len, txt, by go_num, by omega, hB, hR, hG, htx, hlay, hok, by omega, hT, hs⟩
              clear hB hR hG htx hlay hok hac hT hs r1 r2 hru hrv hL hz
              go_wp2
              go_roundw
              case measure => simp [intOf]; omega
              case rel => exact HX.out
          · have hb : ((u : Int) == (v : Int)) = true := by simp; omega
            have HX : Hid (Town2 w n (.slice (some ⟨lb, 0, none⟩) rb.length lcap) rb K (.int .i64 ((k : Int) + 1)) wz) := ⟨k + 1, acc, len, txt, by go_num, by omega, hB, hR, hG, htx, hlay, hok, by omega, hT, hs⟩
            clear hB hR hG htx hlay hok hac hT hs
            go_wp2
            go_roundw
            case measure => simp [intOf]; omega
            case rel => exact HX.out
        · have c0 := hB.c0
          have c1 := hB.c1
          have c2 := hB.c2
          have q0 := hR.c0
          have q1 := hR.c1
          have q2 := hR.c2
          have p0 := hR.free 0
          have p1 := hR.free 1
          have p2 := hR.free 2
          have HP : Hid (TownIs wr (w.heap.size + 2) txt n acc.length (.slice (some ⟨lb, 0, none⟩) rb.length lcap) rb len ∧ Turns (fun _ => False) w wr) := by
            refine ⟨⟨hn1, hn2, ?_, ?_, hG, HE.out⟩, hT⟩
            · have := Pu.townText_le hn2 acc hok
              rw [← htx] at this; simp at this; omega
            · rw [htx]; exact Pu.parse_back hn1 hn2 hok (by omega) hlay
          have HR2 : Hid (TB wr w.heap.size ⟨#[]⟩ 0 (.slice none 0 0)) := hR
          have hex : ¬ ((k : Int) < (K : Int) ∧ (k : Int) < 60) := by omega
          have hsz := hs
          clear hB hR hG htx hlay hok hac hT hs hlt
          rcases (show (K : Int) ≤ (k : Int) ∨ ((k : Int) < (K : Int) ∧ (60 : Int) ≤ (k : Int)) by omega) with hc | ⟨hc, hc'⟩
          all_goals
            clear hex
            go_wp2
            obtain ⟨wf, hwf⟩ : ∃ wf, (((wr.setCell ⟨w.heap.size, 0, none⟩ (.string txt)).setCell ⟨w.heap.size, 1, none⟩ (.int .i64 n)).setCell ⟨w.heap.size, 2, none⟩ (.slice (some ⟨lb, 0, none⟩) rb.length lcap)) = wf := ⟨_, rfl⟩
            rw [hwf]
            have hTB : TB wf w.heap.size txt n (.slice (some ⟨lb, 0, none⟩) rb.length lcap) := by rw [← hwf]; exact HR2.out.setAll _ _ _
            have z0 := hTB.c0
            have z1 := hTB.c1
            have z2 := hTB.c2
            have hfin := town_fin HP.out.1 HP.out.2 hwf
            exact bodyPost_ret (v := .agg #[.string txt, .int .i64 n, .slice (some ⟨lb, 0, none⟩) rb.length lcap]) (by simp [results, Tryz.results7, go_sem, z0, z1, z2]) rfl hfin
#print axioms town_any
end Go.Proofs.YtdogncjcainhlaaGreatDoor
