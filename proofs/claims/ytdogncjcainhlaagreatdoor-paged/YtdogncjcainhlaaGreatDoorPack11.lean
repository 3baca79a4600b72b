/- Pack11: texts of one proof, one behind the other. -/
import Derived.Test.YtdogncjcainhlaaGreatDoorPack10
import Derived.Test.YtdogncjcainhlaaGreatDoorPack8
import Derived.Test.YtdogncjcainhlaaGreatDoorPlain
import Derived.Test.YtdogncjcainhlaaGreatDoorPack3
import Derived.Test.YtdogncjcainhlaaGreatDoorPack2
import Derived.Test.YtdogncjcainhlaaGreatDoorPack6
import Derived.Test.YtdogncjcainhlaaGreatDoorPack9
/- The walk of ranks.byRoads. -/
namespace Go.Proofs.YtdogncjcainhlaaGreatDoor
open Go.RowKit Go.Deep
open Mem

/-- What holds ahead of each round: the first k places stand in the order, with their roads. -/
structure ByK (w : World) (n : Nat) (d : Nat → Nat) (k : Nat) (wr : World) : Prop where
  ord : Ints wr w.heap.size n (fun j => if j < k then (j : Int) else 0)
  rds : Ints wr (w.heap.size + 1) n (fun j => if j < k then (d j : Int) else 0)
  box : wr.cell? ⟨w.heap.size + 1 + 1, 0, none⟩ = some (.slice (some ⟨w.heap.size + 1, 0, none⟩) n n)
  turns : Turns (fun _ => False) w wr
theorem ByK.next {w wr wb : World} {n k : Nat} {d : Nat → Nat} (h : ByK w n d k wr) (hk : k < n) (t : Turns (fun _ => False) (wr.setCell ⟨w.heap.size, k, none⟩ (.int .i64 (k : Int))) wb) : ByK w n d (k + 1) (wb.setCell ⟨w.heap.size + 1, k, none⟩ (.int .i64 (d k : Int))) := by
  have t0 : Turns (fun x => x = w.heap.size) wr (wr.setCell ⟨w.heap.size, k, none⟩ (.int .i64 (k : Int))) := Turns.setCell (p := fun x => x = w.heap.size) (Turns.refl _ wr) (Or.inr rfl) _
  have t1 : Turns (fun x => x = w.heap.size + 1) wb (wb.setCell ⟨w.heap.size + 1, k, none⟩ (.int .i64 (d k : Int))) := Turns.setCell (p := fun x => x = w.heap.size + 1) (Turns.refl _ wb) (Or.inr rfl) _
  have o1 := ((h.ord.set hk (k : Int)).turns t (fun x => x)).turns t1 (by omega)
  have r1 := (((h.rds.turns t0 (by omega)).turns t (fun x => x)).set hk (d k : Int))
  refine ⟨o1.congr (fun j hj => ?_), r1.congr (fun j hj => ?_), ?_, ?_⟩
  · unfold upd; by_cases e : j = k
    · rw [if_pos e, if_pos (by omega), e]
    · rw [if_neg e]; dsimp only; by_cases c : j < k
      · rw [if_pos c, if_pos (by omega)]
      · rw [if_neg c, if_neg (by omega)]
  · unfold upd; by_cases e : j = k
    · rw [if_pos e, if_pos (by omega), e]
    · rw [if_neg e]; dsimp only; by_cases c : j < k
      · rw [if_pos c, if_pos (by omega)]
      · rw [if_neg c, if_neg (by omega)]
  · have hb := World.block_lt_of_cell? _ _ h.box
    have c1 := (t0.cell (a := ⟨w.heap.size + 1 + 1, 0, none⟩) hb (fun c => by have c' : w.heap.size + 1 + 1 = w.heap.size := c; omega)).trans h.box
    have c2 := (t.cell (World.block_lt_of_cell? _ _ c1) (fun x => x)).trans c1
    exact (t1.cell (a := ⟨w.heap.size + 1 + 1, 0, none⟩) (World.block_lt_of_cell? _ _ c2) (fun c => by have c' : w.heap.size + 1 + 1 = w.heap.size + 1 := c; omega)).trans c2
  · exact ((h.turns.setCell (Or.inl (Nat.le_refl _)) _).trans t).setCell (Or.inl (Nat.le_succ _)) _

theorem ByK.drew {w wr : World} {n k : Nat} {d : Nat → Nat} (h : ByK w n d k wr) : ByK w n d k wr.drew :=
  ⟨h.ord.turns (Turns.refl (fun _ => False) wr).drew (fun x => x), h.rds.turns (Turns.refl (fun _ => False) wr).drew (fun x => x), h.box, h.turns.drew⟩
set_option maxRecDepth 100000 in
set_option maxHeartbeats 1000000 in
theorem byRoads_any (w : World) (b n : Nat) (R : Int) (len : Nat → Nat → Int) (hn1 : 1 ≤ n) (hn : n ≤ 40) (hM : MapAt w b n R len) (N : Pu.Net n len) :
    Calls Tryz.prog 89 #[.pointer (some ⟨b, 0, none⟩)] w fun e w' => ∃ ob, e = .returned (.slice (some ⟨ob, 0, none⟩) n n) ∧ Turns (fun _ => False) w w' ∧ Ord w' ob n (Pu.ranked (fun v => Pu.rowCnt len v n) n) := by
  have hmk := run_make_row' (P := Tryz.prog) 55 3 (.int .i64 0) 8 Tryz.underlying55 info3 rfl .i64 .i64 n (by omega) (by omega)
  have hp := hM.places
  have hbl := hM.lt
  have HM : Hid (∀ wx, Turns (fun _ => False) w wx → MapAt wx b n R len) := fun wx hx => hM.turns hx (fun x => x)
  have HC : Hid (∀ wx (k : Nat), k < n → Turns (fun _ => False) w wx → Calls Tryz.prog 140 #[.pointer (some ⟨b, 0, none⟩), .int .i64 k] wx fun e w' => e = .returned (.int .i64 (Pu.rowCnt len k n : Nat)) ∧ w' = wx) := fun wx k hk hx => count_any wx b n k R len hn hk (hM.turns hx (fun x => x)) N
  have HL : Hid (∀ k, Pu.rowCnt len k n ≤ n) := fun k => Pu.rowCnt_le' len k n
  generalize hdd : (fun v => Pu.rowCnt len v n) = d at *
  have HD : Hid (∀ k, Pu.rowCnt len k n = d k) := fun k => by rw [← hdd]
  clear hM N hdd
  go_enter Tryz.func89, Tryz.ntmps89
  go_wp2
  go_loopw [18] (fun iv wr => ∃ k : Nat, k ≤ n ∧ iv = .int .i64 k ∧ ByK w n d k wr) (fun iv _ => n - (intOf iv).toNat)
  case atStart =>
    refine ⟨0, Nat.zero_le _, rfl, ?_, ?_, ?_, ?_⟩
    · exact ((((Ints.made w n 3 0).turns ((Turns.refl (fun _ => False) _).alloc _) (fun x => x)).turns ((Turns.refl (fun _ => False) _).alloc _) (fun x => x))).congr (fun j _ => by simp)
    · have := (Ints.made (w.alloc (.cells (madeCells #[.int .i64 0] n) 3)) n 3 0).turns ((Turns.refl (fun _ => False) _).alloc (.cells #[.slice (some ⟨w.heap.size + 1, 0, none⟩) n n] 55)) (fun x => x)
      exact (by simpa using this : Ints _ (w.heap.size + 1) n (fun _ => 0)).congr (fun j _ => by simp)
    · have := World.cell?_alloc_new (w := (w.alloc (.cells (madeCells #[.int .i64 0] n) 3)).alloc (.cells (madeCells #[.int .i64 0] n) 3)) #[.slice (some ⟨w.heap.size + 1, 0, none⟩) n n] 55 0
      simpa using this
    · exact (((Turns.refl _ w).alloc _).alloc _).alloc _
  case round =>
    obtain ⟨k, hk, rfl, hK⟩ := hrel
    by_cases hkn : k < n
    · have hki : (k : Int) < (n : Int) := by omega
      have hca := hK.ord.cell k hkn
      have hfa := hK.ord.free k hkn
      have HK : Hid (ByK w n d k wr) := hK
      have t0 : Turns (fun x => x = w.heap.size) wr (wr.setCell ⟨w.heap.size, k, none⟩ (.int .i64 (k : Int))) := Turns.setCell (p := fun x => x = w.heap.size) (Turns.refl _ wr) (Or.inr rfl) _
      have hI2 := hK.rds.turns t0 (by omega)
      have e1 := (t0.cell (a := ⟨w.heap.size + 1 + 1, 0, none⟩) (World.block_lt_of_cell? _ _ hK.box) (fun c => by have c' : w.heap.size + 1 + 1 = w.heap.size := c; omega)).trans hK.box
      have e2 := hI2.cell k hkn
      have e3 := hI2.free k hkn
      have HTT : Hid (Turns (fun _ => False) w (wr.setCell ⟨w.heap.size, k, none⟩ (.int .i64 (k : Int)))) := hK.turns.setCell (Or.inl (Nat.le_refl _)) _
      have hlk : ¬ k < k := by omega
      simp only [if_neg hlk] at hca e2
      clear hK t0 hI2
      go_wp2_with fail
      go_region_held3 (fun w' => w'.cell? ⟨w.heap.size + 1 + 1, 0, none⟩ = some (.slice (some ⟨w.heap.size + 1, 0, none⟩) n n)) (go_keep)
        (first | (go_at_call 140; refine (HC.out _ k hkn (by first | exact HTT.out | exact HTT.out.drew | exact HTT.out.drewN _)).mono ?_; rintro e9 w9 ⟨rfl, hw9⟩; subst hw9))
      all_goals
        have HX : Hid (ByK w n d (k + 1) (((wr.setCell ⟨w.heap.size, k, none⟩ (.int .i64 (k : Int))).setCell ⟨w.heap.size + 1, k, none⟩ (.int .i64 (Pu.rowCnt len k n : Nat))).drew)) := by
          rw [HD.out k]
          exact (HK.out.next hkn (Turns.refl _ _)).drew
        clear HK HTT e1 e2 e3 hca hfa
        go_wp2
        go_roundw
        case measure => simp [intOf]; omega
        case rel => exact ⟨k + 1, by omega, by go_num, HX.out⟩
    · have hke : k = n := by omega
      subst hke
      have hki : ¬ (k : Int) < (k : Int) := by omega
      have c := sort_any wr w.heap.size k (w.heap.size + 1 + 1) (w.heap.size + 1) k d hn1 hn (fun x _ => by rw [← HD.out x]; exact HL.out x)
        (fun j hj => ⟨by have := hK.ord.cell j hj; simpa [hj] using this, hK.ord.free j hj⟩) hK.box (fun j hj => by have := hK.rds.cell j hj; simpa [hj] using this) (by omega) (by omega)
      have HT : Hid (Turns (fun _ => False) w wr) := hK.turns
      have hbx := hK.box
      clear hK
      go_wp2_with fail
      refine c.mono ?_
      rintro e9 w9 ⟨rfl, hT9, hO9⟩
      have HX : Hid (Turns (fun _ => False) w w9 ∧ Ord w9 w.heap.size k (Pu.ranked d k)) := ⟨HT.out.join hT9 (fun q hq _ c => by omega), hO9⟩
      clear c hT9 hO9 hbx
      go_wp2
      go_ret
      exact ⟨w.heap.size, rfl, HX.out.1, HX.out.2⟩
#print axioms byRoads_any
end Go.Proofs.YtdogncjcainhlaaGreatDoor
/- The walks of byway.rankAndLabel and byway.Labels, where the order is not empty. -/
namespace Go.Proofs.YtdogncjcainhlaaGreatDoor
open Go.RowKit Go.Deep
open Mem

/-- What rankAndLabel hands back, o being the order that was asked for. -/
def RalPost (w : World) (r : Pu.Res) (o : Nat → (Nat → Nat → Int) → Option (List Nat)) (e : Ending) (w' : World) : Prop := Turns (fun _ => False) w w' ∧ match r with
  | .err c p => e = .returned (.tuple #[.slice none 0 0, .slice none 0 0, .int .i64 c, .int .i64 p])
  | .ok n _ len => match o n len with
    | none => e = .returned (.tuple #[.slice none 0 0, .slice none 0 0, .int .i64 4, .int .i64 0])
    | some O => ∃ (D : Nat → Nat → Int) (ob ocap : Nat) (v : Value), (∀ i, i < n → Pu.Dist n len i (D i)) ∧ e = .returned (.tuple #[.slice (some ⟨ob, 0, none⟩) n ocap, v, .int .i64 0, .int .i64 0]) ∧ Ord w' ob n O ∧ w'.ownsRow w.heap.size 120 3 v (Pu.labP D O n).length (Pu.rdVals (Pu.labP D O n))
/-- What Labels hands back, o being the order that was asked for. -/
def LabPost (w : World) (r : Pu.Res) (o : Nat → (Nat → Nat → Int) → Option (List Nat)) (e : Ending) (w' : World) : Prop := Turns (fun _ => False) w w' ∧ match r with
  | .err c p => e = .returned (.tuple #[.slice none 0 0, .int .i64 c, .int .i64 p])
  | .ok n _ len => match o n len with
    | none => e = .returned (.tuple #[.slice none 0 0, .int .i64 4, .int .i64 0])
    | some O => ∃ (D : Nat → Nat → Int) (v : Value), (∀ i, i < n → Pu.Dist n len i (D i)) ∧ e = .returned (.tuple #[v, .int .i64 0, .int .i64 0]) ∧ w'.ownsRow w.heap.size 120 3 v (Pu.labP D O n).length (Pu.rdVals (Pu.labP D O n))

set_option maxHeartbeats 400000 in
theorem ral_err (x s : ByteArray) (w : World) (o : Nat → (Nat → Nat → Int) → Option (List Nat)) (hx : x.size ≤ maxLen) (hm : Ml w) (c p : Int) (hp : Pu.parse x.data.toList = .err c p) :
    Calls Tryz.prog 23 #[.string x, .string s] w (RalPost w (.err c p) o) := by
  have k := parseMap_any x w hx hm
  rw [hp] at k
  have he := Pu.parse_err hp
  have hne : (c != 0) = true := by simp; omega
  clear hp he
  go_enter Tryz.func23, Tryz.ntmps23
  go_wp2_with (go_at_call 41; refine k.mono ?_; rintro e w1 ⟨hT, rfl⟩)
  exact bodyPost_ret (v := .tuple #[.slice none 0 0, .slice none 0 0, .int .i64 c, .int .i64 p]) (by simp [results, Tryz.results23, go_sem]) rfl ⟨‹_›, rfl⟩

/-- The order and the labels of a map by whatever order: r is what ranks.Parse makes of it. -/
theorem ral_ok (x s : ByteArray) (w : World) (o : Nat → (Nat → Nat → Int) → Option (List Nat)) (hx : x.size ≤ maxLen) (hm : Ml w) (n q : Nat) (len : Nat → Nat → Int) (hp : Pu.parse x.data.toList = .ok n q len)
    (hr : ∀ w1 b, Turns (fun _ => False) w w1 → MapAt w1 b n q len → Calls Tryz.prog 54 #[.pointer (some ⟨b, 0, none⟩), .string s] w1 (RankPost w1 n (o n len))) :
    Calls Tryz.prog 23 #[.string x, .string s] w (RalPost w (.ok n q len) o) := by
  have k := parseMap_any x w hx hm
  rw [hp] at k
  obtain ⟨hn1, hn2, _, hN⟩ := Pu.parse_ok hp
  have hDD : ∀ i, ∃ far, Pu.Dist n len i far := fun i => Pu.Dist.any hN.lens hn2
  obtain ⟨D, hD⟩ : ∃ D : Nat → Nat → Int, ∀ i, Pu.Dist n len i (D i) := ⟨fun i => Classical.choose (hDD i), fun i => Classical.choose_spec (hDD i)⟩
  clear hp
  go_enter Tryz.func23, Tryz.ntmps23
  go_wp2_with fail
  refine k.mono ?_
  rintro e w1 ⟨hT1, b, rfl, hb, hM⟩
  have c2 := hr w1 b hT1 hM
  have HO : Hid (o n len = o n len) := rfl
  cases ho : o n len with
  | none =>
    rw [ho] at c2
    clear k
    go_wp2_with fail
    refine c2.mono ?_
    rintro e w2 ⟨hT2, rfl⟩
    have HX : Hid (RalPost w (.ok n q len) o (.returned (.tuple #[.slice none 0 0, .slice none 0 0, .int .i64 4, .int .i64 0])) w2) := by
      refine ⟨hT1.trans hT2, ?_⟩
      dsimp only
      rw [ho]
    clear c2 hT1 hT2 ho hr hD hDD HO
    go_wp2
    exact bodyPost_ret (v := .tuple #[.slice none 0 0, .slice none 0 0, .int .i64 4, .int .i64 0]) (by simp [results, Tryz.results23, go_sem]) rfl HX.out
  | some O =>
    rw [ho] at c2
    clear k
    go_wp2_with fail
    refine c2.mono ?_
    rintro e w2 ⟨hT2, ob, ocap, rfl, hOr, hoc⟩
    have c3 := hubs_any w2 b n ob ocap q len D O hn1 hn2 (hM.turns hT2 (fun x => x)) hN.lens (fun i _ => hD i) hOr hoc
    have hsz := (hT1.trans hT2).size
    have HX : Hid (∀ v w3, Turns (fun _ => False) w2 w3 → w3.ownsRow w2.heap.size 120 3 v (Pu.labP D O n).length (Pu.rdVals (Pu.labP D O n)) → RalPost w (.ok n q len) o (.returned (.tuple #[.slice (some ⟨ob, 0, none⟩) n ocap, v, .int .i64 0, .int .i64 0])) w3) := by
      intro v w3 hT3 hown
      refine ⟨(hT1.trans hT2).trans hT3, ?_⟩
      dsimp only
      rw [ho]
      exact ⟨D, ob, ocap, v, fun i _ => hD i, rfl, hOr.turns hT3, owns_mono hown hsz⟩
    clear c2 hT1 hT2 ho hr hD hDD HO hOr hM
    go_wp2_with fail
    refine c3.mono ?_
    rintro e w3 ⟨hT3, v, rfl, hown⟩
    have HY : Hid (RalPost w (.ok n q len) o (.returned (.tuple #[.slice (some ⟨ob, 0, none⟩) n ocap, v, .int .i64 0, .int .i64 0])) w3) := HX.out v w3 hT3 hown
    clear c3 hT3 hown HX
    go_wp2
    exact bodyPost_ret (v := .tuple #[.slice (some ⟨ob, 0, none⟩) n ocap, v, .int .i64 0, .int .i64 0]) (by simp [results, Tryz.results23, go_sem]) rfl HY.out
end Go.Proofs.YtdogncjcainhlaaGreatDoor
/- The walk of byway.rankAndLabel, whatever the order. -/
namespace Go.Proofs.YtdogncjcainhlaaGreatDoor
open Go.RowKit Go.Deep
open Mem

set_option maxRecDepth 100000 in
set_option maxHeartbeats 1000000 in
/-- ranks.Parse of the empty text: the order by roads. -/
theorem rank_empty (s : ByteArray) (w : World) (b n : Nat) (R : Int) (len : Nat → Nat → Int) (hs : s.size = 0) (hn1 : 1 ≤ n) (hn : n ≤ 40) (hM : MapAt w b n R len) (N : Pu.Net n len) :
    Calls Tryz.prog 54 #[.pointer (some ⟨b, 0, none⟩), .string s] w (RankPost w n (some (Pu.ranked (fun v => Pu.rowCnt len v n) n))) := by
  have he := empty_of hs
  have c := byRoads_any w b n R len hn1 hn hM N
  generalize Pu.ranked (fun v => Pu.rowCnt len v n) n = O at *
  clear hM N
  go_enter Tryz.func54, Tryz.ntmps54
  go_wp2_with fail
  refine c.mono ?_
  rintro e w1 ⟨ob, rfl, hT, hO⟩
  have HX : Hid (RankPost w n (some O) (.returned (.tuple #[.slice (some ⟨ob, 0, none⟩) n n, .bool true])) w1) := ⟨hT, ob, n, rfl, hO, Nat.le_refl _⟩
  clear c hT hO
  go_wp2
  exact bodyPost_ret (v := .tuple #[.slice (some ⟨ob, 0, none⟩) n n, .bool true]) (by simp [results, Tryz.results54, go_sem]) rfl HX.out

/-- byway.rankAndLabel, of any text by any order. -/
theorem ral_any (x s : ByteArray) (w : World) (hx : x.size ≤ maxLen) (hm : Ml w) (hs : s.size ≤ 2000000) :
    Calls Tryz.prog 23 #[.string x, .string s] w (RalPost w (Pu.parse x.data.toList) (Pu.orderOf s.data.toList)) := by
  have e : s.data.toList.length = s.size := by simp
  cases hp : Pu.parse x.data.toList with
  | err c p => exact ral_err x s w _ hx hm c p hp
  | ok n q len =>
    obtain ⟨hn1, hn2, _, hN⟩ := Pu.parse_ok hp
    refine ral_ok x s w _ hx hm n q len hp (fun w1 b hT hM => ?_)
    unfold Pu.orderOf
    by_cases h : s.size = 0
    · rw [if_pos (by rw [e]; exact h)]
      exact rank_empty s w1 b n q len h hn1 hn2 hM hN
    · rw [if_neg (by rw [e]; exact h)]
      exact rank_any s w1 b n q len (by omega) hs hn1 hn2 hM (hm.turns hT (fun x => x))
end Go.Proofs.YtdogncjcainhlaaGreatDoor
/- The walk of byway.Save. -/
namespace Go.Proofs.YtdogncjcainhlaaGreatDoor
open Go.RowKit Go.Deep
open Mem

theorem Cov.hubs {n : Nat} {len D : Nat → Nat → Int} {O : List Nat} (C : Pu.Cov n len D O) : ∀ (v i r : Nat) (f : Int), v < n → (Pu.hubK D O v n)[i]? = some (r, f) → r < n ∧ Pu.nxt 0 ((Pu.hubK D O v n).take i) ≤ r ∧ 0 ≤ f ∧ f ≤ 40000 := by
  intro v i k f hv hi
  obtain ⟨hk, h, h1, h2, h3⟩ := Pu.hubK_mem2 n (List.mem_of_getElem? hi)
  have hr := (Pu.hubK_rise D O v n).2 i k f hi
  have hd := C.rng hv (C.perm.lt h (List.mem_of_getElem? h1))
  have hne := (Pu.isHub_iff.1 h3).1
  exact ⟨hk, hr, by omega, by omega⟩

set_option maxRecDepth 100000 in
set_option maxHeartbeats 1000000 in
/-- byway.Save, of any text by any order. -/
theorem save_any (x s : ByteArray) (w : World) (hx : x.size ≤ maxLen) (hm : Ml w) (hs : s.size ≤ 2000000) :
    Calls Tryz.prog 9 #[.string x, .string s] w (RSavePost w (Pu.parse x.data.toList) (Pu.orderOf s.data.toList)) := by
  have k := ral_any x s w hx hm hs
  unfold RalPost at k
  unfold RSavePost
  cases hp : Pu.parse x.data.toList with
  | err c p =>
    rw [hp] at k
    have he := Pu.parse_err hp
    have hne : (c != 0) = true := by simp; omega
    dsimp only at k ⊢
    clear hp he
    go_enter Tryz.func9, Tryz.ntmps9
    go_wp2_with fail
    refine k.mono ?_
    rintro e w1 ⟨hT, rfl⟩
    have HT : Hid (Turns (fun _ => False) w w1) := hT
    clear k hT
    go_wp2
    exact bodyPost_ret (v := .tuple #[.string ⟨#[]⟩, .int .i64 c, .int .i64 p]) (by simp [results, Tryz.results9, go_sem]) rfl ⟨HT.out, rfl⟩
  | ok n q len =>
    rw [hp] at k
    obtain ⟨hn1, hn2, _, hN⟩ := Pu.parse_ok hp
    dsimp only at k ⊢
    cases ho : Pu.orderOf s.data.toList n len with
    | none =>
      rw [ho] at k
      dsimp only at k ⊢
      clear hp ho
      go_enter Tryz.func9, Tryz.ntmps9
      go_wp2_with fail
      refine k.mono ?_
      rintro e w1 ⟨hT, rfl⟩
      have HT : Hid (Turns (fun _ => False) w w1) := hT
      clear k hT
      go_wp2
      exact bodyPost_ret (v := .tuple #[.string ⟨#[]⟩, .int .i64 4, .int .i64 0]) (by simp [results, Tryz.results9, go_sem]) rfl ⟨HT.out, rfl⟩
    | some O =>
      rw [ho] at k
      dsimp only at k ⊢
      have hP : Pu.Perm n O := Pu.orderOf_perm ho
      clear hp ho
      go_enter Tryz.func9, Tryz.ntmps9
      go_wp2_with fail
      refine k.mono ?_
      rintro e w1 ⟨hT, D, ob, ocap, v, hD, rfl, hO, hown⟩
      obtain ⟨a, c, hv, hRd⟩ := rdAt_own hown
      subst hv
      have C : Pu.Cov n len D O := ⟨hN, hD, hP⟩
      have hL := Pu.heldB_len (L := fun v => Pu.hubK D O v n) hP.len hn2 (fun v _ => Pu.hubK_len D O v n)
      have cw := recWrite_any w1 ob n ocap c a D O hn1 hn2 hO hP hRd (Cov.hubs C)
      obtain ⟨H, hH⟩ : ∃ H : ByteArray, H = ⟨(Pu.heldB O (fun v => Pu.hubK D O v n) n).toArray⟩ := ⟨_, rfl⟩
      rw [← hH] at cw
      have cp := fun w => pgwrite_any H w (by rw [hH]; show (Pu.heldB O (fun v => Pu.hubK D O v n) n).length ≤ _; omega)
      have HC : Hid (Pu.Cov n len D O ∧ Pu.paged H.data.toList = Pu.paged (Pu.heldB O (fun v => Pu.hubK D O v n) n)) := ⟨C, by rw [hH]⟩
      obtain ⟨PG, hPG⟩ : ∃ PG, PG = Pu.paged H.data.toList := ⟨_, rfl⟩
      rw [← hPG] at cp
      have HPG : Hid (PG = Pu.paged H.data.toList) := hPG
      have HT : Hid (Turns (fun _ => False) w w1) := hT
      clear k hT hown hRd hO hD C hL hH hPG
      go_wp2_with fail
      refine cw.mono ?_
      rintro e w2 ⟨rfl, hT2⟩
      have HT2 : Hid (Turns (fun _ => False) w w2) := HT.out.trans hT2
      clear cw hT2 HT
      go_wp2_with fail
      refine (cp _).mono ?_
      rintro e w3 ⟨rfl, hT3⟩
      have HT3 : Hid (Turns (fun _ => False) w w3) := HT2.out.trans hT3
      clear cp hT3 HT2
      go_wp2
      exact bodyPost_ret (v := .tuple #[.string ⟨PG.toArray⟩, .int .i64 0, .int .i64 0]) (by simp [results, Tryz.results9, go_sem]) rfl ⟨HT3.out, D, HC.out.1, by rw [HPG.out, HC.out.2]⟩
#print axioms save_any
end Go.Proofs.YtdogncjcainhlaaGreatDoor
/- The walk of the law bywaykeep.Turned. -/
namespace Go.Proofs.YtdogncjcainhlaaGreatDoor
open Go.RowKit Go.Deep
open Mem

set_option maxHeartbeats 400000 in
theorem pick_big (c : Int) (n : Nat) (w : World) (h0 : -9223372036854775808 ≤ c) (h1 : c ≤ 9223372036854775807) (hn : 0 < n) (hn2 : n ≤ 100000) :
    Calls Tryz.prog 10 #[.int .i64 c, .int .i64 n] w fun e w' => e = .returned (.int .i64 (Pu.pick c n)) ∧ w' = w := by
  by_cases hc : c < 0
  · have hz : ((n : Int) == 0) = false := by simp; omega
    have H : Hid (((Pu.pick c n : Nat) : Int) = -((c + 1).tmod (n : Int))) := by
      show _ = _
      unfold Pu.pick; rw [if_pos hc, Int.natCast_emod, Int.toNat_of_nonneg (by omega), ← Int.neg_tmod, Int.tmod_eq_emod_of_nonneg (by omega)]
    go_enter Tryz.func10, Tryz.ntmps10
    go_wp2
    go_ret
    exact ⟨ret_int H.out.symm, rfl⟩
  · have hz : ((n : Int) == 0) = false := by simp; omega
    have H : Hid (((Pu.pick c n : Nat) : Int) = c % (n : Int)) := by
      show _ = _
      unfold Pu.pick; rw [if_neg hc, Int.natCast_emod, Int.toNat_of_nonneg (by omega)]
    go_enter Tryz.func10, Tryz.ntmps10
    go_wp2
    go_ret
    exact ⟨ret_int H.out.symm, rfl⟩
/-- Save of a town by the empty order: pages of some bytes. -/
theorem save_town {w0 : World} {B : Nat} {txt : ByteArray} {n R : Nat} {v : Value} {rb : List Nat} {len : Nat → Nat → Int} (h : TownIs w0 B txt n R v rb len) (w : World) (hm : Ml w) :
    Calls Tryz.prog 9 #[.string txt, .string ⟨#[]⟩] w fun e w' => Turns (fun _ => False) w w' ∧ ∃ (O : List Nat) (D : Nat → Nat → Int) (b : ByteArray), e = .returned (.tuple #[.string b, .int .i64 0, .int .i64 0]) ∧ Pu.Cov n len D O ∧ b.data.toList = Pu.paged (Pu.heldB O (fun v => Pu.hubK D O v n) n) ∧ 32 ≤ b.size ∧ b.size ≤ 2000 ∧ b.size % 32 = 0 := by
  refine (save_any txt ⟨#[]⟩ w (by have := h.size; unfold maxLen; omega) hm (by decide)).mono ?_
  rintro e w' ⟨hT, h2⟩
  refine ⟨hT, ?_⟩
  rw [h.parse] at h2
  dsimp only at h2
  have ho : Pu.orderOf (ByteArray.mk #[]).data.toList n len = some (Pu.ranked (fun v => Pu.rowCnt len v n) n) := by
    unfold Pu.orderOf; rfl
  rw [ho] at h2
  dsimp only at h2
  obtain ⟨D, C, rfl⟩ := h2
  refine ⟨_, D, _, rfl, C, rfl, ?_⟩
  have hn := h.n2
  have hn1 := h.n1
  generalize Pu.ranked (fun v => Pu.rowCnt len v n) n = O at *
  have l1 := Pu.sizesB_len (fun v => Pu.hubK D O v n) n
  have l2 := Pu.labsB_len (fun v => Pu.hubK D O v n) n n (fun v _ => Pu.hubK_len D O v n)
  have l3 := Pu.headB_len O
  have l4 : (3 + 6 * n) * n ≤ 87 * 14 := Nat.mul_le_mul (by omega) hn
  have l5 := C.perm.len
  have l6 : (Pu.heldB O (fun v => Pu.hubK D O v n) n).length ≤ 1300 ∧ 3 ≤ (Pu.heldB O (fun v => Pu.hubK D O v n) n).length := by
    rw [Pu.heldB, List.length_append, List.length_append]; omega
  have l7 := Pu.paged_len (Pu.heldB O (fun v => Pu.hubK D O v n) n)
  have l8 : (ByteArray.mk (Pu.paged (Pu.heldB O (fun v => Pu.hubK D O v n) n)).toArray).size = (Pu.paged (Pu.heldB O (fun v => Pu.hubK D O v n) n)).length := rfl
  rw [l8, l7]
  omega

theorem wrap_one {P : Nat} (h : P < 255) : IntKind.u8.wrap (IntKind.i64.wrap (1 + (P : Int))) = 1 + (P : Int) := by
  have h1 : IntKind.i64.wrap (1 + (P : Int)) = 1 + (P : Int) := by rw [IntKind.wrap_i64]; omega
  rw [h1, IntKind.wrap_u8']
  omega
theorem wrap_two {P : Nat} (h : P < 256) : IntKind.u8.wrap (P : Int) = (P : Int) := by
  rw [IntKind.wrap_u8']
  omega
/-- Bytes that lie in a block, and may be written. -/
structure BytesAt (w : World) (g : Nat) (l : List UInt8) : Prop where
  lt : g < w.heap.size
  cell : ∀ (j : Nat) (c : UInt8), l[j]? = some c → w.cell? ⟨g, j, none⟩ = some (.int .u8 (c.toNat : Int))
  free : ∀ j, j < l.length → w.frozen? ⟨g, j, none⟩ = false
theorem BytesAt.turns {p : Nat → Prop} {w w' : World} {g : Nat} {l : List UInt8} (h : BytesAt w g l) (t : Turns p w w') (hp : ¬ p g) : BytesAt w' g l :=
  ⟨Nat.lt_of_lt_of_le h.lt t.size, fun j c hj => (t.cell (a := ⟨g, j, none⟩) h.lt hp).trans (h.cell j c hj), fun j hj => (t.frozen (a := ⟨g, j, none⟩) h.lt hp).trans (h.free j hj)⟩
theorem BytesAt.set {w : World} {g : Nat} {l : List UInt8} (h : BytesAt w g l) {k : Nat} (hk : k < l.length) (x : UInt8) : BytesAt (w.setCell ⟨g, k, none⟩ (.int .u8 (x.toNat : Int))) g (l.set k x) := by
  refine ⟨by simpa using h.lt, fun j c hj => ?_, fun j hj => by rw [World.frozen?_setCell]; exact h.free j (by simpa using hj)⟩
  by_cases e : j = k
  · subst e
    rw [List.getElem?_set_self hk] at hj
    injection hj with hj
    subst hj
    exact World.cell?_setCell_same _ _ _ (h.cell j l[j] (List.getElem?_eq_getElem hk))
  · rw [List.getElem?_set_ne (by omega)] at hj
    rw [World.cell?_setCell_other _ _ _ _ (by intro c; injection c with _ c; omega)]
    exact h.cell j c hj
theorem bytes_of (b : ByteArray) (w : World) : ∃ (cap : Nat) (w' : World), (convert 9 31 (.string b)).run Tryz.prog w = .ok (.slice (some ⟨w.heap.size, 0, none⟩) b.size cap) w' ∧ Turns (fun _ => False) w w' ∧ BytesAt w' w.heap.size b.data.toList := by
  refine ⟨_, _, run_bytes_of_string (P := Tryz.prog) w 9 31 5 b Tryz.underlying9 Tryz.underlying31 Tryz.underlying5, ((Turns.refl _ w).drew).alloc _, ⟨by simp, ?_, ?_⟩⟩
  · intro j c hj
    have hj2 : j < b.data.size := by
      have := (List.getElem?_eq_some_iff.1 hj).1
      simpa using this
    have hc : (w.drew.alloc (.cells (bytesRow b (grownCap w b.size 0 5)) 5 ((bytesRow b (grownCap w b.size 0 5)).size, (bytesRow b (grownCap w b.size 0 5)).size + 1))).heap[w.heap.size]? = some (.cells (bytesRow b (grownCap w b.size 0 5)) 5 ((bytesRow b (grownCap w b.size 0 5)).size, (bytesRow b (grownCap w b.size 0 5)).size + 1)) := Array.getElem?_push_size
    rw [Lib.cell_of_heap hc, bytesRow_at b _ j hj2]
    rw [List.getElem?_eq_getElem (by simpa using hj2)] at hj
    injection hj with hj
    rw [← hj]; rfl
  · intro j hj
    have := World.frozen?_alloc_mark w.drew (bytesRow b (grownCap w b.size 0 5)) 5 (bytesRow b (grownCap w b.size 0 5)).size ((bytesRow b (grownCap w b.size 0 5)).size + 1) j
    refine this.trans ?_
    have h2 : j < (bytesRow b (grownCap w b.size 0 5)).size := by
      unfold bytesRow
      simp at hj ⊢
      omega
    simp
    omega

set_option maxRecDepth 100000 in
set_option maxHeartbeats 4000000 in
theorem turned_any (ht : TownSaid) (w : World) (size at_ bts oth : Int) (ra : Option Addr) (K cap : Nat) (raw : Nat → Int × Int × Int) (h0 : -9223372036854775808 ≤ size) (h1 : size ≤ 9223372036854775807) (hK : K ≤ 9223372036854775807) (hRaw : Raw w ra K raw)
    (ha0 : -9223372036854775808 ≤ at_) (ha1 : at_ ≤ 9223372036854775807) (hb0 : -9223372036854775808 ≤ bts) (hb1 : bts ≤ 9223372036854775807) (ho0 : -9223372036854775808 ≤ oth) (ho1 : oth ≤ 9223372036854775807) (hm : Ml w) :
    Calls Tryz.prog 3 #[.int .i64 size, .slice ra K cap, .int .i64 at_, .int .i64 bts, .int .i64 oth] w fun e w' => e = .returned (.bool true) ∧ Turns (fun _ => False) w w' := by
  go_enter Tryz.func3, Tryz.ntmps3
  go_wp2_with fail
  refine (ht w size ra K cap raw h0 h1 hK hRaw).mono ?_
  rintro e w1 ⟨hT1, txt, n, R, v, rb, len, rfl, hTown⟩
  have hm1 := hm.turns hT1 (fun x => x)
  obtain ⟨lb, lcap, rfl⟩ := hTown.form
  go_wp2_with fail
  refine (awake_any _ (hm1.alloc _)).mono ?_
  rintro e w2 ⟨rfl, hT2⟩
  have hTB2 : TB w2 w1.heap.size txt n (.slice (some ⟨lb, 0, none⟩) n lcap) := (TB.new w1 txt n _).turns hT2 (fun x => x)
  have hTa : Turns (fun _ => False) w1 w2 := ((Turns.refl _ w1).alloc _).trans hT2
  have hTw2 : Turns (fun _ => False) w w2 := hT1.trans hTa
  have hm2 := hm1.turns hTa (fun x => x)
  have c0 := hTB2.c0
  have c1 := hTB2.c1
  have hbl := hTB2.lt
  have cs := fun w hm => save_town hTown w hm
  clear hT1 hT2 hm1 hm hRaw hTa hTB2 hTown
  go_wp2_with fail
  refine (cs _ (by first | exact hm2 | exact hm2.drew | exact hm2.turns (((Turns.refl _ w2).drew)) (fun x => x))).mono ?_
  rintro e w3 ⟨hT3, O, D, b, rfl, hC, hbl2, hb32, hb2000, hbm⟩
  have HT3 : Hid (Turns (fun _ => False) w w3) := by first | exact hTw2.trans hT3 | exact hTw2.drew.trans hT3
  obtain ⟨HB, hHB⟩ : ∃ HB, HB = Pu.heldB O (fun v => Pu.hubK D O v n) n := ⟨_, rfl⟩
  rw [← hHB] at hbl2
  have HBL : Hid (b.data.toList = Pu.paged HB ∧ HB.length ≤ 60000) := ⟨hbl2, by
    have := Pu.paged_len HB
    rw [← hbl2, ← size_list] at this
    omega⟩
  clear hT3 hTw2 c0 c1 hbl cs hm2 hC hbl2 hHB
  have hlt : ¬ (b.size : Int) < 32 := by omega
  obtain ⟨bc, w4, hcv, hT4, hB4⟩ := bytes_of b w3
  have HT4 : Hid (Turns (fun _ => False) w w4) := HT3.out.trans hT4
  have HB4 : Hid (BytesAt w4 w3.heap.size b.data.toList) := hB4
  have cp := pick_big at_ b.size w4 ha0 ha1 (by omega) (by omega)
  have hkl := Pu.pick_lt at_ (n := b.size) (by omega)
  clear hT4 hB4
  go_wp2_with fail
  refine cp.mono ?_
  rintro e w5 ⟨rfl, hw5⟩
  subst w5
  generalize Pu.pick at_ b.size = k at *
  clear cp hcv
  have hbl : b.data.toList.length = b.size := (size_list b).symm
  obtain ⟨c, hc⟩ : ∃ c, b.data.toList[k]? = some c := ⟨_, List.getElem?_eq_getElem (by omega)⟩
  have e1 := HB4.out.cell k c hc
  have e2 := HB4.out.free k (by omega)
  have hki : (k : Int) < (b.size : Int) := by omega
  have hcl : c.toNat < 256 := c.toNat_lt
  have cq := fun w => pick_big bts 255 w hb0 hb1 (by omega) (by omega)
  have hpl := Pu.pick_lt bts (n := 255) (by omega)
  generalize Pu.pick bts 255 = P at *
  have hx : bits .xor .u8 (c.toNat : Int) (1 + (P : Int)) = ((c.toNat ^^^ (1 + P) : Nat) : Int) := by
    have := u8_xor_nat c.toNat (1 + P) hcl (by omega)
    simpa using this
  obtain ⟨x, hxx⟩ : ∃ x : UInt8, x.toNat = c.toNat ^^^ (1 + P) := ⟨UInt8.ofNat (c.toNat ^^^ (1 + P)), by
    have : c.toNat ^^^ (1 + P) < 256 := Nat.xor_lt_two_pow (n := 8) hcl (by omega)
    rw [Pu.toNat_ofNat8 this]⟩
  have hxc : x ≠ c := by
    rintro rfl
    have h2 : x.toNat ^^^ x.toNat = x.toNat ^^^ (x.toNat ^^^ (1 + P)) := by rw [← hxx]
    rw [Nat.xor_self, ← Nat.xor_assoc, Nat.xor_self, Nat.zero_xor] at h2
    omega
  rw [← hxx] at hx
  have hxw : bits .xor .u8 (c.toNat : Int) (IntKind.u8.wrap (IntKind.i64.wrap (1 + (P : Int)))) = ((x.toNat : Nat) : Int) := by
    rw [wrap_one hpl]; exact hx
  have HC : Hid (b.data.toList[k]? = some c ∧ x ≠ c) := ⟨hc, hxc⟩
  have HB5 : Hid (∀ q, BytesAt ((w4.setCell ⟨w3.heap.size, k, none⟩ (.int .u8 (x.toNat : Int))).drewN q) w3.heap.size (b.data.toList.set k x) ∧ Turns (fun _ => False) w ((w4.setCell ⟨w3.heap.size, k, none⟩ (.int .u8 (x.toNat : Int))).drewN q)) := by
    intro q
    exact ⟨(HB4.out.set (by omega) x).turns ((Turns.refl (fun _ => False) _).drewN q) (fun x => x), (HT4.out.setCell (Or.inl HT3.out.size) _).drewN q⟩
  have HG : Hid (w.heap.size ≤ w3.heap.size) := HT3.out.size
  clear hc hxc hxx
  go_upto_region 8 with fail
  go_cut [58] from 59 to 69 (fun s58 wx => s58 = .slice (some ⟨w3.heap.size, 0, none⟩) b.size bc ∧ BytesAt wx w3.heap.size (b.data.toList.set k x) ∧ Turns (fun _ => False) w wx)
  case first =>
    clear HT4 HB4 HT3
    go_region_with (go_at_call 10; refine (cq _).mono ?_; rintro e wq ⟨rfl, hwq⟩; subst hwq)
    all_goals
      go_wp2_with fail
      go_meet
      case rel => exact ⟨rfl, HB5.out 1⟩
  case rest =>
    obtain ⟨rfl, hB6, hT6⟩ := hcut
    have HB6 : Hid (BytesAt wc w3.heap.size (b.data.toList.set k x) ∧ Turns (fun _ => False) w wc) := ⟨hB6, hT6⟩
    clear HB5 hB6 hT6 HT4 HB4 HT3 e1 e2 hx hxw cq
    obtain ⟨gg, hgg⟩ : ∃ gg, gg = w3.heap.size := ⟨_, rfl⟩
    rw [← hgg] at HB6 HG ⊢
    clear hgg
    have hsl : (b.data.toList.set k x).length = b.size := by rw [List.length_set]; exact hbl
    by_cases h27 : k % 32 < 27
    · have h27i : (k : Int) % 32 < 27 := by omega
      have hk1 : k + 1 < b.size := by omega
      have hki1 : (k : Int) + 1 < (b.size : Int) := by omega
      have hwk : IntKind.i64.wrap ((k : Int) + 1) = ((k + 1 : Nat) : Int) := by rw [IntKind.wrap_i64]; omega
      have hki2 : ((k + 1 : Nat) : Int) < (b.size : Int) := by omega
      obtain ⟨c1, hc1⟩ : ∃ c1, b.data.toList[k + 1]? = some c1 := ⟨_, List.getElem?_eq_getElem (by omega)⟩
      have e1 := HB6.out.1.cell (k + 1) c1 (by rw [List.getElem?_set_ne (by omega)]; exact hc1)
      have e2 := HB6.out.1.free (k + 1) (by omega)
      have hcl1 : c1.toNat < 256 := c1.toNat_lt
      have cq := fun w => pick_big oth 256 w ho0 ho1 (by omega) (by omega)
      have hpl2 := Pu.pick_lt oth (n := 256) (by omega)
      generalize Pu.pick oth 256 = P2 at *
      obtain ⟨y, hyy⟩ : ∃ y : UInt8, y.toNat = c1.toNat ^^^ P2 := ⟨UInt8.ofNat (c1.toNat ^^^ P2), by
        have : c1.toNat ^^^ P2 < 256 := Nat.xor_lt_two_pow (n := 8) hcl1 (by omega)
        rw [Pu.toNat_ofNat8 this]⟩
      have hyw : bits .xor .u8 (c1.toNat : Int) (IntKind.u8.wrap (P2 : Int)) = ((y.toNat : Nat) : Int) := by
        rw [wrap_two hpl2, hyy]; exact u8_xor_nat c1.toNat P2 hcl1 (by omega)
      have hyx : bits .xor .u8 (c1.toNat : Int) (P2 : Int) = ((y.toNat : Nat) : Int) := by
        rw [hyy]; exact u8_xor_nat c1.toNat P2 hcl1 (by omega)
      have HF : Hid (Pu.FW ((b.data.toList.set k x).set (k + 1) y) ((k / 32 : Nat) : Int) ∧ ((b.data.toList.set k x).set (k + 1) y).length = b.size) := by
        have h1 := HBL.out.1
        have h2 := HC.out.1
        have h3 := hc1
        refine ⟨?_, by rw [List.length_set]; exact hsl⟩
        rw [h1] at h2 h3 ⊢
        exact Pu.fw_two h2 h3 h27 HC.out.2
      obtain ⟨d, hd⟩ : ∃ d, d = (b.data.toList.set k x).set (k + 1) y := ⟨_, rfl⟩
      rw [← hd] at HF
      have HB7 : Hid (∀ q, BytesAt ((wc.setCell ⟨gg, k + 1, none⟩ (.int .u8 (y.toNat : Int))).drewN q) gg d ∧ Turns (fun _ => False) w ((wc.setCell ⟨gg, k + 1, none⟩ (.int .u8 (y.toNat : Int))).drewN q)) := by
        intro q
        rw [hd]
        exact ⟨(HB6.out.1.set (by omega) y).turns ((Turns.refl (fun _ => False) _).drewN q) (fun x => x), (HB6.out.2.setCell (Or.inl HG.out) _).drewN q⟩
      have hdl := HF.out.2
      obtain ⟨w0, hw0⟩ : ∃ w0, w0 = wc := ⟨_, rfl⟩
      subst hw0
      clear hc1 hyy HB6 HC hd
      go_upto_region 10 with fail
      go_cut [73] from 74 to 85 (fun s73 wx => s73 = .slice (some ⟨gg, 0, none⟩) b.size bc ∧ BytesAt wx gg d ∧ Turns (fun _ => False) w wx)
      case first =>
        clear HBL
        go_region_with (go_at_call 10; refine (cq _).mono ?_; rintro e wq ⟨rfl, hwq⟩; subst hwq)
        all_goals
          go_wp2_with fail
          go_meet
          case rel => exact ⟨rfl, HB7.out 1⟩
      case rest =>
        obtain ⟨rfl, hBd, hTd⟩ := hcut
        obtain ⟨wd, hwd⟩ : ∃ wd, wd = wc := ⟨_, rfl⟩
        subst hwd
        have HD : Hid (Pu.FW d ((k / 32 : Nat) : Int) ∧ BytesAt wd gg d ∧ Turns (fun _ => False) w wd) := ⟨HF.out.1, hBd, hTd⟩
        clear HB7 HF hBd hTd e1 e2 hyw hyx cq
        have hcv : (convert 31 9 (.slice (some ⟨gg, 0, none⟩) b.size bc)).run Tryz.prog wd = .ok (.string ⟨d.toArray⟩) wd := by
          rw [← hdl]
          refine run_convert_bytes_back wd 31 9 5 ⟨gg, 0, none⟩ bc d Tryz.underlying31 Tryz.underlying5 Tryz.underlying9 ?_
          intro j hj
          rw [addr_add]
          exact HD.out.2.1.cell j d[j] (List.getElem?_eq_getElem hj)
        obtain ⟨X, hX⟩ : ∃ X : ByteArray, X = ⟨d.toArray⟩ := ⟨_, rfl⟩
        rw [← hX] at hcv
        have hXs : X.size = b.size := by rw [hX, ← hdl]; rfl
        have hXl : X.data.toList = d := by rw [hX]
        have c1 := fun w => open_sum X 1 w (k / 32) (by omega) (by omega) (by omega) (by omega) (by omega) (by rw [hXl]; exact HD.out.1)
        have hb1e : (b.size : Int) - 1 = ((b.size - 1 : Nat) : Int) := by omega
        obtain ⟨m1, hm1⟩ : ∃ m1, m1 = b.size - 1 := ⟨_, rfl⟩
        rw [← hm1] at hb1e
        have hm1b : m1 ≤ b.size := by omega
        obtain ⟨Y, hY⟩ : ∃ Y, Y = b.extract 0 m1 := ⟨_, rfl⟩
        have hYs : Y.size = b.size - 1 := by rw [hY, ByteArray.size_extract]; omega
        have c2 := fun w => open_part Y 1 w (by omega) (by omega) (by omega) (Or.inr (by omega))
        obtain ⟨Z, hZ⟩ : ∃ Z, Z = b.extract 32 b.size := ⟨_, rfl⟩
        have hZs : Z.size = b.size - 32 := by rw [hZ, ByteArray.size_extract]; omega
        have hZl : Z.data.toList = b.data.toList.drop 32 := by rw [hZ, extract_list, List.take_of_length_le (by omega)]
        obtain ⟨V, hV⟩ : ∃ V, V = b ++ b.extract 0 32 := ⟨_, rfl⟩
        have hVs : V.size = b.size + 32 := by rw [hV, ByteArray.size_append, ByteArray.size_extract]; omega
        have hVl : V.data.toList = b.data.toList ++ b.data.toList.take 32 := by rw [hV, cat_list, extract_list, List.drop_zero]
        have hpl0 : (Pu.paged HB).length = b.size := by rw [← HBL.out.1]; exact hbl
        have c4 := fun w => open_sum V 1 w (b.size / 32) (by omega) (by omega) (by omega) (by omega) (by omega) (by
          rw [hVl, HBL.out.1, ← hpl0]
          exact Pu.fw_more (by omega) HBL.out.2)
        have hbig : (9223372036854775807 < b.size + (b.extract 0 32).size) = False := by
          rw [ByteArray.size_extract]; simp; omega
        have hY2 := hY.symm
        have hZ2 := hZ.symm
        have hV2 := hV.symm
        have h32i : (32 : Int) ≤ (b.size : Int) := by omega
        have HTd : Hid (Turns (fun _ => False) w wd) := HD.out.2.2
        have hZF : Hid (b.size ≠ 32 → Pu.FW Z.data.toList ((0 : Nat) : Int)) := by
          intro hne
          rw [hZl, HBL.out.1]
          exact Pu.fw_cut (by omega)
        clear HD hX hXl hY hZ hV hZl hVl hm1 hpl0
        go_wp2_with fail
        refine (c1 _).mono ?_
        rintro e wa ⟨rfl, hTa⟩
        have HTa : Hid (Turns (fun _ => False) w wa) := HTd.out.trans hTa
        clear hTa hcv c1
        go_wp2_with fail
        refine (c2 _).mono ?_
        rintro e wb ⟨rfl, hwb⟩
        subst wb
        by_cases h32 : b.size = 32
        · have c3 := fun w => open_part Z 1 w (by omega) (by omega) (by omega) (Or.inl (by omega))
          have h32b : ((b.size : Int) == 32) = true := by rw [h32]; rfl
          clear h32
          go_wp2_with fail
          refine (c3 _).mono ?_
          rintro e we ⟨rfl, hwe⟩
          subst we
          go_wp2_with fail
          refine (c4 _).mono ?_
          rintro e wf ⟨rfl, hTf⟩
          have HTf : Hid (Turns (fun _ => False) w wf) := HTa.out.trans hTf
          clear hTf c2 c3 c4
          go_wp2
          go_ret
          exact ⟨by simp, HTf.out⟩
        · have c3 := fun w => open_sum Z 1 w 0 (by omega) (by omega) (by omega) (by omega) (by omega) (hZF.out h32)
          go_wp2_with fail
          refine (c3 _).mono ?_
          rintro e we ⟨rfl, hTe⟩
          have HTe : Hid (Turns (fun _ => False) w we) := HTa.out.trans hTe
          clear hTe
          go_wp2_with fail
          refine (c4 _).mono ?_
          rintro e wf ⟨rfl, hTf⟩
          have HTf : Hid (Turns (fun _ => False) w wf) := HTe.out.trans hTf
          clear hTf c2 c3 c4
          go_wp2
          go_ret
          exact ⟨by simp, HTf.out⟩
    · have h27i : ¬ (k : Int) % 32 < 27 := by omega
      obtain ⟨d, hd⟩ : ∃ d, d = b.data.toList.set k x := ⟨_, rfl⟩
      obtain ⟨wd, hwd⟩ : ∃ wd, wd = wc := ⟨_, rfl⟩
      subst hwd
      have HD : Hid (Pu.FW d ((k / 32 : Nat) : Int) ∧ BytesAt wd gg d ∧ Turns (fun _ => False) w wd) := by
        have h1 := HBL.out.1
        have h2 := HC.out.1
        refine ⟨?_, by rw [hd]; exact HB6.out.1, HB6.out.2⟩
        rw [hd, h1]
        rw [h1] at h2
        exact Pu.fw_one h2 HC.out.2
      have hdl : d.length = b.size := by rw [hd]; exact hsl
      clear HB6 HC hd
      have hcv : (convert 31 9 (.slice (some ⟨gg, 0, none⟩) b.size bc)).run Tryz.prog wd = .ok (.string ⟨d.toArray⟩) wd := by
        rw [← hdl]
        refine run_convert_bytes_back wd 31 9 5 ⟨gg, 0, none⟩ bc d Tryz.underlying31 Tryz.underlying5 Tryz.underlying9 ?_
        intro j hj
        rw [addr_add]
        exact HD.out.2.1.cell j d[j] (List.getElem?_eq_getElem hj)
      obtain ⟨X, hX⟩ : ∃ X : ByteArray, X = ⟨d.toArray⟩ := ⟨_, rfl⟩
      rw [← hX] at hcv
      have hXs : X.size = b.size := by rw [hX, ← hdl]; rfl
      have hXl : X.data.toList = d := by rw [hX]
      have c1 := fun w => open_sum X 1 w (k / 32) (by omega) (by omega) (by omega) (by omega) (by omega) (by rw [hXl]; exact HD.out.1)
      have hb1e : (b.size : Int) - 1 = ((b.size - 1 : Nat) : Int) := by omega
      obtain ⟨m1, hm1⟩ : ∃ m1, m1 = b.size - 1 := ⟨_, rfl⟩
      rw [← hm1] at hb1e
      have hm1b : m1 ≤ b.size := by omega
      obtain ⟨Y, hY⟩ : ∃ Y, Y = b.extract 0 m1 := ⟨_, rfl⟩
      have hYs : Y.size = b.size - 1 := by rw [hY, ByteArray.size_extract]; omega
      have c2 := fun w => open_part Y 1 w (by omega) (by omega) (by omega) (Or.inr (by omega))
      obtain ⟨Z, hZ⟩ : ∃ Z, Z = b.extract 32 b.size := ⟨_, rfl⟩
      have hZs : Z.size = b.size - 32 := by rw [hZ, ByteArray.size_extract]; omega
      have hZl : Z.data.toList = b.data.toList.drop 32 := by rw [hZ, extract_list, List.take_of_length_le (by omega)]
      obtain ⟨V, hV⟩ : ∃ V, V = b ++ b.extract 0 32 := ⟨_, rfl⟩
      have hVs : V.size = b.size + 32 := by rw [hV, ByteArray.size_append, ByteArray.size_extract]; omega
      have hVl : V.data.toList = b.data.toList ++ b.data.toList.take 32 := by rw [hV, cat_list, extract_list, List.drop_zero]
      have hpl0 : (Pu.paged HB).length = b.size := by rw [← HBL.out.1]; exact hbl
      have c4 := fun w => open_sum V 1 w (b.size / 32) (by omega) (by omega) (by omega) (by omega) (by omega) (by
        rw [hVl, HBL.out.1, ← hpl0]
        exact Pu.fw_more (by omega) HBL.out.2)
      have hbig : (9223372036854775807 < b.size + (b.extract 0 32).size) = False := by
        rw [ByteArray.size_extract]; simp; omega
      have hY2 := hY.symm
      have hZ2 := hZ.symm
      have hV2 := hV.symm
      have h32i : (32 : Int) ≤ (b.size : Int) := by omega
      have HTd : Hid (Turns (fun _ => False) w wd) := HD.out.2.2
      have hZF : Hid (b.size ≠ 32 → Pu.FW Z.data.toList ((0 : Nat) : Int)) := by
        intro hne
        rw [hZl, HBL.out.1]
        exact Pu.fw_cut (by omega)
      clear HD hX hXl hY hZ hV hZl hVl hm1 hpl0
      go_wp2_with fail
      refine (c1 _).mono ?_
      rintro e wa ⟨rfl, hTa⟩
      have HTa : Hid (Turns (fun _ => False) w wa) := HTd.out.trans hTa
      clear hTa hcv c1
      go_wp2_with fail
      refine (c2 _).mono ?_
      rintro e wb ⟨rfl, hwb⟩
      subst wb
      by_cases h32 : b.size = 32
      · have c3 := fun w => open_part Z 1 w (by omega) (by omega) (by omega) (Or.inl (by omega))
        have h32b : ((b.size : Int) == 32) = true := by rw [h32]; rfl
        clear h32
        go_wp2_with fail
        refine (c3 _).mono ?_
        rintro e we ⟨rfl, hwe⟩
        subst we
        go_wp2_with fail
        refine (c4 _).mono ?_
        rintro e wf ⟨rfl, hTf⟩
        have HTf : Hid (Turns (fun _ => False) w wf) := HTa.out.trans hTf
        clear hTf c2 c3 c4
        go_wp2
        go_ret
        exact ⟨by simp, HTf.out⟩
      · have c3 := fun w => open_sum Z 1 w 0 (by omega) (by omega) (by omega) (by omega) (by omega) (hZF.out h32)
        go_wp2_with fail
        refine (c3 _).mono ?_
        rintro e we ⟨rfl, hTe⟩
        have HTe : Hid (Turns (fun _ => False) w we) := HTa.out.trans hTe
        clear hTe
        go_wp2_with fail
        refine (c4 _).mono ?_
        rintro e wf ⟨rfl, hTf⟩
        have HTf : Hid (Turns (fun _ => False) w wf) := HTe.out.trans hTf
        clear hTf c2 c3 c4
        go_wp2
        go_ret
        exact ⟨by simp, HTf.out⟩
#print axioms turned_any
end Go.Proofs.YtdogncjcainhlaaGreatDoor
/- A saved store is opened. -/
namespace Go.Proofs.YtdogncjcainhlaaGreatDoor
open Go.RowKit Go.Deep
open Mem

theorem Labs.congr {S : ByteArray} {O : List Nat} {st : Nat → Nat} {lab lab' : Nat → List (Nat × Int)} (h : Labs S O st lab) (e : ∀ v, v < O.length → lab v = lab' v) : Labs S O st lab' :=
  ⟨h.n1, h.n40, h.size, h.s28, h.lt, h.le, fun v hv => by rw [← e v hv]; exact h.of v hv, fun v hv => by rw [← e v hv]; exact h.rank v hv, h.ord, fun v hv => by rw [← e v hv]; exact h.ne v hv⟩
/-- What Open makes of a saved store. -/
structure SavedIs (n : Nat) (len D : Nat → Nat → Int) (O : List Nat) (b : ByteArray) (st : Nat → Nat) (S : ByteArray) : Prop where
  cov : Pu.Cov n len D O
  labs : Labs S O st (fun v => Pu.hubK D O v n)
  pages : S.size / 28 = b.size / 32
  opens : ∀ (c : Nat) (w : World), 1 ≤ c → c ≤ 8 → Calls Tryz.prog 11 #[.string b, .int .i64 (c : Int)] w fun e w' => ∃ g og oc sg sc, e = .returned (.tuple #[.pointer (some ⟨g, 0, none⟩), .int .i64 0, .int .i64 0]) ∧ StoreAt w' g og oc sg sc O st S c 0 (.slice none 0 0) [] 0 ∧ (∀ q, Foot g og sg (.slice none 0 0) q → w.heap.size ≤ q) ∧ Turns (fun _ => False) w w'
theorem saved_is {n : Nat} {len D : Nat → Nat → Int} {O : List Nat} {b : ByteArray} (C : Pu.Cov n len D O) (hn1 : 1 ≤ n) (hn : n ≤ 40) (hb : b.data.toList = Pu.paged (Pu.heldB O (fun v => Pu.hubK D O v n) n)) (hs : b.size ≤ 60000) (h32 : 32 ≤ b.size) : ∃ st S, SavedIs n len D O b st S := by
  obtain ⟨HB, hHB⟩ : ∃ HB, HB = Pu.heldB O (fun v => Pu.hubK D O v n) n := ⟨_, rfl⟩
  have V := C.valid hn1 hn
  rw [← hHB] at V hb
  obtain ⟨Z, a, h1, h2⟩ := V.rd
  obtain ⟨p, hp⟩ : ∃ p, p = (HB.length + 27) / 28 := ⟨_, rfl⟩
  have hbl : b.size = 32 * p := by rw [size_list, hb, Pu.paged_len, hp]
  have hk : Pu.heldK b.data.toList p = Pu.pad HB := by rw [hb, hp]; exact Pu.paged_held HB
  have hS : (ByteArray.mk (Pu.pad HB).toArray).data.toList = Pu.pad HB := rfl
  have hSs : (ByteArray.mk (Pu.pad HB).toArray).size = 28 * p := by
    have := Pu.pad_len HB
    rw [size_list, hS, this, hp]
  have L := rd_labs (S := ⟨(Pu.pad HB).toArray⟩) h1 (by rw [hSs]; omega) (by rw [hSs]; omega)
  have hol := C.perm.len
  refine ⟨Pu.stF a Z, ⟨(Pu.pad HB).toArray⟩, C, L.congr (fun v hv => ?_), by rw [hSs, hbl]; omega, fun c w hc1 hc8 => ?_⟩
  · unfold Pu.labF
    rw [hS, h2 v (by omega)]
    rfl
  · have ho := open_ok b c w p O Z a hc1 hc8 hbl (by omega) (by omega) (by rw [hb]; exact Pu.paged_fw HB) (by rw [hk]; exact h1)
    rw [hk] at ho
    refine ho.mono ?_
    rintro e w' ⟨g, og, oc, sg, sc, rfl, h3, h4, h5, h6, _, _, _, h7⟩
    refine ⟨g, og, oc, sg, sc, rfl, h3, fun q hq => ?_, h7⟩
    rcases hq with rfl | rfl | rfl | hq
    · exact h4
    · exact h5
    · exact h6
    · cases hq
end Go.Proofs.YtdogncjcainhlaaGreatDoor
/- The walk of the law bywaykeep.Paged. -/
namespace Go.Proofs.YtdogncjcainhlaaGreatDoor
open Go.RowKit Go.Deep
open Mem

/-- Raw numbers that came in. -/
def Asks (w : World) (ra : Option Addr) (K : Nat) (raw : Nat → Int) : Prop :=
  (0 < K → ∃ b o, ra = some ⟨b, o, none⟩ ∧ b < w.heap.size ∧ ∀ i, i < K → w.cell? ⟨b, o + i, none⟩ = some (.int .i64 (raw i))) ∧ ∀ i, i < K → -9223372036854775808 ≤ raw i ∧ raw i ≤ 9223372036854775807
theorem far_tuple (O : List Nat) (o : Option (Nat × Int)) : ∃ x h e : Int, farV O o = .tuple #[.int .i64 x, .int .i64 h, .int .i64 e] := by
  cases o with
  | none => exact ⟨0, 0, 6, rfl⟩
  | some z => obtain ⟨r, x⟩ := z; exact ⟨x, _, 0, rfl⟩
section
variable {w0 w : World} {b1 og1 oc1 sg1 sc1 b2 og2 oc2 sg2 sc2 : Nat} {O : List Nat} {st : Nat → Nat} {S : ByteArray} {c1 c2 : Nat} {kv1 kv2 : Value} {A B : List Nat × Nat} {lab : Nat → List (Nat × Int)}
theorem Two.reads1 (h : Two w0 w b1 og1 oc1 sg1 sc1 b2 og2 oc2 sg2 sc2 O st S c1 c2 kv1 kv2 A B) (hn : 1 ≤ O.length) : Calls Tryz.prog 18 #[.pointer (some ⟨b1, 0, none⟩)] w fun e w' => e = .returned (.int .i64 (A.2 : Int)) ∧ Two w0 w' b1 og1 oc1 sg1 sc1 b2 og2 oc2 sg2 sc2 O st S c1 c2 kv1 kv2 A B :=
  (stReads_any h.a).mono fun _ _ ⟨h1, h2, h3⟩ => ⟨h1, h.next0 hn h2 h3⟩
theorem Two.reads2 (h : Two w0 w b1 og1 oc1 sg1 sc1 b2 og2 oc2 sg2 sc2 O st S c1 c2 kv1 kv2 A B) (hn : 1 ≤ O.length) : Calls Tryz.prog 18 #[.pointer (some ⟨b2, 0, none⟩)] w fun e w' => e = .returned (.int .i64 (B.2 : Int)) ∧ Two w0 w' b1 og1 oc1 sg1 sc1 b2 og2 oc2 sg2 sc2 O st S c1 c2 kv1 kv2 A B :=
  (h.swap.reads1 hn).mono fun _ _ ⟨h1, h2⟩ => ⟨h1, h2.swap⟩
theorem Two.far1 (L : Labs S O st lab) (h : Two w0 w b1 og1 oc1 sg1 sc1 b2 og2 oc2 sg2 sc2 O st S c1 c2 kv1 kv2 A B) {u v : Nat} (hu : u < O.length) (hv : v < O.length) (hc1 : 1 ≤ c1) (hc8 : c1 ≤ 8) (hk : Pu.Keeps c1 A.1) (hr : A.2 ≤ 90000000) : Calls Tryz.prog 20 #[.pointer (some ⟨b1, 0, none⟩), .int .i64 (u : Int), .int .i64 (v : Int)] w fun e w' => e = .returned (farV O (Pu.best none (lab u) (lab v))) ∧ ∃ kv', Two w0 w' b1 og1 oc1 sg1 sc1 b2 og2 oc2 sg2 sc2 O st S c1 c2 kv' kv2 (Pu.lookF c1 st A u v) B :=
  (stFar_any L h.a hu hv hc1 hc8 hk hr).mono fun _ _ ⟨h1, kv', h2, h3, h4⟩ => ⟨h1, kv', h.next L.n1 h2 h3 h4⟩
theorem Two.far2 (L : Labs S O st lab) (h : Two w0 w b1 og1 oc1 sg1 sc1 b2 og2 oc2 sg2 sc2 O st S c1 c2 kv1 kv2 A B) {u v : Nat} (hu : u < O.length) (hv : v < O.length) (hc1 : 1 ≤ c2) (hc8 : c2 ≤ 8) (hk : Pu.Keeps c2 B.1) (hr : B.2 ≤ 90000000) : Calls Tryz.prog 20 #[.pointer (some ⟨b2, 0, none⟩), .int .i64 (u : Int), .int .i64 (v : Int)] w fun e w' => e = .returned (farV O (Pu.best none (lab u) (lab v))) ∧ ∃ kv', Two w0 w' b1 og1 oc1 sg1 sc1 b2 og2 oc2 sg2 sc2 O st S c1 c2 kv1 kv' A (Pu.lookF c2 st B u v) :=
  (h.swap.far1 L hu hv hc1 hc8 hk hr).mono fun _ _ ⟨h1, kv', h2⟩ => ⟨h1, kv', h2.swap⟩
end
/-- What holds ahead of each round. -/
structure PagAt (w0 w : World) (b1 og1 oc1 sg1 sc1 b2 og2 oc2 sg2 sc2 : Nat) (O : List Nat) (st : Nat → Nat) (S : ByteArray) (P i : Nat) (kv1 kv2 : Value) (A B : List Nat × Nat) : Prop where
  two : Two w0 w b1 og1 oc1 sg1 sc1 b2 og2 oc2 sg2 sc2 O st S 1 8 kv1 kv2 A B
  twin : Pu.Twin A B
  whole : P ≤ 8 → Pu.Whole P B
  few : A.2 ≤ 10000 * i
set_option maxRecDepth 100000 in
set_option maxHeartbeats 4000000 in
theorem paged_any (ht : TownSaid) (w : World) (size : Int) (ra rn : Option Addr) (K cap KN capN : Nat) (raw : Nat → Int × Int × Int) (nums : Nat → Int) (h0 : -9223372036854775808 ≤ size) (h1 : size ≤ 9223372036854775807) (hK : K ≤ 9223372036854775807) (hRaw : Raw w ra K raw) (hKN : KN ≤ 9223372036854775807) (hNums : Asks w rn KN nums) (hm : Ml w) :
    Calls Tryz.prog 6 #[.int .i64 size, .slice ra K cap, .slice rn KN capN] w fun e w' => e = .returned (.bool true) ∧ Turns (fun _ => False) w w' := by
  have HNums : Hid (Asks w rn KN nums) := hNums
  clear hNums
  go_enter Tryz.func6, Tryz.ntmps6
  go_wp2_with fail
  refine (ht w size ra K cap raw h0 h1 hK hRaw).mono ?_
  rintro e w1 ⟨hT1, txt, n, R, v, rb, len, rfl, hTown⟩
  have hm1 := hm.turns hT1 (fun x => x)
  obtain ⟨lb, lcap, rfl⟩ := hTown.form
  go_wp2_with fail
  refine (awake_any _ (hm1.alloc _)).mono ?_
  rintro e w2 ⟨rfl, hT2⟩
  have hTB2 : TB w2 w1.heap.size txt n (.slice (some ⟨lb, 0, none⟩) n lcap) := (TB.new w1 txt n _).turns hT2 (fun x => x)
  have hTa : Turns (fun _ => False) w1 w2 := ((Turns.refl _ w1).alloc _).trans hT2
  have hTw2 : Turns (fun _ => False) w w2 := hT1.trans hTa
  have hm2 := hm1.turns hTa (fun x => x)
  have c0 := hTB2.c0
  have c1 := hTB2.c1
  have hbl := hTB2.lt
  have cs := fun w hm => save_town hTown w hm
  have hn1 := hTown.n1
  have hn2 := hTown.n2
  have HTB2 : Hid (TB w2 w1.heap.size txt n (.slice (some ⟨lb, 0, none⟩) n lcap)) := hTB2
  clear hT1 hT2 hm1 hm hRaw hTa hTB2 hTown
  go_wp2_with fail
  refine (cs _ (by first | exact hm2 | exact hm2.drew | exact hm2.turns (((Turns.refl _ w2).drew)) (fun x => x))).mono ?_
  rintro e w3 ⟨hT3, O, D, b, rfl, hC, hbl2, hb32, hb2000, hbm⟩
  have HT3 : Hid (Turns (fun _ => False) w w3) := by first | exact hTw2.trans hT3 | exact hTw2.drew.trans hT3
  have HTB3 : Hid (TB w3 w1.heap.size txt n (.slice (some ⟨lb, 0, none⟩) n lcap)) := by first | exact HTB2.out.turns hT3 (fun x => x) | exact HTB2.out.turns (first_drew hT3) (fun x => x)
  obtain ⟨st, S, SV⟩ := saved_is hC hn1 (by omega) hbl2 (by omega) hb32
  have HSV : Hid (SavedIs n len D O b st S) := SV
  have hol : O.length = n := hC.perm.len
  obtain ⟨gg, hgg⟩ : ∃ gg, gg = w1.heap.size := ⟨_, rfl⟩
  rw [← hgg] at HTB3 ⊢
  obtain ⟨P, hP⟩ : ∃ P, P = b.size / 32 := ⟨_, rfl⟩
  have HPS : Hid (S.size / 28 = P) := by show _ = _; rw [hP]; exact SV.pages
  have hPb : P ≤ 70 := by omega
  have co1 : ∀ w, _ := fun w => SV.opens 1 w (by omega) (by omega)
  have co8 : ∀ w, _ := fun w => SV.opens 8 w (by omega) (by omega)
  clear hT3 hTw2 c0 c1 hbl cs hm2 hC hbl2 HTB2 SV hgg
  go_wp2_with fail
  refine (co1 w3).mono ?_
  rintro e w4 ⟨b1, og1, oc1, sg1, sc1, rfl, hS1, hf1, hT4⟩
  go_wp2_with fail
  refine (co8 w4).mono ?_
  rintro e w5 ⟨b2, og2, oc2, sg2, sc2, rfl, hS2, hf2, hT5⟩
  have H5 : Hid (PagAt w3 w5 b1 og1 oc1 sg1 sc1 b2 og2 oc2 sg2 sc2 O st S P 0 (.slice none 0 0) (.slice none 0 0) ([], 0) ([], 0)) := by
    refine ⟨⟨hS1.turns0 hT5, hS2, hf1, fun q hq => Nat.le_trans hT4.size (hf2 q hq), fun q h1 h2 => ?_, hT4.trans hT5⟩, ⟨⟨List.nodup_nil, by simp⟩, ⟨List.nodup_nil, by simp⟩, fun p hp => by simp at hp, Nat.le_refl _⟩, fun _ => ⟨List.nodup_nil, fun q hq => by simp at hq, rfl⟩, by simp⟩
    have h3 := hS1.foot_lt (by omega) h1
    have h4 := hf2 q h2
    omega
  have HPQ : Hid ((b.size : Int) / 32 = (P : Int)) := by show _ = _; omega
  clear co1 co8 hS1 hS2 hf1 hf2 hT4 hT5
  go_wp2_with fail
  rw [HPQ.out]
  clear HPQ hP hb32 hb2000 hbm
  go_loopw [19] (fun iv wr => ∃ (i : Nat) (kv1 kv2 : Value) (A B : List Nat × Nat) (wy : World), iv = .int .i64 (i : Int) ∧ i ≤ 81 ∧ wy = wr ∧ Hid (PagAt w3 wy b1 og1 oc1 sg1 sc1 b2 og2 oc2 sg2 sc2 O st S P i kv1 kv2 A B)) (fun iv _ => 82 - (intOf iv).toNat)
  case atStart => exact ⟨0, _, _, _, _, w5, rfl, by omega, rfl, H5.out⟩
  case round =>
    clear H5
    obtain ⟨i, kv1, kv2, A, B, wr, rfl, hib, hwy, HI⟩ := hrel
    subst hwy
    by_cases hlt : i + 1 < KN ∧ i < 80
    · obtain ⟨hl1, hl2⟩ := hlt
      have hi1 : (i : Int) + 1 < (KN : Int) := by omega
      have hi2 : (i : Int) < 80 := by omega
      have hi3 : (i : Int) < (KN : Int) := by omega
      obtain ⟨nb, no, hrn, hnb, hcell⟩ := HNums.out.1 (by omega)
      subst hrn
      have htr : Turns (fun _ => False) w wr := HT3.out.trans HI.out.two.t
      have e1 : wr.cell? ⟨nb, no + i, none⟩ = some (.int .i64 (nums i)) := (htr.cell (a := ⟨nb, no + i, none⟩) hnb (fun x => x)).trans (hcell i (by omega))
      have e2 : wr.cell? ⟨nb, no + (i + 1), none⟩ = some (.int .i64 (nums (i + 1))) := (htr.cell (a := ⟨nb, no + (i + 1), none⟩) hnb (fun x => x)).trans (hcell (i + 1) (by omega))
      have t1 := (HTB3.out.turns HI.out.two.t (fun x => x)).c1
      have tl := (HTB3.out.turns HI.out.two.t (fun x => x)).lt
      have r1 := HNums.out.2 i (by omega)
      have r2 := HNums.out.2 (i + 1) (by omega)
      have p1 := Pu.pick_lt (nums i) (n := n) (by omega)
      have p2 := Pu.pick_lt (nums (i + 1)) (n := n) (by omega)
      have HP1 : Hid (∀ w', Turns (fun _ => False) wr w' → Calls Tryz.prog 10 #[.int .i64 (nums i), .int .i64 (n : Int)] w' fun e w1 => e = .returned (.int .i64 (Pu.pick (nums i) n : Int)) ∧ Turns (fun _ => False) wr w1) := fun w' t => (pick_big (nums i) n w' r1.1 r1.2 (by omega) (by omega)).mono fun e w1 hh => ⟨hh.1, by rw [hh.2]; exact t⟩
      have HP2 : Hid (∀ wz w', Turns (fun _ => False) wz w' → Calls Tryz.prog 10 #[.int .i64 (nums (i + 1)), .int .i64 (n : Int)] w' fun e w1 => e = .returned (.int .i64 (Pu.pick (nums (i + 1)) n : Int)) ∧ Turns (fun _ => False) wz w1) := fun wz w' t => (pick_big (nums (i + 1)) n w' r2.1 r2.2 (by omega) (by omega)).mono fun e w1 hh => ⟨hh.1, by rw [hh.2]; exact t⟩
      generalize Pu.pick (nums i) n = u at *
      generalize Pu.pick (nums (i + 1)) n = v at *
      obtain ⟨n1, hn1'⟩ : ∃ n1, n1 = nums i := ⟨_, rfl⟩
      obtain ⟨n2, hn2'⟩ : ∃ n2, n2 = nums (i + 1) := ⟨_, rfl⟩
      rw [← hn1'] at e1 HP1
      rw [← hn2'] at e2 HP2
      obtain ⟨i1, hi1e⟩ : ∃ i1, i1 = i + 1 := ⟨_, rfl⟩
      have hw : IntKind.i64.wrap ((i : Int) + 1) = (i1 : Int) := by rw [IntKind.wrap_i64]; omega
      have hi4 : (i1 : Int) < (KN : Int) := by omega
      rw [← hi1e] at e2
      clear htr hcell r1 r2 hn1' hn2' hi1 hi1e
      go_wp2_with fail
      go_region_held3 (fun w' => w'.cell? ⟨nb, no + i, none⟩ = some (.int .i64 n1) ∧ w'.cell? ⟨gg, 1, none⟩ = some (.int .i64 (n : Int))) (go_keep)
        (first
          | (go_at_call 10; refine (HP1.out _ (by first | exact Turns.refl _ _ | exact (Turns.refl _ _).drew)).mono ?_; rintro e wa ⟨rfl, hTa⟩; have k1 : wa.cell? ⟨nb, no + i, none⟩ = some (.int .i64 n1) := (hTa.cell (a := ⟨nb, no + i, none⟩) (World.block_lt_of_cell? _ _ e1) (fun x => x)).trans e1; have k2 : wa.cell? ⟨gg, 1, none⟩ = some (.int .i64 (n : Int)) := (hTa.cell (a := ⟨gg, 1, none⟩) tl (fun x => x)).trans t1))
      all_goals
        have HTa : Hid (Turns (fun _ => False) wr wa) := hTa
        have k3 : wa.cell? ⟨nb, no + i1, none⟩ = some (.int .i64 n2) := (hTa.cell (a := ⟨nb, no + i1, none⟩) (World.block_lt_of_cell? _ _ e2) (fun x => x)).trans e2
        have k4 : gg < wa.heap.size := Nat.lt_of_lt_of_le tl hTa.size
        clear hTa k1 e1 e2 HP1 t1 tl
        go_wp2_with fail
        go_region_held3 (fun w' => w'.cell? ⟨nb, no + i1, none⟩ = some (.int .i64 n2) ∧ w'.cell? ⟨gg, 1, none⟩ = some (.int .i64 (n : Int))) (go_keep)
          (first
            | (go_at_call 10; refine (HP2.out wa _ (by first | exact Turns.refl _ _ | exact (Turns.refl _ _).drew)).mono ?_; rintro e wb ⟨rfl, hTb⟩; have k5 : wb.cell? ⟨nb, no + i1, none⟩ = some (.int .i64 n2) := (hTb.cell (a := ⟨nb, no + i1, none⟩) (World.block_lt_of_cell? _ _ k3) (fun x => x)).trans k3; have k6 : wb.cell? ⟨gg, 1, none⟩ = some (.int .i64 (n : Int)) := (hTb.cell (a := ⟨gg, 1, none⟩) k4 (fun x => x)).trans k2))
        all_goals
          have hu : u < O.length := by omega
          have hv : v < O.length := by omega
          have hnO : 1 ≤ O.length := by omega
          obtain ⟨fx, fh, fe, hF⟩ := far_tuple O (Pu.best none (Pu.hubK D O u n) (Pu.hubK D O v n))
          have HB : Hid (Two w3 wb b1 og1 oc1 sg1 sc1 b2 og2 oc2 sg2 sc2 O st S 1 8 kv1 kv2 A B) := HI.out.two.turns0 (HTa.out.trans hTb)
          obtain ⟨A1, hA1⟩ : ∃ A1, A1 = Pu.lookF 1 st A u v := ⟨_, rfl⟩
          obtain ⟨A2, hA2⟩ : ∃ A2, A2 = Pu.lookF 1 st A1 u v := ⟨_, rfl⟩
          obtain ⟨B1, hB1⟩ : ∃ B1, B1 = Pu.lookF 8 st B u v := ⟨_, rfl⟩
          have m1 := HSV.out.labs.most (c := 1) (s := A) hu hv
          have m2 := HSV.out.labs.most (c := 1) (s := A1) hu hv
          rw [HPS.out, ← hA1] at m1
          rw [HPS.out, ← hA2] at m2
          have hfw := HI.out.few
          have htw := HI.out.twin
          have HNx : Hid (Pu.Twin A2 B1 ∧ (P ≤ 8 → Pu.Whole P B1) ∧ A2.2 ≤ 10000 * (i + 2)) := by
            refine ⟨?_, fun hp => ?_, by omega⟩
            · rw [hA2, hA1, hB1]; exact HSV.out.labs.twin htw hu hv
            · rw [hB1]
              have := HSV.out.labs.whole (c := 8) (b := B) (by rw [HPS.out]; exact hp) (by rw [HPS.out]; exact HI.out.whole hp) hu hv
              rwa [HPS.out] at this
          have HKK : Hid (Pu.Keeps 1 A.1 ∧ Pu.Keeps 1 A1.1 ∧ Pu.Keeps 8 B.1) := ⟨htw.k1, by rw [hA1]; exact HSV.out.labs.keeps (Nat.le_refl _) (HSV.out.labs.keeps (Nat.le_refl _) htw.k1 u) v, htw.k8⟩
          have HC1 : Hid (∀ w', Two w3 w' b1 og1 oc1 sg1 sc1 b2 og2 oc2 sg2 sc2 O st S 1 8 kv1 kv2 A B → Calls Tryz.prog 20 #[.pointer (some ⟨b1, 0, none⟩), .int .i64 (u : Int), .int .i64 (v : Int)] w' fun e w'' => e = .returned (.tuple #[.int .i64 fx, .int .i64 fh, .int .i64 fe]) ∧ ∃ kv', Two w3 w'' b1 og1 oc1 sg1 sc1 b2 og2 oc2 sg2 sc2 O st S 1 8 kv' kv2 A1 B) := fun w' h' => by
            rw [← hF, hA1]
            exact h'.far1 HSV.out.labs hu hv (by omega) (by omega) HKK.out.1 (by omega)
          have HC2 : Hid (∀ w' kv, Two w3 w' b1 og1 oc1 sg1 sc1 b2 og2 oc2 sg2 sc2 O st S 1 8 kv kv2 A1 B → Calls Tryz.prog 20 #[.pointer (some ⟨b2, 0, none⟩), .int .i64 (u : Int), .int .i64 (v : Int)] w' fun e w'' => e = .returned (.tuple #[.int .i64 fx, .int .i64 fh, .int .i64 fe]) ∧ ∃ kv', Two w3 w'' b1 og1 oc1 sg1 sc1 b2 og2 oc2 sg2 sc2 O st S 1 8 kv kv' A1 B1) := fun w' kv h' => by
            rw [← hF, hB1]
            exact h'.far2 HSV.out.labs hu hv (by omega) (by omega) HKK.out.2.2 (by have := htw.le; omega)
          have HC3 : Hid (∀ w' kv kv', Two w3 w' b1 og1 oc1 sg1 sc1 b2 og2 oc2 sg2 sc2 O st S 1 8 kv kv' A1 B1 → Calls Tryz.prog 20 #[.pointer (some ⟨b1, 0, none⟩), .int .i64 (u : Int), .int .i64 (v : Int)] w' fun e w'' => e = .returned (.tuple #[.int .i64 fx, .int .i64 fh, .int .i64 fe]) ∧ ∃ kv1', Two w3 w'' b1 og1 oc1 sg1 sc1 b2 og2 oc2 sg2 sc2 O st S 1 8 kv1' kv' A2 B1) := fun w' kv kv' h' => by
            rw [← hF, hA2]
            exact h'.far1 HSV.out.labs hu hv (by omega) (by omega) HKK.out.2.1 (by omega)
          have q1 : ¬ (A1.2 : Int) < (A.2 : Int) := by omega
          have q2 : ¬ (A1.2 : Int) > (A.2 : Int) + 2 * (P : Int) := by omega
          have q3 : ¬ (A.2 : Int) + 2 * (P : Int) < (A1.2 : Int) := by omega
          have q4 : (fx != fx) = false := by simp
          have q5 : (fe != fe) = false := by simp
          have q6 : A1.2 ≤ 2000000 := by omega
          have q7 : A.2 ≤ 2000000 := by omega
          obtain ⟨r0, hr0⟩ : ∃ r, r = A.2 := ⟨_, rfl⟩
          obtain ⟨r1, hr1⟩ : ∃ r, r = A1.2 := ⟨_, rfl⟩
          have HR0 : Hid (∀ w' kv kv', Two w3 w' b1 og1 oc1 sg1 sc1 b2 og2 oc2 sg2 sc2 O st S 1 8 kv kv' A B → Calls Tryz.prog 18 #[.pointer (some ⟨b1, 0, none⟩)] w' fun e w'' => e = .returned (.int .i64 (r0 : Int)) ∧ Two w3 w'' b1 og1 oc1 sg1 sc1 b2 og2 oc2 sg2 sc2 O st S 1 8 kv kv' A B) := fun w' kv kv' h' => by rw [hr0]; exact h'.reads1 hnO
          have HR1 : Hid (∀ w' kv kv', Two w3 w' b1 og1 oc1 sg1 sc1 b2 og2 oc2 sg2 sc2 O st S 1 8 kv kv' A1 B → Calls Tryz.prog 18 #[.pointer (some ⟨b1, 0, none⟩)] w' fun e w'' => e = .returned (.int .i64 (r1 : Int)) ∧ Two w3 w'' b1 og1 oc1 sg1 sc1 b2 og2 oc2 sg2 sc2 O st S 1 8 kv kv' A1 B) := fun w' kv kv' h' => by rw [hr1]; exact h'.reads1 hnO
          rw [← hr0, ← hr1] at q1 q2 q3
          rw [← hr1] at q6
          rw [← hr0] at q7
          clear hTb k2 k3 k4 k5 k6 HP2 hF hA1 hA2 hB1 m1 m2 hfw htw HKK HTa HI hr0 hr1
          go_wp2_with fail
          refine (HR0.out wb kv1 kv2 HB.out).mono ?_
          rintro e wc ⟨rfl, hTc⟩
          have HTc : Hid (Two w3 wc b1 og1 oc1 sg1 sc1 b2 og2 oc2 sg2 sc2 O st S 1 8 kv1 kv2 A B) := hTc
          clear hTc HB
          go_wp2_with fail
          refine (HC1.out wc HTc.out).mono ?_
          rintro e wd ⟨rfl, kv1d, hTd⟩
          have HTd : Hid (Two w3 wd b1 og1 oc1 sg1 sc1 b2 og2 oc2 sg2 sc2 O st S 1 8 kv1d kv2 A1 B) := hTd
          clear hTd HTc
          go_wp2_with fail
          refine (HR1.out wd kv1d kv2 HTd.out).mono ?_
          rintro e we ⟨rfl, hTe⟩
          have HTe : Hid (Two w3 we b1 og1 oc1 sg1 sc1 b2 og2 oc2 sg2 sc2 O st S 1 8 kv1d kv2 A1 B) := hTe
          clear hTe HTd
          go_wp2_with fail
          refine (HC2.out we kv1d HTe.out).mono ?_
          rintro e wf ⟨rfl, kv2f, hTf⟩
          have HTf : Hid (Two w3 wf b1 og1 oc1 sg1 sc1 b2 og2 oc2 sg2 sc2 O st S 1 8 kv1d kv2f A1 B1) := hTf
          clear hTf HTe
          go_wp2_with fail
          refine (HC3.out wf kv1d kv2f HTf.out).mono ?_
          rintro e wg ⟨rfl, kv1g, hTg⟩
          have HG : Hid (PagAt w3 wg b1 og1 oc1 sg1 sc1 b2 og2 oc2 sg2 sc2 O st S P (i + 2) kv1g kv2f A2 B1) := ⟨hTg, HNx.out.1, HNx.out.2.1, HNx.out.2.2⟩
          clear hTg HTf HC1 HC2 HC3 HR0 HR1 HNx
          go_wp2
          go_roundw
          case rel => exact ⟨i + 2, kv1g, kv2f, A2, B1, wg, by go_num, by omega, rfl, HG.out⟩
          case measure => simp [intOf]; omega
    · have hnO : 1 ≤ O.length := by omega
      have HB : Hid (Two w3 wr b1 og1 oc1 sg1 sc1 b2 og2 oc2 sg2 sc2 O st S 1 8 kv1 kv2 A B) := HI.out.two
      obtain ⟨r0, hr0⟩ : ∃ r, r = A.2 := ⟨_, rfl⟩
      obtain ⟨r1, hr1⟩ : ∃ r, r = B.2 := ⟨_, rfl⟩
      have g1 : (r1 : Int) ≤ (r0 : Int) := by have := HI.out.twin.le; omega
      have g2 : ((r0 : Int) == (r0 : Int)) = true := by simp
      have g3 : (P : Int) > 8 ∨ (¬ (P : Int) > 8 ∧ (r1 : Int) ≤ (P : Int)) := by
        by_cases c : P ≤ 8
        · have := (HI.out.whole c).most
          exact Or.inr ⟨by omega, by omega⟩
        · exact Or.inl (by omega)
      have g4 : ((i : Int) + 1 < (KN : Int) ∧ ¬ (i : Int) < 80) ∨ ¬ (i : Int) + 1 < (KN : Int) := by omega
      have HR0 : Hid (∀ w', Two w3 w' b1 og1 oc1 sg1 sc1 b2 og2 oc2 sg2 sc2 O st S 1 8 kv1 kv2 A B → Calls Tryz.prog 18 #[.pointer (some ⟨b1, 0, none⟩)] w' fun e w'' => e = .returned (.int .i64 (r0 : Int)) ∧ Two w3 w'' b1 og1 oc1 sg1 sc1 b2 og2 oc2 sg2 sc2 O st S 1 8 kv1 kv2 A B) := fun w' h' => by rw [hr0]; exact h'.reads1 hnO
      have HR1 : Hid (∀ w', Two w3 w' b1 og1 oc1 sg1 sc1 b2 og2 oc2 sg2 sc2 O st S 1 8 kv1 kv2 A B → Calls Tryz.prog 18 #[.pointer (some ⟨b2, 0, none⟩)] w' fun e w'' => e = .returned (.int .i64 (r1 : Int)) ∧ Two w3 w'' b1 og1 oc1 sg1 sc1 b2 og2 oc2 sg2 sc2 O st S 1 8 kv1 kv2 A B) := fun w' h' => by rw [hr1]; exact h'.reads2 hnO
      have HF : Hid (∀ w', Two w3 w' b1 og1 oc1 sg1 sc1 b2 og2 oc2 sg2 sc2 O st S 1 8 kv1 kv2 A B → Calls Tryz.prog 20 #[.pointer (some ⟨b1, 0, none⟩), .int .i64 (-1), .int .i64 0] w' fun e w'' => e = .returned (.tuple #[.int .i64 0, .int .i64 0, .int .i64 5]) ∧ Two w3 w'' b1 og1 oc1 sg1 sc1 b2 og2 oc2 sg2 sc2 O st S 1 8 kv1 kv2 A B) := fun w' h' => (stFar_node (-1) 0 h'.a (by omega)).mono fun _ _ ⟨h1, h2, h3⟩ => ⟨h1, h'.next0 hnO h2 h3⟩
      clear HI hlt hr0 hr1
      rcases g4 with ⟨hi1, hi2⟩ | hi1
      all_goals
        go_wp2_with fail
        refine (HR0.out wr HB.out).mono ?_
        rintro e wa ⟨rfl, hTa⟩
        have HTa : Hid (Two w3 wa b1 og1 oc1 sg1 sc1 b2 og2 oc2 sg2 sc2 O st S 1 8 kv1 kv2 A B) := hTa
        clear hTa
        go_wp2_with fail
        refine (HR1.out wa HTa.out).mono ?_
        rintro e wb ⟨rfl, hTb⟩
        have HTb : Hid (Two w3 wb b1 og1 oc1 sg1 sc1 b2 og2 oc2 sg2 sc2 O st S 1 8 kv1 kv2 A B) := hTb
        clear hTb
        go_wp2_with fail
        refine (HF.out wb HTb.out).mono ?_
        rintro e wc ⟨rfl, hTc⟩
        have HTc : Hid (Two w3 wc b1 og1 oc1 sg1 sc1 b2 og2 oc2 sg2 sc2 O st S 1 8 kv1 kv2 A B) := hTc
        clear hTc
        go_wp2_with fail
        refine (HR0.out wc HTc.out).mono ?_
        rintro e wd ⟨rfl, hTd⟩
        have HX : Hid (Turns (fun _ => False) w wd) := HT3.out.trans hTd.t
        clear hTd HTa HTb HTc HR0 HR1 HF HB
        rcases g3 with g3 | ⟨g3, g5⟩
        all_goals
          go_wp2
          go_ret
          exact ⟨rfl, HX.out⟩
#print axioms paged_any
end Go.Proofs.YtdogncjcainhlaaGreatDoor
/- Proved: for every input bywaykeep.Paged returns true, and each argument reads afterwards as it read before: a store reads no more pages than it looks at, no fewer than it must; what it keeps it does not read again; with a page for each it reads each but once. Conditions: none but the row's own; Go's two listed tables of unicode/utf8 start as their texts lay them (the card ties them). -/
namespace Go.Proofs.YtdogncjcainhlaaGreatDoor
open Go.ChangeShapes Go.WideShapes Go.ChangeAt Go.RowKit
open Mem

/-- A slice of numbers that came in, as the walk is told of it. -/
theorem asks_of {H : Type} {enc : TypeId × Value → H} {W : World} {ra : Option Addr} {K cap : Nat} {d : DataW H} {p : List MemPlace} (h : DataW.Trod enc Tryz.prog W 0 (fun _ => true) true 55 (Value.slice ra K cap) d p) : K ≤ 9223372036854775807 ∧ ∃ nums, Asks W ra K nums := by
  obtain ⟨fuel, hf⟩ := h
  rcases Deep.open_slice Tryz.underlying55 hf with ⟨hcs, _⟩ | ⟨a, len, cap', m, n, D, Pl, hcs, _, hl, hm, hmm, _, hx⟩
  · simp [Value.cells] at hcs
    obtain ⟨rfl, rfl, rfl⟩ := hcs
    exact ⟨by omega, fun _ => 0, fun h => absurd h (by omega), fun i h => absurd h (by omega)⟩
  · simp [Value.cells] at hcs
    obtain ⟨rfl, rfl, rfl⟩ := hcs
    have hlm : K ≤ m := by rw [hmm]; split <;> omega
    refine ⟨by unfold maxLen at hm; omega, ?_⟩
    rw [cells3] at hx
    have each : ∀ i, i < K → ∃ t : Int, W.cell? (a.add i) = some (.int .i64 t) ∧ (Lit.int .i64 t).wf = true := by
      intro i hi
      obtain ⟨cs', h1, h2⟩ := hx i (by omega)
      obtain ⟨_, hlen, hcell⟩ := World.cells?_some h1
      obtain ⟨x0, e0, _, w0⟩ := DataW.trod_int Tryz.underlying3 h2
      subst e0
      have c0 := hcell 0 (by simp)
      rw [Deep.add_add] at c0
      exact ⟨x0, by simpa using c0, w0⟩
    obtain ⟨nums, hr⟩ := Deep.choose_lt each
    refine ⟨nums, fun h0 => ?_, fun i hi => wf_i64 (hr i hi).2⟩
    have hsp := spot_none (hr 0 h0).1
    obtain ⟨b, o, sp⟩ := a
    simp [Addr.add] at hsp
    subst hsp
    refine ⟨b, o, rfl, World.block_lt_of_cell? W _ (hr 0 h0).1, fun i hi => ?_⟩
    have hh := (hr i hi).1
    rw [add_none] at hh
    exact hh

set_option maxRecDepth 100000 in
theorem paged_contract (ht : TownSaid) (H : Type) (enc : TypeId × Value → H) (W : World) (base : Nat) (args : Array Value) (ds gs : List (DataW H)) (before : List MemPlace)
    (hval : ∀ (j : Nat) t v, Tryz.f6.params[j]? = some t → args[j]? = some v → Value.okWide Tryz.prog W .any base t v)
    (hW : DataW.Whole enc Tryz.prog Tryz.f6.params.toList Rows.pagedSpec.vars false W args.toList ds gs before) (hsh : W.ShapedOpen Tryz.prog) :
    Calls Tryz.prog 6 args W fun e W' => ∃ v, e = .returned v ∧ Rows.pagedSpec.post enc Tryz.prog Tryz.f6 false true false false W args v W' := by
  have hW' := hW
  obtain ⟨p, q, hA0, hV, rfl, hfz, hnd⟩ := hW
  have hA : DataW.TrodAll enc Tryz.prog W 0 (fun _ => true) true Tryz.f6.params.toList args.toList ds p := hA0
  rw [Tryz.params6] at hA hval
  obtain ⟨v0, vs0, d0, ds0, p0, q0, hargs, rfl, rfl, h0, r0⟩ := trodAll_cons hA
  obtain ⟨v1, vs1, d1, ds1, p1, q1, rfl, rfl, rfl, h1, r1⟩ := trodAll_cons r0
  obtain ⟨v2, vs2, d2, ds2, p2, q2, rfl, rfl, rfl, h2, r2⟩ := trodAll_cons r1
  obtain ⟨rfl, rfl, rfl⟩ := trodAll_nil r2
  obtain rfl : args = #[v0, v1, v2] := by cases args; simp_all
  obtain ⟨rfl, rfl⟩ := trodVars_none hV
  obtain ⟨ra, K, cap, rfl⟩ := okWide_slice Tryz.underlying22 (hval 1 22 v1 rfl rfl)
  obtain ⟨rn, KN, capN, rfl⟩ := okWide_slice Tryz.underlying55 (hval 2 55 v2 rfl rfl)
  have k1 := h1
  have k2 := h2
  have lt2 : ∀ x ∈ p2, x.block < W.heap.size := by obtain ⟨m, hm⟩ := k2; exact DataW.trod_lt m _ _ _ hm
  obtain ⟨hKN, nums, hNums⟩ := asks_of h2
  have lt1 : ∀ x ∈ p1, x.block < W.heap.size := by obtain ⟨m, hm⟩ := k1; exact DataW.trod_lt m _ _ _ hm
  obtain ⟨hK, raw, hRaw⟩ := raw_of h1
  obtain ⟨a0, rfl, rfl, rfl, w0⟩ := open_int Tryz.underlying3 (hval 0 3 v0 rfl rfl) h0
  clear hA0
  refine (paged_any ht W a0 ra rn K cap KN capN raw nums (wf_i64 w0).1 (wf_i64 w0).2 hK hRaw hKN hNums (ml_of_shaped hsh)).mono fun e W' ⟨he, hT⟩ => ?_
  subst he
  have bel := hT.below
  exact ⟨_, rfl, _, _, _, [], _, [], hW', trodAll_mk1 (shut_bool Tryz.underlying4 _), (trodAll_cons_mk (shut_int Tryz.underlying3 w0) (trodAll_cons_mk (Below.trod laidOut (by kernel_rfl) (of_decide_eq_true (by kernel_rfl)) k1 bel lt1) (trodAll_cons_mk (Below.trod laidOut (by kernel_rfl) (of_decide_eq_true (by kernel_rfl)) k2 bel lt2) trodAll_mk0))), rfl, bel.frame _, fun h => by cases h⟩

theorem paged_laid (os : Os) : laidMet Tryz.prog Rows.pagedRow.laid ((laidWorld os).forCall (fun _ _ => 0) ⟨#[], #[.int .i64 0, .slice none 0 0, .slice none 0 0], []⟩).memory :=
  laidMet_of_run' 8 (by kernel_rfl) (by kernel_rfl)
theorem paged_reads (os : Os) {H : Type} (enc : TypeId × Value → H) : ∃ places, DataW.whole enc Tryz.prog ((laidWorld os).forCall (fun _ _ => 0) ⟨#[], #[.int .i64 0, .slice none 0 0, .slice none 0 0], []⟩).memory Tryz.f6.params.toList Rows.pagedSpec.vars false #[Value.int .i64 0, .slice none 0 0, .slice none 0 0].toList 8 = some ([.lit (.int .i64 0), .nil, .nil], [], places) :=
  ⟨[], by kernel_rfl⟩

set_option maxRecDepth 100000 in
theorem paged_lifted (ht : TownSaid) (os : Os) (started : os.Started) (H : Type) (enc : TypeId × Value → H) (F : Stop.Interp) :
    ReturnsInHanded {} Tryz.checked os 6 .any ((OpenSpec.ofChange Rows.pagedSpec).preRow enc Tryz.prog Tryz.f6 Rows.pagedRow.domain false Rows.pagedRow.laid) (((OpenSpec.ofChange Rows.pagedSpec).at F).post enc Tryz.prog Tryz.f6 false true false false) := by
  obtain ⟨places, hx⟩ := paged_reads os enc
  refine returnsInHanded_of_row (C := Tryz.checked) (s := OpenSpec.ofChange Rows.pagedSpec) own started (by kernel_rfl) Tryz.func6
    (witness_row_at (enc := enc) (C := Tryz.checked) false (laidWorld os) #[.int .i64 0, .slice none 0 0, .slice none 0 0] rfl (by kernel_rfl) (by kernel_rfl) (by kernel_rfl)
      (OpenSpec.preRow_of_cond 8 hx (by kernel_rfl) (fun k hk => by cases hk) (by kernel_rfl) (paged_laid os))) ?_
  intro W base args ds gs before hval hW _ _ _ _ hsh _
  exact paged_contract ht H enc W base args ds gs before hval hW hsh

theorem paged_said (ht : TownSaid) : Rows.PagedSaid :=
  OpenClaim.holds_of_cond 6 Tryz.f6 rfl rfl rfl rfl rfl rfl rfl ⟨rfl, rfl, rfl, rfl, rfl⟩ rfl rfl rfl rfl rfl (by kernel_rfl) Tryz.func6 (by kernel_rfl)
    (of_decide_eq_true (by kernel_rfl)) (by unfold Func.isWrapper; first | (rw [if_pos (by decide +kernel)]; kernel_rfl) | (rw [if_neg (by decide +kernel)]; exact ⟨rfl, rfl⟩))
    (fun os started H enc _ F => by rw [OpenClaim.pre_eq_preRow]; exact paged_lifted ht os started H enc F)

/-- No parameter wants a stand-in; the program's own looks are off. -/
theorem paged_plain (f : FuncId) (fn : Func) (hf : Tryz.pinned.checked.prog.funcNamed "byway/bywaykeep.Paged" = some f) (hfn : Tryz.pinned.checked.prog.funcs[f]? = some fn) :
    false = Tryz.pinned.checked.prog.looks [] ∧ ∀ (j : Nat) t, fn.params[j]? = some t → Tryz.pinned.checked.prog.wantsStandIn t = false := by
  obtain rfl : f = 6 := Option.some.inj ((show Tryz.prog.funcNamed "byway/bywaykeep.Paged" = some 6 by kernel_rfl).symm.trans hf) |>.symm
  obtain rfl : fn = Tryz.f6 := (Option.some.inj (Tryz.func6.symm.trans hfn)).symm
  refine ⟨by kernel_rfl, fun j t ht => ?_⟩
  rw [Tryz.params6] at ht
  have h : t = 3 ∨ t = 22 ∨ t = 55 := by simpa using Array.mem_of_getElem? ht
  rcases h with rfl | rfl | rfl
  · exact (show Tryz.prog.wantsStandIn 3 = false by kernel_rfl)
  · exact (show Tryz.prog.wantsStandIn 22 = false by kernel_rfl)
  · exact (show Tryz.prog.wantsStandIn 55 = false by kernel_rfl)

theorem paged_card_of (ht : TownSaid) : Rows.PagedCardSaid :=
  Claim7.holds_tied_plain_at .later [] _ _ _ _ (paged_said ht) (fun _ h => by cases h) (by kernel_rfl) (fun _ h => by cases h) paged_row_tie rfl ⟨rfl, rfl⟩ (by kernel_rfl) rfl paged_plain (by kernel_rfl)
#print axioms paged_card_of
end Go.Proofs.YtdogncjcainhlaaGreatDoor
