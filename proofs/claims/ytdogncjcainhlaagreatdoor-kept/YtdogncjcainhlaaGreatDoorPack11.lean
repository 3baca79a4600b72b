/- Pack11: texts of one proof, one behind the other. -/
import Derived.Test.YtdogncjcainhlaaGreatDoorPack10
import Derived.Test.YtdogncjcainhlaaGreatDoorPack8
import Derived.Test.YtdogncjcainhlaaGreatDoorPlain
import Derived.Test.YtdogncjcainhlaaGreatDoorPack3
import Derived.Test.YtdogncjcainhlaaGreatDoorPack2
import Derived.Test.YtdogncjcainhlaaGreatDoorPack6
import Derived.Test.YtdogncjcainhlaaGreatDoorPack9
import Derived.Deep.RegionHeld3
import Derived.Shelf.SlSortCmp.NoneTotal
import Derived.Test.YtdogncjcainhlaaGreatDoorProg
import Derived.Test.YtdogncjcainhlaaGreatDoorPack5
import Derived.Shelf.SlicesE.Clone
/- The walk of ranks.byRoads. -/
namespace Go.Proofs.YtdogncjcainhlaaGreatDoor
open Go.RowKit Go.Deep
open Mem

/-- What holds ahead of each round: the first k places stand in the order, with their roads. -/
structure ByK (w : World) (n : Nat) (d : Nat → Nat) (k : Nat) (wr : World) : Prop where
  ord : Ints wr w.heap.size n (fun j => if j < k then (j : Int) else 0)
  rds : Ints wr (w.heap.size + 1) n (fun j => if j < k then (d j : Int) else 0)
  box : wr.cell? ⟨w.heap.size + 1 + 1, 0, none⟩ = some (.slice (some ⟨w.heap.size + 1, 0, none⟩) n n)
  turns : Turns (fun _ => False) w wr
theorem ByK.next {w wr wb : World} {n k : Nat} {d : Nat → Nat} (h : ByK w n d k wr) (hk : k < n) (t : Turns (fun _ => False) (wr.setCell ⟨w.heap.size, k, none⟩ (.int .i64 (k : Int))) wb) : ByK w n d (k + 1) (wb.setCell ⟨w.heap.size + 1, k, none⟩ (.int .i64 (d k : Int))) := by
  have t0 : Turns (fun x => x = w.heap.size) wr (wr.setCell ⟨w.heap.size, k, none⟩ (.int .i64 (k : Int))) := Turns.setCell (p := fun x => x = w.heap.size) (Turns.refl _ wr) (Or.inr rfl) _
  have t1 : Turns (fun x => x = w.heap.size + 1) wb (wb.setCell ⟨w.heap.size + 1, k, none⟩ (.int .i64 (d k : Int))) := Turns.setCell (p := fun x => x = w.heap.size + 1) (Turns.refl _ wb) (Or.inr rfl) _
  have o1 := ((h.ord.set hk (k : Int)).turns t (fun x => x)).turns t1 (by omega)
  have r1 := (((h.rds.turns t0 (by omega)).turns t (fun x => x)).set hk (d k : Int))
  refine ⟨o1.congr (fun j hj => ?_), r1.congr (fun j hj => ?_), ?_, ?_⟩
  · unfold upd; by_cases e : j = k
    · rw [if_pos e, if_pos (by omega), e]
    · rw [if_neg e]; dsimp only; by_cases c : j < k
      · rw [if_pos c, if_pos (by omega)]
      · rw [if_neg c, if_neg (by omega)]
  · unfold upd; by_cases e : j = k
    · rw [if_pos e, if_pos (by omega), e]
    · rw [if_neg e]; dsimp only; by_cases c : j < k
      · rw [if_pos c, if_pos (by omega)]
      · rw [if_neg c, if_neg (by omega)]
  · have hb := World.block_lt_of_cell? _ _ h.box
    have c1 := (t0.cell (a := ⟨w.heap.size + 1 + 1, 0, none⟩) hb (fun c => by have c' : w.heap.size + 1 + 1 = w.heap.size := c; omega)).trans h.box
    have c2 := (t.cell (World.block_lt_of_cell? _ _ c1) (fun x => x)).trans c1
    exact (t1.cell (a := ⟨w.heap.size + 1 + 1, 0, none⟩) (World.block_lt_of_cell? _ _ c2) (fun c => by have c' : w.heap.size + 1 + 1 = w.heap.size + 1 := c; omega)).trans c2
  · exact ((h.turns.setCell (Or.inl (Nat.le_refl _)) _).trans t).setCell (Or.inl (Nat.le_succ _)) _

theorem ByK.drew {w wr : World} {n k : Nat} {d : Nat → Nat} (h : ByK w n d k wr) : ByK w n d k wr.drew :=
  ⟨h.ord.turns (Turns.refl (fun _ => False) wr).drew (fun x => x), h.rds.turns (Turns.refl (fun _ => False) wr).drew (fun x => x), h.box, h.turns.drew⟩
set_option maxRecDepth 100000 in
set_option maxHeartbeats 1000000 in
theorem byRoads_any (w : World) (b n : Nat) (R : Int) (len : Nat → Nat → Int) (hn1 : 1 ≤ n) (hn : n ≤ 40) (hM : MapAt w b n R len) (N : Pu.Net n len) :
    Calls Tryz.prog 89 #[.pointer (some ⟨b, 0, none⟩)] w fun e w' => ∃ ob, e = .returned (.slice (some ⟨ob, 0, none⟩) n n) ∧ Turns (fun _ => False) w w' ∧ Ord w' ob n (Pu.ranked (fun v => Pu.rowCnt len v n) n) := by
  have hmk := run_make_row' (P := Tryz.prog) 55 3 (.int .i64 0) 8 Tryz.underlying55 info3 rfl .i64 .i64 n (by omega) (by omega)
  have hp := hM.places
  have hbl := hM.lt
  have HM : Hid (∀ wx, Turns (fun _ => False) w wx → MapAt wx b n R len) := fun wx hx => hM.turns hx (fun x => x)
  have HC : Hid (∀ wx (k : Nat), k < n → Turns (fun _ => False) w wx → Calls Tryz.prog 140 #[.pointer (some ⟨b, 0, none⟩), .int .i64 k] wx fun e w' => e = .returned (.int .i64 (Pu.rowCnt len k n : Nat)) ∧ w' = wx) := fun wx k hk hx => count_any wx b n k R len hn hk (hM.turns hx (fun x => x)) N
  have HL : Hid (∀ k, Pu.rowCnt len k n ≤ n) := fun k => Pu.rowCnt_le' len k n
  generalize hdd : (fun v => Pu.rowCnt len v n) = d at *
  have HD : Hid (∀ k, Pu.rowCnt len k n = d k) := fun k => by rw [← hdd]
  clear hM N hdd
  go_enter Tryz.func89, Tryz.ntmps89
  go_wp2
  go_loopw [18] (fun iv wr => ∃ k : Nat, k ≤ n ∧ iv = .int .i64 k ∧ ByK w n d k wr) (fun iv _ => n - (intOf iv).toNat)
  case atStart =>
    refine ⟨0, Nat.zero_le _, rfl, ?_, ?_, ?_, ?_⟩
    · exact ((((Ints.made w n 3 0).turns ((Turns.refl (fun _ => False) _).alloc _) (fun x => x)).turns ((Turns.refl (fun _ => False) _).alloc _) (fun x => x))).congr (fun j _ => by simp)
    · have := (Ints.made (w.alloc (.cells (madeCells #[.int .i64 0] n) 3)) n 3 0).turns ((Turns.refl (fun _ => False) _).alloc (.cells #[.slice (some ⟨w.heap.size + 1, 0, none⟩) n n] 55)) (fun x => x)
      exact (by simpa using this : Ints _ (w.heap.size + 1) n (fun _ => 0)).congr (fun j _ => by simp)
    · have := World.cell?_alloc_new (w := (w.alloc (.cells (madeCells #[.int .i64 0] n) 3)).alloc (.cells (madeCells #[.int .i64 0] n) 3)) #[.slice (some ⟨w.heap.size + 1, 0, none⟩) n n] 55 0
      simpa using this
    · exact (((Turns.refl _ w).alloc _).alloc _).alloc _
  case round =>
    obtain ⟨k, hk, rfl, hK⟩ := hrel
    by_cases hkn : k < n
    · have hki : (k : Int) < (n : Int) := by omega
      have hca := hK.ord.cell k hkn
      have hfa := hK.ord.free k hkn
      have HK : Hid (ByK w n d k wr) := hK
      have t0 : Turns (fun x => x = w.heap.size) wr (wr.setCell ⟨w.heap.size, k, none⟩ (.int .i64 (k : Int))) := Turns.setCell (p := fun x => x = w.heap.size) (Turns.refl _ wr) (Or.inr rfl) _
      have hI2 := hK.rds.turns t0 (by omega)
      have e1 := (t0.cell (a := ⟨w.heap.size + 1 + 1, 0, none⟩) (World.block_lt_of_cell? _ _ hK.box) (fun c => by have c' : w.heap.size + 1 + 1 = w.heap.size := c; omega)).trans hK.box
      have e2 := hI2.cell k hkn
      have e3 := hI2.free k hkn
      have HTT : Hid (Turns (fun _ => False) w (wr.setCell ⟨w.heap.size, k, none⟩ (.int .i64 (k : Int)))) := hK.turns.setCell (Or.inl (Nat.le_refl _)) _
      have hlk : ¬ k < k := by omega
      simp only [if_neg hlk] at hca e2
      clear hK t0 hI2
      go_wp2_with fail
      go_region_held3 (fun w' => w'.cell? ⟨w.heap.size + 1 + 1, 0, none⟩ = some (.slice (some ⟨w.heap.size + 1, 0, none⟩) n n)) (go_keep)
        (first | (go_at_call 140; refine (HC.out _ k hkn (by first | exact HTT.out | exact HTT.out.drew | exact HTT.out.drewN _)).mono ?_; rintro e9 w9 ⟨rfl, hw9⟩; subst hw9))
      all_goals
        have HX : Hid (ByK w n d (k + 1) (((wr.setCell ⟨w.heap.size, k, none⟩ (.int .i64 (k : Int))).setCell ⟨w.heap.size + 1, k, none⟩ (.int .i64 (Pu.rowCnt len k n : Nat))).drew)) := by
          rw [HD.out k]
          exact (HK.out.next hkn (Turns.refl _ _)).drew
        clear HK HTT e1 e2 e3 hca hfa
        go_wp2
        go_roundw
        case measure => simp [intOf]; omega
        case rel => exact ⟨k + 1, by omega, by go_num, HX.out⟩
    · have hke : k = n := by omega
      subst hke
      have hki : ¬ (k : Int) < (k : Int) := by omega
      have c := sort_any wr w.heap.size k (w.heap.size + 1 + 1) (w.heap.size + 1) k d hn1 hn (fun x _ => by rw [← HD.out x]; exact HL.out x)
        (fun j hj => ⟨by have := hK.ord.cell j hj; simpa [hj] using this, hK.ord.free j hj⟩) hK.box (fun j hj => by have := hK.rds.cell j hj; simpa [hj] using this) (by omega) (by omega)
      have HT : Hid (Turns (fun _ => False) w wr) := hK.turns
      have hbx := hK.box
      clear hK
      go_wp2_with fail
      refine c.mono ?_
      rintro e9 w9 ⟨rfl, hT9, hO9⟩
      have HX : Hid (Turns (fun _ => False) w w9 ∧ Ord w9 w.heap.size k (Pu.ranked d k)) := ⟨HT.out.join hT9 (fun q hq _ c => by omega), hO9⟩
      clear c hT9 hO9 hbx
      go_wp2
      go_ret
      exact ⟨w.heap.size, rfl, HX.out.1, HX.out.2⟩
#print axioms byRoads_any
end Go.Proofs.YtdogncjcainhlaaGreatDoor
/- The walks of byway.rankAndLabel and byway.Labels, where the order is not empty. -/
namespace Go.Proofs.YtdogncjcainhlaaGreatDoor
open Go.RowKit Go.Deep
open Mem

/-- What rankAndLabel hands back, o being the order that was asked for. -/
def RalPost (w : World) (r : Pu.Res) (o : Nat → (Nat → Nat → Int) → Option (List Nat)) (e : Ending) (w' : World) : Prop := Turns (fun _ => False) w w' ∧ match r with
  | .err c p => e = .returned (.tuple #[.slice none 0 0, .slice none 0 0, .int .i64 c, .int .i64 p])
  | .ok n _ len => match o n len with
    | none => e = .returned (.tuple #[.slice none 0 0, .slice none 0 0, .int .i64 4, .int .i64 0])
    | some O => ∃ (D : Nat → Nat → Int) (ob ocap : Nat) (v : Value), (∀ i, i < n → Pu.Dist n len i (D i)) ∧ e = .returned (.tuple #[.slice (some ⟨ob, 0, none⟩) n ocap, v, .int .i64 0, .int .i64 0]) ∧ Ord w' ob n O ∧ w'.ownsRow w.heap.size 120 3 v (Pu.labP D O n).length (Pu.rdVals (Pu.labP D O n))
/-- What Labels hands back, o being the order that was asked for. -/
def LabPost (w : World) (r : Pu.Res) (o : Nat → (Nat → Nat → Int) → Option (List Nat)) (e : Ending) (w' : World) : Prop := Turns (fun _ => False) w w' ∧ match r with
  | .err c p => e = .returned (.tuple #[.slice none 0 0, .int .i64 c, .int .i64 p])
  | .ok n _ len => match o n len with
    | none => e = .returned (.tuple #[.slice none 0 0, .int .i64 4, .int .i64 0])
    | some O => ∃ (D : Nat → Nat → Int) (v : Value), (∀ i, i < n → Pu.Dist n len i (D i)) ∧ e = .returned (.tuple #[v, .int .i64 0, .int .i64 0]) ∧ w'.ownsRow w.heap.size 120 3 v (Pu.labP D O n).length (Pu.rdVals (Pu.labP D O n))

set_option maxHeartbeats 400000 in
theorem ral_err (x s : ByteArray) (w : World) (o : Nat → (Nat → Nat → Int) → Option (List Nat)) (hx : x.size ≤ maxLen) (hm : Ml w) (c p : Int) (hp : Pu.parse x.data.toList = .err c p) :
    Calls Tryz.prog 23 #[.string x, .string s] w (RalPost w (.err c p) o) := by
  have k := parseMap_any x w hx hm
  rw [hp] at k
  have he := Pu.parse_err hp
  have hne : (c != 0) = true := by simp; omega
  clear hp he
  go_enter Tryz.func23, Tryz.ntmps23
  go_wp2_with (go_at_call 41; refine k.mono ?_; rintro e w1 ⟨hT, rfl⟩)
  exact bodyPost_ret (v := .tuple #[.slice none 0 0, .slice none 0 0, .int .i64 c, .int .i64 p]) (by simp [results, Tryz.results23, go_sem]) rfl ⟨‹_›, rfl⟩

/-- The order and the labels of a map by whatever order: r is what ranks.Parse makes of it. -/
theorem ral_ok (x s : ByteArray) (w : World) (o : Nat → (Nat → Nat → Int) → Option (List Nat)) (hx : x.size ≤ maxLen) (hm : Ml w) (n q : Nat) (len : Nat → Nat → Int) (hp : Pu.parse x.data.toList = .ok n q len)
    (hr : ∀ w1 b, Turns (fun _ => False) w w1 → MapAt w1 b n q len → Calls Tryz.prog 54 #[.pointer (some ⟨b, 0, none⟩), .string s] w1 (RankPost w1 n (o n len))) :
    Calls Tryz.prog 23 #[.string x, .string s] w (RalPost w (.ok n q len) o) := by
  have k := parseMap_any x w hx hm
  rw [hp] at k
  obtain ⟨hn1, hn2, _, hN⟩ := Pu.parse_ok hp
  have hDD : ∀ i, ∃ far, Pu.Dist n len i far := fun i => Pu.Dist.any hN.lens hn2
  obtain ⟨D, hD⟩ : ∃ D : Nat → Nat → Int, ∀ i, Pu.Dist n len i (D i) := ⟨fun i => Classical.choose (hDD i), fun i => Classical.choose_spec (hDD i)⟩
  clear hp
  go_enter Tryz.func23, Tryz.ntmps23
  go_wp2_with fail
  refine k.mono ?_
  rintro e w1 ⟨hT1, b, rfl, hb, hM⟩
  have c2 := hr w1 b hT1 hM
  have HO : Hid (o n len = o n len) := rfl
  cases ho : o n len with
  | none =>
    rw [ho] at c2
    clear k
    go_wp2_with fail
    refine c2.mono ?_
    rintro e w2 ⟨hT2, rfl⟩
    have HX : Hid (RalPost w (.ok n q len) o (.returned (.tuple #[.slice none 0 0, .slice none 0 0, .int .i64 4, .int .i64 0])) w2) := by
      refine ⟨hT1.trans hT2, ?_⟩
      dsimp only
      rw [ho]
    clear c2 hT1 hT2 ho hr hD hDD HO
    go_wp2
    exact bodyPost_ret (v := .tuple #[.slice none 0 0, .slice none 0 0, .int .i64 4, .int .i64 0]) (by simp [results, Tryz.results23, go_sem]) rfl HX.out
  | some O =>
    rw [ho] at c2
    clear k
    go_wp2_with fail
    refine c2.mono ?_
    rintro e w2 ⟨hT2, ob, ocap, rfl, hOr, hoc⟩
    have c3 := hubs_any w2 b n ob ocap q len D O hn1 hn2 (hM.turns hT2 (fun x => x)) hN.lens (fun i _ => hD i) hOr hoc
    have hsz := (hT1.trans hT2).size
    have HX : Hid (∀ v w3, Turns (fun _ => False) w2 w3 → w3.ownsRow w2.heap.size 120 3 v (Pu.labP D O n).length (Pu.rdVals (Pu.labP D O n)) → RalPost w (.ok n q len) o (.returned (.tuple #[.slice (some ⟨ob, 0, none⟩) n ocap, v, .int .i64 0, .int .i64 0])) w3) := by
      intro v w3 hT3 hown
      refine ⟨(hT1.trans hT2).trans hT3, ?_⟩
      dsimp only
      rw [ho]
      exact ⟨D, ob, ocap, v, fun i _ => hD i, rfl, hOr.turns hT3, owns_mono hown hsz⟩
    clear c2 hT1 hT2 ho hr hD hDD HO hOr hM
    go_wp2_with fail
    refine c3.mono ?_
    rintro e w3 ⟨hT3, v, rfl, hown⟩
    have HY : Hid (RalPost w (.ok n q len) o (.returned (.tuple #[.slice (some ⟨ob, 0, none⟩) n ocap, v, .int .i64 0, .int .i64 0])) w3) := HX.out v w3 hT3 hown
    clear c3 hT3 hown HX
    go_wp2
    exact bodyPost_ret (v := .tuple #[.slice (some ⟨ob, 0, none⟩) n ocap, v, .int .i64 0, .int .i64 0]) (by simp [results, Tryz.results23, go_sem]) rfl HY.out
end Go.Proofs.YtdogncjcainhlaaGreatDoor
/- The walk of byway.rankAndLabel, whatever the order. -/
namespace Go.Proofs.YtdogncjcainhlaaGreatDoor
open Go.RowKit Go.Deep
open Mem

set_option maxRecDepth 100000 in
set_option maxHeartbeats 1000000 in
/-- ranks.Parse of the empty text: the order by roads. -/
theorem rank_empty (s : ByteArray) (w : World) (b n : Nat) (R : Int) (len : Nat → Nat → Int) (hs : s.size = 0) (hn1 : 1 ≤ n) (hn : n ≤ 40) (hM : MapAt w b n R len) (N : Pu.Net n len) :
    Calls Tryz.prog 54 #[.pointer (some ⟨b, 0, none⟩), .string s] w (RankPost w n (some (Pu.ranked (fun v => Pu.rowCnt len v n) n))) := by
  have he := empty_of hs
  have c := byRoads_any w b n R len hn1 hn hM N
  generalize Pu.ranked (fun v => Pu.rowCnt len v n) n = O at *
  clear hM N
  go_enter Tryz.func54, Tryz.ntmps54
  go_wp2_with fail
  refine c.mono ?_
  rintro e w1 ⟨ob, rfl, hT, hO⟩
  have HX : Hid (RankPost w n (some O) (.returned (.tuple #[.slice (some ⟨ob, 0, none⟩) n n, .bool true])) w1) := ⟨hT, ob, n, rfl, hO, Nat.le_refl _⟩
  clear c hT hO
  go_wp2
  exact bodyPost_ret (v := .tuple #[.slice (some ⟨ob, 0, none⟩) n n, .bool true]) (by simp [results, Tryz.results54, go_sem]) rfl HX.out

/-- byway.rankAndLabel, of any text by any order. -/
theorem ral_any (x s : ByteArray) (w : World) (hx : x.size ≤ maxLen) (hm : Ml w) (hs : s.size ≤ 2000000) :
    Calls Tryz.prog 23 #[.string x, .string s] w (RalPost w (Pu.parse x.data.toList) (Pu.orderOf s.data.toList)) := by
  have e : s.data.toList.length = s.size := by simp
  cases hp : Pu.parse x.data.toList with
  | err c p => exact ral_err x s w _ hx hm c p hp
  | ok n q len =>
    obtain ⟨hn1, hn2, _, hN⟩ := Pu.parse_ok hp
    refine ral_ok x s w _ hx hm n q len hp (fun w1 b hT hM => ?_)
    unfold Pu.orderOf
    by_cases h : s.size = 0
    · rw [if_pos (by rw [e]; exact h)]
      exact rank_empty s w1 b n q len h hn1 hn2 hM hN
    · rw [if_neg (by rw [e]; exact h)]
      exact rank_any s w1 b n q len (by omega) hs hn1 hn2 hM (hm.turns hT (fun x => x))
end Go.Proofs.YtdogncjcainhlaaGreatDoor
/- The walk of byway.Save. -/
namespace Go.Proofs.YtdogncjcainhlaaGreatDoor
open Go.RowKit Go.Deep
open Mem

theorem Cov.hubs {n : Nat} {len D : Nat → Nat → Int} {O : List Nat} (C : Pu.Cov n len D O) : ∀ (v i r : Nat) (f : Int), v < n → (Pu.hubK D O v n)[i]? = some (r, f) → r < n ∧ Pu.nxt 0 ((Pu.hubK D O v n).take i) ≤ r ∧ 0 ≤ f ∧ f ≤ 40000 := by
  intro v i k f hv hi
  obtain ⟨hk, h, h1, h2, h3⟩ := Pu.hubK_mem2 n (List.mem_of_getElem? hi)
  have hr := (Pu.hubK_rise D O v n).2 i k f hi
  have hd := C.rng hv (C.perm.lt h (List.mem_of_getElem? h1))
  have hne := (Pu.isHub_iff.1 h3).1
  exact ⟨hk, hr, by omega, by omega⟩

set_option maxRecDepth 100000 in
set_option maxHeartbeats 1000000 in
/-- byway.Save, of any text by any order. -/
theorem save_any (x s : ByteArray) (w : World) (hx : x.size ≤ maxLen) (hm : Ml w) (hs : s.size ≤ 2000000) :
    Calls Tryz.prog 9 #[.string x, .string s] w (RSavePost w (Pu.parse x.data.toList) (Pu.orderOf s.data.toList)) := by
  have k := ral_any x s w hx hm hs
  unfold RalPost at k
  unfold RSavePost
  cases hp : Pu.parse x.data.toList with
  | err c p =>
    rw [hp] at k
    have he := Pu.parse_err hp
    have hne : (c != 0) = true := by simp; omega
    dsimp only at k ⊢
    clear hp he
    go_enter Tryz.func9, Tryz.ntmps9
    go_wp2_with fail
    refine k.mono ?_
    rintro e w1 ⟨hT, rfl⟩
    have HT : Hid (Turns (fun _ => False) w w1) := hT
    clear k hT
    go_wp2
    exact bodyPost_ret (v := .tuple #[.string ⟨#[]⟩, .int .i64 c, .int .i64 p]) (by simp [results, Tryz.results9, go_sem]) rfl ⟨HT.out, rfl⟩
  | ok n q len =>
    rw [hp] at k
    obtain ⟨hn1, hn2, _, hN⟩ := Pu.parse_ok hp
    dsimp only at k ⊢
    cases ho : Pu.orderOf s.data.toList n len with
    | none =>
      rw [ho] at k
      dsimp only at k ⊢
      clear hp ho
      go_enter Tryz.func9, Tryz.ntmps9
      go_wp2_with fail
      refine k.mono ?_
      rintro e w1 ⟨hT, rfl⟩
      have HT : Hid (Turns (fun _ => False) w w1) := hT
      clear k hT
      go_wp2
      exact bodyPost_ret (v := .tuple #[.string ⟨#[]⟩, .int .i64 4, .int .i64 0]) (by simp [results, Tryz.results9, go_sem]) rfl ⟨HT.out, rfl⟩
    | some O =>
      rw [ho] at k
      dsimp only at k ⊢
      have hP : Pu.Perm n O := Pu.orderOf_perm ho
      clear hp ho
      go_enter Tryz.func9, Tryz.ntmps9
      go_wp2_with fail
      refine k.mono ?_
      rintro e w1 ⟨hT, D, ob, ocap, v, hD, rfl, hO, hown⟩
      obtain ⟨a, c, hv, hRd⟩ := rdAt_own hown
      subst hv
      have C : Pu.Cov n len D O := ⟨hN, hD, hP⟩
      have hL := Pu.heldB_len (L := fun v => Pu.hubK D O v n) hP.len hn2 (fun v _ => Pu.hubK_len D O v n)
      have cw := recWrite_any w1 ob n ocap c a D O hn1 hn2 hO hP hRd (Cov.hubs C)
      obtain ⟨H, hH⟩ : ∃ H : ByteArray, H = ⟨(Pu.heldB O (fun v => Pu.hubK D O v n) n).toArray⟩ := ⟨_, rfl⟩
      rw [← hH] at cw
      have cp := fun w => pgwrite_any H w (by rw [hH]; show (Pu.heldB O (fun v => Pu.hubK D O v n) n).length ≤ _; omega)
      have HC : Hid (Pu.Cov n len D O ∧ Pu.paged H.data.toList = Pu.paged (Pu.heldB O (fun v => Pu.hubK D O v n) n)) := ⟨C, by rw [hH]⟩
      obtain ⟨PG, hPG⟩ : ∃ PG, PG = Pu.paged H.data.toList := ⟨_, rfl⟩
      rw [← hPG] at cp
      have HPG : Hid (PG = Pu.paged H.data.toList) := hPG
      have HT : Hid (Turns (fun _ => False) w w1) := hT
      clear k hT hown hRd hO hD C hL hH hPG
      go_wp2_with fail
      refine cw.mono ?_
      rintro e w2 ⟨rfl, hT2⟩
      have HT2 : Hid (Turns (fun _ => False) w w2) := HT.out.trans hT2
      clear cw hT2 HT
      go_wp2_with fail
      refine (cp _).mono ?_
      rintro e w3 ⟨rfl, hT3⟩
      have HT3 : Hid (Turns (fun _ => False) w w3) := HT2.out.trans hT3
      clear cp hT3 HT2
      go_wp2
      exact bodyPost_ret (v := .tuple #[.string ⟨PG.toArray⟩, .int .i64 0, .int .i64 0]) (by simp [results, Tryz.results9, go_sem]) rfl ⟨HT3.out, D, HC.out.1, by rw [HPG.out, HC.out.2]⟩
#print axioms save_any
end Go.Proofs.YtdogncjcainhlaaGreatDoor
/- The walk of the law bywaykeep.Turned. -/
namespace Go.Proofs.YtdogncjcainhlaaGreatDoor
open Go.RowKit Go.Deep
open Mem

set_option maxHeartbeats 400000 in
theorem pick_big (c : Int) (n : Nat) (w : World) (h0 : -9223372036854775808 ≤ c) (h1 : c ≤ 9223372036854775807) (hn : 0 < n) (hn2 : n ≤ 100000) :
    Calls Tryz.prog 10 #[.int .i64 c, .int .i64 n] w fun e w' => e = .returned (.int .i64 (Pu.pick c n)) ∧ w' = w := by
  by_cases hc : c < 0
  · have hz : ((n : Int) == 0) = false := by simp; omega
    have H : Hid (((Pu.pick c n : Nat) : Int) = -((c + 1).tmod (n : Int))) := by
      show _ = _
      unfold Pu.pick; rw [if_pos hc, Int.natCast_emod, Int.toNat_of_nonneg (by omega), ← Int.neg_tmod, Int.tmod_eq_emod_of_nonneg (by omega)]
    go_enter Tryz.func10, Tryz.ntmps10
    go_wp2
    go_ret
    exact ⟨ret_int H.out.symm, rfl⟩
  · have hz : ((n : Int) == 0) = false := by simp; omega
    have H : Hid (((Pu.pick c n : Nat) : Int) = c % (n : Int)) := by
      show _ = _
      unfold Pu.pick; rw [if_neg hc, Int.natCast_emod, Int.toNat_of_nonneg (by omega)]
    go_enter Tryz.func10, Tryz.ntmps10
    go_wp2
    go_ret
    exact ⟨ret_int H.out.symm, rfl⟩
/-- Save of a town by the empty order: pages of some bytes. -/
theorem save_town {w0 : World} {B : Nat} {txt : ByteArray} {n R : Nat} {v : Value} {rb : List Nat} {len : Nat → Nat → Int} (h : TownIs w0 B txt n R v rb len) (w : World) (hm : Ml w) :
    Calls Tryz.prog 9 #[.string txt, .string ⟨#[]⟩] w fun e w' => Turns (fun _ => False) w w' ∧ ∃ (O : List Nat) (D : Nat → Nat → Int) (b : ByteArray), e = .returned (.tuple #[.string b, .int .i64 0, .int .i64 0]) ∧ Pu.Cov n len D O ∧ b.data.toList = Pu.paged (Pu.heldB O (fun v => Pu.hubK D O v n) n) ∧ 32 ≤ b.size ∧ b.size ≤ 2000 ∧ b.size % 32 = 0 := by
  refine (save_any txt ⟨#[]⟩ w (by have := h.size; unfold maxLen; omega) hm (by decide)).mono ?_
  rintro e w' ⟨hT, h2⟩
  refine ⟨hT, ?_⟩
  rw [h.parse] at h2
  dsimp only at h2
  have ho : Pu.orderOf (ByteArray.mk #[]).data.toList n len = some (Pu.ranked (fun v => Pu.rowCnt len v n) n) := by
    unfold Pu.orderOf; rfl
  rw [ho] at h2
  dsimp only at h2
  obtain ⟨D, C, rfl⟩ := h2
  refine ⟨_, D, _, rfl, C, rfl, ?_⟩
  have hn := h.n2
  have hn1 := h.n1
  generalize Pu.ranked (fun v => Pu.rowCnt len v n) n = O at *
  have l1 := Pu.sizesB_len (fun v => Pu.hubK D O v n) n
  have l2 := Pu.labsB_len (fun v => Pu.hubK D O v n) n n (fun v _ => Pu.hubK_len D O v n)
  have l3 := Pu.headB_len O
  have l4 : (3 + 6 * n) * n ≤ 87 * 14 := Nat.mul_le_mul (by omega) hn
  have l5 := C.perm.len
  have l6 : (Pu.heldB O (fun v => Pu.hubK D O v n) n).length ≤ 1300 ∧ 3 ≤ (Pu.heldB O (fun v => Pu.hubK D O v n) n).length := by
    rw [Pu.heldB, List.length_append, List.length_append]; omega
  have l7 := Pu.paged_len (Pu.heldB O (fun v => Pu.hubK D O v n) n)
  have l8 : (ByteArray.mk (Pu.paged (Pu.heldB O (fun v => Pu.hubK D O v n) n)).toArray).size = (Pu.paged (Pu.heldB O (fun v => Pu.hubK D O v n) n)).length := rfl
  rw [l8, l7]
  omega

theorem wrap_one {P : Nat} (h : P < 255) : IntKind.u8.wrap (IntKind.i64.wrap (1 + (P : Int))) = 1 + (P : Int) := by
  have h1 : IntKind.i64.wrap (1 + (P : Int)) = 1 + (P : Int) := by rw [IntKind.wrap_i64]; omega
  rw [h1, IntKind.wrap_u8']
  omega
theorem wrap_two {P : Nat} (h : P < 256) : IntKind.u8.wrap (P : Int) = (P : Int) := by
  rw [IntKind.wrap_u8']
  omega
/-- Bytes that lie in a block, and may be written. -/
structure BytesAt (w : World) (g : Nat) (l : List UInt8) : Prop where
  lt : g < w.heap.size
  cell : ∀ (j : Nat) (c : UInt8), l[j]? = some c → w.cell? ⟨g, j, none⟩ = some (.int .u8 (c.toNat : Int))
  free : ∀ j, j < l.length → w.frozen? ⟨g, j, none⟩ = false
theorem BytesAt.turns {p : Nat → Prop} {w w' : World} {g : Nat} {l : List UInt8} (h : BytesAt w g l) (t : Turns p w w') (hp : ¬ p g) : BytesAt w' g l :=
  ⟨Nat.lt_of_lt_of_le h.lt t.size, fun j c hj => (t.cell (a := ⟨g, j, none⟩) h.lt hp).trans (h.cell j c hj), fun j hj => (t.frozen (a := ⟨g, j, none⟩) h.lt hp).trans (h.free j hj)⟩
theorem BytesAt.set {w : World} {g : Nat} {l : List UInt8} (h : BytesAt w g l) {k : Nat} (hk : k < l.length) (x : UInt8) : BytesAt (w.setCell ⟨g, k, none⟩ (.int .u8 (x.toNat : Int))) g (l.set k x) := by
  refine ⟨by simpa using h.lt, fun j c hj => ?_, fun j hj => by rw [World.frozen?_setCell]; exact h.free j (by simpa using hj)⟩
  by_cases e : j = k
  · subst e
    rw [List.getElem?_set_self hk] at hj
    injection hj with hj
    subst hj
    exact World.cell?_setCell_same _ _ _ (h.cell j l[j] (List.getElem?_eq_getElem hk))
  · rw [List.getElem?_set_ne (by omega)] at hj
    rw [World.cell?_setCell_other _ _ _ _ (by intro c; injection c with _ c; omega)]
    exact h.cell j c hj
theorem bytes_of (b : ByteArray) (w : World) : ∃ (cap : Nat) (w' : World), (convert 9 31 (.string b)).run Tryz.prog w = .ok (.slice (some ⟨w.heap.size, 0, none⟩) b.size cap) w' ∧ Turns (fun _ => False) w w' ∧ BytesAt w' w.heap.size b.data.toList := by
  refine ⟨_, _, run_bytes_of_string (P := Tryz.prog) w 9 31 5 b Tryz.underlying9 Tryz.underlying31 Tryz.underlying5, ((Turns.refl _ w).drew).alloc _, ⟨by simp, ?_, ?_⟩⟩
  · intro j c hj
    have hj2 : j < b.data.size := by
      have := (List.getElem?_eq_some_iff.1 hj).1
      simpa using this
    have hc : (w.drew.alloc (.cells (bytesRow b (grownCap w b.size 0 5)) 5 ((bytesRow b (grownCap w b.size 0 5)).size, (bytesRow b (grownCap w b.size 0 5)).size + 1))).heap[w.heap.size]? = some (.cells (bytesRow b (grownCap w b.size 0 5)) 5 ((bytesRow b (grownCap w b.size 0 5)).size, (bytesRow b (grownCap w b.size 0 5)).size + 1)) := Array.getElem?_push_size
    rw [Lib.cell_of_heap hc, bytesRow_at b _ j hj2]
    rw [List.getElem?_eq_getElem (by simpa using hj2)] at hj
    injection hj with hj
    rw [← hj]; rfl
  · intro j hj
    have := World.frozen?_alloc_mark w.drew (bytesRow b (grownCap w b.size 0 5)) 5 (bytesRow b (grownCap w b.size 0 5)).size ((bytesRow b (grownCap w b.size 0 5)).size + 1) j
    refine this.trans ?_
    have h2 : j < (bytesRow b (grownCap w b.size 0 5)).size := by
      unfold bytesRow
      simp at hj ⊢
      omega
    simp
    omega

set_option maxRecDepth 100000 in
set_option maxHeartbeats 4000000 in
theorem turned_any (ht : TownSaid) (w : World) (size at_ bts oth : Int) (ra : Option Addr) (K cap : Nat) (raw : Nat → Int × Int × Int) (h0 : -9223372036854775808 ≤ size) (h1 : size ≤ 9223372036854775807) (hK : K ≤ 9223372036854775807) (hRaw : Raw w ra K raw)
    (ha0 : -9223372036854775808 ≤ at_) (ha1 : at_ ≤ 9223372036854775807) (hb0 : -9223372036854775808 ≤ bts) (hb1 : bts ≤ 9223372036854775807) (ho0 : -9223372036854775808 ≤ oth) (ho1 : oth ≤ 9223372036854775807) (hm : Ml w) :
    Calls Tryz.prog 3 #[.int .i64 size, .slice ra K cap, .int .i64 at_, .int .i64 bts, .int .i64 oth] w fun e w' => e = .returned (.bool true) ∧ Turns (fun _ => False) w w' := by
  go_enter Tryz.func3, Tryz.ntmps3
  go_wp2_with fail
  refine (ht w size ra K cap raw h0 h1 hK hRaw).mono ?_
  rintro e w1 ⟨hT1, txt, n, R, v, rb, len, rfl, hTown⟩
  have hm1 := hm.turns hT1 (fun x => x)
  obtain ⟨lb, lcap, rfl⟩ := hTown.form
  go_wp2_with fail
  refine (awake_any _ (hm1.alloc _)).mono ?_
  rintro e w2 ⟨rfl, hT2⟩
  have hTB2 : TB w2 w1.heap.size txt n (.slice (some ⟨lb, 0, none⟩) n lcap) := (TB.new w1 txt n _).turns hT2 (fun x => x)
  have hTa : Turns (fun _ => False) w1 w2 := ((Turns.refl _ w1).alloc _).trans hT2
  have hTw2 : Turns (fun _ => False) w w2 := hT1.trans hTa
  have hm2 := hm1.turns hTa (fun x => x)
  have c0 := hTB2.c0
  have c1 := hTB2.c1
  have hbl := hTB2.lt
  have cs := fun w hm => save_town hTown w hm
  clear hT1 hT2 hm1 hm hRaw hTa hTB2 hTown
  go_wp2_with fail
  refine (cs _ (by first | exact hm2 | exact hm2.drew | exact hm2.turns (((Turns.refl _ w2).drew)) (fun x => x))).mono ?_
  rintro e w3 ⟨hT3, O, D, b, rfl, hC, hbl2, hb32, hb2000, hbm⟩
  have HT3 : Hid (Turns (fun _ => False) w w3) := by first | exact hTw2.trans hT3 | exact hTw2.drew.trans hT3
  obtain ⟨HB, hHB⟩ : ∃ HB, HB = Pu.heldB O (fun v => Pu.hubK D O v n) n := ⟨_, rfl⟩
  rw [← hHB] at hbl2
  have HBL : Hid (b.data.toList = Pu.paged HB ∧ HB.length ≤ 60000) := ⟨hbl2, by
    have := Pu.paged_len HB
    rw [← hbl2, ← size_list] at this
    omega⟩
  clear hT3 hTw2 c0 c1 hbl cs hm2 hC hbl2 hHB
  have hlt : ¬ (b.size : Int) < 32 := by omega
  obtain ⟨bc, w4, hcv, hT4, hB4⟩ := bytes_of b w3
  have HT4 : Hid (Turns (fun _ => False) w w4) := HT3.out.trans hT4
  have HB4 : Hid (BytesAt w4 w3.heap.size b.data.toList) := hB4
  have cp := pick_big at_ b.size w4 ha0 ha1 (by omega) (by omega)
  have hkl := Pu.pick_lt at_ (n := b.size) (by omega)
  clear hT4 hB4
  go_wp2_with fail
  refine cp.mono ?_
  rintro e w5 ⟨rfl, hw5⟩
  subst w5
  generalize Pu.pick at_ b.size = k at *
  clear cp hcv
  have hbl : b.data.toList.length = b.size := (size_list b).symm
  obtain ⟨c, hc⟩ : ∃ c, b.data.toList[k]? = some c := ⟨_, List.getElem?_eq_getElem (by omega)⟩
  have e1 := HB4.out.cell k c hc
  have e2 := HB4.out.free k (by omega)
  have hki : (k : Int) < (b.size : Int) := by omega
  have hcl : c.toNat < 256 := c.toNat_lt
  have cq := fun w => pick_big bts 255 w hb0 hb1 (by omega) (by omega)
  have hpl := Pu.pick_lt bts (n := 255) (by omega)
  generalize Pu.pick bts 255 = P at *
  have hx : bits .xor .u8 (c.toNat : Int) (1 + (P : Int)) = ((c.toNat ^^^ (1 + P) : Nat) : Int) := by
    have := u8_xor_nat c.toNat (1 + P) hcl (by omega)
    simpa using this
  obtain ⟨x, hxx⟩ : ∃ x : UInt8, x.toNat = c.toNat ^^^ (1 + P) := ⟨UInt8.ofNat (c.toNat ^^^ (1 + P)), by
    have : c.toNat ^^^ (1 + P) < 256 := Nat.xor_lt_two_pow (n := 8) hcl (by omega)
    rw [Pu.toNat_ofNat8 this]⟩
  have hxc : x ≠ c := by
    rintro rfl
    have h2 : x.toNat ^^^ x.toNat = x.toNat ^^^ (x.toNat ^^^ (1 + P)) := by rw [← hxx]
    rw [Nat.xor_self, ← Nat.xor_assoc, Nat.xor_self, Nat.zero_xor] at h2
    omega
  rw [← hxx] at hx
  have hxw : bits .xor .u8 (c.toNat : Int) (IntKind.u8.wrap (IntKind.i64.wrap (1 + (P : Int)))) = ((x.toNat : Nat) : Int) := by
    rw [wrap_one hpl]; exact hx
  have HC : Hid (b.data.toList[k]? = some c ∧ x ≠ c) := ⟨hc, hxc⟩
  have HB5 : Hid (∀ q, BytesAt ((w4.setCell ⟨w3.heap.size, k, none⟩ (.int .u8 (x.toNat : Int))).drewN q) w3.heap.size (b.data.toList.set k x) ∧ Turns (fun _ => False) w ((w4.setCell ⟨w3.heap.size, k, none⟩ (.int .u8 (x.toNat : Int))).drewN q)) := by
    intro q
    exact ⟨(HB4.out.set (by omega) x).turns ((Turns.refl (fun _ => False) _).drewN q) (fun x => x), (HT4.out.setCell (Or.inl HT3.out.size) _).drewN q⟩
  have HG : Hid (w.heap.size ≤ w3.heap.size) := HT3.out.size
  clear hc hxc hxx
  go_upto_region 8 with fail
  go_cut [58] from 59 to 69 (fun s58 wx => s58 = .slice (some ⟨w3.heap.size, 0, none⟩) b.size bc ∧ BytesAt wx w3.heap.size (b.data.toList.set k x) ∧ Turns (fun _ => False) w wx)
  case first =>
    clear HT4 HB4 HT3
    go_region_with (go_at_call 10; refine (cq _).mono ?_; rintro e wq ⟨rfl, hwq⟩; subst hwq)
    all_goals
      go_wp2_with fail
      go_meet
      case rel => exact ⟨rfl, HB5.out 1⟩
  case rest =>
    obtain ⟨rfl, hB6, hT6⟩ := hcut
    have HB6 : Hid (BytesAt wc w3.heap.size (b.data.toList.set k x) ∧ Turns (fun _ => False) w wc) := ⟨hB6, hT6⟩
    clear HB5 hB6 hT6 HT4 HB4 HT3 e1 e2 hx hxw cq
    obtain ⟨gg, hgg⟩ : ∃ gg, gg = w3.heap.size := ⟨_, rfl⟩
    rw [← hgg] at HB6 HG ⊢
    clear hgg
    have hsl : (b.data.toList.set k x).length = b.size := by rw [List.length_set]; exact hbl
    by_cases h27 : k % 32 < 27
    · have h27i : (k : Int) % 32 < 27 := by omega
      have hk1 : k + 1 < b.size := by omega
      have hki1 : (k : Int) + 1 < (b.size : Int) := by omega
      have hwk : IntKind.i64.wrap ((k : Int) + 1) = ((k + 1 : Nat) : Int) := by rw [IntKind.wrap_i64]; omega
      have hki2 : ((k + 1 : Nat) : Int) < (b.size : Int) := by omega
      obtain ⟨c1, hc1⟩ : ∃ c1, b.data.toList[k + 1]? = some c1 := ⟨_, List.getElem?_eq_getElem (by omega)⟩
      have e1 := HB6.out.1.cell (k + 1) c1 (by rw [List.getElem?_set_ne (by omega)]; exact hc1)
      have e2 := HB6.out.1.free (k + 1) (by omega)
      have hcl1 : c1.toNat < 256 := c1.toNat_lt
      have cq := fun w => pick_big oth 256 w ho0 ho1 (by omega) (by omega)
      have hpl2 := Pu.pick_lt oth (n := 256) (by omega)
      generalize Pu.pick oth 256 = P2 at *
      obtain ⟨y, hyy⟩ : ∃ y : UInt8, y.toNat = c1.toNat ^^^ P2 := ⟨UInt8.ofNat (c1.toNat ^^^ P2), by
        have : c1.toNat ^^^ P2 < 256 := Nat.xor_lt_two_pow (n := 8) hcl1 (by omega)
        rw [Pu.toNat_ofNat8 this]⟩
      have hyw : bits .xor .u8 (c1.toNat : Int) (IntKind.u8.wrap (P2 : Int)) = ((y.toNat : Nat) : Int) := by
        rw [wrap_two hpl2, hyy]; exact u8_xor_nat c1.toNat P2 hcl1 (by omega)
      have hyx : bits .xor .u8 (c1.toNat : Int) (P2 : Int) = ((y.toNat : Nat) : Int) := by
        rw [hyy]; exact u8_xor_nat c1.toNat P2 hcl1 (by omega)
      have HF : Hid (Pu.FW ((b.data.toList.set k x).set (k + 1) y) ((k / 32 : Nat) : Int) ∧ ((b.data.toList.set k x).set (k + 1) y).length = b.size) := by
        have h1 := HBL.out.1
        have h2 := HC.out.1
        have h3 := hc1
        refine ⟨?_, by rw [List.length_set]; exact hsl⟩
        rw [h1] at h2 h3 ⊢
        exact Pu.fw_two h2 h3 h27 HC.out.2
      obtain ⟨d, hd⟩ : ∃ d, d = (b.data.toList.set k x).set (k + 1) y := ⟨_, rfl⟩
      rw [← hd] at HF
      have HB7 : Hid (∀ q, BytesAt ((wc.setCell ⟨gg, k + 1, none⟩ (.int .u8 (y.toNat : Int))).drewN q) gg d ∧ Turns (fun _ => False) w ((wc.setCell ⟨gg, k + 1, none⟩ (.int .u8 (y.toNat : Int))).drewN q)) := by
        intro q
        rw [hd]
        exact ⟨(HB6.out.1.set (by omega) y).turns ((Turns.refl (fun _ => False) _).drewN q) (fun x => x), (HB6.out.2.setCell (Or.inl HG.out) _).drewN q⟩
      have hdl := HF.out.2
      obtain ⟨w0, hw0⟩ : ∃ w0, w0 = wc := ⟨_, rfl⟩
      subst hw0
      clear hc1 hyy HB6 HC hd
      go_upto_region 10 with fail
      go_cut [73] from 74 to 85 (fun s73 wx => s73 = .slice (some ⟨gg, 0, none⟩) b.size bc ∧ BytesAt wx gg d ∧ Turns (fun _ => False) w wx)
      case first =>
        clear HBL
        go_region_with (go_at_call 10; refine (cq _).mono ?_; rintro e wq ⟨rfl, hwq⟩; subst hwq)
        all_goals
          go_wp2_with fail
          go_meet
          case rel => exact ⟨rfl, HB7.out 1⟩
      case rest =>
        obtain ⟨rfl, hBd, hTd⟩ := hcut
        obtain ⟨wd, hwd⟩ : ∃ wd, wd = wc := ⟨_, rfl⟩
        subst hwd
        have HD : Hid (Pu.FW d ((k / 32 : Nat) : Int) ∧ BytesAt wd gg d ∧ Turns (fun _ => False) w wd) := ⟨HF.out.1, hBd, hTd⟩
        clear HB7 HF hBd hTd e1 e2 hyw hyx cq
        have hcv : (convert 31 9 (.slice (some ⟨gg, 0, none⟩) b.size bc)).run Tryz.prog wd = .ok (.string ⟨d.toArray⟩) wd := by
          rw [← hdl]
          refine run_convert_bytes_back wd 31 9 5 ⟨gg, 0, none⟩ bc d Tryz.underlying31 Tryz.underlying5 Tryz.underlying9 ?_
          intro j hj
          rw [addr_add]
          exact HD.out.2.1.cell j d[j] (List.getElem?_eq_getElem hj)
        obtain ⟨X, hX⟩ : ∃ X : ByteArray, X = ⟨d.toArray⟩ := ⟨_, rfl⟩
        rw [← hX] at hcv
        have hXs : X.size = b.size := by rw [hX, ← hdl]; rfl
        have hXl : X.data.toList = d := by rw [hX]
        have c1 := fun w => open_sum X 1 w (k / 32) (by omega) (by omega) (by omega) (by omega) (by omega) (by rw [hXl]; exact HD.out.1)
        have hb1e : (b.size : Int) - 1 = ((b.size - 1 : Nat) : Int) := by omega
        obtain ⟨m1, hm1⟩ : ∃ m1, m1 = b.size - 1 := ⟨_, rfl⟩
        rw [← hm1] at hb1e
        have hm1b : m1 ≤ b.size := by omega
        obtain ⟨Y, hY⟩ : ∃ Y, Y = b.extract 0 m1 := ⟨_, rfl⟩
        have hYs : Y.size = b.size - 1 := by rw [hY, ByteArray.size_extract]; omega
        have c2 := fun w => open_part Y 1 w (by omega) (by omega) (by omega) (Or.inr (by omega))
        obtain ⟨Z, hZ⟩ : ∃ Z, Z = b.extract 32 b.size := ⟨_, rfl⟩
        have hZs : Z.size = b.size - 32 := by rw [hZ, ByteArray.size_extract]; omega
        have hZl : Z.data.toList = b.data.toList.drop 32 := by rw [hZ, extract_list, List.take_of_length_le (by omega)]
        obtain ⟨V, hV⟩ : ∃ V, V = b ++ b.extract 0 32 := ⟨_, rfl⟩
        have hVs : V.size = b.size + 32 := by rw [hV, ByteArray.size_append, ByteArray.size_extract]; omega
        have hVl : V.data.toList = b.data.toList ++ b.data.toList.take 32 := by rw [hV, cat_list, extract_list, List.drop_zero]
        have hpl0 : (Pu.paged HB).length = b.size := by rw [← HBL.out.1]; exact hbl
        have c4 := fun w => open_sum V 1 w (b.size / 32) (by omega) (by omega) (by omega) (by omega) (by omega) (by
          rw [hVl, HBL.out.1, ← hpl0]
          exact Pu.fw_more (by omega) HBL.out.2)
        have hbig : (9223372036854775807 < b.size + (b.extract 0 32).size) = False := by
          rw [ByteArray.size_extract]; simp; omega
        have hY2 := hY.symm
        have hZ2 := hZ.symm
        have hV2 := hV.symm
        have h32i : (32 : Int) ≤ (b.size : Int) := by omega
        have HTd : Hid (Turns (fun _ => False) w wd) := HD.out.2.2
        have hZF : Hid (b.size ≠ 32 → Pu.FW Z.data.toList ((0 : Nat) : Int)) := by
          intro hne
          rw [hZl, HBL.out.1]
          exact Pu.fw_cut (by omega)
        clear HD hX hXl hY hZ hV hZl hVl hm1 hpl0
        go_wp2_with fail
        refine (c1 _).mono ?_
        rintro e wa ⟨rfl, hTa⟩
        have HTa : Hid (Turns (fun _ => False) w wa) := HTd.out.trans hTa
        clear hTa hcv c1
        go_wp2_with fail
        refine (c2 _).mono ?_
        rintro e wb ⟨rfl, hwb⟩
        subst wb
        by_cases h32 : b.size = 32
        · have c3 := fun w => open_part Z 1 w (by omega) (by omega) (by omega) (Or.inl (by omega))
          have h32b : ((b.size : Int) == 32) = true := by rw [h32]; rfl
          clear h32
          go_wp2_with fail
          refine (c3 _).mono ?_
          rintro e we ⟨rfl, hwe⟩
          subst we
          go_wp2_with fail
          refine (c4 _).mono ?_
          rintro e wf ⟨rfl, hTf⟩
          have HTf : Hid (Turns (fun _ => False) w wf) := HTa.out.trans hTf
          clear hTf c2 c3 c4
          go_wp2
          go_ret
          exact ⟨by simp, HTf.out⟩
        · have c3 := fun w => open_sum Z 1 w 0 (by omega) (by omega) (by omega) (by omega) (by omega) (hZF.out h32)
          go_wp2_with fail
          refine (c3 _).mono ?_
          rintro e we ⟨rfl, hTe⟩
          have HTe : Hid (Turns (fun _ => False) w we) := HTa.out.trans hTe
          clear hTe
          go_wp2_with fail
          refine (c4 _).mono ?_
          rintro e wf ⟨rfl, hTf⟩
          have HTf : Hid (Turns (fun _ => False) w wf) := HTe.out.trans hTf
          clear hTf c2 c3 c4
          go_wp2
          go_ret
          exact ⟨by simp, HTf.out⟩
    · have h27i : ¬ (k : Int) % 32 < 27 := by omega
      obtain ⟨d, hd⟩ : ∃ d, d = b.data.toList.set k x := ⟨_, rfl⟩
      obtain ⟨wd, hwd⟩ : ∃ wd, wd = wc := ⟨_, rfl⟩
      subst hwd
      have HD : Hid (Pu.FW d ((k / 32 : Nat) : Int) ∧ BytesAt wd gg d ∧ Turns (fun _ => False) w wd) := by
        have h1 := HBL.out.1
        have h2 := HC.out.1
        refine ⟨?_, by rw [hd]; exact HB6.out.1, HB6.out.2⟩
        rw [hd, h1]
        rw [h1] at h2
        exact Pu.fw_one h2 HC.out.2
      have hdl : d.length = b.size := by rw [hd]; exact hsl
      clear HB6 HC hd
      have hcv : (convert 31 9 (.slice (some ⟨gg, 0, none⟩) b.size bc)).run Tryz.prog wd = .ok (.string ⟨d.toArray⟩) wd := by
        rw [← hdl]
        refine run_convert_bytes_back wd 31 9 5 ⟨gg, 0, none⟩ bc d Tryz.underlying31 Tryz.underlying5 Tryz.underlying9 ?_
        intro j hj
        rw [addr_add]
        exact HD.out.2.1.cell j d[j] (List.getElem?_eq_getElem hj)
      obtain ⟨X, hX⟩ : ∃ X : ByteArray, X = ⟨d.toArray⟩ := ⟨_, rfl⟩
      rw [← hX] at hcv
      have hXs : X.size = b.size := by rw [hX, ← hdl]; rfl
      have hXl : X.data.toList = d := by rw [hX]
      have c1 := fun w => open_sum X 1 w (k / 32) (by omega) (by omega) (by omega) (by omega) (by omega) (by rw [hXl]; exact HD.out.1)
      have hb1e : (b.size : Int) - 1 = ((b.size - 1 : Nat) : Int) := by omega
      obtain ⟨m1, hm1⟩ : ∃ m1, m1 = b.size - 1 := ⟨_, rfl⟩
      rw [← hm1] at hb1e
      have hm1b : m1 ≤ b.size := by omega
      obtain ⟨Y, hY⟩ : ∃ Y, Y = b.extract 0 m1 := ⟨_, rfl⟩
      have hYs : Y.size = b.size - 1 := by rw [hY, ByteArray.size_extract]; omega
      have c2 := fun w => open_part Y 1 w (by omega) (by omega) (by omega) (Or.inr (by omega))
      obtain ⟨Z, hZ⟩ : ∃ Z, Z = b.extract 32 b.size := ⟨_, rfl⟩
      have hZs : Z.size = b.size - 32 := by rw [hZ, ByteArray.size_extract]; omega
      have hZl : Z.data.toList = b.data.toList.drop 32 := by rw [hZ, extract_list, List.take_of_length_le (by omega)]
      obtain ⟨V, hV⟩ : ∃ V, V = b ++ b.extract 0 32 := ⟨_, rfl⟩
      have hVs : V.size = b.size + 32 := by rw [hV, ByteArray.size_append, ByteArray.size_extract]; omega
      have hVl : V.data.toList = b.data.toList ++ b.data.toList.take 32 := by rw [hV, cat_list, extract_list, List.drop_zero]
      have hpl0 : (Pu.paged HB).length = b.size := by rw [← HBL.out.1]; exact hbl
      have c4 := fun w => open_sum V 1 w (b.size / 32) (by omega) (by omega) (by omega) (by omega) (by omega) (by
        rw [hVl, HBL.out.1, ← hpl0]
        exact Pu.fw_more (by omega) HBL.out.2)
      have hbig : (9223372036854775807 < b.size + (b.extract 0 32).size) = False := by
        rw [ByteArray.size_extract]; simp; omega
      have hY2 := hY.symm
      have hZ2 := hZ.symm
      have hV2 := hV.symm
      have h32i : (32 : Int) ≤ (b.size : Int) := by omega
      have HTd : Hid (Turns (fun _ => False) w wd) := HD.out.2.2
      have hZF : Hid (b.size ≠ 32 → Pu.FW Z.data.toList ((0 : Nat) : Int)) := by
        intro hne
        rw [hZl, HBL.out.1]
        exact Pu.fw_cut (by omega)
      clear HD hX hXl hY hZ hV hZl hVl hm1 hpl0
      go_wp2_with fail
      refine (c1 _).mono ?_
      rintro e wa ⟨rfl, hTa⟩
      have HTa : Hid (Turns (fun _ => False) w wa) := HTd.out.trans hTa
      clear hTa hcv c1
      go_wp2_with fail
      refine (c2 _).mono ?_
      rintro e wb ⟨rfl, hwb⟩
      subst wb
      by_cases h32 : b.size = 32
      · have c3 := fun w => open_part Z 1 w (by omega) (by omega) (by omega) (Or.inl (by omega))
        have h32b : ((b.size : Int) == 32) = true := by rw [h32]; rfl
        clear h32
        go_wp2_with fail
        refine (c3 _).mono ?_
        rintro e we ⟨rfl, hwe⟩
        subst we
        go_wp2_with fail
        refine (c4 _).mono ?_
        rintro e wf ⟨rfl, hTf⟩
        have HTf : Hid (Turns (fun _ => False) w wf) := HTa.out.trans hTf
        clear hTf c2 c3 c4
        go_wp2
        go_ret
        exact ⟨by simp, HTf.out⟩
      · have c3 := fun w => open_sum Z 1 w 0 (by omega) (by omega) (by omega) (by omega) (by omega) (hZF.out h32)
        go_wp2_with fail
        refine (c3 _).mono ?_
        rintro e we ⟨rfl, hTe⟩
        have HTe : Hid (Turns (fun _ => False) w we) := HTa.out.trans hTe
        clear hTe
        go_wp2_with fail
        refine (c4 _).mono ?_
        rintro e wf ⟨rfl, hTf⟩
        have HTf : Hid (Turns (fun _ => False) w wf) := HTe.out.trans hTf
        clear hTf c2 c3 c4
        go_wp2
        go_ret
        exact ⟨by simp, HTf.out⟩
#print axioms turned_any
end Go.Proofs.YtdogncjcainhlaaGreatDoor
/- A saved store is opened. -/
namespace Go.Proofs.YtdogncjcainhlaaGreatDoor
open Go.RowKit Go.Deep
open Mem

theorem Labs.congr {S : ByteArray} {O : List Nat} {st : Nat → Nat} {lab lab' : Nat → List (Nat × Int)} (h : Labs S O st lab) (e : ∀ v, v < O.length → lab v = lab' v) : Labs S O st lab' :=
  ⟨h.n1, h.n40, h.size, h.s28, h.lt, h.le, fun v hv => by rw [← e v hv]; exact h.of v hv, fun v hv => by rw [← e v hv]; exact h.rank v hv, h.ord, fun v hv => by rw [← e v hv]; exact h.ne v hv⟩
/-- What Open makes of a saved store. -/
structure SavedIs (n : Nat) (len D : Nat → Nat → Int) (O : List Nat) (b : ByteArray) (st : Nat → Nat) (S : ByteArray) : Prop where
  cov : Pu.Cov n len D O
  labs : Labs S O st (fun v => Pu.hubK D O v n)
  pages : S.size / 28 = b.size / 32
  opens : ∀ (c : Nat) (w : World), 1 ≤ c → c ≤ 8 → Calls Tryz.prog 11 #[.string b, .int .i64 (c : Int)] w fun e w' => ∃ g og oc sg sc, e = .returned (.tuple #[.pointer (some ⟨g, 0, none⟩), .int .i64 0, .int .i64 0]) ∧ StoreAt w' g og oc sg sc O st S c 0 (.slice none 0 0) [] 0 ∧ (∀ q, Foot g og sg (.slice none 0 0) q → w.heap.size ≤ q) ∧ Turns (fun _ => False) w w'
theorem saved_is {n : Nat} {len D : Nat → Nat → Int} {O : List Nat} {b : ByteArray} (C : Pu.Cov n len D O) (hn1 : 1 ≤ n) (hn : n ≤ 40) (hb : b.data.toList = Pu.paged (Pu.heldB O (fun v => Pu.hubK D O v n) n)) (hs : b.size ≤ 60000) (h32 : 32 ≤ b.size) : ∃ st S, SavedIs n len D O b st S := by
  obtain ⟨HB, hHB⟩ : ∃ HB, HB = Pu.heldB O (fun v => Pu.hubK D O v n) n := ⟨_, rfl⟩
  have V := C.valid hn1 hn
  rw [← hHB] at V hb
  obtain ⟨Z, a, h1, h2⟩ := V.rd
  obtain ⟨p, hp⟩ : ∃ p, p = (HB.length + 27) / 28 := ⟨_, rfl⟩
  have hbl : b.size = 32 * p := by rw [size_list, hb, Pu.paged_len, hp]
  have hk : Pu.heldK b.data.toList p = Pu.pad HB := by rw [hb, hp]; exact Pu.paged_held HB
  have hS : (ByteArray.mk (Pu.pad HB).toArray).data.toList = Pu.pad HB := rfl
  have hSs : (ByteArray.mk (Pu.pad HB).toArray).size = 28 * p := by
    have := Pu.pad_len HB
    rw [size_list, hS, this, hp]
  have L := rd_labs (S := ⟨(Pu.pad HB).toArray⟩) h1 (by rw [hSs]; omega) (by rw [hSs]; omega)
  have hol := C.perm.len
  refine ⟨Pu.stF a Z, ⟨(Pu.pad HB).toArray⟩, C, L.congr (fun v hv => ?_), by rw [hSs, hbl]; omega, fun c w hc1 hc8 => ?_⟩
  · unfold Pu.labF
    rw [hS, h2 v (by omega)]
    rfl
  · have ho := open_ok b c w p O Z a hc1 hc8 hbl (by omega) (by omega) (by rw [hb]; exact Pu.paged_fw HB) (by rw [hk]; exact h1)
    rw [hk] at ho
    refine ho.mono ?_
    rintro e w' ⟨g, og, oc, sg, sc, rfl, h3, h4, h5, h6, _, _, _, h7⟩
    refine ⟨g, og, oc, sg, sc, rfl, h3, fun q hq => ?_, h7⟩
    rcases hq with rfl | rfl | rfl | hq
    · exact h4
    · exact h5
    · exact h6
    · cases hq
end Go.Proofs.YtdogncjcainhlaaGreatDoor
/- The walk of a store's others. -/
namespace Go.Proofs.YtdogncjcainhlaaGreatDoor
open Go.RowKit Go.Deep
open Mem

namespace Pu
/-- How far the first places are from a place, those that a hub joins with it. -/
def nearL (lab : Nat → List (Nat × Int)) (f : Nat) : Nat → List (Nat × Int)
  | 0 => []
  | v + 1 => nearL lab f v ++ (if v = f then [] else match best none (lab f) (lab v) with
    | none => []
    | some (_, x) => [(v, x)])
/-- The pages of the first places' labels are looked at, but for one place's. -/
def lookA (c : Nat) (st : Nat → Nat) (f : Nat) (s : List Nat × Nat) : Nat → List Nat × Nat
  | 0 => s
  | v + 1 => if v = f then lookA c st f s v else lookP c st (lookA c st f s v) v
theorem nearL_len (lab : Nat → List (Nat × Int)) (f : Nat) : ∀ n, (nearL lab f n).length ≤ n
  | 0 => Nat.le_refl _
  | v + 1 => by
    have := nearL_len lab f v
    rw [nearL, List.length_append]
    split
    · simp; omega
    · split
      · simp; omega
      · simp; omega
end Pu
theorem owns_apart {w : World} {b1 b2 : Nat} {e1 e2 : TypeId} {s1 s2 : Nat} {v1 v2 : Value} {n1 n2 : Nat} {xs1 xs2 : List Value} (h1 : w.ownsRow b1 e1 s1 v1 n1 xs1) (h2 : w.ownsRow b2 e2 s2 v2 n2 xs2) (he : e1 ≠ e2) : ∀ q, v1.ownBlock = some q → v2.ownBlock ≠ some q := by
  intro q hq hq2
  rcases h1.2 with ⟨c, _⟩ | ⟨g, cap, cur, hv, _, hb, _⟩
  · rw [c] at hq; cases hq
  · rcases h2.2 with ⟨c, _⟩ | ⟨g', cap', cur', hv', _, hb', _⟩
    · rw [c] at hq2; cases hq2
    · rw [hv] at hq
      rw [hv'] at hq2
      have hq : some g = some q := hq
      have hq2 : some g' = some q := hq2
      injection hq with hq
      injection hq2 with hq2
      subst hq hq2
      rw [hb] at hb'
      injection hb' with hb'
      injection hb' with _ hb'
      exact he hb'
theorem infoNear : (Tryz.prog.info? 66).map (fun i => (i.zero, i.size, i.bytes)) = some (some (.agg #[.int .i64 0, .int .i64 0]), 2, 16) := by kernel_rfl
/-- What holds ahead of each round. -/
structure OthAt (w : World) (b og oc sg sc : Nat) (O : List Nat) (st : Nat → Nat) (S : ByteArray) (c : Nat) (kv : Value) (lab : Nat → List (Nat × Int)) (f g1 : Nat) (LK : List Nat × Nat) (N : List (Nat × Int)) (x kv' : Value) (wr : World) : Prop where
  s : StoreAt wr b og oc sg sc O st S c 1 kv' LK.1 LK.2
  k : Pu.Keeps c LK.1
  row : wr.ownsRow w.heap.size 66 2 x N.length (hubV N)
  h : HubAt wr (some ⟨g1, 0, none⟩) (lab f)
  g : g1 < wr.heap.size
  gk : kv'.ownBlock ≠ some g1
  gx : x.ownBlock ≠ some g1
  q : ∀ q, kv'.ownBlock = some q → kv.ownBlock = some q ∨ w.heap.size ≤ q
  t : Turns (fun q => q = b ∨ kv.ownBlock = some q) w wr
theorem OthAt.turns0 {w : World} {b og oc sg sc : Nat} {O : List Nat} {st : Nat → Nat} {S : ByteArray} {c : Nat} {kv : Value} {lab : Nat → List (Nat × Int)} {f g1 : Nat} {LK : List Nat × Nat} {N : List (Nat × Int)} {x kv' : Value} {wr w' : World} (h : OthAt w b og oc sg sc O st S c kv lab f g1 LK N x kv' wr) (t : Turns (fun _ => False) wr w') : OthAt w b og oc sg sc O st S c kv lab f g1 LK N x kv' w' :=
  ⟨h.s.turns0 t, h.k, owns_turns h.row t, h.h.turns t, Nat.lt_of_lt_of_le h.g t.size, h.gk, h.gx, h.q, h.t.trans (t.mono (fun _ _ x => x.elim))⟩
end Go.Proofs.YtdogncjcainhlaaGreatDoor
/- The walk of a store's others. -/
namespace Go.Proofs.YtdogncjcainhlaaGreatDoor
open Go.RowKit Go.Deep
open Mem

/-- What a place adds. -/
def Pu.nearO (i : Nat) : Option (Nat × Int) → List (Nat × Int)
  | none => []
  | some (_, y) => [(i, y)]
theorem hubs_some {w : World} {a : Option Addr} {L : List (Nat × Int)} (h : HubAt w a L) (hn : L ≠ []) : ∃ g, a = some ⟨g, 0, none⟩ ∧ g < w.heap.size := by
  cases L with
  | nil => exact absurd rfl hn
  | cons y t =>
    obtain ⟨r, f⟩ := y
    obtain ⟨g, h1, h2, _⟩ := h 0 r f rfl
    exact ⟨g, h1, World.block_lt_of_cell? _ _ h2⟩
set_option maxRecDepth 100000 in
set_option maxHeartbeats 2000000 in
theorem others_any {w : World} {b og oc sg sc : Nat} {O : List Nat} {st : Nat → Nat} {S : ByteArray} {c : Nat} {kv : Value} {K : List Nat} {r f : Nat} {lab : Nat → List (Nat × Int)} (L : Labs S O st lab) (h : StoreAt w b og oc sg sc O st S c 1 kv K r) (hf : f < O.length) (hc1 : 1 ≤ c) (hc8 : c ≤ 8) (hK : Pu.Keeps c K) (hr : r ≤ 80000000) :
    Calls Tryz.prog 48 #[.pointer (some ⟨b, 0, none⟩), .int .i64 (f : Int)] w fun e w' => ∃ x kv' g1, e = .returned x ∧ OthAt w b og oc sg sc O st S c kv lab f g1 (Pu.lookA c st f (Pu.lookP c st (K, r) f) O.length) (Pu.nearL lab f O.length) x kv' w' := by
  have HL : Hid (Labs S O st lab) := L
  have HC : Hid (∀ (i : Nat) (LK : List Nat × Nat) (w2 : World) (kv2 : Value), i < O.length → Pu.Keeps c LK.1 → LK.2 ≤ 90000000 → StoreAt w2 b og oc sg sc O st S c 1 kv2 LK.1 LK.2 → Calls Tryz.prog 45 #[.pointer (some ⟨b, 0, none⟩), .int .i64 (i : Int)] w2 fun e w' => ∃ a hc kv', e = .returned (.slice a (lab i).length hc) ∧ HubAt w' a (lab i) ∧ (lab i).length ≤ hc ∧ (∀ x, (Value.slice a (lab i).length hc).ownBlock = some x → w2.heap.size ≤ x ∧ kv'.ownBlock ≠ some x) ∧ StoreAt w' b og oc sg sc O st S c 1 kv' (Pu.lookP c st LK i).1 (Pu.lookP c st LK i).2 ∧ (∀ x, kv'.ownBlock = some x → kv2.ownBlock = some x ∨ w2.heap.size ≤ x) ∧ Turns (fun x => x = b ∨ kv2.ownBlock = some x) w2 w') := fun i LK w2 kv2 hi hk hl h2 => label_any h2 L.n1 L.n40 hi hc1 hc8 hk (by omega) (L.lt i hi) (L.le i hi) L.size L.s28 (L.of i hi)
  have HK1 : Hid (Pu.Keeps c (Pu.lookP c st (K, r) f).1 ∧ (Pu.lookP c st (K, r) f).2 ≤ r + 2200) := L.looks hf hc1 hK
  have HK2 : Hid (∀ (i : Nat) (LK : List Nat × Nat), i < O.length → Pu.Keeps c LK.1 → Pu.Keeps c (Pu.lookP c st LK i).1 ∧ (Pu.lookP c st LK i).2 ≤ LK.2 + 2200) := fun i LK hi hk => L.looks (K := LK.1) (r := LK.2) hi hc1 hk
  have HST : Hid (StoreAt w b og oc sg sc O st S c 1 kv K r) := h
  have hn40 := L.n40
  have CF := HC.out f (K, r) w kv hf hK (by omega) h
  obtain ⟨LP, hLP⟩ : ∃ LP, LP = Pu.lookP c st (K, r) f := ⟨_, rfl⟩
  rw [← hLP] at HK1 CF ⊢
  obtain ⟨n, hn⟩ : ∃ n, n = O.length := ⟨_, rfl⟩
  have HN : Hid (n = O.length) := hn
  have hfn : f < n := by omega
  have hn40' : n ≤ 40 := by omega
  obtain ⟨l1, hl1⟩ : ∃ l, l = (lab f).length := ⟨_, rfl⟩
  have HL1 : Hid (l1 = (lab f).length) := hl1
  rw [← hl1] at CF
  rw [← hn]
  clear h L hK hLP hl1 hn hf hn40
  go_enter Tryz.func48, Tryz.ntmps48
  go_wp2_with fail
  refine CF.mono ?_
  rintro e w1 ⟨a1, hc1', kv1, rfl, hA1, hlc1, ho1, hS1, hq1, hT1⟩
  obtain ⟨g1, ha1, hg1⟩ := hubs_some hA1 (HL.out.ne f (by rw [← HN.out]; exact hfn))
  subst ha1
  have HA1 : Hid (HubAt w1 (some ⟨g1, 0, none⟩) (lab f) ∧ l1 ≤ hc1' ∧ w.heap.size ≤ g1 ∧ kv1.ownBlock ≠ some g1) := ⟨hA1, hlc1, ho1 g1 rfl⟩
  have HS1 : Hid (StoreAt w1 b og oc sg sc O st S c 1 kv1 LP.1 LP.2) := hS1
  have HQ1 : Hid (∀ x, kv1.ownBlock = some x → kv.ownBlock = some x ∨ w.heap.size ≤ x) := hq1
  have HT1 : Hid (Turns (fun x => x = b ∨ kv.ownBlock = some x) w w1) := hT1
  have e2 := HS1.out.box.c2
  have e3 := HS1.out.box.c3
  have hbl := HS1.out.box.lt
  rw [← HN.out] at e2 e3
  clear hA1 hlc1 ho1 hS1 hq1 hT1 hg1 CF
  go_wp2_with fail
  refine (places_any w1 og oc n (some ⟨sg, 0, none⟩) (n + 1) sc).mono ?_
  rintro e w2 ⟨rfl, hT2⟩
  have H2 : Hid (OthAt w b og oc sg sc O st S c kv lab f g1 (Pu.lookA c st f LP 0) (Pu.nearL lab f 0) (.slice none 0 0) kv1 w2 ∧ (Pu.lookA c st f LP 0).2 ≤ r + 2200 * (0 + 1)) := by
    refine ⟨⟨HS1.out.turns0 hT2, HK1.out.1, World.ownsRow_nil _ _ _ _, HA1.out.1.turns hT2, ?_, HA1.out.2.2.2, (by intro c; cases c), HQ1.out, HT1.out.trans (hT2.mono (fun _ _ x => x.elim))⟩, by have := HK1.out.2; rw [Pu.lookA]; omega⟩
    obtain ⟨g, hg, hgl⟩ := hubs_some HA1.out.1 (HL.out.ne f (by rw [← HN.out]; exact hfn))
    injection hg with hg
    injection hg with hg
    subst hg
    exact Nat.lt_of_lt_of_le hgl hT2.size
  have HH : Hid (l1 ≤ hc1' ∧ w.heap.size ≤ g1) := ⟨HA1.out.2.1, HA1.out.2.2.1⟩
  clear hT2 HS1 HA1 HT1 HQ1 HK1 e2 e3 hbl
  go_wp2_with fail
  go_loopw [6, 18] (fun xv iv wr => ∃ (i : Nat) (x kv' : Value) (wy : World), x = xv ∧ iv = .int .i64 (i : Int) ∧ i ≤ n ∧ wy = wr ∧ Hid (OthAt w b og oc sg sc O st S c kv lab f g1 (Pu.lookA c st f LP i) (Pu.nearL lab f i) x kv' wy ∧ (Pu.lookA c st f LP i).2 ≤ r + 2200 * (i + 1))) (fun _ iv _ => n - (intOf iv).toNat)
  case atStart => exact ⟨0, _, kv1, w2, rfl, rfl, by omega, rfl, H2.out⟩
  case round =>
    clear H2
    obtain ⟨i, x, kv2, wr, hx, rfl, hin, hwy, HI⟩ := hrel
    subst hwy hx
    by_cases hlt : i < n
    · have hii : (i : Int) < (n : Int) := by omega
      by_cases hif : i = f
      · have hie : ((i : Int) == (f : Int)) = true := by simp; omega
        have HI' : Hid (OthAt w b og oc sg sc O st S c kv lab f g1 (Pu.lookA c st f LP (i + 1)) (Pu.nearL lab f (i + 1)) x kv2 wr ∧ (Pu.lookA c st f LP (i + 1)).2 ≤ r + 2200 * (i + 1 + 1)) := by
          have h1 : Pu.lookA c st f LP (i + 1) = Pu.lookA c st f LP i := by rw [Pu.lookA, if_pos hif]
          have h2 : Pu.nearL lab f (i + 1) = Pu.nearL lab f i := by rw [Pu.nearL, if_pos hif, List.append_nil]
          rw [h1, h2]
          exact ⟨HI.out.1, by have := HI.out.2; omega⟩
        clear HI
        go_wp2
        go_roundw
        case rel => exact ⟨i + 1, x, kv2, wr, rfl, by go_num, by omega, rfl, HI'.out⟩
        case measure => simp [intOf]; omega
      · have hie : ((i : Int) == (f : Int)) = false := by simp; omega
        have CI := HC.out i (Pu.lookA c st f LP i) wr kv2 (by rw [← HN.out]; exact hlt) HI.out.1.k (by have := HI.out.2; omega) HI.out.1.s
        obtain ⟨l2, hl2⟩ : ∃ l, l = (lab i).length := ⟨_, rfl⟩
        have HL2 : Hid (l2 = (lab i).length) := hl2
        rw [← hl2] at CI
        clear hl2
        go_wp2_with fail
        refine CI.mono ?_
        rintro e w3 ⟨a2, hc2, kv3, rfl, hA2, hlc2, ho2, hS3, hq3, hT3⟩
        have hbw : b < w.heap.size := HST.out.box.lt
        have hg1b : ¬ (g1 = b ∨ kv2.ownBlock = some g1) := by
          rintro (e | e)
          · have := HH.out.2; omega
          · exact HI.out.1.gk e
        have HU1 : Hid (HubsAt w3 (.slice (some ⟨g1, 0, none⟩) l1 hc1') (lab f)) := by
          have h1 := HI.out.1.h.turns_p (n := l1) (c := hc1') hT3 (fun q hq => by
            have hq : some g1 = some q := hq
            injection hq with hq
            subst hq
            exact hg1b)
          have := HubsAt.of h1 (by rw [← HL1.out]; exact HH.out.1)
          rwa [← HL1.out] at this
        have HU2 : Hid (HubsAt w3 (.slice a2 l2 hc2) (lab i)) := by
          have := HubsAt.of hA2 (by rw [← HL2.out]; exact hlc2)
          rwa [← HL2.out] at this
        have hxw : ∀ q, x.ownBlock = some q → w.heap.size ≤ q := fun q hq => (World.ownsRow.lt HI.out.1.row q hq).1
        have HX3 : Hid (∀ w5, Turns (fun _ => False) w3 w5 → OthAt w b og oc sg sc O st S c kv lab f g1 (Pu.lookA c st f LP (i + 1)) (Pu.nearL lab f i) x kv3 w5) := by
          intro w5 t5
          have h1 : Pu.lookA c st f LP (i + 1) = Pu.lookP c st (Pu.lookA c st f LP i) i := by rw [Pu.lookA, if_neg hif]
          rw [h1]
          have hap := owns_apart HI.out.1.row HI.out.1.s.kept (by decide)
          refine ⟨hS3.turns0 t5, (HK2.out i _ (by rw [← HN.out]; exact hlt) HI.out.1.k).1, owns_turns (owns_turns_p HI.out.1.row hT3 (fun q hq => ?_)) t5, (HI.out.1.h.turns_p (n := l1) (c := hc1') hT3 (fun q hq => ?_)).turns t5, ?_, ?_, HI.out.1.gx, fun q hq => ?_, (HI.out.1.t.join hT3 (fun q hq hp => ?_)).trans (t5.mono (fun _ _ x => x.elim))⟩
          · rintro (e | e)
            · have := hxw q hq; omega
            · exact hap q hq e
          · have hq : some g1 = some q := hq
            injection hq with hq
            subst hq
            exact hg1b
          · exact Nat.lt_of_lt_of_le HI.out.1.g (Nat.le_trans hT3.size t5.size)
          · intro e
            rcases hq3 g1 e with e | e
            · exact HI.out.1.gk e
            · have := HI.out.1.g; omega
          · rcases hq3 q hq with e | e
            · exact HI.out.1.q q e
            · exact Or.inr (Nat.le_trans HI.out.1.t.size e)
          · rintro (e | e)
            · exact hp (Or.inl e)
            · rcases HI.out.1.q q e with e | e
              · exact hp (Or.inr e)
              · omega
        have HR3 : Hid ((Pu.lookA c st f LP (i + 1)).2 ≤ r + 2200 * (i + 1 + 1)) := by
          have h1 : Pu.lookA c st f LP (i + 1) = Pu.lookP c st (Pu.lookA c st f LP i) i := by rw [Pu.lookA, if_neg hif]
          have h2 := (HK2.out i (Pu.lookA c st f LP i) (by rw [← HN.out]; exact hlt) HI.out.1.k).2
          have h3 := HI.out.2
          show (Pu.lookA c st f LP (i + 1)).2 ≤ r + 2200 * (i + 1 + 1)
          rw [h1]; omega
        have cb := best_any w3 _ _ (lab f) (lab i) 0 0 HU1.out HU2.out (HL.out.rise (by rw [← HN.out]; exact hfn)) (HL.out.rise (by rw [← HN.out]; exact hlt))
        have HNL : Hid (Pu.nearL lab f (i + 1) = Pu.nearL lab f i ++ Pu.nearO i (Pu.best none (lab f) (lab i))) := by
          show _ = _
          rw [Pu.nearL, if_neg hif]
          cases Pu.best none (lab f) (lab i) <;> rfl
        generalize Pu.best none (lab f) (lab i) = BB at *
        clear CI HI hA2 hlc2 ho2 hS3 hq3 hT3 HU1 HU2 hxw hg1b
        go_wp2_with fail
        refine cb.mono ?_
        rintro e w4 ⟨rfl, hT4⟩
        cases BB with
        | none =>
          have HX4 : Hid (∀ o q, OthAt w b og oc sg sc O st S c kv lab f g1 (Pu.lookA c st f LP (i + 1)) (Pu.nearL lab f (i + 1)) x kv3 ((w4.alloc o).drewN q)) := fun o q => by
            have h1 := HNL.out
            rw [Pu.nearO, List.append_nil] at h1
            rw [h1]
            exact HX3.out _ ((hT4.alloc o).drewN q)
          simp only [hubO]
          clear cb hT4 HX3 HNL
          go_wp2
          go_roundw
          case rel => exact ⟨i + 1, x, kv3, _, rfl, by go_num, by omega, rfl, HX4.out _ 0, HR3.out⟩
          case measure => simp [intOf]; omega
        | some z =>
          obtain ⟨rk, y⟩ := z
          simp only [hubO]
          have H5 : Hid (OthAt w b og oc sg sc O st S c kv lab f g1 (Pu.lookA c st f LP (i + 1)) (Pu.nearL lab f i) x kv3 (w4.alloc (.cells #[.int .i64 (rk : Int), .int .i64 y] 131))) := HX3.out _ (hT4.alloc _)
          obtain ⟨xs, hxs⟩ : ∃ xs, xs = hubV (Pu.nearL lab f i) := ⟨_, rfl⟩
          obtain ⟨nn, hnn⟩ : ∃ nn, nn = (Pu.nearL lab f i).length := ⟨_, rfl⟩
          have hnl : nn ≤ 40 := by rw [hnn]; have := Pu.nearL_len lab f i; omega
          have HO : Hid (OwnG (w4.alloc (.cells #[.int .i64 (rk : Int), .int .i64 y] 131)) x w.heap.size 66 2 x nn xs (w4.alloc (.cells #[.int .i64 (rk : Int), .int .i64 y] 131))) := by rw [hxs, hnn]; exact OwnG.refl H5.out.row
          have hsz : w.heap.size ≤ (w4.alloc (.cells #[.int .i64 (rk : Int), .int .i64 y] 131)).heap.size := H5.out.t.size
          have HY : Hid (∀ v' w6, OwnG (w4.alloc (.cells #[.int .i64 (rk : Int), .int .i64 y] 131)) x w.heap.size 66 2 v' (nn + 1) (xs ++ (#[Value.int .i64 (i : Int), .int .i64 y] : Array Value).toList) w6 → OthAt w b og oc sg sc O st S c kv lab f g1 (Pu.lookA c st f LP (i + 1)) (Pu.nearL lab f (i + 1)) v' kv3 w6) := by
            intro v' w6 hB
            have h5 := H5.out
            have hxw : ∀ q, x.ownBlock = some q → w.heap.size ≤ q := fun q hq => (World.ownsRow.lt h5.row q hq).1
            have hn1 := HL.out.n1
            have hft : ∀ q, Foot b og sg kv q → q < w.heap.size := fun q hq => HST.out.foot_lt hn1 hq
            have hap := owns_apart h5.row h5.s.kept (by decide)
            have hnl2 := HNL.out
            rw [Pu.nearO] at hnl2
            rw [hnl2]
            refine ⟨h5.s.turns hB.turns (fun c => ?_) (fun c => ?_) (fun c => ?_) (fun q hq c => hap q c hq), h5.k, ?_, h5.h.turns_p (n := l1) (c := hc1') hB.turns (fun q hq => ?_), Nat.lt_of_lt_of_le h5.g hB.turns.size, h5.gk, fun c => ?_, h5.q, h5.t.join hB.turns (fun q hq _ c => ?_)⟩
            · have := hxw b c; have := hft b (Or.inl rfl); omega
            · have := hxw og c; have := hft og (Or.inr (Or.inl rfl)); omega
            · have := hxw sg c; have := hft sg (Or.inr (Or.inr (Or.inl rfl))); omega
            · have h6 := hB.own
              rw [hubV_append, List.length_append, ← hxs, ← hnn]
              exact h6
            · have hq : some g1 = some q := hq
              injection hq with hq
              subst hq
              exact h5.gx
            · rcases hB.block g1 c with c | c
              · exact h5.gx c
              · have := h5.g; omega
            · have := hxw q c; omega
          clear cb hxs hnn hT4 HX3 HNL H5
          go_wp2_with (at_builtin; refine wpList_append_one rfl _ _ 62 rfl 66 2 16 _ Tryz.underlying62 infoNear rfl (by decide) (w4.alloc (.cells #[.int .i64 (rk : Int), .int .i64 y] 131)) (w4.alloc (.cells #[.int .i64 (rk : Int), .int .i64 y] 131)) x x w.heap.size nn xs _ rfl (by intro u hu; simp at hu; rcases hu with rfl | rfl <;> rfl) HO.out hsz (by omega) (by omega) rfl _ rfl (by simp) ?_)
          intro v' w6 hB
          have HZ : Hid (OthAt w b og oc sg sc O st S c kv lab f g1 (Pu.lookA c st f LP (i + 1)) (Pu.nearL lab f (i + 1)) v' kv3 w6) := HY.out v' w6 hB
          clear HY hB HO
          go_wp2
          go_roundw
          case rel => exact ⟨i + 1, v', kv3, w6, rfl, by go_num, by omega, rfl, HZ.out, HR3.out⟩
          case measure => simp [intOf]; omega
    · have hii : ¬ (i : Int) < (n : Int) := by omega
      have hie : i = n := by omega
      subst hie
      have HX : Hid (OthAt w b og oc sg sc O st S c kv lab f g1 (Pu.lookA c st f LP i) (Pu.nearL lab f i) x kv2 wr) := HI.out.1
      clear HI
      go_wp2
      go_ret
      exact ⟨x, rfl, kv2, g1, HX.out⟩
end Go.Proofs.YtdogncjcainhlaaGreatDoor
/- The library's contract of slices.SortFunc at structs, laid at this translation. -/
namespace Go.Proofs.YtdogncjcainhlaaGreatDoor
open Go.Shelf Go.Lib Go.RowKit Go.Sort
def sortNear_ren : Go.Shelf.Ren := ⟨fun | 6 => 49 | 15 => 87 | 14 => 86 | 28 => 138 | 29 => 139 | 20 => 130 | 21 => 131 | 22 => 132 | 23 => 133 | 24 => 134 | 25 => 135 | 26 => 136 | 27 => 137 | 46 => 164 | 47 => 165 | 48 => 166 | 49 => 167 | 50 => 168 | 57 => 186 | n => n, fun | 22 => 62 | 24 => 66 | 25 => 138 | 3 => 3 | 39 => 194 | 0 => 0 | 53 => 88 | 55 => 244 | 4 => 4 | 46 => 237 | 45 => 236 | 50 => 174 | 5 => 5 | 9 => 9 | 66 => 265 | 70 => 269 | 76 => 285 | 77 => 167 | n => n, fun | n => n⟩
theorem sortNear : Go.Proofs.SlLaysF0.n6 Tryz.prog sortNear_ren := {
  mixed := by kernel_rfl
  f6 := ⟨Tryz.f49.name, by decide, Tryz.func49.trans (congrArg some (by kernel_rfl))⟩
  f14 := ⟨Tryz.f86.name, by decide, Tryz.func86.trans (congrArg some (by kernel_rfl))⟩
  f15 := Tryz.func87.trans (congrArg some (by kernel_rfl))
  f20 := ⟨Tryz.f130.name, by decide, Tryz.func130.trans (congrArg some (by kernel_rfl))⟩
  f21 := ⟨Tryz.f131.name, by decide, Tryz.func131.trans (congrArg some (by kernel_rfl))⟩
  f22 := ⟨Tryz.f132.name, by decide, Tryz.func132.trans (congrArg some (by kernel_rfl))⟩
  f23 := ⟨Tryz.f133.name, by decide, Tryz.func133.trans (congrArg some (by kernel_rfl))⟩
  f24 := ⟨Tryz.f134.name, by decide, Tryz.func134.trans (congrArg some (by kernel_rfl))⟩
  f25 := ⟨Tryz.f135.name, by decide, Tryz.func135.trans (congrArg some (by kernel_rfl))⟩
  f26 := ⟨Tryz.f136.name, by decide, Tryz.func136.trans (congrArg some (by kernel_rfl))⟩
  f27 := ⟨Tryz.f137.name, by decide, Tryz.func137.trans (congrArg some (by kernel_rfl))⟩
  f28 := Tryz.func138.trans (congrArg some (by kernel_rfl))
  f29 := Tryz.func139.trans (congrArg some (by kernel_rfl))
  f46 := ⟨Tryz.f164.name, by decide, Tryz.func164.trans (congrArg some (by kernel_rfl))⟩
  f47 := Tryz.func165.trans (congrArg some (by kernel_rfl))
  f48 := Tryz.func166.trans (congrArg some (by kernel_rfl))
  f49 := ⟨Tryz.f167.name, by decide, Tryz.func167.trans (congrArg some (by kernel_rfl))⟩
  f50 := ⟨Tryz.f168.name, by decide, Tryz.func168.trans (congrArg some (by kernel_rfl))⟩
  f57 := ⟨Tryz.f186.name, by decide, Tryz.func186.trans (congrArg some (by kernel_rfl))⟩
  t0 := Tryz.underlying0
  a0 := Tryz.isAgg0
  z0 := Tryz.sizeOf0
  v0 := Tryz.zeroValue0
  t3 := Tryz.underlying3
  a3 := Tryz.isAgg3
  z3 := Tryz.sizeOf3
  v3 := Tryz.zeroValue3
  t4 := Tryz.underlying4
  a4 := Tryz.isAgg4
  z4 := Tryz.sizeOf4
  v4 := Tryz.zeroValue4
  t5 := Tryz.underlying5
  a5 := Tryz.isAgg5
  z5 := Tryz.sizeOf5
  v5 := Tryz.zeroValue5
  t9 := Tryz.underlying9
  a9 := Tryz.isAgg9
  z9 := Tryz.sizeOf9
  v9 := Tryz.zeroValue9
  t22 := Tryz.underlying62
  a22 := Tryz.isAgg62
  z22 := Tryz.sizeOf62
  v22 := Tryz.zeroValue62
  t25 := Tryz.underlying138
  a25 := Tryz.isAgg138
  z25 := Tryz.sizeOf138
  v25 := Tryz.zeroValue138
  t39 := Tryz.underlying194
  a39 := Tryz.isAgg194
  z39 := Tryz.sizeOf194
  v39 := Tryz.zeroValue194
  t45 := Tryz.underlying236
  a45 := Tryz.isAgg236
  z45 := Tryz.sizeOf236
  v45 := Tryz.zeroValue236
  t46 := Tryz.underlying237
  a46 := Tryz.isAgg237
  z46 := Tryz.sizeOf237
  v46 := Tryz.zeroValue237
  t50 := Tryz.underlying174
  a50 := Tryz.isAgg174
  z50 := Tryz.sizeOf174
  v50 := Tryz.zeroValue174
  t53 := Tryz.underlying88
  a53 := Tryz.isAgg88
  z53 := Tryz.sizeOf88
  v53 := Tryz.zeroValue88
  t55 := Tryz.underlying244
  a55 := Tryz.isAgg244
  z55 := Tryz.sizeOf244
  v55 := Tryz.zeroValue244
  t66 := Tryz.underlying265
  a66 := Tryz.isAgg265
  z66 := Tryz.sizeOf265
  v66 := Tryz.zeroValue265
  t70 := Tryz.underlying269
  a70 := Tryz.isAgg269
  z70 := Tryz.sizeOf269
  v70 := Tryz.zeroValue269
  t76 := Tryz.underlying285
  a76 := Tryz.isAgg285
  z76 := Tryz.sizeOf285
  v76 := Tryz.zeroValue285
  t77 := Tryz.underlying167
  a77 := Tryz.isAgg167
  z77 := Tryz.sizeOf167
  v77 := Tryz.zeroValue167 }
theorem slices_SortFunc_near {α : Type} [Inhabited α] (enc : α → List Value) (hk : ∀ x, (enc x).length = 2) (h1 : ∀ x, ∀ v ∈ enc x, v.oneCell' = true) (cf : α → α → Int) (hO : SWO (ltOf cf)) (g : Nat) (cb : Array Value) (blk off cap : Nat) (d : Array α) (w : World)
    (eg : ∀ args w, (callFunc g args).run Tryz.prog w = .ok (.enter g args) w) (hcmp : CmpLays Tryz.prog g cb enc 2 cf blk off d.size w) (hH : HoldsK enc 2 w blk off d) (hblk : blk < w.heap.size) (hsz : d.size < 4611686018427387904) (hT : ∀ x y, (ltOf cf) x y = false → (ltOf cf) y x = false → x = y) :
    Calls Tryz.prog 49 #[.slice (some ⟨blk, off, none⟩) d.size cap, .func (.func g) #[] cb] w fun e w' =>
      e = .returned (.tuple #[]) ∧ ∃ n os, w' = sortWorldK enc 2 w blk off n (d.toList.mergeSort fun x y => !(ltOf cf) y x).toArray os := AnyQ.slices_SortFunc_total sortNear 2 Tryz.isAgg66 Tryz.sizeOf66 enc hk h1 cf hO g cb blk off cap d w eg hcmp hH hblk hsz hT
theorem slices_SortFunc_near0 (p : Option Addr) (cap : Nat) (fv : Value) (w : World) : Calls Tryz.prog 49 #[.slice p 0 cap, fv] w fun e w' => e = .returned (.tuple #[]) ∧ w' = w := AnyF.slices_SortFunc_none sortNear p cap fv w
#print axioms slices_SortFunc_near
end Go.Proofs.YtdogncjcainhlaaGreatDoor
/- Places by how far they are: put in one by one, or sorted: no program in it. -/
namespace Go.Proofs.YtdogncjcainhlaaGreatDoor
namespace Pu

/-- Nearer; of those as far the one with the lower number. A place, and how far it is. -/
def Nearer (a b : Nat × Int) : Prop := a.2 < b.2 ∨ (a.2 = b.2 ∧ a.1 < b.1)
theorem Nearer.irrefl (a : Nat × Int) : ¬ Nearer a a := by unfold Nearer; omega
theorem Nearer.trans {a b c : Nat × Int} (h : Nearer a b) (k : Nearer b c) : Nearer a c := by unfold Nearer at *; omega
theorem Nearer.total {a b : Nat × Int} (h : ¬ Nearer a b) (k : ¬ Nearer b a) : a = b := by
  unfold Nearer at *
  have h1 : a.1 = b.1 := by omega
  have h2 : a.2 = b.2 := by omega
  exact Prod.ext h1 h2
/-- How many stand ahead of one that is so far, looked for from the end of the first k. -/
def backN (f : Int) (l : List (Nat × Int)) : Nat → Nat
  | 0 => 0
  | k + 1 => match l[k]? with
    | none => k + 1
    | some x => if x.2 > f then backN f l k else k + 1
def insN (v : Nat) (f : Int) (l : List (Nat × Int)) : List (Nat × Int) := l.take (backN f l l.length) ++ (v, f) :: l.drop (backN f l l.length)
theorem backN_le (f : Int) (l : List (Nat × Int)) : ∀ k, backN f l k ≤ k
  | 0 => Nat.le_refl _
  | k + 1 => by
    unfold backN
    split
    · exact Nat.le_refl _
    · split
      · have := backN_le f l k; omega
      · exact Nat.le_refl _
theorem backN_after (f : Int) (l : List (Nat × Int)) : ∀ k j x, backN f l k ≤ j → j < k → l[j]? = some x → f < x.2
  | 0, j, x, _, h, _ => by omega
  | k + 1, j, x, h1, h2, h3 => by
    unfold backN at h1
    split at h1
    · omega
    · rename_i y hy
      split at h1
      · rename_i hf
        by_cases e : j = k
        · subst e
          rw [hy] at h3
          injection h3 with h3
          subst h3
          exact hf
        · exact backN_after f l k j x h1 (by omega) h3
      · omega
theorem backN_last (f : Int) (l : List (Nat × Int)) : ∀ k x, k ≤ l.length → 0 < backN f l k → l[backN f l k - 1]? = some x → x.2 ≤ f
  | 0, x, _, h, _ => by simp [backN] at h
  | k + 1, x, hl, h, hx => by
    unfold backN at h hx
    split at h
    · rename_i hn
      have := List.getElem?_eq_none_iff.1 hn
      omega
    · rename_i y hy
      rw [hy] at hx
      simp only at hx
      by_cases hf : y.2 > f
      · rw [if_pos hf] at h hx
        exact backN_last f l k x (by omega) h hx
      · rw [if_neg hf] at hx
        rw [show k + 1 - 1 = k by omega, hy] at hx
        injection hx with hx
        subst hx
        omega
theorem insN_perm (v : Nat) (f : Int) (l : List (Nat × Int)) : (insN v f l).Perm (l ++ [(v, f)]) := by
  unfold insN
  refine List.perm_middle.trans ?_
  rw [List.take_append_drop]
  exact (List.perm_append_singleton _ _).symm
theorem insN_sorted {v : Nat} {f : Int} {l : List (Nat × Int)} (hs : l.Pairwise Nearer) (hv : ∀ x ∈ l, x.1 < v) : (insN v f l).Pairwise Nearer := by
  unfold insN
  obtain ⟨k, hk⟩ : ∃ k, k = backN f l l.length := ⟨_, rfl⟩
  rw [← hk]
  have hkl : k ≤ l.length := by rw [hk]; exact backN_le f l _
  have hsp := hs
  rw [← List.take_append_drop k l] at hsp
  rw [List.pairwise_append] at hsp
  obtain ⟨p1, p2, p3⟩ := hsp
  have before : ∀ x ∈ l.take k, Nearer x (v, f) := by
    intro x hx
    obtain ⟨i, hi, hxi⟩ := List.getElem_of_mem hx
    have hik : i < k := by rw [List.length_take] at hi; omega
    have hlast : ∃ y, l[k - 1]? = some y := ⟨_, List.getElem?_eq_getElem (by omega)⟩
    obtain ⟨y, hy⟩ := hlast
    have hyf := backN_last f l l.length y (Nat.le_refl _) (by omega) (by rw [← hk]; exact hy)
    have hxe : l[i]? = some x := by
      rw [← hxi, List.getElem_take]
      exact List.getElem?_eq_getElem _
    have hxv := hv x (List.mem_of_getElem? hxe)
    have hxf : x.2 ≤ f := by
      by_cases e : i = k - 1
      · subst e
        rw [hy] at hxe
        injection hxe with hxe
        subst hxe
        exact hyf
      · have hi' : i < l.length := (List.getElem?_eq_some_iff.1 hxe).1
        have hj' : k - 1 < l.length := by omega
        have := List.pairwise_iff_getElem.1 hs i (k - 1) hi' hj' (by omega)
        rw [(List.getElem?_eq_some_iff.1 hxe).2, (List.getElem?_eq_some_iff.1 hy).2] at this
        unfold Nearer at this
        omega
    unfold Nearer
    simp only
    omega
  have after : ∀ x ∈ l.drop k, Nearer (v, f) x := by
    intro x hx
    obtain ⟨i, hi, hxi⟩ := List.getElem_of_mem hx
    rw [List.length_drop] at hi
    have hxe : l[k + i]? = some x := by
      rw [← hxi, List.getElem_drop]
      exact List.getElem?_eq_getElem _
    have := backN_after f l l.length (k + i) x (by rw [← hk]; omega) (by omega) hxe
    exact Or.inl this
  rw [List.pairwise_append]
  refine ⟨p1, List.pairwise_cons.2 ⟨after, p2⟩, ?_⟩
  intro a ha b hb
  rcases List.mem_cons.1 hb with rfl | hb
  · exact before a ha
  · exact p3 a ha b hb
/-- Two sorted lists of the same places are one. -/
theorem nears_one : ∀ {a b : List (Nat × Int)}, a.Pairwise Nearer → b.Pairwise Nearer → a.Perm b → a = b
  | [], b, _, _, h => (List.Perm.nil_eq h)
  | x :: a, [], _, _, h => by have := h.length_eq; simp at this
  | x :: a, y :: b, ha, hb, h => by
    rw [List.pairwise_cons] at ha hb
    have e : x = y := by
      have h1 : x ∈ y :: b := h.mem_iff.1 (by simp)
      have h2 : y ∈ x :: a := h.mem_iff.2 (by simp)
      rcases List.mem_cons.1 h1 with e | h1
      · exact e
      · rcases List.mem_cons.1 h2 with e | h2
        · exact e.symm
        · exact (Nearer.irrefl _ ((hb.1 x h1).trans (ha.1 y h2))).elim
    subst e
    rw [nears_one ha.2 hb.2 (List.Perm.cons_inv h)]
end Pu
end Go.Proofs.YtdogncjcainhlaaGreatDoor
/- Places by how far they are: slices.SortFunc with Around's closure; slices.Clone of places. -/
namespace Go.Proofs.YtdogncjcainhlaaGreatDoor
open Go.RowKit Go.Deep
open Mem

namespace Pu
/-- What Around's closure makes of two places. -/
def nearCmp (a b : Nat × Int) : Int := or2 (sgn a.2 b.2) (sgn a.1 b.1)
theorem nearCmp_lt (a b : Nat × Int) : ltOf nearCmp a b = true ↔ Nearer a b := by
  unfold ltOf nearCmp or2 sgn Nearer
  rw [decide_eq_true_iff]
  repeat' split
  all_goals omega
theorem nearCmp_no (a b : Nat × Int) : ltOf nearCmp a b = false ↔ ¬ Nearer a b := by rw [← nearCmp_lt, Bool.not_eq_true]
theorem nearCmp_swo : Sort.SWO (ltOf nearCmp) := {
  irrefl := fun x => by rw [nearCmp_no]; exact Nearer.irrefl x
  trans := fun x y z h1 h2 => by rw [nearCmp_lt] at *; exact h1.trans h2
  ntrans := fun x y z h1 h2 => by rw [nearCmp_no] at *; unfold Nearer at *; omega }
theorem nearCmp_one (x y : Nat × Int) (h : ltOf nearCmp x y = false) (k : ltOf nearCmp y x = false) : x = y := by
  rw [nearCmp_no] at h k
  exact Nearer.total h k
/-- Places sorted by how far they are. -/
def srt (l : List (Nat × Int)) : List (Nat × Int) := l.mergeSort fun x y => !(ltOf nearCmp) y x
theorem srt_perm (l : List (Nat × Int)) : (srt l).Perm l := List.mergeSort_perm _ _
theorem srt_len (l : List (Nat × Int)) : (srt l).length = l.length := (srt_perm l).length_eq
theorem srt_sorted {l : List (Nat × Int)} (h : l.Nodup) : (srt l).Pairwise Nearer := by
  have h1 : (srt l).Pairwise fun x y => (!(ltOf nearCmp) y x) = true := List.pairwise_mergeSort (le := fun x y => !(ltOf nearCmp) y x)
    (fun a b c h1 h2 => by
      simp only [Bool.not_eq_true', nearCmp_no] at *
      unfold Nearer at *; omega)
    (fun a b => by
      cases e : ltOf nearCmp b a with
      | false => simp
      | true =>
        have h2 : ltOf nearCmp a b = false := by
          rw [nearCmp_lt] at e; rw [nearCmp_no]; unfold Nearer at *; omega
        simp [h2]) l
  have h2 : (srt l).Nodup := (srt_perm l).symm.nodup h
  exact (List.pairwise_and_iff.2 ⟨h1, h2⟩).imp (fun {a b} ⟨c1, c2⟩ => by
    have c1 : ltOf nearCmp b a = false := by simpa using c1
    rw [nearCmp_no] at c1
    by_cases e : Nearer a b
    · exact e
    · exact absurd (Nearer.total e c1) c2)
theorem nearL_below (lab : Nat → List (Nat × Int)) (f : Nat) : ∀ n, ∀ y ∈ nearL lab f n, y.1 < n ∧ y.1 ≠ f
  | 0 => fun y hy => by simp [nearL] at hy
  | v + 1 => fun y hy => by
    rw [nearL, List.mem_append] at hy
    rcases hy with hy | hy
    · have := nearL_below lab f v y hy; exact ⟨by omega, this.2⟩
    · split at hy
      · simp at hy
      · rename_i hv
        split at hy
        · simp at hy
        · rw [List.mem_singleton.1 hy]; exact ⟨by simp, hv⟩
theorem nearL_nodup (lab : Nat → List (Nat × Int)) (f : Nat) : ∀ n, (nearL lab f n).Nodup
  | 0 => List.nodup_nil
  | v + 1 => by
    have h1 := nearL_nodup lab f v
    have h2 := nearL_below lab f v
    rw [nearL]
    split
    · rw [List.append_nil]; exact h1
    · split
      · rw [List.append_nil]; exact h1
      · rw [List.nodup_append]
        refine ⟨h1, by simp, fun a ha b hb => ?_⟩
        rw [List.mem_singleton.1 hb]
        intro e
        have := (h2 a ha).1
        rw [e] at this
        exact Nat.lt_irrefl _ this
end Pu
/-- The cells of a place. -/
def nearE (p : Nat × Int) : List Value := [.int .i64 (p.1 : Int), .int .i64 p.2]
theorem flat_near (d : Array (Nat × Int)) : (Sort.flatK nearE 2 d).toList = hubV d.toList := by
  refine List.ext_getElem? fun t => ?_
  by_cases ht : t < d.size * 2
  · have hq : t / 2 < d.toList.length := by simp; omega
    obtain ⟨r, f⟩ : ∃ p : Nat × Int, d.toList[t / 2]? = some p := ⟨_, List.getElem?_eq_getElem hq⟩
    have h1 := hubV_get d.toList (t / 2) r.1 r.2 f
    have h2 : d[t / 2]! = r := by
      have : d[t / 2]? = some r := by rw [← Array.getElem?_toList]; exact f
      rw [getElem!_def, this]
    have h3 := Sort.get_flatK nearE 2 d t ht
    rw [h2] at h3
    have h4 : (Sort.flatK nearE 2 d).toList[t]? = some ((Sort.flatK nearE 2 d)[t]!) := by
      rw [Array.getElem?_toList, Array.getElem?_eq_getElem (by simpa using ht), getElem!_pos _ _ (by simpa using ht)]
    rw [h4, h3]
    rcases Nat.mod_two_eq_zero_or_one t with c | c
    · have e : t / 2 * 2 = t := by omega
      rw [c]
      have := h1.1
      rw [e] at this
      rw [this]; rfl
    · have e : t = t / 2 * 2 + 1 := by omega
      rw [c]
      have := h1.2
      rw [← e] at this
      rw [this]; rfl
  · rw [List.getElem?_eq_none (by simp; omega), List.getElem?_eq_none (by rw [hubV_len]; simp; omega)]
theorem alloc3_grow (W : World) (o1 o2 o3 : Obj) : (((W.alloc o1).alloc o2).alloc o3).drew = Sort.grow (W.drewN 1) #[o1, o2, o3] := by
  unfold Sort.grow
  show (((W.alloc o1).alloc o2).alloc o3).drew = { W.drewN 1 with heap := W.heap ++ #[o1, o2, o3] }
  have e : W.heap ++ #[o1, o2, o3] = ((W.heap.push o1).push o2).push o3 := by
    apply Array.ext'
    simp
  rw [e]
  rfl
set_option maxRecDepth 100000 in
set_option maxHeartbeats 400000 in
theorem nearClo_any (W : World) (pa pb : Nat) (fa fb : Int) :
    Calls Tryz.prog 50 #[.agg #[.int .i64 (pa : Int), .int .i64 fa], .agg #[.int .i64 (pb : Int), .int .i64 fb]] W fun e w' => e = .returned (.int .i64 (Pu.or2 (Pu.sgn fa fb) (Pu.sgn pa pb))) ∧ ∃ q os', w' = Sort.grow (W.drewN q) os' := by
  obtain ⟨W2, hW2⟩ : ∃ W2, W2 = (W.alloc (.cells #[.int .i64 (pa : Int), .int .i64 fa] 66)).alloc (.cells #[.int .i64 (pb : Int), .int .i64 fb] 66) := ⟨_, rfl⟩
  have a0 : W2.cell? ⟨W.heap.size, 0, none⟩ = some (.int .i64 (pa : Int)) := by rw [hW2]; simp
  have a1 : W2.cell? ⟨W.heap.size, 1, none⟩ = some (.int .i64 fa) := by rw [hW2]; simp
  have b0 : W2.cell? ⟨W.heap.size + 1, 0, none⟩ = some (.int .i64 (pb : Int)) := by rw [hW2]; simp
  have b1 : W2.cell? ⟨W.heap.size + 1, 1, none⟩ = some (.int .i64 fb) := by rw [hW2]; simp
  have HW2 : Hid ((W.alloc (.cells #[.int .i64 (pa : Int), .int .i64 fa] 66)).alloc (.cells #[.int .i64 (pb : Int), .int .i64 fb] 66) = W2) := hW2.symm
  have HE : Hid ((W2.alloc (.cells #[.int .i64 (Pu.sgn fa fb), .int .i64 (Pu.sgn pa pb)] 3)).drew = Sort.grow (W.drewN 1) #[.cells #[.int .i64 (pa : Int), .int .i64 fa] 66, .cells #[.int .i64 (pb : Int), .int .i64 fb] 66, .cells #[.int .i64 (Pu.sgn fa fb), .int .i64 (Pu.sgn pa pb)] 3]) := by show _ = _; rw [hW2]; exact alloc3_grow W _ _ _
  have K3 : Calls Tryz.prog 51 #[.slice (some ⟨W2.heap.size, 0, none⟩) 2 2] (W2.alloc (.cells #[.int .i64 (Pu.sgn fa fb), .int .i64 (Pu.sgn pa pb)] 3)).drew fun e w' => e = .returned (.int .i64 (Pu.or2 (Pu.sgn fa fb) (Pu.sgn pa pb))) ∧ w' = (W2.alloc (.cells #[.int .i64 (Pu.sgn fa fb), .int .i64 (Pu.sgn pa pb)] 3)).drew :=
    or_any _ _ _ _ (by show (W2.alloc _).cell? _ = _; rw [World.cell?_alloc_new]; rfl) (by show (W2.alloc _).cell? _ = _; rw [World.cell?_alloc_new]; rfl)
  clear hW2
  go_enter Tryz.func50, Tryz.ntmps50
  go_wp2_with fail
  rw [HW2.out]
  go_region_held3 (fun w' => w'.cell? ⟨W.heap.size, 0, none⟩ = some (.int .i64 (pa : Int)) ∧ w'.cell? ⟨W.heap.size, 1, none⟩ = some (.int .i64 fa) ∧ w'.cell? ⟨W.heap.size + 1, 0, none⟩ = some (.int .i64 (pb : Int)) ∧ w'.cell? ⟨W.heap.size + 1, 1, none⟩ = some (.int .i64 fb)) (go_keep)
    (first
      | (go_at_call 52; refine (compare_any _ _ _).mono ?_; rintro e1 w1 ⟨rfl, hw1⟩; subst hw1)
      | (go_at_call 51; refine K3.mono ?_; rintro e1 w1 ⟨rfl, hw1⟩; subst hw1))
  all_goals clear K3
  all_goals go_wp2
  all_goals go_ret
  all_goals exact ⟨rfl, 1, _, HE.out⟩
def cloneRen : Go.Shelf.Ren := ⟨fun | 41 => 53 | n => n, fun | 22 => 62 | 23 => 66 | 4 => 4 | n => n, fun | n => n⟩
theorem cloneLays : Go.Proofs.SlLaysE0.n41 Tryz.prog cloneRen := {
  mixed := by kernel_rfl
  f41 := ⟨Tryz.f53.name, by decide, Tryz.func53.trans (congrArg some (by kernel_rfl))⟩
  t4 := Tryz.underlying4
  a4 := Tryz.isAgg4
  z4 := Tryz.sizeOf4
  v4 := Tryz.zeroValue4
  t22 := Tryz.underlying62
  a22 := Tryz.isAgg62
  z22 := Tryz.sizeOf62
  v22 := Tryz.zeroValue62 }
/-- slices.Clone of places. -/
theorem clone_nil (m c : Nat) (w : World) : Calls Tryz.prog 53 #[.slice none m c] w fun e w' => e = .returned (.slice none 0 0) ∧ w' = w := AnyE.slices_Clone_nil cloneLays m c w
theorem clone_row {w : World} {g m c : Nat} {N : List (Nat × Int)} (hN : N.length = m) (hm : m ≤ 1000) (hc : ∀ (j : Nat) (u : Value), (hubV N)[j]? = some u → w.cell? ⟨g, j, none⟩ = some u) :
    Calls Tryz.prog 53 #[.slice (some ⟨g, 0, none⟩) m c] w fun e w' => ∃ v', e = .returned v' ∧ w'.ownsRow w.heap.size 66 2 v' m (hubV N) ∧ Turns (fun _ => False) w w' := by
  obtain ⟨i0, hi, hz0, hz1, hz2⟩ := info_parts infoNear
  refine (AnyE.slices_Clone cloneLays i0 _ 2 16 hi hz0 hz1 hz2 rfl (by decide) Tryz.sizeOf66 g 0 m c (hubV N) w (by rw [hubV_len, hN]) (by unfold maxLen; omega) (by omega) (fun j u hj => ?_) (fun u hu => ?_)).mono ?_
  · rw [Nat.zero_add]; exact hc j u hj
  · obtain ⟨y, _, hy⟩ := List.mem_flatMap.1 hu
    simp at hy
    rcases hy with rfl | rfl <;> rfl
  · rintro e w' ⟨v', rfl, h1, _, h2⟩
    exact ⟨v', rfl, h1, Turns.of_below h2 _ (fun k h3 h4 => by omega)⟩
theorem sortWorldK_turns (w : World) (blk off m : Nat) (d : Array (Nat × Int)) (os : Array Obj) : Turns (fun k => k = blk) w (sortWorldK nearE 2 w blk off m d os) := by
  have h0 : Turns (fun k => k = blk) w (Sort.ahead w m) := ⟨rfl, rfl, rfl, Nat.le_refl _, fun _ _ _ => rfl⟩
  exact (h0.trans (putRow_turns id _ blk off (Sort.flatK nearE 2 d))).trans ((grow_turns _ os).mono (fun _ _ h => h.elim))
/-- slices.SortFunc of places with Around's closure. -/
theorem nearSort_any {w : World} {base : Nat} {x : Value} {N : List (Nat × Int)} (h : w.ownsRow base 66 2 x N.length (hubV N)) (hN : N.length ≤ 1000) :
    Calls Tryz.prog 49 #[x, .func (.func 50) #[] #[]] w fun e w' => e = .returned (.tuple #[]) ∧ Turns (fun k => x.ownBlock = some k) w w' ∧ ∀ g, x.ownBlock = some g → ∀ (j : Nat) (u : Value), (hubV (Pu.srt N))[j]? = some u → w'.cell? ⟨g, j, none⟩ = some u := by
  rcases h.2 with ⟨hx, hn⟩ | ⟨g, cap, cur, hx, _⟩
  · subst hx
    refine (slices_SortFunc_near0 none 0 _ w).mono ?_
    rintro e w' ⟨rfl, rfl⟩
    exact ⟨rfl, Turns.refl _ _, fun g hg => by cases hg⟩
  · subst hx
    by_cases hz : N.length = 0
    · rw [hz]
      refine (slices_SortFunc_near0 _ cap _ w).mono ?_
      rintro e w' ⟨rfl, rfl⟩
      refine ⟨rfl, Turns.refl _ _, fun g _ j u hj => ?_⟩
      have : N = [] := List.eq_nil_of_length_eq_zero hz
      subst this
      simp [Pu.srt, hubV] at hj
    · have hgl := (World.ownsRow.lt h g rfl).2
      have eg : ∀ args w, (callFunc 50 args).run Tryz.prog w = .ok (.enter 50 args) w := enters_of Tryz.func50 (by kernel_rfl) rfl
      have hcmp : CmpLays Tryz.prog 50 #[] nearE 2 Pu.nearCmp g 0 N.toArray.size w := by
        intro m os dk _ x y
        exact nearClo_any _ x.1 y.1 x.2 y.2
      have hH : Sort.HoldsK nearE 2 w g 0 N.toArray := by
        intro j hj
        have hj' : j < N.length * 2 := by simpa using hj
        have e1 : (Sort.flatK nearE 2 N.toArray)[j]! = ((hubV N)[j]?).getD default := by
          have ef : (Sort.flatK nearE 2 N.toArray).toList = hubV N := flat_near N.toArray
          rw [← ef, Array.getElem?_toList, getElem!_def]
          cases (Sort.flatK nearE 2 N.toArray)[j]? <;> rfl
        obtain ⟨u, hu⟩ : ∃ u, (hubV N)[j]? = some u := ⟨_, List.getElem?_eq_getElem (by rw [hubV_len]; exact hj')⟩
        rw [e1, hu, Nat.zero_add]
        exact ⟨(World.ownsRow.cellAt h j hj').trans hu, World.ownsRow.frozenAt h j⟩
      have k := slices_SortFunc_near nearE (fun _ => rfl) (fun x v hv => by simp [nearE] at hv; rcases hv with rfl | rfl <;> rfl) Pu.nearCmp Pu.nearCmp_swo 50 #[] g 0 cap N.toArray w eg hcmp hH hgl (by simp; omega) Pu.nearCmp_one
      have hs : N.toArray.size = N.length := by simp
      rw [hs] at k
      refine k.mono ?_
      rintro e w' ⟨rfl, m, os, rfl⟩
      refine ⟨rfl, (sortWorldK_turns _ _ _ _ _ _).mono (fun q _ hq => by rw [hq]; rfl), fun g' hg' j u hj => ?_⟩
      have hg' : some g = some g' := hg'
      injection hg' with hg'
      subst hg'
      have e3 : (N.toArray.toList.mergeSort fun x y => !(ltOf Pu.nearCmp) y x) = Pu.srt N := rfl
      rw [e3]
      have h4 := holdsK_sortWorldK_c nearE 2 w g 0 N.toArray (Pu.srt N).toArray m os hH hgl (by simp [Pu.srt_len])
      have hjl : j < (Pu.srt N).length * 2 := by have := (List.getElem?_eq_some_iff.1 hj).1; rwa [hubV_len] at this
      have h5 := (h4 j (by simpa using hjl)).1
      rw [Nat.zero_add] at h5
      rw [h5]
      have e1 : (Sort.flatK nearE 2 (Pu.srt N).toArray)[j]! = ((hubV (Pu.srt N))[j]?).getD default := by
        have ef : (Sort.flatK nearE 2 (Pu.srt N).toArray).toList = hubV (Pu.srt N) := flat_near (Pu.srt N).toArray
        rw [← ef, Array.getElem?_toList, getElem!_def]
        cases (Sort.flatK nearE 2 (Pu.srt N).toArray)[j]? <;> rfl
      rw [id, e1, hj]; rfl
end Go.Proofs.YtdogncjcainhlaaGreatDoor
