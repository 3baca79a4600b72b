/- The walk of ranks.byRoads. -/
import Derived.Test.YtdogncjcainhlaaGreatDoorSrt
namespace Go.Proofs.YtdogncjcainhlaaGreatDoor
open Go.RowKit Go.Deep
open Mem

/-- What holds ahead of each round: the first k places stand in the order, with their roads. -/
structure ByK (w : World) (n : Nat) (d : Nat → Nat) (k : Nat) (wr : World) : Prop where
  ord : Ints wr w.heap.size n (fun j => if j < k then (j : Int) else 0)
  rds : Ints wr (w.heap.size + 1) n (fun j => if j < k then (d j : Int) else 0)
  box : wr.cell? ⟨w.heap.size + 1 + 1, 0, none⟩ = some (.slice (some ⟨w.heap.size + 1, 0, none⟩) n n)
  turns : Turns (fun _ => False) w wr
theorem ByK.next {w wr wb : World} {n k : Nat} {d : Nat → Nat} (h : ByK w n d k wr) (hk : k < n) (t : Turns (fun _ => False) (wr.setCell ⟨w.heap.size, k, none⟩ (.int .i64 (k : Int))) wb) : ByK w n d (k + 1) (wb.setCell ⟨w.heap.size + 1, k, none⟩ (.int .i64 (d k : Int))) := by
  have t0 : Turns (fun x => x = w.heap.size) wr (wr.setCell ⟨w.heap.size, k, none⟩ (.int .i64 (k : Int))) := Turns.setCell (p := fun x => x = w.heap.size) (Turns.refl _ wr) (Or.inr rfl) _
  have t1 : Turns (fun x => x = w.heap.size + 1) wb (wb.setCell ⟨w.heap.size + 1, k, none⟩ (.int .i64 (d k : Int))) := Turns.setCell (p := fun x => x = w.heap.size + 1) (Turns.refl _ wb) (Or.inr rfl) _
  have o1 := ((h.ord.set hk (k : Int)).turns t (fun x => x)).turns t1 (by omega)
  have r1 := (((h.rds.turns t0 (by omega)).turns t (fun x => x)).set hk (d k : Int))
  refine ⟨o1.congr (fun j hj => ?_), r1.congr (fun j hj => ?_), ?_, ?_⟩
  · unfold upd; by_cases e : j = k
    · rw [if_pos e, if_pos (by omega), e]
    · rw [if_neg e]; dsimp only; by_cases c : j < k
      · rw [if_pos c, if_pos (by omega)]
      · rw [if_neg c, if_neg (by omega)]
  · unfold upd; by_cases e : j = k
    · rw [if_pos e, if_pos (by omega), e]
    · rw [if_neg e]; dsimp only; by_cases c : j < k
      · rw [if_pos c, if_pos (by omega)]
      · rw [if_neg c, if_neg (by omega)]
  · have hb := World.block_lt_of_cell? _ _ h.box
    have c1 := (t0.cell (a := ⟨w.heap.size + 1 + 1, 0, none⟩) hb (fun c => by have c' : w.heap.size + 1 + 1 = w.heap.size := c; omega)).trans h.box
    have c2 := (t.cell (World.block_lt_of_cell? _ _ c1) (fun x => x)).trans c1
    exact (t1.cell (a := ⟨w.heap.size + 1 + 1, 0, none⟩) (World.block_lt_of_cell? _ _ c2) (fun c => by have c' : w.heap.size + 1 + 1 = w.heap.size + 1 := c; omega)).trans c2
  · exact ((h.turns.setCell (Or.inl (Nat.le_refl _)) _).trans t).setCell (Or.inl (Nat.le_succ _)) _

theorem ByK.drew {w wr : World} {n k : Nat} {d : Nat → Nat} (h : ByK w n d k wr) : ByK w n d k wr.drew :=
  ⟨h.ord.turns (Turns.refl (fun _ => False) wr).drew (fun x => x), h.rds.turns (Turns.refl (fun _ => False) wr).drew (fun x => x), h.box, h.turns.drew⟩
set_option maxRecDepth 100000 in
set_option maxHeartbeats 1000000 in
theorem byRoads_any (w : World) (b n : Nat) (R : Int) (len : Nat → Nat → Int) (hn1 : 1 ≤ n) (hn : n ≤ 40) (hM : MapAt w b n R len) (N : Pu.Net n len) :
    Calls Tryz.prog 89 #[.pointer (some ⟨b, 0, none⟩)] w fun e w' => ∃ ob, e = .returned (.slice (some ⟨ob, 0, none⟩) n n) ∧ Turns (fun _ => False) w w' ∧ Ord w' ob n (Pu.ranked (fun v => Pu.rowCnt len v n) n) := by
  have hmk := run_make_row' (P := Tryz.prog) 55 3 (.int .i64 0) 8 Tryz.underlying55 info3 rfl .i64 .i64 n (by omega) (by omega)
  have hp := hM.places
  have hbl := hM.lt
  have HM : Hid (∀ wx, Turns (fun _ => False) w wx → MapAt wx b n R len) := fun wx hx => hM.turns hx (fun x => x)
  have HC : Hid (∀ wx (k : Nat), k < n → Turns (fun _ => False) w wx → Calls Tryz.prog 140 #[.pointer (some ⟨b, 0, none⟩), .int .i64 k] wx fun e w' => e = .returned (.int .i64 (Pu.rowCnt len k n : Nat)) ∧ w' = wx) := fun wx k hk hx => count_any wx b n k R len hn hk (hM.turns hx (fun x => x)) N
  have HL : Hid (∀ k, Pu.rowCnt len k n ≤ n) := fun k => Pu.rowCnt_le' len k n
  generalize hdd : (fun v => Pu.rowCnt len v n) = d at *
  have HD : Hid (∀ k, Pu.rowCnt len k n = d k) := fun k => by rw [← hdd]
  clear hM N hdd
  go_enter Tryz.func89, Tryz.ntmps89
  go_wp2
  go_loopw [18] (fun iv wr => ∃ k : Nat, k ≤ n ∧ iv = .int .i64 k ∧ ByK w n d k wr) (fun iv _ => n - (intOf iv).toNat)
  case atStart =>
    refine ⟨0, Nat.zero_le _, rfl, ?_, ?_, ?_, ?_⟩
    · exact ((((Ints.made w n 3 0).turns ((Turns.refl (fun _ => False) _).alloc _) (fun x => x)).turns ((Turns.refl (fun _ => False) _).alloc _) (fun x => x))).congr (fun j _ => by simp)
    · have := (Ints.made (w.alloc (.cells (madeCells #[.int .i64 0] n) 3)) n 3 0).turns ((Turns.refl (fun _ => False) _).alloc (.cells #[.slice (some ⟨w.heap.size + 1, 0, none⟩) n n] 55)) (fun x => x)
      exact (by simpa using this : Ints _ (w.heap.size + 1) n (fun _ => 0)).congr (fun j _ => by simp)
    · have := World.cell?_alloc_new (w := (w.alloc (.cells (madeCells #[.int .i64 0] n) 3)).alloc (.cells (madeCells #[.int .i64 0] n) 3)) #[.slice (some ⟨w.heap.size + 1, 0, none⟩) n n] 55 0
      simpa using this
    · exact (((Turns.refl _ w).alloc _).alloc _).alloc _
  case round =>
    obtain ⟨k, hk, rfl, hK⟩ := hrel
    by_cases hkn : k < n
    · have hki : (k : Int) < (n : Int) := by omega
      have hca := hK.ord.cell k hkn
      have hfa := hK.ord.free k hkn
      have HK : Hid (ByK w n d k wr) := hK
      have t0 : Turns (fun x => x = w.heap.size) wr (wr.setCell ⟨w.heap.size, k, none⟩ (.int .i64 (k : Int))) := Turns.setCell (p := fun x => x = w.heap.size) (Turns.refl _ wr) (Or.inr rfl) _
      have hI2 := hK.rds.turns t0 (by omega)
      have e1 := (t0.cell (a := ⟨w.heap.size + 1 + 1, 0, none⟩) (World.block_lt_of_cell? _ _ hK.box) (fun c => by have c' : w.heap.size + 1 + 1 = w.heap.size := c; omega)).trans hK.box
      have e2 := hI2.cell k hkn
      have e3 := hI2.free k hkn
      have HTT : Hid (Turns (fun _ => False) w (wr.setCell ⟨w.heap.size, k, none⟩ (.int .i64 (k : Int)))) := hK.turns.setCell (Or.inl (Nat.le_refl _)) _
      have hlk : ¬ k < k := by omega
      simp only [if_neg hlk] at hca e2
      clear hK t0 hI2
      go_wp2_with fail
      go_region_held3 (fun w' => w'.cell? ⟨w.heap.size + 1 + 1, 0, none⟩ = some (.slice (some ⟨w.heap.size + 1, 0, none⟩) n n)) (go_keep)
        (first | (go_at_call 140; refine (HC.out _ k hkn (by first | exact HTT.out | exact HTT.out.drew | exact HTT.out.drewN _)).mono ?_; rintro e9 w9 ⟨rfl, hw9⟩; subst hw9))
      all_goals
        have HX : Hid (ByK w n d (k + 1) (((wr.setCell ⟨w.heap.size, k, none⟩ (.int .i64 (k : Int))).setCell ⟨w.heap.size + 1, k, none⟩ (.int .i64 (Pu.rowCnt len k n : Nat))).drew)) := by
          rw [HD.out k]
          exact (HK.out.next hkn (Turns.refl _ _)).drew
        clear HK HTT e1 e2 e3 hca hfa
        go_wp2
        go_roundw
        case measure => simp [intOf]; omega
        case rel => exact ⟨k + 1, by omega, by go_num, HX.out⟩
    · have hke : k = n := by omega
      subst hke
      have hki : ¬ (k : Int) < (k : Int) := by omega
      have c := sort_any wr w.heap.size k (w.heap.size + 1 + 1) (w.heap.size + 1) k d hn1 hn (fun x _ => by rw [← HD.out x]; exact HL.out x)
        (fun j hj => ⟨by have := hK.ord.cell j hj; simpa [hj] using this, hK.ord.free j hj⟩) hK.box (fun j hj => by have := hK.rds.cell j hj; simpa [hj] using this) (by omega) (by omega)
      have HT : Hid (Turns (fun _ => False) w wr) := hK.turns
      have hbx := hK.box
      clear hK
      go_wp2_with fail
      refine c.mono ?_
      rintro e9 w9 ⟨rfl, hT9, hO9⟩
      have HX : Hid (Turns (fun _ => False) w w9 ∧ Ord w9 w.heap.size k (Pu.ranked d k)) := ⟨HT.out.join hT9 (fun q hq _ c => by omega), hO9⟩
      clear c hT9 hO9 hbx
      go_wp2
      go_ret
      exact ⟨w.heap.size, rfl, HX.out.1, HX.out.2⟩
#print axioms byRoads_any
end Go.Proofs.YtdogncjcainhlaaGreatDoor
