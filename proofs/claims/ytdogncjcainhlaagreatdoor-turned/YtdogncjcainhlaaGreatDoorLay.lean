/- The walk of atlas.lay. -/
import Derived.Test.YtdogncjcainhlaaGreatDoorPack5
import Derived.Test.YtdogncjcainhlaaGreatDoorPlain
import Derived.Deep.QuietTactic
import Derived.BigQuiet
import Derived.BigRegion
import Derived.Deep.LoopGhost
namespace Go.Proofs.YtdogncjcainhlaaGreatDoor
open Go.RowKit
open Mem

/-- The cells of block rb hold the roads. -/
structure RoadsAt (w : World) (rb : Nat) (rs : List Pu.Rd) : Prop where
  lt : rb < w.heap.size
  c0 : ∀ (k u v : Nat) (x : Int), rs[k]? = some (u, v, x) → w.cell? ⟨rb, k * 3, none⟩ = some (.int .i64 (u : Int))
  c1 : ∀ (k u v : Nat) (x : Int), rs[k]? = some (u, v, x) → w.cell? ⟨rb, k * 3 + 1, none⟩ = some (.int .i64 (v : Int))
  c2 : ∀ (k u v : Nat) (x : Int), rs[k]? = some (u, v, x) → w.cell? ⟨rb, k * 3 + 2, none⟩ = some (.int .i64 x)

theorem MapFree.turns {p : Nat → Prop} {w w' : World} {b : Nat} {N R : Int} {len : Nat → Nat → Int} (h : MapFree w b N R len) (t : Turns p w w') (hb : ¬ p b) : MapFree w' b N R len :=
  ⟨h.at'.turns t hb, fun j => (t.frozen (a := ⟨b, j, none⟩) h.at'.lt hb).trans (h.free j)⟩
theorem MapFree.drewN {w : World} {b : Nat} {N R : Int} {len : Nat → Nat → Int} (h : MapFree w b N R len) (q : Nat) : MapFree (w.drewN q) b N R len := ⟨⟨h.at'.lt, h.at'.places, h.at'.roads, h.at'.cell⟩, h.free⟩
theorem MapFree.set1 {w : World} {b : Nat} {N R : Int} {len : Nat → Nat → Int} {u v : Nat} (x : Int) (h : MapFree w b N R len) (hu : u < 40) (hv : v < 40) :
    MapFree (w.setCell ⟨b, 2 + u * 40 + v, none⟩ (.int .i64 x)) b N R (fun i j => if i = u ∧ j = v then x else len i j) := by
  refine ⟨⟨by simpa using h.at'.lt, ?_, ?_, fun i j hi hj => ?_⟩, fun j => by simpa using h.free j⟩
  · rw [World.cell?_setCell_other _ _ _ _ (by intro c; injection c with _ c; omega)]; exact h.at'.places
  · rw [World.cell?_setCell_other _ _ _ _ (by intro c; injection c with _ c; omega)]; exact h.at'.roads
  · by_cases e : i = u ∧ j = v
    · obtain ⟨rfl, rfl⟩ := e
      rw [if_pos ⟨rfl, rfl⟩]; exact World.cell?_setCell_same _ _ _ (h.at'.cell i j hi hj)
    · rw [if_neg e, World.cell?_setCell_other _ _ _ _ (by intro c; injection c with _ c; omega)]; exact h.at'.cell i j hi hj
theorem MapFree.set2 {w : World} {b : Nat} {N R : Int} {len : Nat → Nat → Int} {u v : Nat} {x : Int} (q q' : Nat) (h : MapFree w b N R len) (hu : u < 40) (hv : v < 40) :
    MapFree ((((w.drewN q).setCell ⟨b, 2 + u * 40 + v, none⟩ (.int .i64 x)).setCell ⟨b, 2 + v * 40 + u, none⟩ (.int .i64 x)).drewN q') b N R (Pu.layLen len u v x) := by
  have e : Pu.layLen len u v x = fun i j => if i = v ∧ j = u then x else (if i = u ∧ j = v then x else len i j) := by
    funext i j
    unfold Pu.layLen
    by_cases c1 : i = v ∧ j = u
    · rw [if_pos (Or.inr c1), if_pos c1]
    · by_cases c2 : i = u ∧ j = v
      · rw [if_pos (Or.inl c2), if_neg c1, if_pos c2]
      · rw [if_neg (fun c => c.elim c2 c1), if_neg c1, if_neg c2]
  rw [e]
  exact (((h.drewN q).set1 x hu hv).set1 x hv hu).drewN q'

/-- What lay hands back. -/
def LayPost (w : World) (n : Nat) (rs : List Pu.Rd) (e : Ending) (w' : World) : Prop :=
  Turns (fun _ => False) w w' ∧ match Pu.lay (fun _ _ => 0) rs 0 with
    | .inl i => e = .returned (.tuple #[.pointer none, .int .i64 3, .int .i64 ((i : Int) + 1)])
    | .inr len => e = .returned (.tuple #[.pointer (some ⟨w.heap.size, 0, none⟩), .int .i64 0, .int .i64 0]) ∧ MapAt w' w.heap.size n rs.length len

/-- What holds ahead of each round. -/
def LayInv (w : World) (n : Nat) (rs : List Pu.Rd) (v : Value) (wr : World) : Prop :=
  ∃ (k : Nat) (len : Nat → Nat → Int), v = .int .i64 k ∧ k ≤ rs.length ∧ Pu.lay len (rs.drop k) k = Pu.lay (fun _ _ => 0) rs 0 ∧ MapFree wr w.heap.size n rs.length len ∧ Turns (fun _ => False) w wr

set_option maxRecDepth 1000000 in
set_option maxHeartbeats 1000000 in
theorem lay_any (w : World) (n rb cap : Nat) (rs : List Pu.Rd) (hn : n ≤ 40) (hR : RoadsAt w rb rs) (hok : ∀ r ∈ rs, Pu.RdOk n r) (hl : rs.length ≤ 200) :
    Calls Tryz.prog 79 #[.int .i64 n, .slice (some ⟨rb, 0, none⟩) rs.length cap] w (LayPost w n rs) := by
  obtain ⟨Z, hzv, hzs, hzn, hC⟩ := run_map n rs.length
  have hzs2 : 2 ≤ Z.size := by omega
  have hF := MapFree.made w hC
  clear hC hzs
  go_enter Tryz.func79, Tryz.ntmps79
  go_wp2
  go_loopw [17] (fun v wr => LayInv w n rs v wr) (fun i _ => rs.length - (intOf i).toNat)
  case atStart => exact ⟨0, _, rfl, Nat.zero_le _, rfl, hF, (Turns.refl _ _).alloc _⟩
  case round =>
    obtain ⟨k, len, rfl, hk, hlay, hM, hT⟩ := hrel
    clear hF hzv hzs2 hzn
    by_cases hlt : k < rs.length
    · obtain ⟨u, v, x, he⟩ : ∃ (u v : Nat) (x : Int), rs[k]? = some (u, v, x) := ⟨_, _, _, List.getElem?_eq_getElem hlt⟩
      have ho := hok _ (List.mem_of_getElem? he)
      obtain ⟨ho1, ho2, ho3, ho4⟩ := ho
      simp only at ho1 ho2 ho3 ho4
      have c0 : wr.cell? ⟨rb, k * 3, none⟩ = some (.int .i64 (u : Int)) := (hT.cell (a := ⟨rb, k * 3, none⟩) hR.lt (fun x => x)).trans (hR.c0 k u v x he)
      have c1 : wr.cell? ⟨rb, k * 3 + 1, none⟩ = some (.int .i64 (v : Int)) := (hT.cell (a := ⟨rb, k * 3 + 1, none⟩) hR.lt (fun x => x)).trans (hR.c1 k u v x he)
      have c2 : wr.cell? ⟨rb, k * 3 + 2, none⟩ = some (.int .i64 x) := (hT.cell (a := ⟨rb, k * 3 + 2, none⟩) hR.lt (fun x => x)).trans (hR.c2 k u v x he)
      have hml := hM.at'.lt
      have m1 := hM.at'.cell u v (by omega) (by omega)
      have m2 := hM.at'.cell v u (by omega) (by omega)
      have f1 := hM.free (2 + u * 40 + v)
      have f2 := hM.free (2 + v * 40 + u)
      have e2 : rs.drop k = (u, v, x) :: rs.drop (k + 1) := by rw [List.drop_eq_getElem_cons hlt]; rw [List.getElem?_eq_getElem hlt] at he; simp at he; rw [he]
      by_cases hL : len u v = 0
      · have hb : (len u v != 0) = false := by simpa using hL
        rw [e2, Pu.lay_go hL] at hlay
        have HL : Hid (Pu.lay (Pu.layLen len u v x) (rs.drop (k + 1)) (k + 1) = Pu.lay (fun _ _ => 0) rs 0) := hlay
        clear hL hlay he hok hR e2
        go_wp2
        go_quiet (fail)
        go_wp2
        go_region
        go_wp2
        go_region
        go_wp2
        go_roundw
        case measure => simp [intOf]; omega
        case rel => exact ⟨k + 1, _, by go_num, by omega, HL.out, (hM.turns ((Turns.refl (fun _ => False) wr).alloc _) (fun x => x)).set2 (nq + 1) 1 (by omega) (by omega), ((((hT.alloc _).drewN (nq + 1)).setCell (Or.inl (Nat.le_refl _)) _).setCell (Or.inl (Nat.le_refl _)) _).drew⟩
      · have hb : (len u v != 0) = true := by simpa using hL
        have HP : Hid (Pu.lay (fun _ _ => 0) rs 0 = .inl k) := by
          rw [e2, Pu.lay_twice hL] at hlay; exact hlay.symm
        have hT2 := hT.size
        clear hL hlay hM he hok hR e2
        go_wp2
        go_quiet (fail)
        go_wp2
        go_ret3
        refine ⟨(hT.alloc _).drewN _, ?_⟩
        rw [HP.out]
        rfl
    · have ek : k = rs.length := by omega
      subst ek
      have HP : Hid (Pu.lay (fun _ _ => 0) rs 0 = .inr len) := by rw [List.drop_length] at hlay; exact hlay.symm
      have hA := hM.at'
      clear hM hlay hR hok
      go_wp2
      go_ret3
      refine ⟨hT, ?_⟩
      rw [HP.out]
      exact ⟨rfl, hA⟩
end Go.Proofs.YtdogncjcainhlaaGreatDoor
