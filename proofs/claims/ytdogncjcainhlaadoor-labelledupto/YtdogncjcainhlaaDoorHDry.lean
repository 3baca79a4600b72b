/- The walk of (*Held).dry: all that is held reads as its mark. -/
import Derived.Test.YtdogncjcainhlaaDoorHInts
import Derived.Deep.QuietTactic
import Derived.BigQuiet
namespace Go.Proofs.YtdogncjcainhlaaDoor
open Go.RowKit
open Mem

theorem Mem.Lists.at' {sz et : Nat} {w : World} {B g cap : Nat} {E : List (Value × Int)} (h : Lists sz et w B (.slice (some ⟨g, 0, none⟩) E.length cap) E) {i : Nat} {L : Value} {m : Int} (hi : E[i]? = some (L, m)) :
    w.cell? ⟨g, i * 2, none⟩ = some L ∧ w.cell? ⟨g, i * 2 + 1, none⟩ = some (.int .i64 m) := by
  have hl := (List.getElem?_eq_some_iff.1 hi).1
  obtain ⟨h1, h2⟩ := hvals_get E i L m hi
  exact ⟨by rw [h.own.cellAt (i * 2) (by omega)]; exact h1, by rw [h.own.cellAt (i * 2 + 1) (by omega)]; exact h2⟩

set_option maxRecDepth 100000 in
set_option maxHeartbeats 1000000 in
theorem dry_ints (w : World) (h B : Nat) (k : Int) (v : Value) (E : List (Value × Int)) (hHB : HB w h k v (.slice none 0 0)) (hL : Lists 1 67 w B v E) (hE0 : 0 < E.length) (hE : E.length ≤ 2000) :
    Calls Tryd.prog 11 #[.pointer (some ⟨h, 0, none⟩)] w fun e w' => e = .returned (.bool true) ∧ Turns (fun _ => False) w w' := by
  obtain ⟨g, cap, hv, _, _⟩ := hL.own.form hE0
  subst hv
  have hhl := hHB.lt
  go_enter Tryd.func11, Tryd.ntmps11
  go_wp2
  go_loopw [3] (fun iv wr => ∃ i : Nat, iv = .int .i64 i ∧ i ≤ E.length ∧ Turns (fun _ => False) w wr) (fun iv _ => E.length - (intOf iv).toNat)
  case atStart => exact ⟨0, rfl, Nat.zero_le _, Turns.refl _ _⟩
  case round =>
    obtain ⟨i, rfl, hi, hT⟩ := hrel
    have hB := hHB.turns hT (fun x => x)
    have hLr := hL.turns hT (fun _ _ x => x) (fun _ _ _ _ x => x)
    have c1 := hB.c1
    have c2 := hB.c2
    have c3 := hB.c3
    by_cases hlt : i < E.length
    · obtain ⟨L, m, hLm⟩ : ∃ L m, E[i]? = some (L, m) := ⟨E[i].1, E[i].2, List.getElem?_eq_getElem hlt⟩
      obtain ⟨d0, d1⟩ := hLr.at' hLm
      have hH := hLr.full (L, m) (List.mem_of_getElem? hLm)
      have hli : (i : Int) < (E.length : Int) := by omega
      have HTr : Hid (Turns (fun _ => False) w wr) := hT
      have HX : Hid (∀ wx, Turns (fun _ => False) wr wx → ∃ i' : Nat, (Value.int .i64 ((i : Int) + 1)) = .int .i64 i' ∧ i' ≤ E.length ∧ Turns (fun _ => False) w wx) := fun wx hx => ⟨i + 1, by go_num, by omega, HTr.out.trans hx⟩
      rcases hH with hn | ⟨q, len, lcap, hq, hBq, hql, _, hlc, hcm, hcell⟩
      · simp only at hn
        subst hn
        clear hB hLr hT c2 c3
        have hTa : Turns (fun _ => False) wr (wr.alloc (.cells #[.slice none 0 0, .int .i64 m] 67)) := (Turns.refl _ _).alloc _
        have x0 : (wr.alloc (.cells #[.slice none 0 0, .int .i64 m] 67)).cell? ⟨wr.heap.size, 0, none⟩ = some (.slice none 0 0) := by rw [World.cell?_alloc_new]; rfl
        have x1 : (wr.alloc (.cells #[.slice none 0 0, .int .i64 m] 67)).cell? ⟨wr.heap.size, 1, none⟩ = some (.int .i64 m) := by rw [World.cell?_alloc_new]; rfl
        go_wp2
        generalize wr.alloc (.cells #[.slice none 0 0, .int .i64 m] 67) = wo at *
        go_loopw [5] (fun kv wx => kv = .int .i64 0 ∧ wx = wo) (fun _ _ => 0)
        case atStart => exact ⟨rfl, rfl⟩
        case round =>
          obtain ⟨rfl, hwx⟩ := hrel
          subst hwx
          go_wp2
          go_roundw
          case measure => simp [intOf]; omega
          case rel => exact HX.out _ hTa
      · simp only at hq hcell
        subst hq
        clear hB hLr hT c2 c3
        have hTa : Turns (fun _ => False) wr (wr.alloc (.cells #[.slice (some ⟨q, 0, none⟩) len lcap, .int .i64 m] 67)) := (Turns.refl _ _).alloc _
        have x0 : (wr.alloc (.cells #[.slice (some ⟨q, 0, none⟩) len lcap, .int .i64 m] 67)).cell? ⟨wr.heap.size, 0, none⟩ = some (.slice (some ⟨q, 0, none⟩) len lcap) := by rw [World.cell?_alloc_new]; rfl
        have x1 : (wr.alloc (.cells #[.slice (some ⟨q, 0, none⟩) len lcap, .int .i64 m] 67)).cell? ⟨wr.heap.size, 1, none⟩ = some (.int .i64 m) := by rw [World.cell?_alloc_new]; rfl
        have HC : Hid (∀ j, j < len → (wr.alloc (.cells #[.slice (some ⟨q, 0, none⟩) len lcap, .int .i64 m] 67)).cell? ⟨q, j, none⟩ = some (.int .i64 m)) := fun j hj => (World.cell?_alloc_lt _ _ _ hql).trans (hcell j (by omega))
        have hlm : len ≤ 9223372036854775807 := by unfold maxLen at hcm; omega
        obtain ⟨xb, hxb⟩ : ∃ xb, wr.heap.size = xb := ⟨_, rfl⟩
        clear hcell hql hBq
        go_wp2
        generalize wr.alloc (.cells #[.slice (some ⟨q, 0, none⟩) len lcap, .int .i64 m] 67) = wo at *
        rw [hxb] at x0 x1
        clear hxb d0 d1 c1
        go_loopw [5] (fun kv wx => ∃ j nq : Nat, kv = .int .i64 j ∧ j ≤ len ∧ wx = wo.drewN nq) (fun kv _ => len - (intOf kv).toNat)
        case atStart => exact ⟨0, 0, rfl, Nat.zero_le _, rfl⟩
        case round =>
          obtain ⟨j, nq, rfl, hj, hwx⟩ := hrel
          have y0 : wr.cell? ⟨xb, 0, none⟩ = some (.slice (some ⟨q, 0, none⟩) len lcap) := by rw [hwx]; exact x0
          have y1 : wr.cell? ⟨xb, 1, none⟩ = some (.int .i64 m) := by rw [hwx]; exact x1
          have HWX : Hid (wr = wo.drewN nq) := hwx
          clear hwx
          by_cases hjl : j < len
          · have yc : wr.cell? ⟨q, j, none⟩ = some (.int .i64 m) := by rw [HWX.out]; exact HC.out j hjl
            have hji : (j : Int) < (len : Int) := by omega
            have hmm : (m != m) = false := by simp
            have HY : Hid (∀ n', ∃ j' nq' : Nat, (Value.int .i64 ((j : Int) + 1)) = .int .i64 j' ∧ j' ≤ len ∧ wr.drewN n' = wo.drewN nq') := fun n' => ⟨j + 1, nq + n', by go_num, by omega, by rw [HWX.out, World.drewN_drewN]⟩
            go_wp2
            go_quiet (fail)
            go_wp2
            go_roundw
            case measure => simp [intOf]; omega
            case rel => exact HY.out _
          · go_wp2
            go_roundw
            case measure => simp [intOf]; omega
            case rel => exact HX.out _ (by rw [HWX.out]; exact hTa.drewN _)
    · have hie : i = E.length := by omega
      subst hie
      clear hLr hB
      go_wp2
      go_loopw [6] (fun kv wx => kv = .int .i64 0 ∧ wx = wr) (fun _ _ => 0)
      case atStart => exact ⟨rfl, rfl⟩
      case round =>
        obtain ⟨rfl, hwx⟩ := hrel
        subst hwx
        go_wp2
        go_loopw [9] (fun kv wx => kv = .int .i64 0 ∧ wx = wr) (fun _ _ => 0)
        case atStart => exact ⟨rfl, rfl⟩
        case round =>
          obtain ⟨rfl, hwx⟩ := hrel
          subst hwx
          go_wp2
          go_ret
          exact ⟨rfl, hT⟩
#print axioms dry_ints
end Go.Proofs.YtdogncjcainhlaaDoor
