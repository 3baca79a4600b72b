/- Pack9: texts of one proof, one behind the other. -/
import Derived.Test.YtdogncjcainhlaaGreatDoorPack8
import Derived.Test.YtdogncjcainhlaaGreatDoorPlain
import Derived.Deep.OwnRows
import Derived.Deep.LoopGhost
import Derived.Test.YtdogncjcainhlaaGreatDoorProg
import Derived.WalkKit
import Derived.WalkSpells
import Derived.WalkLawsBesides
import Derived.Deep.QuietTactic
import Derived.BigQuiet
/- The walk of ways.FarFrom. -/
namespace Go.Proofs.YtdogncjcainhlaaGreatDoor
open Go.RowKit Go.Deep
open Mem

theorem info3 : (Tryz.prog.info? 3).map (fun i => (i.zero, i.size, i.bytes)) = some (some (.int .i64 0), 1, 8) := by kernel_rfl
theorem info4 : (Tryz.prog.info? 4).map (fun i => (i.zero, i.size, i.bytes)) = some (some (.bool false), 1, 1) := by kernel_rfl

def fillK (k : Nat) (j : Nat) : Int := if j < k then -1 else 0
theorem fillK_self (k : Nat) : fillK k k = 0 := by simp [fillK]
theorem fillK_step (k j : Nat) : upd (fillK k) k (-1) j = fillK (k + 1) j := by
  unfold upd fillK
  by_cases e : j = k
  · rw [if_pos e, if_pos (by omega)]
  · rw [if_neg e]
    show (if j < k then _ else _) = _
    by_cases g : j < k
    · rw [if_pos g, if_pos (by omega)]
    · rw [if_neg g, if_neg (by omega)]
theorem fillK_end (k s j : Nat) (hj : j < k) : upd (fillK k) s 0 j = upd (fun _ => -1) s 0 j := by
  unfold upd fillK
  by_cases e : j = s
  · rw [if_pos e, if_pos e]
  · rw [if_neg e, if_neg e]; show (if j < k then _ else _) = _; rw [if_pos hj]

/-- What holds ahead of each round of the second loop: the place a to go on from, or -1. -/
def FarInv (w : World) (n s : Nat) (len : Nat → Nat → Int) (gk : Nat) (v : Value) (wr : World) : Prop :=
  ∃ (far : Nat → Int) (done : Nat → Bool) (D : Nat) (a : Int), v = .int .i64 a ∧ Ints wr w.heap.size n far ∧ Bools wr (w.heap.size + 1) n done ∧ Turns (fun _ => False) w wr ∧ wr.heap.size = w.heap.size + 2 ∧
    Pu.Dij n len s far done D ∧ D = Pu.cnt done n ∧ n ≤ gk + D ∧ ((a = -1 ∧ Pu.near far done n = -1) ∨ ∃ a' : Nat, a = a' ∧ Pu.Next n far done a')

set_option maxHeartbeats 1000000 in
theorem farFrom_any (w : World) (b n s : Nat) (R : Int) (len : Nat → Nat → Int) (hn : n ≤ 40) (hs : s < n) (hm : MapAt w b n R len) (L : Pu.Lens len) :
    Calls Tryz.prog 80 #[.pointer (some ⟨b, 0, none⟩), .int .i64 s] w fun e w' => ∃ far, e = .returned (.slice (some ⟨w.heap.size, 0, none⟩) n n) ∧ Ints w' w.heap.size n far ∧ Pu.Dist n len s far ∧ Turns (fun _ => False) w w' := by
  have hmk1 := run_make_row' (P := Tryz.prog) 55 3 (.int .i64 0) 8 Tryz.underlying55 info3 rfl .i64 .i64 n (by omega) (by omega)
  have hmk2 := run_make_row' (P := Tryz.prog) 232 4 (.bool false) 1 Tryz.underlying232 info4 rfl .i64 .i64 n (by omega) (by omega)
  have hp := hm.places
  go_enter Tryz.func80, Tryz.ntmps80
  go_wp2
  go_loopw [16] (fun i wr => ∃ k : Nat, k ≤ n ∧ i = .int .i64 k ∧ Ints wr w.heap.size n (fillK k) ∧ Turns (fun _ => False) w wr ∧ wr.heap.size = w.heap.size + 1) (fun i _ => n - (intOf i).toNat)
  case atStart => exact ⟨0, Nat.zero_le _, rfl, (Ints.made w n 3 0).congr (fun j _ => by simp [fillK]), (Turns.refl _ _).alloc _, by simp⟩
  case round =>
    obtain ⟨k, hk, rfl, hI, hT, hS⟩ := hrel
    by_cases hlt : k < n
    · have hc := hI.cell k hlt
      have hf := hI.free k hlt
      rw [fillK_self] at hc
      go_wp2
      go_roundw
      case measure => simp [intOf]; omega
      case rel => exact ⟨k + 1, by omega, by go_num, (hI.set hlt (-1)).congr (fun j _ => fillK_step k j), hT.setCell (Or.inl (Nat.le_refl _)) _, by simpa using hS⟩
    · have ek : k = n := by omega
      subst ek
      have hI3 : Ints (wr.setCell ⟨w.heap.size, s, none⟩ (.int .i64 0)) w.heap.size k (upd (fun _ => -1) s 0) := (hI.set hs 0).congr (fun j hj => fillK_end k s j hj)
      have hT3 : Turns (fun _ => False) w (wr.setCell ⟨w.heap.size, s, none⟩ (.int .i64 0)) := hT.setCell (Or.inl (Nat.le_refl _)) _
      have hB4 := Bools.made (wr.setCell ⟨w.heap.size, s, none⟩ (.int .i64 0)) k 4 false
      have hI4 := hI3.turns ((Turns.refl (fun _ => False) _).alloc (.cells (madeCells #[.bool false] k) 4)) (fun x => x)
      have hT4 := hT3.alloc (.cells (madeCells #[.bool false] k) 4)
      have hS4 : (wr.setCell ⟨w.heap.size, s, none⟩ (.int .i64 0)).heap.size = w.heap.size + 1 := by simpa using hS
      rw [hS4] at hB4
      have hc := hI.cell s hs
      have hf := hI.free s hs
      have hp2 : wr.cell? ⟨b, 0, none⟩ = some (.int .i64 k) := (hT.cell (a := ⟨b, 0, none⟩) hm.lt (fun x => x)).trans hm.places
      have hbl := hm.lt
      have hbn : b ≠ w.heap.size := by omega
      clear hI3 hT3 hI hT
      go_wp2
      go_loopg [8] k (fun gk v wx => FarInv w k s len gk v wx)
      case atStart => exact ⟨_, _, 0, s, rfl, hI4, hB4, hT4, by simp [hS], Pu.Dij.start k len s, (Pu.cnt_none k).symm, by omega, Or.inr ⟨s, rfl, Pu.Next.start hs⟩⟩
      case round =>
        clear hI4 hB4 hT4 hS4 hc hf hp2 hS
        obtain ⟨far, done, D, a, rfl, hI, hB, hT, hS, hD, hDc, hgk, hcase⟩ := hrel
        have hle := Pu.cnt_le done k
        rcases hcase with ⟨rfl, hnear⟩ | ⟨a', rfl, hnext⟩
        · have hdist := hD.stop (by omega) hnear
          have HX : Hid (∃ far, Ints wr w.heap.size k far ∧ Pu.Dist k len s far ∧ Turns (fun _ => False) w wr) := ⟨far, hI, hdist, hT⟩
          clear hD hDc hgk hle hnear hdist hI hB hT
          go_wp2
          go_ret
          obtain ⟨far, h1, h2, h3⟩ := HX.out
          exact ⟨far, rfl, h1, h2, h3⟩
        · have hlt := hnext.lt
          have hdc := hB.cell a' hlt
          have hdf := hB.free a' hlt
          have hB1 := hB.set hlt true
          have hT1 : Turns (fun _ => False) w (wr.setCell ⟨w.heap.size + 1, a', none⟩ (.bool true)) := hT.setCell (Or.inl (by simp)) _
          have hI1 : Ints (wr.setCell ⟨w.heap.size + 1, a', none⟩ (.bool true)) w.heap.size k far := hI.turns ((Turns.refl (· = w.heap.size + 1) wr).setCell (Or.inr rfl) _) (by omega)
          have hM1 : MapAt (wr.setCell ⟨w.heap.size + 1, a', none⟩ (.bool true)) b k R len := hm.turns hT1 (fun x => x)
          have hrg := hD.rng a' hlt
          have hf0 := hnext.far0
          have hcl := Pu.cnt_lt hnext.open' k hlt
          have hcu := Pu.cnt_upd hnext.open' k hlt
          have hstep := hD.step L hnext
          have hS1 : (wr.setCell ⟨w.heap.size + 1, a', none⟩ (.bool true)).heap.size = w.heap.size + 2 := by simpa using hS
          go_wp2_with fail
          refine (goOn_any _ b w.heap.size k a' k R len far hn hlt hM1 hI1 hbn (L.rng a') (L.self a') hf0 (by omega)).mono ?_
          rintro e w1 ⟨rfl, hI2, hT2, hS2⟩
          have hB2 : Bools w1 (w.heap.size + 1) k (upd done a' true) := hB1.turns hT2 (by omega)
          have hT3 : Turns (fun _ => False) w w1 := ⟨hT2.os.trans hT1.os, hT2.tape.trans hT1.tape, hT2.output.trans hT1.output, by omega, fun i hi _ => (hT2.block i (by omega) (by omega)).trans (hT1.block i hi (fun x => x))⟩
          clear hB1 hT1 hI1 hM1 hT2 hI hB hT hdc hdf
          go_wp2_with fail
          refine (nearest_any _ w.heap.size (w.heap.size + 1) k _ _ hn hI2 hB2).mono ?_
          rintro e w2 ⟨rfl, hw2⟩
          subst hw2
          have HR : Hid (FarInv w k s len (gk - 1) (.int .i64 (Pu.near (Pu.rel1 (len a') (far a') far) (upd done a' true) k)) w2) := by
            refine ⟨_, _, D + 1, _, rfl, hI2, hB2, hT3, by omega, hstep, by rw [hcu, hDc], by omega, ?_⟩
            by_cases hz : Pu.near (Pu.rel1 (len a') (far a') far) (upd done a' true) k = -1
            · exact Or.inl ⟨hz, hz⟩
            · obtain ⟨x, ex, hx⟩ := hstep.next hz
              exact Or.inr ⟨x, ex, hx⟩
          have hgk' : gk - 1 < gk := by omega
          clear hstep hI2 hB2 hT3 hD hnext
          go_wp2
          go_roundg (gk - 1)
          case measure => exact hgk'
          case rel => exact HR.out
end Go.Proofs.YtdogncjcainhlaaGreatDoor
/- The walk of ways.step. -/
namespace Go.Proofs.YtdogncjcainhlaaGreatDoor
open Go.RowKit
open Mem

/-- One can go on from a to j on a shortest way. -/
def Good (len : Nat → Nat → Int) (far : Nat → Int) (a j : Nat) : Prop := len a j ≠ 0 ∧ len a j + far j = far a

set_option maxRecDepth 1000000 in
set_option maxHeartbeats 1000000 in
theorem step_any (w : World) (b f n a J : Nat) (N R : Int) (len : Nat → Nat → Int) (far : Nat → Int) (hn : n ≤ 40) (ha : a < n) (hm : MapAt w b N R len) (hf : Ints w f n far) (L : Pu.Lens len)
    (hfar : ∀ j, j < n → -1 ≤ far j ∧ far j ≤ 40000) (hJ : J < n) (hG : Good len far a J) :
    Calls Tryz.prog 81 #[.pointer (some ⟨b, 0, none⟩), .slice (some ⟨f, 0, none⟩) n n, .int .i64 a] w fun e w' => ∃ (j q : Nat), e = .returned (.int .i64 j) ∧ j < n ∧ Good len far a j ∧ (∀ i, i < j → ¬ Good len far a i) ∧ w' = w.drewN q := by
  go_enter Tryz.func81, Tryz.ntmps81
  go_wp2
  go_loopg [7] n (fun gk v wr => ∃ (k q : Nat), v = .int .i64 k ∧ k ≤ J ∧ n ≤ gk + k ∧ (∀ i, i < k → ¬ Good len far a i) ∧ wr = w.drewN q)
  case atStart => exact ⟨0, 0, rfl, Nat.zero_le _, by omega, by omega, rfl⟩
  case round =>
    obtain ⟨k, q, rfl, hk, hgk, hno, rfl⟩ := hrel
    have hl := hm.cell a k (by omega) (by omega)
    have hck := hf.cell k (by omega)
    have hca := hf.cell a ha
    have hb1 := L.rng a k
    have hb2 := hfar k (by omega)
    have hb3 := hfar a ha
    have HG : Hid (Good len far a k ↔ (len a k ≠ 0 ∧ len a k + far k = far a)) := Iff.rfl
    have hkn : k < n := by omega
    generalize hX : far k = X at *
    generalize hA : far a = A at *
    generalize hLL : len a k = LL at *
    by_cases h0 : LL = 0
    · have hg : (LL == 0) = true := by simp [h0]
      have HN : Hid (¬ Good len far a k) := fun c => (HG.out.1 c).1 h0
      have hkJ : k ≠ J := by rintro rfl; exact HN.out hG
      have HNo : Hid (∀ i, i < k + 1 → ¬ Good len far a i) := fun i hi => by
        by_cases e : i = k
        · subst e; exact HN.out
        · exact hno i (by omega)
      clear h0 hX hA hLL HG HN hm hf hG hno hfar
      go_wp2_with fail
      go_quiet (fail)
      go_wp2
      go_roundg (gk - 1)
      case measure => omega
      case rel => exact ⟨k + 1, _, by go_num, by omega, by omega, HNo.out, rfl⟩
    · have hg : (LL == 0) = false := by simp [h0]
      by_cases h1 : LL + X = A
      · have hg1 : (LL + X != A) = false := by simp [h1]
        have HY : Hid (∃ j : Nat, k = j ∧ j < n ∧ Good len far a j ∧ ∀ i, i < j → ¬ Good len far a i) := ⟨k, rfl, hkn, HG.out.2 ⟨h0, h1⟩, hno⟩
        clear h0 h1 hX hA hLL HG hm hf hG hno hfar
        go_wp2_with fail
        go_quiet (fail)
        go_wp2
        go_ret
        obtain ⟨j, e, h1, h2, h3⟩ := HY.out
        subst e
        exact ⟨k, _, rfl, h1, h2, h3, World.drewN_drewN _ _ _⟩
      · have hg1 : (LL + X != A) = true := by simp [h1]
        have HN : Hid (¬ Good len far a k) := fun c => h1 (HG.out.1 c).2
        have hkJ : k ≠ J := by rintro rfl; exact HN.out hG
        have HNo : Hid (∀ i, i < k + 1 → ¬ Good len far a i) := fun i hi => by
          by_cases e : i = k
          · subst e; exact HN.out
          · exact hno i (by omega)
        clear h0 h1 hX hA hLL HG HN hm hf hG hno hfar
        go_wp2_with fail
        go_quiet (fail)
        go_wp2
        go_roundg (gk - 1)
        case measure => omega
        case rel => exact ⟨k + 1, _, by go_num, by omega, by omega, HNo.out, rfl⟩
end Go.Proofs.YtdogncjcainhlaaGreatDoor
