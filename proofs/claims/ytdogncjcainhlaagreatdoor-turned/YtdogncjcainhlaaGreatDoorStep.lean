/- The walk of ways.step. -/
import Derived.Test.YtdogncjcainhlaaGreatDoorProg
import Derived.Test.YtdogncjcainhlaaGreatDoorPlain
import Derived.WalkKit
import Derived.WalkSpells
import Derived.WalkLawsBesides
import Derived.Deep.QuietTactic
import Derived.BigQuiet
import Derived.Deep.LoopGhost
namespace Go.Proofs.YtdogncjcainhlaaGreatDoor
open Go.RowKit
open Mem

/-- One can go on from a to j on a shortest way. -/
def Good (len : Nat → Nat → Int) (far : Nat → Int) (a j : Nat) : Prop := len a j ≠ 0 ∧ len a j + far j = far a

set_option maxRecDepth 1000000 in
set_option maxHeartbeats 1000000 in
theorem step_any (w : World) (b f n a J : Nat) (N R : Int) (len : Nat → Nat → Int) (far : Nat → Int) (hn : n ≤ 40) (ha : a < n) (hm : MapAt w b N R len) (hf : Ints w f n far) (L : Pu.Lens len)
    (hfar : ∀ j, j < n → -1 ≤ far j ∧ far j ≤ 40000) (hJ : J < n) (hG : Good len far a J) :
    Calls Tryz.prog 81 #[.pointer (some ⟨b, 0, none⟩), .slice (some ⟨f, 0, none⟩) n n, .int .i64 a] w fun e w' => ∃ (j q : Nat), e = .returned (.int .i64 j) ∧ j < n ∧ Good len far a j ∧ (∀ i, i < j → ¬ Good len far a i) ∧ w' = w.drewN q := by
  go_enter Tryz.func81, Tryz.ntmps81
  go_wp2
  go_loopg [7] n (fun gk v wr => ∃ (k q : Nat), v = .int .i64 k ∧ k ≤ J ∧ n ≤ gk + k ∧ (∀ i, i < k → ¬ Good len far a i) ∧ wr = w.drewN q)
  case atStart => exact ⟨0, 0, rfl, Nat.zero_le _, by omega, by omega, rfl⟩
  case round =>
    obtain ⟨k, q, rfl, hk, hgk, hno, rfl⟩ := hrel
    have hl := hm.cell a k (by omega) (by omega)
    have hck := hf.cell k (by omega)
    have hca := hf.cell a ha
    have hb1 := L.rng a k
    have hb2 := hfar k (by omega)
    have hb3 := hfar a ha
    have HG : Hid (Good len far a k ↔ (len a k ≠ 0 ∧ len a k + far k = far a)) := Iff.rfl
    have hkn : k < n := by omega
    generalize hX : far k = X at *
    generalize hA : far a = A at *
    generalize hLL : len a k = LL at *
    by_cases h0 : LL = 0
    · have hg : (LL == 0) = true := by simp [h0]
      have HN : Hid (¬ Good len far a k) := fun c => (HG.out.1 c).1 h0
      have hkJ : k ≠ J := by rintro rfl; exact HN.out hG
      have HNo : Hid (∀ i, i < k + 1 → ¬ Good len far a i) := fun i hi => by
        by_cases e : i = k
        · subst e; exact HN.out
        · exact hno i (by omega)
      clear h0 hX hA hLL HG HN hm hf hG hno hfar
      go_wp2_with fail
      go_quiet (fail)
      go_wp2
      go_roundg (gk - 1)
      case measure => omega
      case rel => exact ⟨k + 1, _, by go_num, by omega, by omega, HNo.out, rfl⟩
    · have hg : (LL == 0) = false := by simp [h0]
      by_cases h1 : LL + X = A
      · have hg1 : (LL + X != A) = false := by simp [h1]
        have HY : Hid (∃ j : Nat, k = j ∧ j < n ∧ Good len far a j ∧ ∀ i, i < j → ¬ Good len far a i) := ⟨k, rfl, hkn, HG.out.2 ⟨h0, h1⟩, hno⟩
        clear h0 h1 hX hA hLL HG hm hf hG hno hfar
        go_wp2_with fail
        go_quiet (fail)
        go_wp2
        go_ret
        obtain ⟨j, e, h1, h2, h3⟩ := HY.out
        subst e
        exact ⟨k, _, rfl, h1, h2, h3, World.drewN_drewN _ _ _⟩
      · have hg1 : (LL + X != A) = true := by simp [h1]
        have HN : Hid (¬ Good len far a k) := fun c => h1 (HG.out.1 c).2
        have hkJ : k ≠ J := by rintro rfl; exact HN.out hG
        have HNo : Hid (∀ i, i < k + 1 → ¬ Good len far a i) := fun i hi => by
          by_cases e : i = k
          · subst e; exact HN.out
          · exact hno i (by omega)
        clear h0 h1 hX hA hLL HG HN hm hf hG hno hfar
        go_wp2_with fail
        go_quiet (fail)
        go_wp2
        go_roundg (gk - 1)
        case measure => omega
        case rel => exact ⟨k + 1, _, by go_num, by omega, by omega, HNo.out, rfl⟩
end Go.Proofs.YtdogncjcainhlaaGreatDoor
