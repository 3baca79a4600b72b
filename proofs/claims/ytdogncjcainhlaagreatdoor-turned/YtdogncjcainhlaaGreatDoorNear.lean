/- The walk of ways.nearest. -/
import Derived.Test.YtdogncjcainhlaaGreatDoorProg
import Derived.Test.YtdogncjcainhlaaGreatDoorPlain
import Derived.WalkKit
import Derived.WalkSpells
import Derived.WalkLawsBesides
namespace Go.Proofs.YtdogncjcainhlaaGreatDoor
open Go.RowKit
open Mem

theorem near_no {X : Int} {Y : Bool} (h1 : ¬ Y = true) (h2 : (X == -1) = false) : ¬ (Y = true ∨ X = -1) := by
  rintro (h | h)
  · exact h1 h
  · rw [h] at h2; simp at h2
theorem near_no2 {B X Z : Int} (h : (B == -1) = false ∧ Z ≤ X) : ¬ (B = -1 ∨ X < Z) := by
  rintro (e | e)
  · rw [e] at h; simp at h
  · omega

set_option maxHeartbeats 1000000 in
theorem nearest_any (w : World) (f d n : Nat) (far : Nat → Int) (done : Nat → Bool) (hn : n ≤ 40) (hf : Ints w f n far) (hd : Bools w d n done) :
    Calls Tryz.prog 126 #[.slice (some ⟨f, 0, none⟩) n n, .slice (some ⟨d, 0, none⟩) n n] w fun e w' => e = .returned (.int .i64 (Pu.near far done n)) ∧ w' = w := by
  go_enter Tryz.func126, Tryz.ntmps126
  go_wp2
  go_loop [5, 10] (fun v i => ∃ k : Nat, k ≤ n ∧ i = .int .i64 k ∧ v = .int .i64 (Pu.near far done k)) (fun _ i => n - (intOf i).toNat)
  case atStart => exact ⟨0, Nat.zero_le _, rfl, rfl⟩
  case round =>
    obtain ⟨k, hk, rfl, rfl⟩ := hrel
    by_cases hlt : k < n
    · have hck := hf.cell k hlt
      have hdk := hd.cell k hlt
      have hb := Pu.near_bd far done k
      have hcb : 0 ≤ Pu.near far done k → w.cell? ⟨f, (Pu.near far done k).toNat, none⟩ = some (.int .i64 (far (Pu.near far done k).toNat)) := fun h => hf.cell _ (by omega)
      have HS : Hid (done k = true ∨ far k = -1 → Pu.near far done (k + 1) = Pu.near far done k) := Pu.near_skip
      have HT : Hid (¬ (done k = true ∨ far k = -1) → Pu.near far done k = -1 ∨ far k < far (Pu.near far done k).toNat → Pu.near far done (k + 1) = k) := Pu.near_take
      have HK : Hid (¬ (done k = true ∨ far k = -1) → ¬ (Pu.near far done k = -1 ∨ far k < far (Pu.near far done k).toNat) → Pu.near far done (k + 1) = Pu.near far done k) := Pu.near_keep
      generalize hB : Pu.near far done k = B at *
      generalize hX : far k = X at *
      generalize hY : done k = Y at *
      generalize hZ : far B.toNat = Z at *
      clear hB hX hY hZ hf hd
      go_wp2
      all_goals
        go_round
        case measure => simp [intOf]; omega
        case rel =>
          refine ⟨k + 1, by omega, by go_num, ?_⟩
          first
            | (have h : Y = true := by assumption
               rw [HS.out (Or.inl h)])
            | (have h : (X == -1) = true := by assumption
               rw [HS.out (Or.inr (by simpa using h))])
            | (have h1 : ¬ Y = true := by assumption
               have h2 : (X == -1) = false := by assumption
               have h3 := near_no h1 h2
               first
                 | (have h4 : B = -1 := by assumption
                    rw [HT.out h3 (Or.inl h4)])
                 | (have h4 : (B == -1) = true ∨ X < Z := by assumption
                    rw [HT.out h3 (by simpa using h4)])
                 | (have h4 : (B == -1) = false ∧ Z ≤ X := by assumption
                    rw [HK.out h3 (near_no2 h4)]))
    · have e : k = n := by omega
      subst e
      go_wp2
      go_ret
      exact ⟨rfl, rfl⟩
end Go.Proofs.YtdogncjcainhlaaGreatDoor
