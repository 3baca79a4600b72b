/- Decimal texts of numbers, and raw numbers counted round. Plain: no program in it. -/
import Derived.WalkKit
namespace Go.Proofs.YtdogncjcainhlaaDoor
namespace Pu

/-- A number's text. -/
def dec (n : Nat) : List UInt8 := if _h : n < 10 then [(48 + n).toUInt8] else dec (n / 10) ++ [(48 + n % 10).toUInt8]
  termination_by n
  decreasing_by omega
theorem dec_low {n : Nat} (h : n < 10) : dec n = [(48 + n).toUInt8] := by rw [dec, dif_pos h]
theorem dec_high {n : Nat} (h : ¬ n < 10) : dec n = dec (n / 10) ++ [(48 + n % 10).toUInt8] := by rw [dec, dif_neg h]
theorem dec_len (n : Nat) : (dec n).length ≤ n + 1 := by
  induction n using Nat.strongRecOn with
  | ind n ih =>
    by_cases h : n < 10
    · rw [dec_low h]; simp
    · rw [dec_high h]; have := ih (n / 10) (by omega); simp; omega
theorem dec_len4 {n : Nat} (h : n < 10000) : (dec n).length ≤ 4 := by
  have one : ∀ m, m < 10 → (dec m).length ≤ 1 := fun m hm => by rw [dec_low hm]; simp
  have two : ∀ m, m < 100 → (dec m).length ≤ 2 := fun m hm => by
    by_cases h : m < 10
    · have := one m h; omega
    · rw [dec_high h]; have := one (m / 10) (by omega); simp; omega
  have three : ∀ m, m < 1000 → (dec m).length ≤ 3 := fun m hm => by
    by_cases h : m < 10
    · have := one m h; omega
    · rw [dec_high h]; have := two (m / 10) (by omega); simp; omega
  by_cases h' : n < 10
  · have := one n h'; omega
  · rw [dec_high h']; have := three (n / 10) (by omega); simp; omega
/-- Which of n things a raw number speaks of. -/
def pick (c : Int) (n : Nat) : Nat := (if c < 0 then -(c + 1) else c).toNat % n
theorem pick_lt (c : Int) {n : Nat} (h : 0 < n) : pick c n < n := Nat.mod_lt _ h
end Pu
end Go.Proofs.YtdogncjcainhlaaDoor
