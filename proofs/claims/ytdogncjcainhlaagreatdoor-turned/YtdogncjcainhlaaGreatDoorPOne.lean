/- Plain: of ways that go on to the least place on each there is but one; and the in-place rounds of the reference's fill. -/
import Derived.Test.YtdogncjcainhlaaGreatDoorWFirst
import Derived.Test.YtdogncjcainhlaaGreatDoorPlain
namespace Go.Proofs.YtdogncjcainhlaaGreatDoor

theorem Least.one {len : Nat → Nat → Int} {far : Nat → Int} {a i j : Nat} (h : Least len far a i) (g : Least len far a j) : i = j := by
  rcases Nat.lt_trichotomy i j with c | c | c
  · exact absurd h.1 (g.2 i c)
  · exact c
  · exact absurd g.1 (h.2 j c)
theorem Way.one {n : Nat} {len : Nat → Nat → Int} {far : Nat → Int} {t a : Nat} {l m : List Nat} (h : Way n len far t a l) (g : Way n len far t a m) : l = m := by
  induction h generalizing m with
  | done =>
    cases g with
    | done => rfl
    | step _ j l' h1 _ _ _ => exact absurd rfl h1
  | step a j l h1 h2 h3 h4 ih =>
    cases g with
    | done => exact absurd rfl h1
    | step _ j' l' g1 g2 g3 g4 =>
      have e := Least.one h3 g3
      subst e
      rw [ih g4]

namespace Pu
/-- The table in the midst of the round of place x: what lies ahead of row i, place k is turned already. -/
def fillAt (t : Nat → Nat → Int) (x i k p q : Nat) : Int := if p < i ∨ (p = i ∧ q < k) then fstep t x p q else t p q
theorem fillAt_start (t : Nat → Nat → Int) (x p q : Nat) : fillAt t x 0 0 p q = t p q := by unfold fillAt; rw [if_neg (by omega)]
theorem fillAt_row (t : Nat → Nat → Int) (x i n p q : Nat) (hq : q < n) : fillAt t x i n p q = fillAt t x (i + 1) 0 p q := by
  unfold fillAt
  by_cases c : p < i ∨ (p = i ∧ q < n)
  · rw [if_pos c, if_pos (by omega)]
  · rw [if_neg c, if_neg (by omega)]
theorem fillAt_end (t : Nat → Nat → Int) (x n p q : Nat) (hp : p < n) : fillAt t x n 0 p q = fstep t x p q := by unfold fillAt; rw [if_pos (by omega)]
/-- In the midst of the round column x and row x still read as before. -/
theorem fillAt_col (t : Nat → Nat → Int) (x i k p : Nat) (hx : t x x = 0) : fillAt t x i k p x = t p x := by
  unfold fillAt fstep; split
  · rw [if_neg (by omega)]
  · rfl
theorem fillAt_xrow (t : Nat → Nat → Int) (x i k q : Nat) (hx : t x x = 0) : fillAt t x i k x q = t x q := by
  unfold fillAt fstep; split
  · rw [if_neg (by omega)]
  · rfl
theorem fillAt_here (t : Nat → Nat → Int) (x i k : Nat) : fillAt t x i k i k = t i k := by unfold fillAt; rw [if_neg (by omega)]
/-- One entry on. -/
theorem fillAt_next (t : Nat → Nat → Int) (x i k p q : Nat) : fillAt t x i (k + 1) p q = if p = i ∧ q = k then fstep t x i k else fillAt t x i k p q := by
  by_cases c : p = i ∧ q = k
  · obtain ⟨rfl, rfl⟩ := c
    rw [if_pos ⟨rfl, rfl⟩]; unfold fillAt; rw [if_pos (by omega)]
  · rw [if_neg c]; unfold fillAt
    by_cases d : p < i ∨ (p = i ∧ q < k)
    · rw [if_pos d, if_pos (by omega)]
    · rw [if_neg d, if_neg (by omega)]
end Pu
#print axioms Way.one
#print axioms Pu.fillAt_next
end Go.Proofs.YtdogncjcainhlaaGreatDoor
