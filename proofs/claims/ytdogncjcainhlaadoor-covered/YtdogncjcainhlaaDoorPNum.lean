/- Plain facts on numbers that stand in texts: no program in it. -/
import Derived.WalkKit
namespace Go.Proofs.YtdogncjcainhlaaDoor
namespace Pu

/-- The rest of a number's digits, with the look ahead of each step. -/
def digs : Int → List UInt8 → Option Int
  | n, [] => some n
  | n, c :: r => if c.toNat < 48 ∨ 57 < c.toNat then none else if (9223372036854775807 - ((c.toNat : Int) - 48)) / 10 < n then none else digs (n * 10 + ((c.toNat : Int) - 48)) r

/-- A number of the document. -/
def num (l : List UInt8) : Option Int := if l = [] ∨ (l.head? = some 48 ∧ 1 < l.length) then none else digs 0 l

/-- A number from lo to hi. -/
def within (l : List UInt8) (lo hi : Int) : Option Int := match num l with
  | none => none
  | some n => if n < lo ∨ hi < n then none else some n

theorem digs_cons (n : Int) (c : UInt8) (r : List UInt8) (h1 : 48 ≤ c.toNat) (h2 : c.toNat ≤ 57) (h3 : n ≤ (9223372036854775807 - ((c.toNat : Int) - 48)) / 10) : digs n (c :: r) = digs (n * 10 + ((c.toNat : Int) - 48)) r := by
  rw [digs, if_neg (by omega), if_neg (by omega)]
theorem digs_bad (n : Int) (c : UInt8) (r : List UInt8) (h1 : c.toNat < 48 ∨ 57 < c.toNat) : digs n (c :: r) = none := by
  rw [digs, if_pos h1]
theorem digs_big (n : Int) (c : UInt8) (r : List UInt8) (h3 : (9223372036854775807 - ((c.toNat : Int) - 48)) / 10 < n) : digs n (c :: r) = none := by
  rw [digs]; split
  · rfl
  · first | rfl | rw [if_pos h3]
theorem drop_cons (s : ByteArray) (k : Nat) (h : k < s.size) : s.data.toList.drop k = s[k] :: s.data.toList.drop (k + 1) := by
  rw [List.drop_eq_getElem_cons (by simpa using h)]; rfl
theorem digs_bd : ∀ (l : List UInt8) (n m : Int), 0 ≤ n → n ≤ 9223372036854775807 → digs n l = some m → 0 ≤ m ∧ m ≤ 9223372036854775807
  | [], n, m, h0, h1, h => by simp [digs] at h; omega
  | c :: r, n, m, h0, h1, h => by
    rw [digs] at h
    split at h
    · cases h
    · split at h
      · cases h
      · exact digs_bd r _ m (by omega) (by omega) h
theorem num_bd {l : List UInt8} {m : Int} (h : num l = some m) : 0 ≤ m ∧ m ≤ 9223372036854775807 := by
  unfold num at h
  split at h
  · cases h
  · exact digs_bd l 0 m (by omega) (by omega) h
theorem within_some {l : List UInt8} {lo hi n : Int} (h : within l lo hi = some n) : num l = some n ∧ lo ≤ n ∧ n ≤ hi := by
  unfold within at h
  split at h
  · cases h
  · rename_i m hm
    split at h
    · cases h
    · cases h; exact ⟨hm, by omega, by omega⟩
end Pu
end Go.Proofs.YtdogncjcainhlaaDoor
