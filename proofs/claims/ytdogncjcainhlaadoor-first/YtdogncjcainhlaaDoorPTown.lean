/- A town's text and the roads that were taken. Plain: no program in it. -/
import Derived.Test.YtdogncjcainhlaaDoorPDec
import Derived.Test.YtdogncjcainhlaaDoorPParse
namespace Go.Proofs.YtdogncjcainhlaaDoor
namespace Pu
open Mem

/-- A road's line. -/
def roadLine (r : Rd) : List UInt8 := dec r.1 ++ 32 :: (dec r.2.1 ++ 32 :: dec r.2.2.toNat)
/-- The text of n places and some roads. -/
def townText (n : Nat) : List Rd → List UInt8
  | [] => dec n
  | acc => dec n ++ acc.flatMap fun r => 10 :: roadLine r
theorem townText_eq (n : Nat) (acc : List Rd) : townText n acc = dec n ++ acc.flatMap fun r => 10 :: roadLine r := by
  cases acc with
  | nil => simp [townText]
  | cons r l => rfl
theorem townText_push (n : Nat) (acc : List Rd) (r : Rd) : townText n (acc ++ [r]) = townText n acc ++ 10 :: roadLine r := by
  rw [townText_eq, townText_eq]; simp
theorem roadLine_le {n : Nat} {r : Rd} (hn : n ≤ 14) (h : RdOk n r) : (roadLine r).length ≤ 14 := by
  obtain ⟨h1, h2, h3, h4⟩ := h
  have a := dec_len4 (n := r.1) (by omega)
  have b := dec_len4 (n := r.2.1) (by omega)
  have c := dec_len4 (n := r.2.2.toNat) (by omega)
  unfold roadLine; simp; omega
theorem townText_le {n : Nat} (hn : n ≤ 14) : ∀ (acc : List Rd), (∀ r ∈ acc, RdOk n r) → (townText n acc).length ≤ 4 + 15 * acc.length := by
  intro acc h
  rw [townText_eq]
  have a := dec_len4 (n := n) (by omega)
  have b : ∀ (l : List Rd), (∀ r ∈ l, RdOk n r) → (l.flatMap fun r => 10 :: roadLine r).length ≤ 15 * l.length := by
    intro l hl
    induction l with
    | nil => simp
    | cons r l ih =>
      have h1 := roadLine_le hn (hl r (by simp))
      have h2 := ih (fun r' hr => hl r' (by simp [hr]))
      rw [List.flatMap_cons, List.length_append, List.length_cons, List.length_cons]; omega
  have := b acc h
  rw [List.length_append]; omega
theorem lay_push {len len' : Nat → Nat → Int} {u v : Nat} {x : Int} : ∀ (acc : List Rd) (i : Nat), lay len acc i = .inr len' → len' u v = 0 → lay len (acc ++ [(u, v, x)]) i = .inr (layLen len' u v x)
  | [], i, h, h0 => by
    rw [lay] at h; cases h
    show lay len [(u, v, x)] i = _
    rw [lay_go h0]; rfl
  | (a, b, c) :: acc, i, h, h0 => by
    by_cases e : len a b = 0
    · rw [lay_go e] at h
      show lay len ((a, b, c) :: (acc ++ [(u, v, x)])) i = _
      rw [lay_go e]
      exact lay_push acc (i + 1) h h0
    · rw [lay_twice e] at h; cases h
end Pu
end Go.Proofs.YtdogncjcainhlaaDoor
