/- Plain: hubs and labels by an order. No program in it. -/
import Derived.Test.YtdogncjcainhlaaDoorPCnt
namespace Go.Proofs.YtdogncjcainhlaaDoor.Pu

/-- m lies between a and b. -/
def lies (D : Nat → Nat → Int) (a m b : Nat) : Bool := decide (D a m ≠ -1 ∧ D m b ≠ -1 ∧ D a m + D m b = D a b)
/-- h is a hub of v, the places pre being higher. -/
def isHub (D : Nat → Nat → Int) (v h : Nat) (pre : List Nat) : Bool := decide (D v h ≠ -1) && pre.all fun m => !lies D v m h
theorem isHub_iff {D : Nat → Nat → Int} {v h : Nat} {pre : List Nat} : isHub D v h pre = true ↔ D v h ≠ -1 ∧ ∀ m ∈ pre, lies D v m h = false := by
  unfold isHub
  rw [Bool.and_eq_true, decide_eq_true_iff, List.all_eq_true]
  simp
/-- The labels of place v of the first k hubs of the order O. -/
def labK (D : Nat → Nat → Int) (O : List Nat) (v : Nat) : Nat → List Rd
  | 0 => []
  | k + 1 => labK D O v k ++ match O[k]? with
    | none => []
    | some h => if isHub D v h (O.take k) then [(v, h, D v h)] else []
/-- The labels of the places below p. -/
def labP (D : Nat → Nat → Int) (O : List Nat) : Nat → List Rd
  | 0 => []
  | p + 1 => labP D O p ++ labK D O p O.length
theorem labK_hit {D : Nat → Nat → Int} {O : List Nat} {v k h : Nat} (hk : O[k]? = some h) (hh : isHub D v h (O.take k) = true) : labK D O v (k + 1) = labK D O v k ++ [(v, h, D v h)] := by rw [labK, hk]; simp [hh]
theorem labK_miss {D : Nat → Nat → Int} {O : List Nat} {v k h : Nat} (hk : O[k]? = some h) (hh : isHub D v h (O.take k) = false) : labK D O v (k + 1) = labK D O v k := by rw [labK, hk]; simp [hh]
theorem labK_len (D : Nat → Nat → Int) (O : List Nat) (v : Nat) : ∀ k, (labK D O v k).length ≤ k
  | 0 => Nat.le_refl _
  | k + 1 => by
    have := labK_len D O v k
    rw [labK, List.length_append]
    split
    · simp; omega
    · split <;> simp <;> omega
theorem labP_len (D : Nat → Nat → Int) (O : List Nat) : ∀ p, (labP D O p).length ≤ p * O.length
  | 0 => by simp [labP]
  | p + 1 => by
    have h1 := labP_len D O p
    have h2 := labK_len D O p O.length
    rw [labP, List.length_append, Nat.add_mul]; omega
theorem labK_mem {D : Nat → Nat → Int} {O : List Nat} {v : Nat} {x : Rd} : ∀ k, x ∈ labK D O v k ↔ ∃ j h, j < k ∧ O[j]? = some h ∧ isHub D v h (O.take j) = true ∧ x = (v, h, D v h)
  | 0 => by simp [labK]
  | k + 1 => by
    rw [labK, List.mem_append, labK_mem k]
    constructor
    · rintro (⟨j, h, h1, h2⟩ | h)
      · exact ⟨j, h, by omega, h2⟩
      · cases e : O[k]? with
        | none => rw [e] at h; simp at h
        | some y =>
          rw [e] at h
          simp only at h
          by_cases g : isHub D v y (O.take k) = true
          · rw [if_pos g] at h; exact ⟨k, y, by omega, e, g, by simpa using h⟩
          · rw [if_neg g] at h; simp at h
    · rintro ⟨j, h, h1, h2, h3, h4⟩
      by_cases e : j = k
      · subst e; right; rw [h2]; simp [h3, h4]
      · left; exact ⟨j, h, by omega, h2, h3, h4⟩
theorem labP_mem {D : Nat → Nat → Int} {O : List Nat} {x : Rd} : ∀ p, x ∈ labP D O p ↔ ∃ v j h, v < p ∧ O[j]? = some h ∧ isHub D v h (O.take j) = true ∧ x = (v, h, D v h)
  | 0 => by simp [labP]
  | p + 1 => by
    rw [labP, List.mem_append, labP_mem p, labK_mem]
    constructor
    · rintro (⟨v, j, h, h1, h2⟩ | ⟨j, h, h1, h2⟩)
      · exact ⟨v, j, h, by omega, h2⟩
      · exact ⟨p, j, h, by omega, h2⟩
    · rintro ⟨v, j, h, h1, h2, h3⟩
      by_cases e : v = p
      · subst e; right; exact ⟨j, h, (List.getElem?_eq_some_iff.1 h2).1, h2, h3⟩
      · left; exact ⟨v, j, h, by omega, h2, h3⟩
end Go.Proofs.YtdogncjcainhlaaDoor.Pu
