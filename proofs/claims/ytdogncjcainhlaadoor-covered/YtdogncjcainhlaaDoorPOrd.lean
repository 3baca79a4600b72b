/- Plain: an order's text read. No program in it. -/
import Derived.Test.YtdogncjcainhlaaDoorPSplit
namespace Go.Proofs.YtdogncjcainhlaaDoor.Pu

/-- The rest of an order. -/
def ordGo (n : Int) : List (List UInt8) → List Nat → Option (List Nat)
  | [], acc => some acc
  | p :: r, acc => match within p 0 (n - 1) with
    | none => none
    | some x => if x.toNat ∈ acc then none else ordGo n r (acc ++ [x.toNat])
/-- An order of n places. -/
def order (n : Nat) (s : List UInt8) : Option (List Nat) := if (cuts 32 s).length = n then ordGo n (cuts 32 s) [] else none
theorem ordGo_none {n : Int} {p : List UInt8} {r : List (List UInt8)} {acc : List Nat} (h : within p 0 (n - 1) = none) : ordGo n (p :: r) acc = none := by rw [ordGo, h]
theorem ordGo_twice {n : Int} {x : Nat} {p : List UInt8} {r : List (List UInt8)} {acc : List Nat} (h : within p 0 (n - 1) = some (x : Int)) (hm : x ∈ acc) : ordGo n (p :: r) acc = none := by rw [ordGo, h]; simp [hm]
theorem ordGo_next {n : Int} {x : Nat} {p : List UInt8} {r : List (List UInt8)} {acc : List Nat} (h : within p 0 (n - 1) = some (x : Int)) (hm : ¬ x ∈ acc) : ordGo n (p :: r) acc = ordGo n r (acc ++ [x]) := by rw [ordGo, h]; simp [hm]
/-- A list of places, each once. -/
structure Perm (n : Nat) (O : List Nat) : Prop where
  len : O.length = n
  nodup : O.Nodup
  lt : ∀ m ∈ O, m < n
theorem ordGo_ok {n : Nat} : ∀ (t : List (List UInt8)) (acc O : List Nat), acc.Nodup → (∀ m ∈ acc, m < n) → ordGo n t acc = some O → O.length = acc.length + t.length ∧ O.Nodup ∧ ∀ m ∈ O, m < n
  | [], acc, O, h1, h2, h => by rw [ordGo] at h; cases h; exact ⟨by simp, h1, h2⟩
  | p :: r, acc, O, h1, h2, h => by
    rw [ordGo] at h
    split at h
    · cases h
    · rename_i x hx
      have hb := within_some hx
      split at h
      · cases h
      · rename_i hm
        have := ordGo_ok r (acc ++ [x.toNat]) O (by
            rw [List.nodup_append]
            exact ⟨h1, by simp, fun a ha b hb' c => by rw [List.mem_singleton] at hb'; subst hb'; subst c; exact hm ha⟩) (fun m hm' => by
            rcases List.mem_append.1 hm' with h' | h'
            · exact h2 m h'
            · rw [List.mem_singleton] at h'; omega) h
        simp only [List.length_append, List.length_cons, List.length_nil] at this ⊢
        exact ⟨by omega, this.2⟩
theorem order_ok {n : Nat} {s : List UInt8} {O : List Nat} (h : order n s = some O) : Perm n O := by
  unfold order at h
  split at h
  · rename_i hl
    have := ordGo_ok _ _ _ (by simp) (by simp) h
    exact ⟨by simpa [hl] using this.1, this.2.1, this.2.2⟩
  · cases h
end Go.Proofs.YtdogncjcainhlaaDoor.Pu
