/- A map's text read. Plain: no program in it. -/
import Derived.Test.YtdogncjcainhlaaDoorPSplit
import Derived.Test.YtdogncjcainhlaaDoorPLay
namespace Go.Proofs.YtdogncjcainhlaaDoor
namespace Pu
open Mem

/-- All lines but the first: roads, or the number of the first that is none. -/
def roads (n : Int) : List (List UInt8) → Nat → Nat ⊕ List Rd
  | [], _ => .inr []
  | l :: t, i => match road l n with
    | none => .inl i
    | some (u, v, x) => match roads n t (i + 1) with
      | .inl j => .inl j
      | .inr rs => .inr ((u.toNat, v.toNat, x) :: rs)
/-- What reading gives: an error and the place of it, or a map. -/
inductive Res
  | err (e at' : Int)
  | ok (n k : Nat) (len : Nat → Nat → Int)
def parseRows (h : List UInt8) (t : List (List UInt8)) : Res := match within h 1 40 with
  | none => .err 2 0
  | some n => match roads n t 0 with
    | .inl i => .err 2 ((i : Int) + 1)
    | .inr rs => match lay (fun _ _ => 0) rs 0 with
      | .inl i => .err 3 ((i : Int) + 1)
      | .inr len => .ok n.toNat rs.length len
def parse (l : List UInt8) : Res := if 4000 < l.length ∨ 200 < l.count 10 then .err 1 0 else match cuts 10 l with
  | [] => .err 2 0
  | h :: t => parseRows h t
/-- What is left of the roads joined to those that were read. -/
def join (acc : List Rd) : Nat ⊕ List Rd → Nat ⊕ List Rd
  | .inl i => .inl i
  | .inr rs => .inr (acc ++ rs)
theorem roads_bad {n : Int} {l : List UInt8} {t : List (List UInt8)} {i : Nat} (acc : List Rd) (h : road l n = none) : join acc (roads n (l :: t) i) = .inl i := by rw [roads, h]; rfl
theorem roads_good {n u v x : Int} {l : List UInt8} {t : List (List UInt8)} {i : Nat} (acc : List Rd) (h : road l n = some (u, v, x)) : join acc (roads n (l :: t) i) = join (acc ++ [(u.toNat, v.toNat, x)]) (roads n t (i + 1)) := by
  rw [roads, h]
  cases roads n t (i + 1) with
  | inl j => rfl
  | inr rs => simp [join]
theorem join_nil (r : Nat ⊕ List Rd) : join [] r = r := by cases r <;> rfl

/-- The cells of roads. -/
def rdVals : List Rd → List Value
  | [] => []
  | (u, v, x) :: r => .int .i64 (u : Int) :: .int .i64 (v : Int) :: .int .i64 x :: rdVals r
theorem rdVals_length : ∀ l : List Rd, (rdVals l).length = l.length * 3
  | [] => rfl
  | (u, v, x) :: r => by simp [rdVals, rdVals_length r]; omega
theorem rdVals_append : ∀ (a b : List Rd), rdVals (a ++ b) = rdVals a ++ rdVals b
  | [], b => rfl
  | (u, v, x) :: r, b => by simp [rdVals, rdVals_append r b]
theorem rdVals_get : ∀ (l : List Rd) (k u v : Nat) (x : Int), l[k]? = some (u, v, x) → (rdVals l)[k * 3]? = some (.int .i64 (u : Int)) ∧ (rdVals l)[k * 3 + 1]? = some (.int .i64 (v : Int)) ∧ (rdVals l)[k * 3 + 2]? = some (.int .i64 x)
  | [], k, u, v, x, h => by simp at h
  | (a, b, c) :: r, 0, u, v, x, h => by
    simp at h
    obtain ⟨rfl, rfl, rfl⟩ := h
    simp [rdVals]
  | (a, b, c) :: r, k + 1, u, v, x, h => by
    have := rdVals_get r k u v x (by simpa using h)
    rw [show (k + 1) * 3 = k * 3 + 1 + 1 + 1 by omega, rdVals]
    simpa using this
theorem parse_err {l : List UInt8} {c p : Int} (h : parse l = .err c p) : c = 1 ∨ c = 2 ∨ c = 3 := by
  have rows : ∀ (a : List UInt8) (t : List (List UInt8)), parseRows a t = .err c p → c = 2 ∨ c = 3 := by
    intro a t h
    unfold parseRows at h
    split at h
    · cases h; omega
    · split at h
      · cases h; omega
      · split at h
        · cases h; omega
        · cases h
  unfold parse at h
  split at h
  · cases h; omega
  · split at h
    · cases h; omega
    · have := rows _ _ h; omega
theorem roads_ok {n : Int} : ∀ (t : List (List UInt8)) (i : Nat) (rs : List Rd), roads n t i = .inr rs → ∀ r ∈ rs, RdOk n.toNat r
  | [], i, rs, h, r, hr => by rw [roads] at h; cases h; cases hr
  | l :: t, i, rs, h, r, hr => by
    rw [roads] at h
    split at h
    · cases h
    · rename_i u v x e
      split at h
      · cases h
      · rename_i rs' e'
        cases h
        rcases List.mem_cons.1 hr with rfl | hr
        · have := road_some e
          exact ⟨by simp only; omega, by simp only; omega, by simp only; omega, by simp only; omega⟩
        · exact roads_ok t (i + 1) rs' e' r hr
theorem roads_le {n : Int} : ∀ (t : List (List UInt8)) (i : Nat) (rs : List Rd), roads n t i = .inr rs → rs.length = t.length
  | [], i, rs, h => by rw [roads] at h; cases h; rfl
  | l :: t, i, rs, h => by
    rw [roads] at h
    split at h
    · cases h
    · split at h
      · cases h
      · rename_i rs' e'
        cases h
        simp [roads_le t (i + 1) rs' e']
/-- What is known of a map that was read. -/
theorem parse_ok {l : List UInt8} {n k : Nat} {len : Nat → Nat → Int} (h : parse l = .ok n k len) : 1 ≤ n ∧ n ≤ 40 ∧ k ≤ 200 ∧ Net n len := by
  unfold parse at h
  split at h
  · cases h
  · rename_i hno
    split at h
    · cases h
    · rename_i a t hc
      unfold parseRows at h
      split at h
      · cases h
      · rename_i m hm
        have hb := within_some hm
        split at h
        · cases h
        · rename_i rs hrs
          split at h
          · cases h
          · rename_i len' hl
            cases h
            have h1 := cuts_length 10 l
            rw [hc] at h1
            have h2 := roads_le _ _ _ hrs
            simp at h1
            refine ⟨by omega, by omega, by omega, Net.lay_all rs _ _ 0 (Net.zero _) (roads_ok _ _ _ hrs) hl⟩
end Pu
end Go.Proofs.YtdogncjcainhlaaDoor
