/- Plain: the order by how many roads a place has. No program in it. -/
import Derived.Test.YtllpcmbgpinkeaaDoorPCnt
import Derived.Test.YtllpcmbgpinkeaaDoorPOrd
namespace Go.Proofs.YtllpcmbgpinkeaaDoor.Pu

/-- Those of the places below p that have r roads. -/
def lvl (d : Nat → Nat) (r p : Nat) : List Nat := (List.range p).filter fun x => d x == r
theorem lvl_hit {d : Nat → Nat} {r p : Nat} (h : d p = r) : lvl d r (p + 1) = lvl d r p ++ [p] := by
  unfold lvl; rw [List.range_succ, List.filter_append]; simp [h]
theorem lvl_miss {d : Nat → Nat} {r p : Nat} (h : d p ≠ r) : lvl d r (p + 1) = lvl d r p := by
  unfold lvl; rw [List.range_succ, List.filter_append]; simp [h]
theorem lvl_mem {d : Nat → Nat} {r p x : Nat} : x ∈ lvl d r p ↔ x < p ∧ d x = r := by unfold lvl; simp
theorem lvl_len (d : Nat → Nat) (r p : Nat) : (lvl d r p).length ≤ p := by
  unfold lvl; exact Nat.le_trans (List.length_filter_le _ _) (by simp)
/-- The places with n, n - 1, .. roads, k of these numbers. -/
def rankK (d : Nat → Nat) (n : Nat) : Nat → List Nat
  | 0 => []
  | k + 1 => rankK d n k ++ lvl d (n - k) n
/-- The order by roads. -/
def ranked (d : Nat → Nat) (n : Nat) : List Nat := rankK d n (n + 1)
theorem rankK_mem {d : Nat → Nat} {n x : Nat} : ∀ k, k ≤ n + 1 → (x ∈ rankK d n k ↔ x < n ∧ d x ≤ n ∧ n < d x + k)
  | 0, _ => by simp [rankK]
  | k + 1, hk => by
    rw [rankK, List.mem_append, rankK_mem k (by omega), lvl_mem]
    omega
/-- Higher by more roads, or by the lesser number. -/
def Above (d : Nat → Nat) (a b : Nat) : Prop := d b < d a ∨ (d a = d b ∧ a < b)
theorem lvl_sorted (d : Nat → Nat) (r : Nat) : ∀ p, (lvl d r p).Pairwise (Above d)
  | 0 => by simp [lvl]
  | p + 1 => by
    by_cases h : d p = r
    · rw [lvl_hit h, List.pairwise_append]
      refine ⟨lvl_sorted d r p, by simp, fun x hx y hy => ?_⟩
      rw [List.mem_singleton] at hy
      subst hy
      have := lvl_mem.1 hx
      right; omega
    · rw [lvl_miss h]; exact lvl_sorted d r p
theorem rankK_sorted (d : Nat → Nat) (n : Nat) : ∀ k, k ≤ n + 1 → (rankK d n k).Pairwise (Above d)
  | 0, _ => by simp [rankK]
  | k + 1, hk => by
    rw [rankK, List.pairwise_append]
    refine ⟨rankK_sorted d n k (by omega), lvl_sorted d _ n, fun x hx y hy => ?_⟩
    have h1 := (rankK_mem k (by omega)).1 hx
    have h2 := lvl_mem.1 hy
    left; omega
theorem sorted_one {R : Nat → Nat → Prop} (hR : ∀ a b, R a b → ¬ R b a) : ∀ (l m : List Nat), l.Pairwise R → m.Pairwise R → (∀ x, x ∈ l ↔ x ∈ m) → l = m
  | [], [], _, _, _ => rfl
  | [], b :: m, _, _, h => by have := (h b).2 (by simp); simp at this
  | a :: l, [], _, _, h => by have := (h a).1 (by simp); simp at this
  | a :: l, b :: m, hl, hm, h => by
    have h1 := List.pairwise_cons.1 hl
    have h2 := List.pairwise_cons.1 hm
    have hab : a = b := by
      by_cases c : a = b
      · exact c
      · have ha : a ∈ m := by
          have := (h a).1 (by simp)
          rcases List.mem_cons.1 this with e | e
          · exact absurd e c
          · exact e
        have hb : b ∈ l := by
          have := (h b).2 (by simp)
          rcases List.mem_cons.1 this with e | e
          · exact absurd e.symm c
          · exact e
        exact absurd (h2.1 a ha) (hR _ _ (h1.1 b hb))
    subst hab
    have irr : ∀ x, ¬ R x x := fun x c => hR x x c c
    have : l = m := by
      refine sorted_one hR l m h1.2 h2.2 (fun x => ?_)
      constructor
      · intro hx
        rcases List.mem_cons.1 ((h x).1 (by simp [hx])) with e | e
        · subst e; exact absurd (h1.1 x hx) (irr x)
        · exact e
      · intro hx
        rcases List.mem_cons.1 ((h x).2 (by simp [hx])) with e | e
        · subst e; exact absurd (h2.1 x hx) (irr x)
        · exact e
    rw [this]
theorem Above.anti (d : Nat → Nat) (a b : Nat) (h : Above d a b) : ¬ Above d b a := by unfold Above at *; omega
/-- Whatever holds all places, sorted so, is the order by roads. -/
theorem ranked_one {d : Nat → Nat} {n : Nat} (hd : ∀ x, x < n → d x ≤ n) {O : List Nat} (hs : O.Pairwise (Above d)) (hm : ∀ x, x ∈ O ↔ x < n) : O = ranked d n :=
  sorted_one (Above.anti d) _ _ hs (rankK_sorted d n _ (Nat.le_refl _)) (fun x => by
    unfold ranked
    rw [rankK_mem _ (Nat.le_refl _), hm]
    constructor
    · intro h; have := hd x h; omega
    · intro h; exact h.1)
theorem ranked_perm {d : Nat → Nat} {n : Nat} (hd : ∀ x, x < n → d x ≤ n) : Perm n (ranked d n) := by
  have hnd : (ranked d n).Nodup := (rankK_sorted d n _ (Nat.le_refl _)).imp (fun {a b} h c => by subst c; exact Above.anti d a a h h)
  have hlt : ∀ m ∈ ranked d n, m < n := fun m hm => ((rankK_mem _ (Nat.le_refl _)).1 hm).1
  refine ⟨?_, hnd, hlt⟩
  have h1 : (List.range n).length ≤ (ranked d n).length := by
    have hsub : ∀ x ∈ List.range n, x ∈ ranked d n := fun x hx => by
      have hx' : x < n := by simpa using hx
      have := hd x hx'
      exact (rankK_mem _ (Nat.le_refl _)).2 ⟨hx', by omega, by omega⟩
    have := List.Nodup.length_le_of_subset (List.nodup_range (n := n)) hsub
    exact this
  have h2 : (ranked d n).length ≤ n := by
    have aux : ∀ (n : Nat) (l : List Nat), l.Nodup → (∀ m ∈ l, m < n) → l.length ≤ n := by
      intro n l h3 h4
      have := List.Nodup.length_le_of_subset h3 (l₂ := List.range n) (fun x hx => by simpa using h4 x hx)
      simpa using this
    exact aux n _ hnd hlt
  simp at h1
  omega
theorem rowCnt_le' (len : Nat → Nat → Int) (v : Nat) : ∀ k, rowCnt len v k ≤ k
  | 0 => Nat.le_refl _
  | k + 1 => by have := rowCnt_le' len v k; rw [rowCnt]; split <;> omega
end Go.Proofs.YtllpcmbgpinkeaaDoor.Pu
