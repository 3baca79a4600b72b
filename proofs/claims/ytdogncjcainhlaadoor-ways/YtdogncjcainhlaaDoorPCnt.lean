/- How far it is is the same both ways; how many roads there are. Plain: no program in it. -/
import Derived.Test.YtdogncjcainhlaaDoorPBack
namespace Go.Proofs.YtdogncjcainhlaaDoor
namespace Pu
open Mem

theorem Dist.through {n : Nat} {len : Nat → Nat → Int} {a v : Nat} {f g : Nat → Int} (N : Net n len) (hf : Dist n len v f) (hg : Dist n len a g) : ∀ (k j : Nat), j < n → 0 ≤ f j → f j ≤ k → 0 ≤ g j → 0 ≤ g v ∧ g v ≤ g j + f j := by
  intro k
  induction k with
  | zero =>
    intro j hj h0 hk hgj
    by_cases e : j = v
    · subst e; have := hf.f0; omega
    · obtain ⟨i, hi, h1, h2, h3⟩ := hf.pre j hj e h0
      have := N.lens.rng i j; omega
  | succ k ih =>
    intro j hj h0 hk hgj
    by_cases e : j = v
    · subst e; have := hf.f0; omega
    · obtain ⟨i, hi, h1, h2, h3⟩ := hf.pre j hj e h0
      have hl := N.lens.rng i j
      have h4 := hg.ed j i hj hi hgj (by rw [N.sym]; exact h2)
      rw [N.sym] at h4
      have := ih i hi h1 (by omega) h4.1
      omega
/-- It is as far there as back. -/
theorem Dist.sym {n : Nat} {len : Nat → Nat → Int} {a v : Nat} {f g : Nat → Int} (N : Net n len) (ha : a < n) (hv : v < n) (hf : Dist n len v f) (hg : Dist n len a g) : f a = g v := by
  have h1 : 0 ≤ f a → 0 ≤ g v ∧ g v ≤ f a := fun h => by
    have := Dist.through N hf hg (f a).toNat a ha h (by omega) (by rw [hg.f0]; omega)
    rw [hg.f0] at this; omega
  have h2 : 0 ≤ g v → 0 ≤ f a ∧ f a ≤ g v := fun h => by
    have := Dist.through N hg hf (g v).toNat v hv h (by omega) (by rw [hf.f0]; omega)
    rw [hf.f0] at this; omega
  rcases hf.rng a ha with h | h
  · rcases hg.rng v hv with h' | h'
    · rw [h, h']
    · have := h2 h'.1; omega
  · have := h1 h.1; have := h2 (h1 h.1).1; omega

/-- Of the first k places how many have a road to v. -/
def rowCnt (len : Nat → Nat → Int) (v : Nat) : Nat → Nat
  | 0 => 0
  | k + 1 => rowCnt len v k + if 0 < len v k then 1 else 0
/-- How many roads lead from the first m places to lesser ones. -/
def total (len : Nat → Nat → Int) : Nat → Nat
  | 0 => 0
  | m + 1 => total len m + rowCnt len m m
theorem rowCnt_congr {len len' : Nat → Nat → Int} {v : Nat} : ∀ k, (∀ j, j < k → len v j = len' v j) → rowCnt len v k = rowCnt len' v k
  | 0, _ => rfl
  | k + 1, h => by rw [rowCnt, rowCnt, rowCnt_congr k (fun j hj => h j (by omega)), h k (by omega)]
theorem rowCnt_lay {len : Nat → Nat → Int} {u v : Nat} {x : Int} (huv : u < v) (hz : len v u = 0) (hx : 0 < x) : ∀ k, u < k → rowCnt (layLen len u v x) v k = rowCnt len v k + 1
  | 0, h => by omega
  | k + 1, h => by
    rw [rowCnt, rowCnt]
    by_cases e : k = u
    · subst e
      have e1 : layLen len k v x v k = x := by unfold layLen; rw [if_pos (Or.inr ⟨rfl, rfl⟩)]
      rw [e1, hz, if_pos hx, if_neg (by omega), rowCnt_congr (len := layLen len k v x) (len' := len) k (fun j hj => by unfold layLen; rw [if_neg (by omega)])]
    · have e1 : layLen len u v x v k = len v k := by unfold layLen; rw [if_neg (by omega)]
      rw [e1, rowCnt_lay huv hz hx k (by omega)]; omega
theorem total_lay {len : Nat → Nat → Int} {u v : Nat} {x : Int} (huv : u < v) (hz : len v u = 0) (hx : 0 < x) : ∀ m, total (layLen len u v x) m = total len m + if v < m then 1 else 0
  | 0 => by simp [total]
  | m + 1 => by
    rw [total, total, total_lay huv hz hx m]
    by_cases e : m = v
    · subst e
      rw [rowCnt_lay huv hz hx m huv, if_neg (by omega), if_pos (by omega)]; omega
    · rw [rowCnt_congr (len := layLen len u v x) (len' := len) m (fun j hj => by unfold layLen; rw [if_neg (by omega)])]
      by_cases g : v < m
      · rw [if_pos g, if_pos (by omega)]; omega
      · rw [if_neg g, if_neg (by omega)]; omega
theorem total_zero : ∀ m, total (fun _ _ => 0) m = 0
  | 0 => rfl
  | m + 1 => by
    have r : ∀ v k, rowCnt (fun _ _ => 0) v k = 0 := by
      intro v k
      induction k with
      | zero => rfl
      | succ k ih => rw [rowCnt, ih]; simp
    rw [total, total_zero m, r]
theorem lay_total {n : Nat} : ∀ (rs : List Rd) (len len' : Nat → Nat → Int) (i : Nat), Net n len → (∀ r ∈ rs, RdOk n r) → lay len rs i = .inr len' → total len' n = total len n + rs.length
  | [], len, len', i, _, _, e => by rw [lay] at e; cases e; simp
  | (u, v, x) :: rs, len, len', i, h, hr, e => by
    by_cases c : len u v = 0
    · rw [lay_go c] at e
      have ho := hr (u, v, x) (by simp)
      obtain ⟨h1, h2, h3, h4⟩ := ho
      simp only at h1 h2 h3 h4
      have := lay_total rs _ len' (i + 1) (h.lay (hr _ (by simp))) (fun r hm => hr r (by simp [hm])) e
      rw [this, total_lay h1 (by rw [h.sym]; exact c) (by omega), if_pos h2]; simp; omega
    · rw [lay_twice c] at e; cases e
/-- A map that was read has as many roads as it was told. -/
theorem parse_total {l : List UInt8} {n k : Nat} {len : Nat → Nat → Int} (h : parse l = .ok n k len) : total len n = k := by
  unfold parse at h
  split at h
  · cases h
  · split at h
    · cases h
    · unfold parseRows at h
      split at h
      · cases h
      · rename_i m hm
        split at h
        · cases h
        · rename_i rs hrs
          split at h
          · cases h
          · rename_i len' hl
            cases h
            have := lay_total rs _ _ 0 (Net.zero _) (roads_ok _ _ _ hrs) hl
            rw [this, total_zero]; omega
end Pu
end Go.Proofs.YtdogncjcainhlaaDoor
