/- How far it is from one place: what going on from the nearest place keeps, and what is told in the end. Plain: no program in it. -/
import Derived.Test.YtdogncjcainhlaaDoorPWay
namespace Go.Proofs.YtdogncjcainhlaaDoor
namespace Pu
open Mem

/-- Lengths of roads: 0 where there is none; none from a place to itself. -/
structure Lens (len : Nat → Nat → Int) : Prop where
  rng : ∀ i j, 0 ≤ len i j ∧ len i j ≤ 1000
  self : ∀ i, len i i = 0

/-- far tells how far each of n places is from s. -/
structure Dist (n : Nat) (len : Nat → Nat → Int) (s : Nat) (far : Nat → Int) : Prop where
  f0 : far s = 0
  rng : ∀ j, j < n → far j = -1 ∨ (0 ≤ far j ∧ far j ≤ 40000)
  ed : ∀ i j, i < n → j < n → 0 ≤ far i → len i j ≠ 0 → 0 ≤ far j ∧ far j ≤ far i + len i j
  pre : ∀ j, j < n → j ≠ s → 0 ≤ far j → ∃ i, i < n ∧ 0 ≤ far i ∧ len i j ≠ 0 ∧ far j = far i + len i j

structure Dij (n : Nat) (len : Nat → Nat → Int) (s : Nat) (far : Nat → Int) (done : Nat → Bool) (D : Nat) : Prop where
  f0 : far s = 0
  rng : ∀ j, j < n → far j = -1 ∨ (0 ≤ far j ∧ far j ≤ 1000 * D)
  dn : ∀ i, i < n → done i = true → 0 ≤ far i
  ed : ∀ i j, i < n → j < n → done i = true → len i j ≠ 0 → 0 ≤ far j ∧ far j ≤ far i + len i j
  ord : ∀ i j, i < n → j < n → done i = true → done j = false → 0 ≤ far j → far i ≤ far j
  pre : ∀ j, j < n → j ≠ s → 0 ≤ far j → ∃ i, i < n ∧ done i = true ∧ len i j ≠ 0 ∧ far j = far i + len i j

/-- The place to go on from. -/
structure Next (n : Nat) (far : Nat → Int) (done : Nat → Bool) (a : Nat) : Prop where
  lt : a < n
  open' : done a = false
  far0 : 0 ≤ far a
  least : ∀ j, j < n → done j = false → 0 ≤ far j → far a ≤ far j

def cnt (g : Nat → Bool) : Nat → Nat
  | 0 => 0
  | k + 1 => cnt g k + if g k = true then 1 else 0
theorem cnt_le (g : Nat → Bool) : ∀ k, cnt g k ≤ k
  | 0 => Nat.le_refl _
  | k + 1 => by have := cnt_le g k; rw [cnt]; split <;> omega
theorem cnt_lt {g : Nat → Bool} {i : Nat} (h : g i = false) : ∀ k, i < k → cnt g k < k
  | 0, h' => by omega
  | k + 1, h' => by
    rw [cnt]
    by_cases e : i = k
    · subst e; have := cnt_le g i; rw [if_neg (by rw [h]; simp)]; omega
    · have := cnt_lt h k (by omega); split <;> omega
theorem cnt_same {g g' : Nat → Bool} : ∀ k, (∀ j, j < k → g j = g' j) → cnt g k = cnt g' k
  | 0, _ => rfl
  | k + 1, h => by rw [cnt, cnt, cnt_same k (fun j hj => h j (by omega)), h k (by omega)]
theorem cnt_upd {g : Nat → Bool} {i : Nat} (h : g i = false) : ∀ k, i < k → cnt (upd g i true) k = cnt g k + 1
  | 0, h' => by omega
  | k + 1, h' => by
    rw [cnt, cnt]
    by_cases e : i = k
    · subst e
      rw [cnt_same (g := upd g i true) (g' := g) i (fun j hj => upd_other _ _ _ _ (by omega)), upd_same, h]; simp
    · rw [cnt_upd h k (by omega), upd_other _ _ _ _ (fun c => e c.symm)]; omega
theorem cnt_none : ∀ k, cnt (fun _ => false) k = 0
  | 0 => rfl
  | k + 1 => by rw [cnt, cnt_none k]; rfl

theorem near_none {far : Nat → Int} {done : Nat → Bool} : ∀ n, near far done n = -1 → ∀ j, j < n → done j = true ∨ far j = -1
  | 0, _, j, hj => by omega
  | k + 1, h, j, hj => by
    rw [near] at h
    by_cases c : done k = true ∨ far k = -1
    · rw [if_pos c] at h
      by_cases e : j = k
      · subst e; exact c
      · exact near_none k h j (by omega)
    · rw [if_neg c] at h
      split at h
      · omega
      · rename_i g; exact absurd (Or.inl h) g
theorem near_some {far : Nat → Int} {done : Nat → Bool} : ∀ n, near far done n ≠ -1 → ∃ a : Nat, near far done n = a ∧ a < n ∧ done a = false ∧ far a ≠ -1 ∧ ∀ j, j < n → done j = false → far j ≠ -1 → far a ≤ far j
  | 0, h => absurd rfl h
  | k + 1, h => by
    by_cases c : done k = true ∨ far k = -1
    · rw [near_skip c] at h ⊢
      obtain ⟨a, e, h1, h2, h3, h4⟩ := near_some k h
      refine ⟨a, e, by omega, h2, h3, fun j hj hd hf => ?_⟩
      by_cases ej : j = k
      · subst ej
        rcases c with c | c
        · rw [c] at hd; cases hd
        · exact absurd c hf
      · exact h4 j (by omega) hd hf
    · have hk1 : done k = false := by
        cases e : done k with
        | false => rfl
        | true => exact absurd (Or.inl e) c
      have hk2 : far k ≠ -1 := fun e => c (Or.inr e)
      by_cases g : near far done k = -1 ∨ far k < far (near far done k).toNat
      · rw [near_take c g]
        refine ⟨k, rfl, by omega, hk1, hk2, fun j hj hd hf => ?_⟩
        by_cases ej : j = k
        · subst ej; exact Int.le_refl _
        · rcases g with g | g
          · rcases near_none k g j (by omega) with h' | h'
            · rw [h'] at hd; cases hd
            · exact absurd h' hf
          · have hne : near far done k ≠ -1 := by
              intro e
              rcases near_none k e j (by omega) with h' | h'
              · rw [h'] at hd; cases hd
              · exact absurd h' hf
            obtain ⟨a, e, h1, h2, h3, h4⟩ := near_some k hne
            rw [e] at g
            have := h4 j (by omega) hd hf
            simp at g; omega
      · rw [near_keep c g] at h ⊢
        obtain ⟨a, e, h1, h2, h3, h4⟩ := near_some k h
        refine ⟨a, e, by omega, h2, h3, fun j hj hd hf => ?_⟩
        by_cases ej : j = k
        · subst ej
          have : ¬ far j < far a := fun c => g (Or.inr (by rw [e]; simpa using c))
          omega
        · exact h4 j (by omega) hd hf

theorem Dij.start (n : Nat) (len : Nat → Nat → Int) (s : Nat) : Dij n len s (upd (fun _ => -1) s 0) (fun _ => false) 0 := by
  refine ⟨upd_same _ _ _, fun j _ => ?_, (fun i _ h => by cases h), (fun i j _ _ h => by cases h), (fun i j _ _ h => by cases h), fun j _ hj h => ?_⟩
  · by_cases e : j = s
    · subst e; right; rw [upd_same]; omega
    · left; exact upd_other _ _ _ _ e
  · rw [upd_other _ _ _ _ hj] at h; omega
theorem Next.start {n s : Nat} (h : s < n) : Next n (upd (fun _ => -1) s 0) (fun _ => false) s := by
  refine ⟨h, rfl, by rw [upd_same]; omega, fun j _ _ h0 => by rw [upd_same]; exact h0⟩

theorem rel1_le {len : Nat → Int} {a : Int} {far : Nat → Int} {j : Nat} (h : 0 ≤ far j) : rel1 len a far j ≤ far j := by
  unfold rel1; split <;> omega

theorem Dij.step {n : Nat} {len : Nat → Nat → Int} {s : Nat} {far : Nat → Int} {done : Nat → Bool} {D : Nat} {a : Nat} (L : Lens len) (I : Dij n len s far done D) (A : Next n far done a) :
    Dij n len s (rel1 (len a) (far a) far) (upd done a true) (D + 1) := by
  have ha := I.rng a A.lt
  have hA0 := A.far0
  -- a done place keeps its number
  have keep : ∀ i, i < n → upd done a true i = true → rel1 (len a) (far a) far i = far i ∧ 0 ≤ far i ∧ far i ≤ far a := by
    intro i hi hd
    by_cases e : i = a
    · subst e; refine ⟨?_, A.far0, Int.le_refl _⟩
      unfold rel1; rw [if_neg (fun c => c.1 (L.self i))]
    · rw [upd_other _ _ _ _ e] at hd
      have h1 := I.dn i hi hd
      have h2 := I.ord i a hi A.lt hd A.open' A.far0
      refine ⟨?_, h1, h2⟩
      unfold rel1; rw [if_neg]
      rintro ⟨_, c⟩
      have := (L.rng a i).1
      omega
  have low : ∀ j, j < n → far j = -1 ∨ 0 ≤ far j := fun j hj => by rcases I.rng j hj with h | h <;> omega
  -- what a number becomes
  have cases' : ∀ j, j < n → rel1 (len a) (far a) far j = far j ∨ (len a j ≠ 0 ∧ rel1 (len a) (far a) far j = far a + len a j ∧ (far j = -1 ∨ far a + len a j < far j)) := by
    intro j _
    unfold rel1
    split
    · rename_i h; exact Or.inr ⟨h.1, rfl, h.2⟩
    · exact Or.inl rfl
  have hlr : ∀ j, 0 ≤ len a j ∧ len a j ≤ 1000 := L.rng a
  refine ⟨?_, ?_, ?_, ?_, ?_, ?_⟩
  · unfold rel1; rw [if_neg]; · exact I.f0
    rintro ⟨_, c⟩
    have := (hlr s).1; have := I.f0; omega
  · intro j hj
    have := hlr j
    rcases cases' j hj with h | ⟨_, h, _⟩
    · rw [h]; rcases I.rng j hj with h' | h'
      · exact Or.inl h'
      · right; omega
    · rw [h]; right; omega
  · intro i hi hd; rw [(keep i hi hd).1]; exact (keep i hi hd).2.1
  · intro i j hi hj hd hl
    rw [(keep i hi hd).1]
    by_cases e : i = a
    · subst e
      have := hlr j
      rcases cases' j hj with h | ⟨_, h, _⟩
      · rw [h]
        unfold rel1 at h
        split at h
        · omega
        · rename_i c
          have c' : ¬ (far j = -1 ∨ far i + len i j < far j) := fun x => c ⟨hl, x⟩
          rcases low j hj with h' | h' <;> omega
      · rw [h]; omega
    · rw [upd_other _ _ _ _ e] at hd
      have h1 := I.ed i j hi hj hd hl
      have h2 := rel1_le (len := len a) (a := far a) h1.1
      have := hlr j
      rcases cases' j hj with h | ⟨_, h, _⟩
      · rw [h]; exact h1
      · rw [h] at h2 ⊢; omega
  · intro i j hi hj hd hdj h0
    rw [(keep i hi hd).1]
    have k2 := (keep i hi hd).2.2
    have hja : j ≠ a := fun e => by subst e; rw [upd_same] at hdj; cases hdj
    rw [upd_other _ _ _ _ hja] at hdj
    have := hlr j
    rcases cases' j hj with h | ⟨_, h, _⟩
    · rw [h] at h0 ⊢; have := A.least j hj hdj h0; omega
    · rw [h]; omega
  · intro j hj hjs h0
    rcases cases' j hj with h | ⟨hl, h, _⟩
    · rw [h] at h0 ⊢
      obtain ⟨i, hi, hd, hl, e⟩ := I.pre j hj hjs h0
      have hd' : upd done a true i = true := by
        by_cases e : i = a
        · subst e; exact upd_same _ _ _
        · rw [upd_other _ _ _ _ e]; exact hd
      exact ⟨i, hi, hd', hl, by rw [(keep i hi hd').1]; exact e⟩
    · exact ⟨a, A.lt, upd_same _ _ _, hl, by rw [h, (keep a A.lt (upd_same _ _ _)).1]⟩

theorem Dij.stop {n : Nat} {len : Nat → Nat → Int} {s : Nat} {far : Nat → Int} {done : Nat → Bool} {D : Nat} (I : Dij n len s far done D) (hD : D ≤ 40) (h : near far done n = -1) : Dist n len s far := by
  have hd : ∀ i, i < n → 0 ≤ far i → done i = true := fun i hi h0 => by
    rcases near_none n h i hi with h' | h'
    · exact h'
    · omega
  refine ⟨I.f0, fun j hj => ?_, fun i j hi hj h0 hl => I.ed i j hi hj (hd i hi h0) hl, fun j hj hjs h0 => ?_⟩
  · rcases I.rng j hj with h | h <;> omega
  · obtain ⟨i, hi, hdi, hl, e⟩ := I.pre j hj hjs h0
    exact ⟨i, hi, I.dn i hi hdi, hl, e⟩
theorem Dij.next {n : Nat} {len : Nat → Nat → Int} {s : Nat} {far : Nat → Int} {done : Nat → Bool} {D : Nat} (I : Dij n len s far done D) (h : near far done n ≠ -1) : ∃ a : Nat, near far done n = a ∧ Next n far done a := by
  obtain ⟨a, e, h1, h2, h3, h4⟩ := near_some n h
  refine ⟨a, e, h1, h2, ?_, fun j hj hd h0 => h4 j hj hd (by omega)⟩
  rcases I.rng a h1 with h | h <;> omega
end Pu
end Go.Proofs.YtdogncjcainhlaaDoor
