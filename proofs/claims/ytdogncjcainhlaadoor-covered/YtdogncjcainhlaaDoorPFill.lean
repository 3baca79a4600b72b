/- Plain: a table filled through every place tells how far it is (the reference's fill). No program. -/
import Derived.Test.YtdogncjcainhlaaDoorPCnt
namespace Go.Proofs.YtdogncjcainhlaaDoor.Pu

/-- What the table holds ahead of the filling. -/
def fill0 (len : Nat → Nat → Int) (i k : Nat) : Int := if i = k then 0 else if 0 < len i k then len i k else 1000000000
/-- One entry behind the round of place x. -/
def fstep (t : Nat → Nat → Int) (x i k : Nat) : Int := if t i x + t x k < t i k then t i x + t x k else t i k
/-- The table behind the rounds of the places below x. -/
def fillTo (len : Nat → Nat → Int) : Nat → Nat → Nat → Int
  | 0 => fill0 len
  | x + 1 => fstep (fillTo len x) x

/-- What holds of the table behind the rounds of the places below x; D i tells how far it is from i. -/
structure FillOk (n : Nat) (len D : Nat → Nat → Int) (x : Nat) (t : Nat → Nat → Int) : Prop where
  diag : ∀ i, i < n → t i i = 0
  rng : ∀ i k, i < n → k < n → 0 ≤ t i k ∧ t i k ≤ 1000000000
  low : ∀ i k, i < n → k < n → t i k < 1000000000 → 0 ≤ D i k ∧ D i k ≤ t i k
  ed : ∀ i k, i < n → k < n → len i k ≠ 0 → t i k ≤ len i k
  tri : ∀ y, y < x → ∀ i k, i < n → k < n → t i k ≤ t i y + t y k

theorem Dist.tri {n : Nat} {len D : Nat → Nat → Int} (N : Net n len) (hD : ∀ i, i < n → Dist n len i (D i)) {i x k : Nat} (hi : i < n) (hx : x < n) (hk : k < n) (h1 : 0 ≤ D i x) (h2 : 0 ≤ D x k) : 0 ≤ D i k ∧ D i k ≤ D i x + D x k := by
  have e : D k x = D x k := Dist.sym N hx hk (hD k hk) (hD x hx)
  have := Dist.through N (hD k hk) (hD i hi) (D k x).toNat x hx (by omega) (by omega) h1
  omega

theorem FillOk.zero {n : Nat} {len D : Nat → Nat → Int} (N : Net n len) (hD : ∀ i, i < n → Dist n len i (D i)) : FillOk n len D 0 (fill0 len) := by
  refine ⟨fun i _ => by simp [fill0], fun i k _ _ => ?_, fun i k hi hk h => ?_, fun i k _ _ h => ?_, fun y hy => absurd hy (Nat.not_lt_zero _)⟩
  · have := N.lens.rng i k
    unfold fill0; split
    · omega
    · split <;> omega
  · unfold fill0 at h ⊢
    by_cases e : i = k
    · subst e; rw [if_pos rfl, (hD i hi).f0]; omega
    · rw [if_neg e] at h ⊢
      by_cases g : 0 < len i k
      · rw [if_pos g]
        have := (hD i hi).ed i k hi hk (by rw [(hD i hi).f0]; omega) (by omega)
        rw [(hD i hi).f0] at this
        omega
      · rw [if_neg g] at h; omega
  · have := N.lens.rng i k
    unfold fill0; split
    · omega
    · rw [if_pos (by omega)]; omega

theorem FillOk.step {n : Nat} {len D : Nat → Nat → Int} {x : Nat} {t : Nat → Nat → Int} (N : Net n len) (hD : ∀ i, i < n → Dist n len i (D i)) (hx : x < n) (h : FillOk n len D x t) : FillOk n len D (x + 1) (fstep t x) := by
  have le1 : ∀ i k, fstep t x i k ≤ t i k := fun i k => by unfold fstep; split <;> omega
  have le2 : ∀ i k, fstep t x i k ≤ t i x + t x k := fun i k => by unfold fstep; split <;> omega
  have or : ∀ i k, fstep t x i k = t i k ∨ fstep t x i k = t i x + t x k := fun i k => by unfold fstep; split <;> simp
  refine ⟨fun i hi => ?_, fun i k hi hk => ?_, fun i k hi hk hl => ?_, fun i k hi hk hl => ?_, fun y hy i k hi hk => ?_⟩
  · have a1 := h.diag i hi
    have a2 := h.rng i x hi hx
    have a3 := h.rng x i hx hi
    unfold fstep; rw [if_neg (by omega)]; exact a1
  · have a1 := h.rng i k hi hk
    have a2 := h.rng i x hi hx
    have a3 := h.rng x k hx hk
    have a4 := le1 i k
    rcases or i k with e | e <;> omega
  · by_cases e : t i x + t x k < t i k
    · have b : fstep t x i k = t i x + t x k := by unfold fstep; rw [if_pos e]
      have a1 := h.rng i k hi hk
      have a2 := h.rng i x hi hx
      have a3 := h.rng x k hx hk
      have c1 := h.low i x hi hx (by omega)
      have c2 := h.low x k hx hk (by omega)
      have c3 := Dist.tri N hD hi hx hk c1.1 c2.1
      omega
    · have b : fstep t x i k = t i k := by unfold fstep; rw [if_neg e]
      rw [b] at hl ⊢
      exact h.low i k hi hk hl
  · have := h.ed i k hi hk hl
    have := le1 i k
    omega
  · have hyn : y < n := by omega
    have l1 := le1 i k
    have l2 := le2 i k
    have dx := h.diag x hx
    have r1 := h.rng y x hyn hx
    have r2 := h.rng x y hx hyn
    have r3 := h.rng i x hi hx
    have r4 := h.rng x k hx hk
    by_cases e : y = x
    · subst e
      rcases or i y with u | u <;> rcases or y k with v | v <;> omega
    · have ty := h.tri y (by omega)
      have t1 := ty i k hi hk
      have t2 := ty i x hi hx
      have t3 := ty x k hx hk
      rcases or i y with u | u <;> rcases or y k with v | v <;> omega

theorem FillOk.all {n : Nat} {len D : Nat → Nat → Int} (N : Net n len) (hD : ∀ i, i < n → Dist n len i (D i)) : ∀ x, x ≤ n → FillOk n len D x (fillTo len x)
  | 0, _ => FillOk.zero N hD
  | x + 1, h => FillOk.step N hD h (FillOk.all N hD x (by omega))

/-- Filled through every place the table tells how far it is. -/
theorem fill_dist {n : Nat} {len D : Nat → Nat → Int} (N : Net n len) (hD : ∀ i, i < n → Dist n len i (D i)) {i k : Nat} (hi : i < n) (hk : k < n) :
    fillTo len n i k = if D i k = -1 then 1000000000 else D i k := by
  have F := FillOk.all N hD n (Nat.le_refl _)
  have up : ∀ (m j : Nat), j < n → 0 ≤ D i j → D i j ≤ m → fillTo len n i j ≤ D i j := by
    intro m
    induction m with
    | zero =>
      intro j hj h0 h1
      by_cases e : j = i
      · subst e; rw [F.diag j hj]; exact h0
      · obtain ⟨p, hp, p0, p1, p2⟩ := (hD i hi).pre j hj e h0
        have := N.lens.rng p j
        omega
    | succ m ih =>
      intro j hj h0 h1
      by_cases e : j = i
      · subst e; rw [F.diag j hj]; exact h0
      · obtain ⟨p, hp, p0, p1, p2⟩ := (hD i hi).pre j hj e h0
        have := N.lens.rng p j
        have a := ih p hp p0 (by omega)
        have b := F.ed p j hp hj p1
        have c := F.tri p hp i j hi hj
        omega
  have r := F.rng i k hi hk
  have l := F.low i k hi hk
  have d := (hD i hi).rng k hk
  by_cases e : D i k = -1
  · rw [if_pos e]; omega
  · rw [if_neg e]
    have := up (D i k).toNat k hk (by omega) (by omega)
    have := l (by omega)
    omega
#print axioms fill_dist
end Go.Proofs.YtdogncjcainhlaaDoor.Pu
