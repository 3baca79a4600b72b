/- Plain: how far it is can be told from every place; what the reference's table holds. No program. -/
import Derived.Test.YtdogncjcainhlaaDoorPFill
namespace Go.Proofs.YtdogncjcainhlaaDoor.Pu
open Mem

theorem Dist.any {n : Nat} {len : Nat → Nat → Int} {s : Nat} (L : Lens len) (hn : n ≤ 40) : ∃ far, Dist n len s far := by
  have aux : ∀ (m : Nat) (far : Nat → Int) (done : Nat → Bool) (D : Nat), Dij n len s far done D → D = cnt done n → n ≤ m + D → ∃ far, Dist n len s far := by
    intro m
    induction m with
    | zero =>
      intro far done D I hD hm
      have hle := cnt_le done n
      by_cases h : near far done n = -1
      · exact ⟨far, I.stop (by omega) h⟩
      · obtain ⟨a, _, A⟩ := I.next h
        have := cnt_lt A.open' n A.lt
        omega
    | succ m ih =>
      intro far done D I hD hm
      have hle := cnt_le done n
      by_cases h : near far done n = -1
      · exact ⟨far, I.stop (by omega) h⟩
      · obtain ⟨a, _, A⟩ := I.next h
        have h1 := cnt_upd A.open' n A.lt
        exact ih _ _ (D + 1) (I.step L A) (by omega) (by omega)
  exact aux n _ _ 0 (Dij.start n len s) (cnt_none n).symm (by omega)

theorem fillTo_rng {len : Nat → Nat → Int} (L : Lens len) : ∀ x, (∀ i, fillTo len x i i = 0) ∧ ∀ i k, 0 ≤ fillTo len x i k ∧ fillTo len x i k ≤ 1000000000
  | 0 => by
    refine ⟨fun i => by simp [fillTo, fill0], fun i k => ?_⟩
    have := L.rng i k
    show 0 ≤ fill0 len i k ∧ fill0 len i k ≤ 1000000000
    unfold fill0
    split
    · omega
    · split <;> omega
  | x + 1 => by
    obtain ⟨h1, h2⟩ := fillTo_rng L x
    refine ⟨fun i => ?_, fun i k => ?_⟩
    · show fstep (fillTo len x) x i i = 0
      have a1 := h1 i
      have a2 := h2 i x
      have a3 := h2 x i
      unfold fstep; rw [if_neg (by omega)]; exact a1
    · show 0 ≤ fstep (fillTo len x) x i k ∧ fstep (fillTo len x) x i k ≤ 1000000000
      have a1 := h2 i k
      have a2 := h2 i x
      have a3 := h2 x k
      unfold fstep; split <;> omega

/-- What the reference's table says, by how far it is from the end t. -/
theorem table_says {n : Nat} {len : Nat → Nat → Int} (N : Net n len) (hn : n ≤ 40) {t : Nat} (ht : t < n) {far : Nat → Int} (hD : Dist n len t far) {y : Nat} (hy : y < n) :
    fillTo len n y t = if far y = -1 then 1000000000 else far y := by
  have h : ∀ i, ∃ far, i < n → Dist n len i far := fun i => by
    by_cases hi : i < n
    · obtain ⟨f, hf⟩ := Dist.any (s := i) N.lens hn
      exact ⟨f, fun _ => hf⟩
    · exact ⟨fun _ => 0, fun h => absurd h hi⟩
  have e1 := fill_dist (D := fun i => Classical.choose (h i)) N (fun i hi => Classical.choose_spec (h i) hi) hy ht
  have e2 : Classical.choose (h y) t = far y := Dist.sym N ht hy (Classical.choose_spec (h y) hy) hD
  rw [e1, e2]
#print axioms table_says
end Go.Proofs.YtdogncjcainhlaaDoor.Pu
