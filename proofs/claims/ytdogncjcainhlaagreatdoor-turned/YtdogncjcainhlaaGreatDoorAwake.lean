/- The walk of bywaykeep.awake: the document's first example. -/
import Derived.Test.YtdogncjcainhlaaGreatDoorCalls
import Derived.Test.YtdogncjcainhlaaGreatDoorPlain
namespace Go.Proofs.YtdogncjcainhlaaGreatDoor
open Go.RowKit
open Mem

/-- The example's text. -/
def shown : ByteArray := ⟨#[52, 10, 48, 32, 49, 32, 53, 10, 49, 32, 50, 32, 49, 10, 48, 32, 50, 32, 55]⟩
/-- Its roads. -/
def shownLen : Nat → Nat → Int := Pu.layLen (Pu.layLen (Pu.layLen (fun _ _ => 0) 0 1 5) 1 2 1) 0 2 7
theorem shown_parse : Pu.parse shown.data.toList = .ok 4 3 shownLen := by kernel_rfl
def shownFar : Nat → Int := fun j => if j = 0 then 6 else if j = 1 then 1 else if j = 2 then 0 else -1
theorem four {P : Nat → Prop} (h0 : P 0) (h1 : P 1) (h2 : P 2) (h3 : P 3) : ∀ j, j < 4 → P j := by
  intro j hj
  match j, hj with
  | 0, _ => exact h0
  | 1, _ => exact h1
  | 2, _ => exact h2
  | 3, _ => exact h3
theorem shown_ed : ∀ i, i < 4 → ∀ j, j < 4 → 0 ≤ shownFar i → shownLen i j ≠ 0 → 0 ≤ shownFar j ∧ shownFar j ≤ shownFar i + shownLen i j := by
  refine four ?_ ?_ ?_ ?_ <;> refine four ?_ ?_ ?_ ?_ <;> decide
theorem shown_rng : ∀ j, j < 4 → shownFar j = -1 ∨ (0 ≤ shownFar j ∧ shownFar j ≤ 40000) := by refine four ?_ ?_ ?_ ?_ <;> decide
theorem shown_dist : Pu.Dist 4 shownLen 2 shownFar := by
  refine ⟨rfl, shown_rng, fun i j hi hj => shown_ed i hi j hj, ?_⟩
  intro j hj
  match j, hj with
  | 0, _ => exact fun _ _ => ⟨1, by decide⟩
  | 1, _ => exact fun _ _ => ⟨2, by decide⟩
  | 2, _ => exact fun h => absurd rfl h
  | 3, _ => exact fun _ h => absurd h (by decide)
theorem shown_net : Pu.Net 4 shownLen := (Pu.parse_ok shown_parse).2.2.2
theorem shown_good {far : Nat → Int} (hf : ∀ j, j < 4 → far j = shownFar j) {a j : Nat} (ha : a < 4) (hj : j < 4) : Good shownLen far a j ↔ Good shownLen shownFar a j := by
  unfold Good; rw [hf a ha, hf j hj]
/-- The first way of the example. -/
theorem shown_way {far : Nat → Int} (hD : Pu.Dist 4 shownLen 2 far) {way : List Nat} (h : Way 4 shownLen far 2 0 way) : way = [0, 1, 2] := by
  have hf : ∀ j, j < 4 → far j = shownFar j := Pu.Dist.unique shown_net.lens hD shown_dist
  cases h with
  | step _ j l _ hj hL hW =>
    have h1 : j = 1 := by
      have g := (shown_good hf (by omega) hj).1 hL.1
      match j, hj, g with
      | 0, _, g => exact absurd g (by unfold Good; decide)
      | 1, _, _ => rfl
      | 2, _, g => exact absurd g (by unfold Good; decide)
      | 3, _, g => exact absurd g (by unfold Good; decide)
    subst h1
    cases hW with
    | step _ j l' _ hj hL hW =>
      have h2 : j = 2 := by
        have g := (shown_good hf (by omega) hj).1 hL.1
        match j, hj, g with
        | 0, _, g => exact absurd g (by unfold Good; decide)
        | 1, _, g => exact absurd g (by unfold Good; decide)
        | 2, _, _ => rfl
        | 3, _, g => exact absurd g (by unfold Good; decide)
      subst h2
      cases hW with
      | done => rfl
      | step _ _ _ hne _ _ _ => exact absurd rfl hne

set_option maxHeartbeats 400000 in
theorem awake_any (w : World) (hm : Ml w) : Calls Tryz.prog 8 #[] w fun e w' => e = .returned (.bool true) ∧ Turns (fun _ => False) w w' := by
  have k := route_any shown 0 2 w (by decide) hm
  rw [shown_parse] at k
  go_enter Tryz.func8, Tryz.ntmps8
  go_wp2_with fail
  refine k.mono ?_
  rintro e w1 ⟨hT, h⟩
  rcases h with ⟨hno, _⟩ | ⟨_, far, hD, h⟩
  · exact absurd (by unfold InMap; omega) hno
  · have hf : ∀ j, j < 4 → far j = shownFar j := Pu.Dist.unique shown_net.lens (by simpa using hD) shown_dist
    have h6 : far (0 : Int).toNat = 6 := hf 0 (by omega)
    rcases h with ⟨h1, _⟩ | ⟨h0, way, v, hW, rfl, hown⟩
    · rw [h6] at h1; omega
    · have hway : way = [0, 1, 2] := shown_way (by simpa using hD) (by simpa using hW)
      subst hway
      rw [h6]
      obtain ⟨g, cap, rfl⟩ := owns_form hown
      have c0 := hown.cellAt 0 (by decide)
      have c1 := hown.cellAt 1 (by decide)
      have c2 := hown.cellAt 2 (by decide)
      simp only [vals] at c0 c1 c2
      clear hown hf hD hW h0 h6 k
      simp at c0 c1 c2
      simp only [List.length_cons, List.length_nil, Nat.zero_add]
      go_wp2
      go_ret
      exact ⟨rfl, hT⟩
#print axioms awake_any
end Go.Proofs.YtdogncjcainhlaaGreatDoor
