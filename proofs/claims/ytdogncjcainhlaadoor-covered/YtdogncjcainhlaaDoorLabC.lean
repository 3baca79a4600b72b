/- The walk of byway.Labels. -/
import Derived.Test.YtdogncjcainhlaaDoorLabR
namespace Go.Proofs.YtdogncjcainhlaaDoor
open Go.RowKit Go.Deep
open Mem

/-- Labels hands on what rankAndLabel gives. -/
theorem labels_of (x s : ByteArray) (w : World) (r : Pu.Res) (o : Nat → (Nat → Nat → Int) → Option (List Nat)) (k : Calls Tryd.prog 33 #[.string x, .string s] w (RalPost w r o)) :
    Calls Tryd.prog 18 #[.string x, .string s] w (LabPost w r o) := by
  have k' : Calls Tryd.prog 33 #[.string x, .string s] w (fun e w' => ∃ a b c d, e = .returned (.tuple #[a, b, c, d]) ∧ LabPost w r o (.returned (.tuple #[b, c, d])) w') := by
    refine k.mono ?_
    rintro e w1 ⟨hT, h⟩
    cases r with
    | err c p => exact ⟨_, _, _, _, h, hT, rfl⟩
    | ok n q len =>
      dsimp only at h
      cases ho : o n len with
      | none =>
        rw [ho] at h
        refine ⟨_, _, _, _, h, hT, ?_⟩
        dsimp only
        rw [ho]
      | some O =>
        rw [ho] at h
        obtain ⟨D, ob, ocap, v, h1, h2, h3, h4⟩ := h
        refine ⟨_, _, _, _, h2, hT, ?_⟩
        dsimp only
        rw [ho]
        exact ⟨D, v, h1, rfl, h4⟩
  clear k
  go_enter Tryd.func18, Tryd.ntmps18
  go_wp2_with fail
  refine k'.mono ?_
  rintro e w1 ⟨a, b, c, d, rfl, h⟩
  have HX : Hid (LabPost w r o (.returned (.tuple #[b, c, d])) w1) := h
  clear k' h
  go_wp2
  exact bodyPost_ret (v := .tuple #[b, c, d]) (by simp [results, Tryd.results18, go_sem]) rfl HX.out

/-- Labels by an order that is not empty. -/
theorem labels_some (x s : ByteArray) (w : World) (hx : x.size ≤ maxLen) (hm : Ml w) (hs0 : 0 < s.size) (hs : s.size ≤ 2000000) :
    Calls Tryd.prog 18 #[.string x, .string s] w (LabPost w (Pu.parse x.data.toList) (fun n _ => Pu.order n s.data.toList)) := by
  refine labels_of x s w _ _ ?_
  cases hp : Pu.parse x.data.toList with
  | err c p => exact ral_err x s w _ hx hm c p hp
  | ok n q len =>
    obtain ⟨hn1, hn2, _, _⟩ := Pu.parse_ok hp
    exact ral_ok x s w _ hx hm n q len hp (fun w1 b hT hM => rank_any s w1 b n q len hs0 hs hn1 hn2 hM (hm.turns hT (fun x => x)))
#print axioms labels_some
end Go.Proofs.YtdogncjcainhlaaDoor
