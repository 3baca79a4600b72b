/- A new map's block. -/
import Derived.Test.YtdogncjcainhlaaGreatDoorProg
import Derived.Test.YtdogncjcainhlaaGreatDoorPlain
import Derived.WalkKit
import Derived.WalkSpells
import Derived.WalkLawsBesides
namespace Go.Proofs.YtdogncjcainhlaaGreatDoor
open Go.RowKit
open Mem

def isZero : Value → Bool
  | .int .i64 0 => true
  | _ => false
theorem isZero_eq {v : Value} (h : isZero v = true) : v = .int .i64 0 := by
  unfold isZero at h
  split at h
  · rfl
  · cases h
def zeroOk : Option Value → Bool
  | some (.agg cs) => cs.toList.all isZero && cs.toList.length == 1602
  | _ => false
theorem zeroOk_some {o : Option Value} (h : zeroOk o = true) : ∃ Z : Array Value, o = some (.agg Z) ∧ Z.size = 1602 ∧ ∀ j, j < 1602 → Z[j]? = some (.int .i64 0) := by
  unfold zeroOk at h
  split at h
  · rename_i cs
    rw [Bool.and_eq_true] at h
    obtain ⟨h1, h2⟩ := h
    have h3 : cs.toList.length = 1602 := by simpa using h2
    refine ⟨cs, rfl, by rw [← h3]; simp, fun j hj => ?_⟩
    rw [← Array.getElem?_toList, List.getElem?_eq_getElem (by rw [h3]; exact hj)]
    exact congrArg some (isZero_eq (List.all_eq_true.1 h1 _ (List.getElem_mem _)))
  · cases h
theorem zero76 : zeroOk Tryz.t185.zero = true := by kernel_rfl
/-- The cells of a new map: how many places, how many roads, no road yet. -/
structure IsMap (C : Array Value) (n k : Int) : Prop where
  size : C.size = 1602
  get0 : C[0]? = some (.int .i64 n)
  get1 : C[1]? = some (.int .i64 k)
  get : ∀ j, 2 ≤ j → j < 1602 → C[j]? = some (.int .i64 0)
theorem run_map (n k : Int) : ∃ Z : Array Value, (∀ w, (zeroValue 185).run Tryz.prog w = .ok (.agg Z) w) ∧ Z.size = 1602 ∧ ¬ Z = #[] ∧ IsMap ((Z.setIfInBounds 0 (.int .i64 n)).setIfInBounds 1 (.int .i64 k)) n k := by
  obtain ⟨Z, hz, hs, hg⟩ := zeroOk_some zero76
  refine ⟨Z, fun w => ?_, hs, ?_, ⟨by simp [hs], ?_, ?_, fun j h2 hj => ?_⟩⟩
  · have := Tryz.typeInfo185 w
    unfold zeroValue
    simp [this, hz]
  · rintro rfl; simp at hs
  · simp [hs]
  · simp [hs]
  · rw [Array.getElem?_setIfInBounds_ne (by omega), Array.getElem?_setIfInBounds_ne (by omega)]; exact hg j hj
/-- A map's block whose cells may be written. -/
structure MapFree (w : World) (b : Nat) (N R : Int) (len : Nat → Nat → Int) : Prop where
  at' : MapAt w b N R len
  free : ∀ j, w.frozen? ⟨b, j, none⟩ = false
theorem MapFree.made (w : World) {C : Array Value} {n k : Int} (h : IsMap C n k) : MapFree (w.alloc (.cells C 185)) w.heap.size n k (fun _ _ => 0) := by
  refine ⟨⟨by simp, ?_, ?_, fun i j hi hj => ?_⟩, fun j => World.frozen?_alloc_new _ _ _ _⟩
  · rw [World.cell?_alloc_new]; exact h.get0
  · rw [World.cell?_alloc_new]; exact h.get1
  · rw [World.cell?_alloc_new]; exact h.get _ (by omega) (by omega)
theorem run_mapBox (C : Array Value) (w : World) : (Instr.box 185 (.agg C)).run Tryz.prog w = .ok (.pointer (some ⟨w.heap.size, 0, none⟩)) (w.alloc (.cells C 185)) := by
  simp [Instr.box, newVar, newRow, Value.cells]
end Go.Proofs.YtdogncjcainhlaaGreatDoor
