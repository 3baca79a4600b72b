/- Pack5: texts of one proof, one behind the other. -/
import Derived.Test.YtdogncjcainhlaaGreatDoorCards
import Derived.Test.YtdogncjcainhlaaGreatDoorTie
import Derived.Test.YtdogncjcainhlaaGreatDoorPack2
import Derived.Test.YtdogncjcainhlaaGreatDoorRoad
import Derived.WalkKit
import Derived.ProofKit
import Derived.OpenShut
import Derived.ShutString
import Derived.ChangeOld
import Derived.Below
import Derived.Deep.DeepHandedRow
import Derived.Deep.Strs
import Derived.Lib.LaidTab
import Derived.Shelf.LaysM
import Derived.Test.YtdogncjcainhlaaGreatDoorProg
import Derived.Test.YtdogncjcainhlaaGreatDoorPlain
import Derived.WalkSpells
import Derived.WalkLawsBesides
/- What the rows' frames share: the arguments' raw roads, the world of the witness. -/
namespace Go.Proofs.YtdogncjcainhlaaGreatDoor
open Go.ChangeShapes Go.WideShapes Go.ChangeAt Go.RowKit
open Mem

theorem own : ownKnob Tryz.prog.godebug = none := by kernel_rfl
theorem laidOut : laidOutB Tryz.prog = true := by kernel_rfl
/-- internal/bytealg.MaxLen holds some int, in every world of the right shape. -/
theorem ml_of_shaped {W : World} (h : W.ShapedOpen Tryz.prog) : Ml W := by
  have hc : ∃ m, W.cell? ⟨0, 0, none⟩ = some (.int .i64 m) := Go.Proofs.cell_of_shapedOpen_int (zero := #[.int .i64 0]) (t := 3) h (of_decide_eq_true (by kernel_rfl)) (by kernel_rfl) rfl (by kernel_rfl) (by kernel_rfl) Tryz.underlying3
  obtain ⟨m, hm⟩ := hc
  exact ⟨World.block_lt_of_cell? W _ hm, m, hm⟩

theorem spot_none {w : World} {a : Addr} {v : Value} (h : w.cell? a = some v) : a.spot = none := by
  unfold World.cell? at h
  split at h
  · cases hs : a.spot with
    | none => rfl
    | some x => simp [hs] at h
  · simp at h
theorem wf_i64 {x : Int} (h : (Lit.int .i64 x).wf = true) : -9223372036854775808 ≤ x ∧ x ≤ 9223372036854775807 := by
  have := bounds_i64 h
  omega

theorem add_none (b o i : Nat) : (⟨b, o, none⟩ : Addr).add i = ⟨b, o + i, none⟩ := by
  unfold Addr.add
  split
  · simp
  · rfl
theorem cells77 : Tryz.prog.cellsOf 71 = 3 := by kernel_rfl
theorem cells3 : Tryz.prog.cellsOf 3 = 1 := by kernel_rfl

/-- A slice of roads that came in, as the walks are told of it. -/
theorem raw_of {H : Type} {enc : TypeId × Value → H} {W : World} {ra : Option Addr} {K cap : Nat} {d : DataW H} {p : List MemPlace} (h : DataW.Trod enc Tryz.prog W 0 (fun _ => true) true 22 (Value.slice ra K cap) d p) : K ≤ 9223372036854775807 ∧ ∃ raw, Raw W ra K raw := by
  obtain ⟨fuel, hf⟩ := h
  rcases Deep.open_slice Tryz.underlying22 hf with ⟨hcs, _⟩ | ⟨a, len, cap', m, n, D, Pl, hcs, _, hl, hm, hmm, _, hx⟩
  · simp [Value.cells] at hcs
    obtain ⟨rfl, rfl, rfl⟩ := hcs
    exact ⟨by omega, fun _ => (0, 0, 0), fun h => absurd h (by omega), fun i h => absurd h (by omega)⟩
  · simp [Value.cells] at hcs
    obtain ⟨rfl, rfl, rfl⟩ := hcs
    have hlm : K ≤ m := by rw [hmm]; split <;> omega
    refine ⟨by unfold maxLen at hm; omega, ?_⟩
    rw [cells77] at hx
    have each : ∀ i, i < K → ∃ t : Int × Int × Int, (W.cell? (a.add (i * 3)) = some (.int .i64 t.1) ∧ W.cell? (a.add (i * 3 + 1)) = some (.int .i64 t.2.1) ∧ W.cell? (a.add (i * 3 + 2)) = some (.int .i64 t.2.2)) ∧
        (Lit.int .i64 t.1).wf = true ∧ (Lit.int .i64 t.2.1).wf = true ∧ (Lit.int .i64 t.2.2).wf = true := by
      intro i hi
      obtain ⟨cs', h1, h2⟩ := hx i (by omega)
      obtain ⟨_, hlen, hcell⟩ := World.cells?_some h1
      obtain ⟨y0, y1, y2, k, _, _, g0, g1, g2⟩ := Deep.trod_struct3 Tryz.underlying71 h2
      obtain ⟨v0, v1, v2, rfl⟩ := three hlen
      simp [cells3] at g0 g1 g2
      obtain ⟨x0, e0, _, w0⟩ := DataW.trod_int Tryz.underlying3 g0
      obtain ⟨x1, e1, _, w1⟩ := DataW.trod_int Tryz.underlying3 g1
      obtain ⟨x2, e2, _, w2⟩ := DataW.trod_int Tryz.underlying3 g2
      simp at e0 e1 e2
      subst e0 e1 e2
      have c0 := hcell 0 (by omega)
      have c1 := hcell 1 (by omega)
      have c2 := hcell 2 (by omega)
      rw [Deep.add_add] at c0 c1 c2
      exact ⟨(x0, x1, x2), ⟨by simpa using c0, by simpa using c1, by simpa using c2⟩, w0, w1, w2⟩
    obtain ⟨raw, hr⟩ := Deep.choose_lt each
    refine ⟨raw, fun h0 => ?_, fun i hi => ?_⟩
    · have hsp := spot_none (hr 0 h0).1.1
      obtain ⟨b, o, sp⟩ := a
      simp [Addr.add] at hsp
      subst hsp
      refine ⟨b, o, rfl, World.block_lt_of_cell? W _ (hr 0 h0).1.1, fun i hi => ?_⟩
      have hh := (hr i hi).1
      rw [add_none, add_none, add_none] at hh
      refine ⟨hh.1, ?_, ?_⟩
      · rw [Nat.add_assoc]; exact hh.2.1
      · rw [Nat.add_assoc]; exact hh.2.2
    · have h1 := wf_i64 (hr i hi).2.1
      have h2 := wf_i64 (hr i hi).2.2.1
      have h3 := wf_i64 (hr i hi).2.2.2
      exact ⟨h1.1, h1.2, h2.1, h2.2, h3.1, h3.2⟩

/-- The cells of the listed ranges. -/
def rangeCells : Array Value := #[.int .u8 128, .int .u8 191, .int .u8 160, .int .u8 191, .int .u8 128, .int .u8 159, .int .u8 144, .int .u8 191, .int .u8 128, .int .u8 143, .int .u8 0, .int .u8 0, .int .u8 0, .int .u8 0, .int .u8 0, .int .u8 0,
  .int .u8 0, .int .u8 0, .int .u8 0, .int .u8 0, .int .u8 0, .int .u8 0, .int .u8 0, .int .u8 0, .int .u8 0, .int .u8 0, .int .u8 0, .int .u8 0, .int .u8 0, .int .u8 0, .int .u8 0, .int .u8 0]
/-- The cells of the listed table of first bytes. -/
def firstCells : Array Value := (Go.Pinned.utf8FirstZ.map fun (n : Nat) => Value.int .u8 (n : Int)).toArray
/-- A block with other cells. -/
def recells (C : Array Value) : Obj → Obj
  | .cells _ t frozen => .cells C t frozen
  | o => o
/-- A world for the witness: the settled one, the two tables (blocks 1 and 2) holding what their texts lay. -/
noncomputable def laidWorld (os : Os) : World :=
  { World.holding Tryz.prog os ⟨#[], #[], []⟩ with heap := ((World.holding Tryz.prog os ⟨#[], #[], []⟩).heap.modify 1 (recells firstCells)).modify 2 (recells rangeCells) }
end Go.Proofs.YtdogncjcainhlaaGreatDoor
/- A new map's block. -/
namespace Go.Proofs.YtdogncjcainhlaaGreatDoor
open Go.RowKit
open Mem

def isZero : Value → Bool
  | .int .i64 0 => true
  | _ => false
theorem isZero_eq {v : Value} (h : isZero v = true) : v = .int .i64 0 := by
  unfold isZero at h
  split at h
  · rfl
  · cases h
def zeroOk : Option Value → Bool
  | some (.agg cs) => cs.toList.all isZero && cs.toList.length == 1602
  | _ => false
theorem zeroOk_some {o : Option Value} (h : zeroOk o = true) : ∃ Z : Array Value, o = some (.agg Z) ∧ Z.size = 1602 ∧ ∀ j, j < 1602 → Z[j]? = some (.int .i64 0) := by
  unfold zeroOk at h
  split at h
  · rename_i cs
    rw [Bool.and_eq_true] at h
    obtain ⟨h1, h2⟩ := h
    have h3 : cs.toList.length = 1602 := by simpa using h2
    refine ⟨cs, rfl, by rw [← h3]; simp, fun j hj => ?_⟩
    rw [← Array.getElem?_toList, List.getElem?_eq_getElem (by rw [h3]; exact hj)]
    exact congrArg some (isZero_eq (List.all_eq_true.1 h1 _ (List.getElem_mem _)))
  · cases h
theorem zero76 : zeroOk Tryz.t185.zero = true := by kernel_rfl
/-- The cells of a new map: how many places, how many roads, no road yet. -/
structure IsMap (C : Array Value) (n k : Int) : Prop where
  size : C.size = 1602
  get0 : C[0]? = some (.int .i64 n)
  get1 : C[1]? = some (.int .i64 k)
  get : ∀ j, 2 ≤ j → j < 1602 → C[j]? = some (.int .i64 0)
theorem run_map (n k : Int) : ∃ Z : Array Value, (∀ w, (zeroValue 185).run Tryz.prog w = .ok (.agg Z) w) ∧ Z.size = 1602 ∧ ¬ Z = #[] ∧ IsMap ((Z.setIfInBounds 0 (.int .i64 n)).setIfInBounds 1 (.int .i64 k)) n k := by
  obtain ⟨Z, hz, hs, hg⟩ := zeroOk_some zero76
  refine ⟨Z, fun w => ?_, hs, ?_, ⟨by simp [hs], ?_, ?_, fun j h2 hj => ?_⟩⟩
  · have := Tryz.typeInfo185 w
    unfold zeroValue
    simp [this, hz]
  · rintro rfl; simp at hs
  · simp [hs]
  · simp [hs]
  · rw [Array.getElem?_setIfInBounds_ne (by omega), Array.getElem?_setIfInBounds_ne (by omega)]; exact hg j hj
/-- A map's block whose cells may be written. -/
structure MapFree (w : World) (b : Nat) (N R : Int) (len : Nat → Nat → Int) : Prop where
  at' : MapAt w b N R len
  free : ∀ j, w.frozen? ⟨b, j, none⟩ = false
theorem MapFree.made (w : World) {C : Array Value} {n k : Int} (h : IsMap C n k) : MapFree (w.alloc (.cells C 185)) w.heap.size n k (fun _ _ => 0) := by
  refine ⟨⟨by simp, ?_, ?_, fun i j hi hj => ?_⟩, fun j => World.frozen?_alloc_new _ _ _ _⟩
  · rw [World.cell?_alloc_new]; exact h.get0
  · rw [World.cell?_alloc_new]; exact h.get1
  · rw [World.cell?_alloc_new]; exact h.get _ (by omega) (by omega)
theorem run_mapBox (C : Array Value) (w : World) : (Instr.box 185 (.agg C)).run Tryz.prog w = .ok (.pointer (some ⟨w.heap.size, 0, none⟩)) (w.alloc (.cells C 185)) := by
  simp [Instr.box, newVar, newRow, Value.cells]
end Go.Proofs.YtdogncjcainhlaaGreatDoor
