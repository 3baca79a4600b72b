/- What bywaykeep.town hands back. -/
import Derived.Test.YtdogncjcainhlaaGreatDoorPlain
import Derived.Test.YtdogncjcainhlaaGreatDoorProg
namespace Go.Proofs.YtdogncjcainhlaaGreatDoor
open Go.RowKit
open Mem

/-- The raw roads that came in. -/
structure Raw (w : World) (ra : Option Addr) (K : Nat) (raw : Nat → Int × Int × Int) : Prop where
  at' : 0 < K → ∃ rr ro : Nat, ra = some ⟨rr, ro, none⟩ ∧ rr < w.heap.size ∧ ∀ i, i < K → w.cell? ⟨rr, ro + i * 3, none⟩ = some (.int .i64 (raw i).1) ∧ w.cell? ⟨rr, ro + i * 3 + 1, none⟩ = some (.int .i64 (raw i).2.1) ∧ w.cell? ⟨rr, ro + i * 3 + 2, none⟩ = some (.int .i64 (raw i).2.2)
  rng : ∀ i, i < K → -9223372036854775808 ≤ (raw i).1 ∧ (raw i).1 ≤ 9223372036854775807 ∧ -9223372036854775808 ≤ (raw i).2.1 ∧ (raw i).2.1 ≤ 9223372036854775807 ∧ -9223372036854775808 ≤ (raw i).2.2 ∧ (raw i).2.2 ≤ 9223372036854775807

/-- A town of n places with these lengths: its text is read as such a map; the slice v has its rows. -/
structure TownIs (w : World) (B : Nat) (txt : ByteArray) (n R : Nat) (v : Value) (rb : List Nat) (len : Nat → Nat → Int) : Prop where
  n1 : 1 ≤ n
  n2 : n ≤ 14
  size : txt.size ≤ 1000
  parse : Pu.parse txt.data.toList = .ok n R len
  grid : Grid w B n v rb len
  cnt : rb.length = n
theorem TownIs.turns {w w' : World} {B : Nat} {txt : ByteArray} {n R : Nat} {v : Value} {rb : List Nat} {len : Nat → Nat → Int} (h : TownIs w B txt n R v rb len) (t : Turns (fun _ => False) w w') : TownIs w' B txt n R v rb len :=
  ⟨h.n1, h.n2, h.size, h.parse, h.grid.turns t (fun _ _ x => x), h.cnt⟩
theorem TownIs.net {w : World} {B : Nat} {txt : ByteArray} {n R : Nat} {v : Value} {rb : List Nat} {len : Nat → Nat → Int} (h : TownIs w B txt n R v rb len) : Pu.Net n len := (Pu.parse_ok h.parse).2.2.2

theorem TownIs.form {w : World} {B : Nat} {txt : ByteArray} {n R : Nat} {v : Value} {rb : List Nat} {len : Nat → Nat → Int} (h : TownIs w B txt n R v rb len) : ∃ lb cap, v = .slice (some ⟨lb, 0, none⟩) n cap := by
  obtain ⟨lb, cap, hv, _⟩ := h.grid.form (by have := h.cnt; have := h.n1; omega)
  exact ⟨lb, cap, by rw [hv, h.cnt]⟩
/-- The cells of a town's rows. -/
theorem TownIs.cells {w : World} {B : Nat} {txt : ByteArray} {n R lb cap : Nat} {rb : List Nat} {len : Nat → Nat → Int} (h : TownIs w B txt n R (.slice (some ⟨lb, 0, none⟩) n cap) rb len) {i j : Nat} (hi : i < n) (hj : j < n) :
    ∃ r, w.cell? ⟨lb, i, none⟩ = some (.slice (some ⟨r, 0, none⟩) n n) ∧ w.cell? ⟨r, j, none⟩ = some (.int .i64 (len i j)) := by
  obtain ⟨r, hr⟩ : ∃ r, rb[i]? = some r := ⟨_, List.getElem?_eq_getElem (by rw [h.cnt]; exact hi)⟩
  have hg := h.grid
  have hc := h.cnt
  have h1 := hg.row i r hr
  refine ⟨r, ?_, h1.1.cell j hj⟩
  have h2 : Grid w B n (.slice (some ⟨lb, 0, none⟩) rb.length cap) rb len := by rw [hc]; exact hg
  exact h2.cell hr

/-- What town hands back. -/
def TownSaid : Prop := ∀ (w : World) (size : Int) (ra : Option Addr) (K cap : Nat) (raw : Nat → Int × Int × Int), -9223372036854775808 ≤ size → size ≤ 9223372036854775807 → K ≤ 9223372036854775807 → Raw w ra K raw →
  Calls Tryz.prog 7 #[.int .i64 size, .slice ra K cap] w fun e w' => Turns (fun _ => False) w w' ∧ ∃ (txt : ByteArray) (n R : Nat) (v : Value) (rb : List Nat) (len : Nat → Nat → Int), e = .returned (.agg #[.string txt, .int .i64 n, v]) ∧ TownIs w' w.heap.size txt n R v rb len
end Go.Proofs.YtdogncjcainhlaaGreatDoor
