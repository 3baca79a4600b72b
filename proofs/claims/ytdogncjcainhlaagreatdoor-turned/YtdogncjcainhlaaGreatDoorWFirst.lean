/- The walk of ways.First. -/
import Derived.Test.YtdogncjcainhlaaGreatDoorPack9
namespace Go.Proofs.YtdogncjcainhlaaGreatDoor
open Go.RowKit Go.Deep
open Mem

/-- j is the least place to which one can go on from a. -/
def Least (len : Nat → Nat → Int) (far : Nat → Int) (a j : Nat) : Prop := Good len far a j ∧ ∀ i, i < j → ¬ Good len far a i
/-- The way from a to t by least places. -/
inductive Way (n : Nat) (len : Nat → Nat → Int) (far : Nat → Int) (t : Nat) : Nat → List Nat → Prop
  | done : Way n len far t t [t]
  | step (a j : Nat) (l : List Nat) : a ≠ t → j < n → Least len far a j → Way n len far t j l → Way n len far t a (a :: l)

def vals (l : List Nat) : List Value := l.map fun (j : Nat) => Value.int .i64 (j : Int)
theorem vals_length (l : List Nat) : (vals l).length = l.length := by simp [vals]
theorem vals_snoc (l : List Nat) (j : Nat) : vals l ++ [Value.int .i64 (j : Int)] = vals (l ++ [j]) := by simp [vals]

/-- What holds ahead of each round: the way so far ends at a. -/
def FirstInv (w1 : World) (n : Nat) (len : Nat → Nat → Int) (far : Nat → Int) (s t gk : Nat) (v va : Value) (wr : World) : Prop :=
  ∃ (a : Nat) (p : List Nat) (g cap : Nat), va = .int .i64 a ∧ v = .slice (some ⟨g, 0, none⟩) (p.length + 1) cap ∧ a < n ∧ 0 ≤ far a ∧ wr.ownsRow w1.heap.size 3 1 (.slice (some ⟨g, 0, none⟩) (p.length + 1) cap) (p.length + 1) (vals (p ++ [a])) ∧ (∀ l, Way n len far t a l → Way n len far t s (p ++ l)) ∧
    p.length + far a ≤ far s ∧ far a ≤ gk ∧ Turns (fun _ => False) w1 wr

set_option maxRecDepth 1000000 in
set_option maxHeartbeats 1000000 in
theorem waysFirst_any (w : World) (b n s t : Nat) (R : Int) (len : Nat → Nat → Int) (hn : n ≤ 40) (hs : s < n) (ht : t < n) (hm : MapAt w b n R len) (L : Pu.Lens len) (hsym : ∀ i j, len i j = len j i) :
    Calls Tryz.prog 43 #[.pointer (some ⟨b, 0, none⟩), .int .i64 s, .int .i64 t] w fun e w' => Turns (fun _ => False) w w' ∧ ∃ far, Pu.Dist n len t far ∧
      ((far s = -1 ∧ e = .returned (.tuple #[.slice none 0 0, .int .i64 (-1)])) ∨
       (0 ≤ far s ∧ ∃ way v, Way n len far t s way ∧ e = .returned (.tuple #[v, .int .i64 (far s)]) ∧ w'.ownsRow w.heap.size 3 1 v way.length (vals way))) := by
  go_enter Tryz.func43, Tryz.ntmps43
  go_wp2_with fail
  refine (farFrom_any _ b n t R len hn ht hm L).mono ?_
  rintro e w1 ⟨far, rfl, hI, hD, hT⟩
  have hcs := hI.cell s hs
  have hrs := hD.rng s hs
  by_cases h1 : far s = -1
  · rw [h1] at hcs
    have HX : Hid (∃ far, Pu.Dist n len t far ∧ far s = -1) := ⟨far, hD, h1⟩
    clear h1 hrs hD
    go_wp2
    go_ret2
    obtain ⟨far, hD, h1⟩ := HX.out
    exact ⟨hT, far, hD, Or.inl ⟨h1, rfl⟩⟩
  · have h0 : 0 ≤ far s := by omega
    have hg : (far s == -1) = false := by simp [h1]
    obtain ⟨i0, hi, hz0, hz1, hz2⟩ := info_parts info3
    clear h1
    have hT1 := hT.size
    have hrow : (w1.alloc (.cells #[.int .i64 (s : Int)] 3)).ownsRow w1.heap.size 3 1 (.slice (some ⟨w1.heap.size, 0, none⟩) 1 1) 1 (vals [s]) := World.ownsRow_lit w1 #[.int .i64 (s : Int)] 1 (Nat.le_refl _) (by decide) rfl
    go_wp2_with fail
    go_loopg [9, 10] (far s).toNat (fun gk v va wr => FirstInv w1 n len far s t gk v va wr)
    case atStart => exact ⟨s, [], w1.heap.size, 1, rfl, rfl, hs, h0, hrow, fun l h => h, by simp, by omega, (Turns.refl _ _).alloc _⟩
    case round =>
      obtain ⟨a, p, g, cap, rfl, rfl, ha, ha0, hown, hway, hlen, hgk, hTr⟩ := hrel
      clear hrow
      by_cases hat : a = t
      · subst hat
        have hne : ((a : Int) != (a : Int)) = false := by simp
        have hcs2 : wr.cell? ⟨w.heap.size, s, none⟩ = some (.int .i64 (far s)) := (hTr.cell (a := ⟨w.heap.size, s, none⟩) hI.lt (fun x => x)).trans hcs
        have HX : Hid (Turns (fun _ => False) w wr ∧ ∃ far', Pu.Dist n len a far' ∧ 0 ≤ far' s ∧ far' s = far s ∧ ∃ way, Way n len far' a s way ∧ wr.ownsRow w.heap.size 3 1 (.slice (some ⟨g, 0, none⟩) (p.length + 1) cap) way.length (vals way)) :=
          ⟨hT.trans ⟨hTr.os, hTr.tape, hTr.output, hTr.size, fun k hk hp => hTr.block k hk hp⟩, far, hD, h0, rfl, p ++ [a], hway _ Way.done, by simpa using owns_mono hown hT1⟩
        clear hD hway hown hT hTr
        go_wp2_with fail
        go_quiet (fail)
        go_wp2
        go_ret2
        obtain ⟨h1, far', h2, h3, h4, way, h5, h6⟩ := HX.out
        exact ⟨⟨h1.os, h1.tape, h1.output, h1.size, h1.block⟩, far', h2, Or.inr ⟨h3, way, _, h5, by rw [h4]; rfl, h6⟩⟩
      · have hne : ((a : Int) != (t : Int)) = true := by simp; omega
        obtain ⟨i, hi1, hi2, hi3, hi4⟩ := hD.pre a ha hat ha0
        have hM2 : MapAt wr b n R len := (hm.turns hT (fun x => x)).turns hTr (fun x => x)
        have hI2 : Ints wr w.heap.size n far := hI.turns hTr (fun x => x)
        go_wp2_with fail
        refine (step_any _ b w.heap.size n a i n R len far hn ha hM2 hI2 L (fun j hj => by have := hD.rng j hj; omega) hi1 ⟨by rw [hsym]; exact hi3, by rw [hsym a i, hi4]; omega⟩).mono ?_
        rintro e w2 ⟨j, q, rfl, hj, hG, hno, hw2⟩
        have hj0 := (hD.ed a j ha hj ha0 hG.1).1
        have hlj := L.rng a j
        have hgg := hG.2
        have hgn := hG.1
        have hrs2 := hD.rng s hs
        have hsz : w1.heap.size ≤ w2.heap.size := by rw [hw2]; exact hTr.size
        have hown2 : w2.ownsRow w1.heap.size 3 1 (.slice (some ⟨g, 0, none⟩) (p.length + 1) cap) (p.length + 1) (vals (p ++ [a])) := by rw [hw2]; exact hown
        have hT2 : Turns (fun _ => False) w1 w2 := by rw [hw2]; exact hTr.drewN q
        have HW : Hid (∀ l, Way n len far t j l → Way n len far t s (p ++ (a :: l))) := fun l hl => hway _ (Way.step a j l hat hj ⟨hG, hno⟩ hl)
        have hpl : p.length ≤ 40000 := by omega
        have hA : p.length + 1 + far j ≤ far s := by omega
        have hB : far j ≤ ((gk - 1 : Nat) : Int) := by omega
        have hC : gk - 1 < gk := by omega
        clear hw2 hway hown hTr hM2 hI2 hD hI hi1 hi2 hi3 hi4 hG hno hT hm hgg hgn
        go_wp2_with (at_builtin; refine wpList_append_own _ rfl _ _ 55 rfl w1.heap.size 3 i0 (.int .i64 0) 1 8 Tryz.underlying55 hi hz0 hz1 hz2 rfl (by decide) _ _ _ rfl (hown2.alloc _) ⟨w2.heap.size, 0, none⟩ 1 1 [.int .i64 (j : Int)] rfl rfl ?c1 ?c2 ?c3 ?c4 ?c5 ?_)
        case c1 => exact cell_one_new _ _ _
        case c2 => intro u hu; simp at hu; subst hu; rfl
        case c3 => unfold maxLen; omega
        case c4 => omega
        case c5 => simp; omega
        intro v' w3 hown3 hgrow _
        have hT3 : Turns (fun _ => False) w1 w3 := (hT2.alloc _).grown hgrow (fun k hk => Or.inl (hown2.lt k hk).1)
        obtain ⟨g', cap', hv'⟩ := owns_form hown3
        rw [hv'] at hown3 ⊢
        rw [vals_snoc] at hown3
        have HR : Hid (FirstInv w1 n len far s t (gk - 1) (.slice (some ⟨g', 0, none⟩) (p.length + 1 + 1) cap') (.int .i64 j) w3) :=
          ⟨j, p ++ [a], g', cap', rfl, by simp, hj, hj0, by simpa using hown3, fun l hl => by simpa using HW.out l hl, by simpa using hA, hB, hT3⟩
        clear hown3 hgrow hT3 hT2 hown2 HW hv'
        go_wp2
        go_roundg (gk - 1)
        case measure => exact hC
        case rel => exact HR.out
#print axioms waysFirst_any
end Go.Proofs.YtdogncjcainhlaaGreatDoor
