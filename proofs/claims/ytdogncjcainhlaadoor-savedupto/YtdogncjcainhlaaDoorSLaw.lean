/- The walks of the law's own save, and of Saved. -/
import Derived.Test.YtdogncjcainhlaaDoorSaveP
import Derived.Test.YtdogncjcainhlaaDoorLNum
namespace Go.Proofs.YtdogncjcainhlaaDoor
open Go.RowKit Go.Deep
open Mem

namespace Pu
/-- How far it is settles the hubs. -/
theorem hubK_congr {D D' : Nat → Nat → Int} {O : List Nat} {n v : Nat} (hv : v < n) (hO : ∀ m ∈ O, m < n) (h : ∀ i j, i < n → j < n → D i j = D' i j) : ∀ k, hubK D O v k = hubK D' O v k
  | 0 => rfl
  | k + 1 => by
    rw [hubK, hubK, hubK_congr hv hO h k]
    congr 1
    cases e : O[k]? with
    | none => rfl
    | some m =>
      have hm := hO m (List.mem_of_getElem? e)
      have hh : isHub D v m (O.take k) = isHub D' v m (O.take k) := by
        unfold isHub
        rw [h v m hv hm]
        congr 1
        refine Bool.eq_iff_iff.2 ?_
        simp only [List.all_eq_true]
        refine forall_congr' fun x => forall_congr' fun hx => ?_
        have hx2 := hO x (List.mem_of_mem_take hx)
        unfold lies
        rw [h v x hv hx2, h x m hx2 hm, h v m hv hm]
      simp only [hh, h v m hv hm]
/-- The bytes are the map's and the order's alone. -/
theorem Cov.bytes {n : Nat} {len D D' : Nat → Nat → Int} {O : List Nat} (C : Cov n len D O) (C' : Cov n len D' O) : heldB O (fun v => hubK D O v n) n = heldB O (fun v => hubK D' O v n) n :=
  heldB_congr fun _ hv => hubK_congr hv C.perm.lt (fun i j hi hj => Dist.unique C.net.lens (C.dist i hi) (C'.dist i hi) j hj) n
end Pu

theorem save_bytes {w w' w2 w2' : World} {r : Pu.Res} {o : Nat → (Nat → Nat → Int) → Option (List Nat)} {e e2 : Ending} (h : RSavePost w r o e w') (h2 : RSavePost w2 r o e2 w2') : ∃ (b : ByteArray) (c p : Int), e = .returned (.tuple #[.string b, .int .i64 c, .int .i64 p]) ∧ e2 = .returned (.tuple #[.string b, .int .i64 c, .int .i64 p]) := by
  obtain ⟨_, h⟩ := h
  obtain ⟨_, h2⟩ := h2
  cases r with
  | err c p => exact ⟨_, _, _, h, h2⟩
  | ok n q len =>
    dsimp only at h h2
    cases ho : o n len with
    | none =>
      rw [ho] at h h2
      exact ⟨_, _, _, h, h2⟩
    | some O =>
      rw [ho] at h h2
      obtain ⟨D, C, h⟩ := h
      obtain ⟨D', C', h2⟩ := h2
      refine ⟨_, _, _, h, ?_⟩
      rw [h2, C.bytes C']

set_option maxRecDepth 100000 in
set_option maxHeartbeats 1000000 in
/-- The law's own save: both answer the same. -/
theorem lsave_any (x s : ByteArray) (w : World) (hx : x.size ≤ 2000000) (hs : s.size ≤ 2000000) (hm : Ml w) :
    Calls Tryd.prog 22 #[.string x, .string s] w fun e w' => e = .returned (.bool true) ∧ Turns (fun _ => False) w w' := by
  have c1 := save_any x s w (by unfold maxLen; omega) hm hs
  have c2 := fun w => rsave_any x s w hx hs
  go_enter Tryd.func22, Tryd.ntmps22
  go_wp2_with fail
  refine c1.mono ?_
  intro e1 w1 h1
  obtain ⟨b0, c0, p0, he1, _⟩ := save_bytes h1 h1
  have H1 : Hid (RSavePost w (Pu.parse x.data.toList) (Pu.orderOf s.data.toList) e1 w1) := h1
  clear h1 c1
  subst he1
  go_wp2_with fail
  refine (c2 _).mono ?_
  intro e2 w2 h2
  obtain ⟨b, c, p, he, he2⟩ := save_bytes H1.out h2
  injection he with he
  simp only [Value.tuple.injEq, Array.mk.injEq, List.cons.injEq, Value.string.injEq, Value.int.injEq, true_and, and_true] at he
  obtain ⟨rfl, rfl, rfl⟩ := he
  subst he2
  have HT : Hid (Turns (fun _ => False) w w2) := H1.out.1.trans h2.1
  clear H1 h2 c2
  go_wp2_with (go_at_call 24; refine (num_any _ _).mono ?_; rintro e w3 ⟨rfl, hw3⟩; subst w3)
  go_ret
  exact ⟨by simp, HT.out⟩

set_option maxRecDepth 100000 in
set_option maxHeartbeats 1000000 in
/-- The law Saved. -/
theorem saved_any (x s y t : ByteArray) (w : World) (hx : x.size ≤ 2000000) (hs : s.size ≤ 2000000) (hy : y.size ≤ 2000000) (ht : t.size ≤ 2000000) (hm : Ml w) :
    Calls Tryd.prog 8 #[.string x, .string s, .string y, .string t] w fun e w' => e = .returned (.bool true) ∧ Turns (fun _ => False) w w' := by
  go_enter Tryd.func8, Tryd.ntmps8
  go_wp2_with fail
  refine (lsave_any _ _ _ hx hs hm).mono ?_
  rintro e w1 ⟨rfl, hT1⟩
  have hm1 := hm.turns hT1 (fun x => x)
  go_wp2_with fail
  refine (lsave_any _ _ _ hy hs hm1).mono ?_
  rintro e w2 ⟨rfl, hT2⟩
  have hm2 := hm1.turns hT2 (fun x => x)
  go_wp2_with fail
  refine (lsave_any _ _ _ hx ht hm2).mono ?_
  rintro e w3 ⟨rfl, hT3⟩
  have hm3 := hm2.turns hT3 (fun x => x)
  go_wp2_with fail
  refine (lsave_any _ _ _ hx hs hm3).mono ?_
  rintro e w4 ⟨rfl, hT4⟩
  have hm4 := hm3.turns hT4 (fun x => x)
  go_wp2_with fail
  refine (lsave_any _ _ _ (by decide) (by decide) hm4).mono ?_
  rintro e w5 ⟨rfl, hT5⟩
  have hm5 := hm4.turns hT5 (fun x => x)
  go_wp2_with fail
  refine (lsave_any _ _ _ (by decide) (by decide) hm5).mono ?_
  rintro e w6 ⟨rfl, hT6⟩
  have hT := ((((hT1.trans hT2).trans hT3).trans hT4).trans hT5).trans hT6
  clear hT1 hT2 hT3 hT4 hT5 hT6 hm hm1 hm2 hm3 hm4 hm5
  go_wp2
  go_ret
  exact ⟨rfl, hT⟩
#print axioms saved_any
end Go.Proofs.YtdogncjcainhlaaDoor
