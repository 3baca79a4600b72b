/- Pack4: texts of one proof, one behind the other. -/
import Derived.Test.YtdogncjcainhlaaDoorPlain
import Derived.Test.YtdogncjcainhlaaDoorPack3
import Derived.Test.YtdogncjcainhlaaDoorProg
import Derived.WalkKit
import Derived.WalkSpells
import Derived.WalkLawsBesides
import Derived.Deep.QuietTactic
import Derived.BigQuiet
import Derived.Deep.LoopGhost
import Derived.Maps.AppendAt
import Derived.Deep.RegionLaw
import Derived.Deep.AppendLies
import Derived.Deep.RegionHeld3
import Derived.BigRegion
import Derived.Test.YtdogncjcainhlaaDoorPack2
/- Plain: labels by an order tell how far it is, and none can be left out. No program in it. -/
namespace Go.Proofs.YtdogncjcainhlaaDoor.Pu

theorem nodup_le : ∀ (n : Nat) (l : List Nat), l.Nodup → (∀ m ∈ l, m < n) → l.length ≤ n
  | 0, l, _, h => by
    cases l with
    | nil => simp
    | cons a r => exact absurd (h a (by simp)) (by omega)
  | n + 1, l, hd, h => by
    have h1 := nodup_le n (l.erase n) (hd.erase n) (fun m hm => by
      have := (List.Nodup.mem_erase_iff hd).1 hm
      have := h m this.2
      omega)
    by_cases c : n ∈ l
    · rw [List.length_erase_of_mem c] at h1; omega
    · rw [List.erase_of_not_mem c] at h1; omega
theorem Perm.mem {n : Nat} {O : List Nat} (h : Perm n O) {v : Nat} (hv : v < n) : v ∈ O := by
  by_cases c : v ∈ O
  · exact c
  · have := nodup_le n (v :: O) (List.nodup_cons.2 ⟨c, h.nodup⟩) (fun m hm => by
      rcases List.mem_cons.1 hm with rfl | hm
      · exact hv
      · exact h.lt m hm)
    have := h.len
    simp at *
    omega
theorem Perm.at' {n : Nat} {O : List Nat} (h : Perm n O) {v : Nat} (hv : v < n) : ∃ j : Nat, O[j]? = some v := List.mem_iff_getElem?.1 (h.mem hv)
theorem nodup_get {O : List Nat} (h : O.Nodup) {i j x : Nat} (hi : O[i]? = some x) (hj : O[j]? = some x) : i = j := by
  obtain ⟨h1, h2⟩ := List.getElem?_eq_some_iff.1 hi
  obtain ⟨h3, h4⟩ := List.getElem?_eq_some_iff.1 hj
  have hp := List.pairwise_iff_getElem.1 h
  rcases Nat.lt_trichotomy i j with c | c | c
  · exact absurd (h2.trans h4.symm) (hp i j h1 h3 c)
  · exact c
  · exact absurd (h4.trans h2.symm) (hp j i h3 h1 c)
theorem mem_take {O : List Nat} {j m : Nat} : m ∈ O.take j ↔ ∃ i, i < j ∧ O[i]? = some m := by
  rw [List.mem_iff_getElem?]
  constructor
  · rintro ⟨i, hi⟩
    have hl := (List.getElem?_eq_some_iff.1 hi).1
    rw [List.length_take] at hl
    rw [List.getElem?_take_of_lt (by omega)] at hi
    exact ⟨i, by omega, hi⟩
  · rintro ⟨i, h1, h2⟩
    exact ⟨i, by rw [List.getElem?_take_of_lt h1]; exact h2⟩

/-- All that is known of a map's table and an order. -/
structure Cov (n : Nat) (len D : Nat → Nat → Int) (O : List Nat) : Prop where
  net : Net n len
  dist : ∀ i, i < n → Dist n len i (D i)
  perm : Perm n O
variable {n : Nat} {len D : Nat → Nat → Int} {O : List Nat}
theorem Cov.sym (C : Cov n len D O) {i j : Nat} (hi : i < n) (hj : j < n) : D i j = D j i := Dist.sym C.net hj hi (C.dist i hi) (C.dist j hj)
theorem Cov.rng (C : Cov n len D O) {i j : Nat} (hi : i < n) (hj : j < n) : D i j = -1 ∨ (0 ≤ D i j ∧ D i j ≤ 40000) := (C.dist i hi).rng j hj
theorem Cov.tri (C : Cov n len D O) {i x k : Nat} (hi : i < n) (hx : x < n) (hk : k < n) (h1 : D i x ≠ -1) (h2 : D x k ≠ -1) : 0 ≤ D i k ∧ D i k ≤ D i x + D x k :=
  Dist.tri C.net C.dist hi hx hk (by have := C.rng hi hx; omega) (by have := C.rng hx hk; omega)
theorem Cov.zero (C : Cov n len D O) {v m : Nat} (hv : v < n) (hm : m < n) (h : D v m = 0) : m = v := by
  by_cases c : m = v
  · exact c
  · obtain ⟨p, _, h1, h2, h3⟩ := (C.dist v hv).pre m hm c (by omega)
    have := C.net.lens.rng p m
    omega
theorem lies_iff {a m b : Nat} : lies D a m b = true ↔ D a m ≠ -1 ∧ D m b ≠ -1 ∧ D a m + D m b = D a b := by unfold lies; rw [decide_eq_true_iff]
theorem lies_no {a m b : Nat} : lies D a m b = false ↔ ¬ (D a m ≠ -1 ∧ D m b ≠ -1 ∧ D a m + D m b = D a b) := by unfold lies; rw [decide_eq_false_iff_not]
/-- What lies between a and what lies between a and b lies between a and b. -/
theorem Cov.into (C : Cov n len D O) {a m h b : Nat} (ha : a < n) (hm : m < n) (hh : h < n) (hb : b < n) (h1 : lies D a m h = true) (h2 : lies D a h b = true) : lies D a m b = true := by
  rw [lies_iff] at h1 h2 ⊢
  have t1 := C.tri hm hh hb h1.2.1 h2.2.1
  have t2 := C.tri ha hm hb h1.1 (by omega)
  exact ⟨h1.1, by omega, by omega⟩
theorem Cov.back (C : Cov n len D O) {a m b : Nat} (ha : a < n) (hm : m < n) (hb : b < n) (h : lies D a m b = true) : lies D b m a = true := by
  rw [lies_iff] at h ⊢
  rw [C.sym hb hm, C.sym hm ha, C.sym hb ha]
  exact ⟨h.2.1, h.1, by omega⟩

theorem Cov.lab (C : Cov n len D O) {x : Rd} : x ∈ labP D O n ↔ ∃ v j h, v < n ∧ h < n ∧ O[j]? = some h ∧ isHub D v h (O.take j) = true ∧ x = (v, h, D v h) := by
  rw [labP_mem]
  constructor
  · rintro ⟨v, j, h, h1, h2, h3⟩; exact ⟨v, j, h, h1, C.perm.lt h (List.mem_of_getElem? h2), h2, h3⟩
  · rintro ⟨v, j, h, h1, _, h2, h3⟩; exact ⟨v, j, h, h1, h2, h3⟩
theorem Cov.selfHub (C : Cov n len D O) {v j : Nat} (hv : v < n) (hj : O[j]? = some v) : isHub D v v (O.take j) = true := by
  have h0 := (C.dist v hv).f0
  refine isHub_iff.2 ⟨by omega, fun m hm => ?_⟩
  obtain ⟨i, h1, h2⟩ := mem_take.1 hm
  have hmn := C.perm.lt m (List.mem_of_getElem? h2)
  rw [lies_no]
  rintro ⟨a, b, c⟩
  have r1 := C.rng hv hmn
  have r2 := C.rng hmn hv
  have e := C.zero hv hmn (by omega)
  subst e
  have := nodup_get C.perm.nodup h2 hj
  omega
theorem Cov.self (C : Cov n len D O) {v : Nat} (hv : v < n) : (v, v, (0 : Int)) ∈ labP D O n := by
  obtain ⟨j, hj⟩ := C.perm.at' hv
  exact C.lab.2 ⟨v, j, v, hv, hv, hj, C.selfHub hv hj, by rw [(C.dist v hv).f0]⟩
theorem Cov.each (C : Cov n len D O) {v h : Nat} {f : Int} (hx : (v, h, f) ∈ labP D O n) : v < n ∧ h < n ∧ f = D v h ∧ D v h ≠ -1 ∧ 0 ≤ f ∧ f ≤ 40000 := by
  obtain ⟨v', j, h', h1, h2, _, h3, h4⟩ := C.lab.1 hx
  simp only [Prod.mk.injEq] at h4
  obtain ⟨rfl, rfl, rfl⟩ := h4
  have h5 := (isHub_iff.1 h3).1
  have := C.rng h1 h2
  exact ⟨h1, h2, rfl, h5, by omega, by omega⟩
theorem Cov.many (C : Cov n len D O) : ∀ p, p ≤ n → p ≤ (labP D O p).length
  | 0, _ => Nat.zero_le _
  | p + 1, hp => by
    have h1 := C.many p (by omega)
    obtain ⟨j, hj⟩ := C.perm.at' (show p < n by omega)
    have h2 : (p, p, D p p) ∈ labK D O p O.length := (labK_mem _).2 ⟨j, p, (List.getElem?_eq_some_iff.1 hj).1, hj, C.selfHub (by omega) hj, rfl⟩
    have h3 := List.length_pos_of_mem h2
    rw [labP, List.length_append]; omega
/-- By any common hub it is as far as it is, or farther. -/
theorem Cov.low (C : Cov n len D O) {o : Int} {u v : Nat} {s : Int} (h : Through (labP D O n) o u v s) : u < n ∧ v < n ∧ D u v ≠ -1 ∧ D u v ≤ s := by
  obtain ⟨i, j, g, f, f', h1, h2, _, _, h3⟩ := h
  have e1 := C.each (List.mem_of_getElem? h1)
  have e2 := C.each (List.mem_of_getElem? h2)
  have t := C.tri e1.1 e1.2.1 e2.1 e1.2.2.2.1 (by rw [C.sym e1.2.1 e2.1]; exact e2.2.2.2.1)
  rw [C.sym e1.2.1 e2.1] at t
  exact ⟨e1.1, e2.1, by omega, by omega⟩
/-- There is a common hub that lies between. -/
theorem Cov.hits (C : Cov n len D O) {u v : Nat} (hu : u < n) (hv : v < n) (hd : D u v ≠ -1) : Through (labP D O n) (-1) u v (D u v) := by
  have hmin : ∀ (k j h : Nat), j ≤ k → O[j]? = some h → lies D u h v = true → ∃ (j' h' : Nat), O[j']? = some h' ∧ lies D u h' v = true ∧ ∀ m ∈ O.take j', lies D u m v = false := by
    intro k
    induction k with
    | zero =>
      intro j h hj h1 h2
      exact ⟨j, h, h1, h2, fun m hm => by obtain ⟨i, h3, _⟩ := mem_take.1 hm; omega⟩
    | succ k ih =>
      intro j h hj h1 h2
      by_cases c : ∃ m ∈ O.take j, lies D u m v = true
      · obtain ⟨m, hm, h3⟩ := c
        obtain ⟨i, h4, h5⟩ := mem_take.1 hm
        exact ih i m (by omega) h5 h3
      · exact ⟨j, h, h1, h2, fun m hm => by
          cases e : lies D u m v with
          | false => rfl
          | true => exact absurd ⟨m, hm, e⟩ c⟩
  obtain ⟨ju, hju⟩ := C.perm.at' hu
  have h0 := (C.dist u hu).f0
  obtain ⟨j, h, hj, hl, hno⟩ := hmin ju ju u (Nat.le_refl _) hju (lies_iff.2 ⟨by omega, hd, by omega⟩)
  have hh := C.perm.lt h (List.mem_of_getElem? hj)
  have hl' := lies_iff.1 hl
  have m1 : (u, h, D u h) ∈ labP D O n := C.lab.2 ⟨u, j, h, hu, hh, hj, isHub_iff.2 ⟨hl'.1, fun m hm => by
    have hmn := C.perm.lt m (List.mem_of_mem_take hm)
    cases e : lies D u m h with
    | false => rfl
    | true => have := C.into hu hmn hh hv e hl; rw [hno m hm] at this; cases this⟩, rfl⟩
  have m2 : (v, h, D v h) ∈ labP D O n := C.lab.2 ⟨v, j, h, hv, hh, hj, isHub_iff.2 ⟨by rw [C.sym hv hh]; exact hl'.2.1, fun m hm => by
    have hmn := C.perm.lt m (List.mem_of_mem_take hm)
    cases e : lies D v m h with
    | false => rfl
    | true =>
      have h1 := C.into hv hmn hh hu e (C.back hu hh hv hl)
      have h2 := C.back hv hmn hu h1
      rw [hno m hm] at h2; cases h2⟩, rfl⟩
  obtain ⟨i1, k1⟩ := List.mem_iff_getElem?.1 m1
  obtain ⟨i2, k2⟩ := List.mem_iff_getElem?.1 m2
  exact ⟨i1, i2, h, _, _, k1, k2, by omega, by omega, by rw [C.sym hv hh]; exact hl'.2.2.symm⟩
/-- By the labels it is as far as it is. -/
theorem Cov.tells (C : Cov n len D O) {u v : Nat} (hu : u < n) (hv : v < n) {b : Int} (h : Best (Through (labP D O n) (-1) u v) b) : b = D u v := by
  by_cases hd : D u v = -1
  · rcases h with ⟨h1, _⟩ | ⟨h1, _⟩
    · omega
    · have := (C.low h1).2.2.1; omega
  · have hh := C.hits hu hv hd
    rcases h with ⟨_, h2⟩ | ⟨h1, _, h2⟩
    · exact absurd hh (h2 _)
    · have := h2 _ hh
      have := (C.low h1).2.2.2
      omega
theorem labP_sorted : ∀ p, (labP D O p).Pairwise (fun x y => x.1 ≤ y.1)
  | 0 => by simp [labP]
  | p + 1 => by
    rw [labP, List.pairwise_append]
    refine ⟨labP_sorted p, ?_, fun x hx y hy => ?_⟩
    · have h : ∀ x ∈ labK D O p O.length, x.1 = p := fun x hx => by
        obtain ⟨j, h, _, _, _, rfl⟩ := (labK_mem _).1 hx; rfl
      exact List.pairwise_of_forall_mem_list (fun a ha b hb => by rw [h a ha, h b hb]; exact Nat.le_refl _)
    · obtain ⟨v, _, _, h1, _, _, rfl⟩ := (labP_mem _).1 hx
      obtain ⟨_, _, _, _, _, rfl⟩ := (labK_mem _).1 hy
      show v ≤ p; omega
theorem labK_apart (hO : O.Nodup) {v : Nat} : ∀ k, (labK D O v k).Pairwise (fun x y => x.1 ≠ y.1 ∨ x.2.1 ≠ y.2.1)
  | 0 => by simp [labK]
  | k + 1 => by
    rw [labK, List.pairwise_append]
    refine ⟨labK_apart hO k, ?_, fun x hx y hy => ?_⟩
    · split
      · simp
      · split <;> simp
    · obtain ⟨j, h, h1, h2, _, rfl⟩ := (labK_mem _).1 hx
      right
      cases e : O[k]? with
      | none => rw [e] at hy; simp at hy
      | some z =>
        rw [e] at hy
        simp only at hy
        split at hy
        · rw [List.mem_singleton] at hy
          subst hy
          intro c
          simp only at c
          subst c
          have := nodup_get hO h2 e
          omega
        · simp at hy
theorem labP_apart (hO : O.Nodup) : ∀ p, (labP D O p).Pairwise (fun x y => x.1 ≠ y.1 ∨ x.2.1 ≠ y.2.1)
  | 0 => by simp [labP]
  | p + 1 => by
    rw [labP, List.pairwise_append]
    refine ⟨labP_apart hO p, labK_apart hO _, fun x hx y hy => ?_⟩
    obtain ⟨v, _, _, h1, _, _, rfl⟩ := (labP_mem _).1 hx
    obtain ⟨_, _, _, _, _, rfl⟩ := (labK_mem _).1 hy
    left; show v ≠ p; omega
theorem Cov.one (C : Cov n len D O) {i j v h : Nat} {f f' : Int} (hi : (labP D O n)[i]? = some (v, h, f)) (hj : (labP D O n)[j]? = some (v, h, f')) : i = j := by
  obtain ⟨a1, a2⟩ := List.getElem?_eq_some_iff.1 hi
  obtain ⟨b1, b2⟩ := List.getElem?_eq_some_iff.1 hj
  have hp := List.pairwise_iff_getElem.1 (labP_apart (D := D) C.perm.nodup n)
  rcases Nat.lt_trichotomy i j with c | c | c
  · have := hp i j a1 b1 c
    rw [a2, b2] at this
    simp at this
  · exact c
  · have := hp j i b1 a1 c
    rw [a2, b2] at this
    simp at this
theorem labP_rising {i a b c d : Nat} {f f' : Int} (hi : (labP D O n)[i]? = some (a, b, f)) (hj : (labP D O n)[i + 1]? = some (c, d, f')) : a ≤ c := by
  obtain ⟨a1, a2⟩ := List.getElem?_eq_some_iff.1 hi
  obtain ⟨b1, b2⟩ := List.getElem?_eq_some_iff.1 hj
  have hp := List.pairwise_iff_getElem.1 (labP_sorted (D := D) (O := O) n) i (i + 1) a1 b1 (by omega)
  rw [a2, b2] at hp
  exact hp
/-- No label can be left out. -/
theorem Cov.needed (C : Cov n len D O) {k v h : Nat} {f b : Int} (hk : (labP D O n)[k]? = some (v, h, f)) (hb : Best (Through (labP D O n) (k : Int) v h) b) : b < 0 ∨ f < b := by
  rcases hb with ⟨h1, _⟩ | ⟨h1, h0, _⟩
  · left; omega
  · right
    have lo := C.low h1
    obtain ⟨e1, e2, e3, e4, _, _⟩ := C.each (List.mem_of_getElem? hk)
    by_cases c : D v h = b
    · exfalso
      obtain ⟨i, j, g, x, y, k1, k2, k3, k4, k5⟩ := h1
      have x1 := C.each (List.mem_of_getElem? k1)
      have y1 := C.each (List.mem_of_getElem? k2)
      obtain ⟨v', jh, h', _, _, q1, q2, q3⟩ := C.lab.1 (List.mem_of_getElem? hk)
      simp only [Prod.mk.injEq] at q3
      obtain ⟨rfl, rfl, _⟩ := q3
      obtain ⟨v'', jg, g', _, _, r1, r2, r3⟩ := C.lab.1 (List.mem_of_getElem? k2)
      simp only [Prod.mk.injEq] at r3
      obtain ⟨rfl, rfl, _⟩ := r3
      have hs := C.sym x1.2.1 e2
      have hgl : lies D v g h = true := lies_iff.2 ⟨x1.2.2.2.1, by rw [hs]; exact y1.2.2.2.1, by rw [hs]; omega⟩
      rcases Nat.lt_trichotomy jg jh with c1 | c1 | c1
      · have := (isHub_iff.1 q2).2 g (mem_take.2 ⟨jg, c1, r1⟩)
        rw [hgl] at this; cases this
      · subst c1
        rw [q1] at r1
        cases r1
        exact k3 (by rw [C.one k1 hk])
      · have h00 := (C.dist h e2).f0
        have := (isHub_iff.1 r2).2 h (mem_take.2 ⟨jh, c1, q1⟩)
        rw [lies_no] at this
        exact this ⟨by omega, y1.2.2.2.1, by omega⟩
    · omega
#print axioms Cov.needed
end Go.Proofs.YtdogncjcainhlaaDoor.Pu
/- The walk of the reference's hub. -/
namespace Go.Proofs.YtdogncjcainhlaaDoor
open Go.RowKit Go.Deep
open Mem
namespace Pu
/-- The reference's number for how far it is. -/
def far9 (D : Nat → Nat → Int) (a b : Nat) : Int := if D a b = -1 then 1000000000 else D a b
theorem far9_lies {n : Nat} {len D : Nat → Nat → Int} {O : List Nat} (C : Cov n len D O) {v x h : Nat} (hv : v < n) (hx : x < n) (hh : h < n) (hd : D h v ≠ -1) : (far9 D h x + far9 D x v = far9 D h v) ↔ lies D v x h = true := by
  have r1 := C.rng hh hx
  have r2 := C.rng hx hv
  have r3 := C.rng hh hv
  have e3 : far9 D h v = D h v := by unfold far9; rw [if_neg hd]
  rw [e3]
  constructor
  · intro h1
    have k1 : D h x ≠ -1 := by
      intro c
      unfold far9 at h1
      rw [if_pos c] at h1
      split at h1 <;> omega
    have k2 : D x v ≠ -1 := by
      intro c
      unfold far9 at h1
      rw [if_pos c] at h1
      split at h1 <;> omega
    unfold far9 at h1
    rw [if_neg k1, if_neg k2] at h1
    exact C.back hh hx hv (lies_iff.2 ⟨k1, k2, h1⟩)
  · intro h1
    have h2 := lies_iff.1 (C.back hv hx hh h1)
    unfold far9
    rw [if_neg h2.1, if_neg h2.2.1]; exact h2.2.2
theorem far9_bd {n : Nat} {len D : Nat → Nat → Int} {O : List Nat} (C : Cov n len D O) {a b : Nat} (ha : a < n) (hb : b < n) : 0 ≤ far9 D a b ∧ far9 D a b ≤ 1000000000 := by
  have := C.rng ha hb
  unfold far9; split <;> omega
end Pu

set_option maxRecDepth 100000 in
set_option maxHeartbeats 1000000 in
theorem rhub_any (w : World) (b n fg fcap ob ocap v j h : Nat) (R : Int) (lv : Value) (len D : Nat → Nat → Int) (O : List Nat) (C : Pu.Cov n len D O) (hB : RB w b n R lv (.slice (some ⟨fg, 0, none⟩) n fcap)) (hT : Tab w fg n (Pu.far9 D)) (hO : Ord w ob n O) (hn : n ≤ 40) (hv : v < n) (hj : O[j]? = some h) :
    Calls Tryd.prog 76 #[.pointer (some ⟨b, 0, none⟩), .slice (some ⟨ob, 0, none⟩) n ocap, .int .i64 v, .int .i64 h] w fun e w' => e = .returned (.bool (Pu.isHub D v h (O.take j))) ∧ ∃ q, w' = w.drewN q := by
  have hh := (hO.2 j h hj).1
  have hjl := (List.getElem?_eq_some_iff.1 hj).1
  have hOl := hO.1
  have c3 := hB.c3
  obtain ⟨rh, t1, t2⟩ := hT h hh
  have t3 := t2 v hv
  have hhi : (h : Int) < (n : Int) := by omega
  have hvi : (v : Int) < (n : Int) := by omega
  have bd := Pu.far9_bd C hh hv
  by_cases hd : D h v = -1
  · have HR : Hid (Pu.isHub D v h (O.take j) = false) := by
      show Pu.isHub D v h (O.take j) = false
      unfold Pu.isHub; rw [← C.sym hh hv, hd]; simp
    have e : Pu.far9 D h v = 1000000000 := by unfold Pu.far9; rw [if_pos hd]
    rw [e] at t3
    generalize Pu.isHub D v h (O.take j) = res at *
    clear hd bd e t2 hT hO hB C
    go_enter Tryd.func76, Tryd.ntmps76
    go_wp2
    go_ret
    exact ⟨by rw [HR.out]; rfl, 0, rfl⟩
  · have r3 := C.rng hh hv
    have e : Pu.far9 D h v = D h v := by unfold Pu.far9; rw [if_neg hd]
    have HI : Hid (∀ i x, i < j → O[i]? = some x → Pu.lies D v x h = true → Pu.isHub D v h (O.take j) = false) := by
      intro i x hi hx hl
      by_cases c : Pu.isHub D v h (O.take j) = true
      · have := (Pu.isHub_iff.1 c).2 x (Pu.mem_take.2 ⟨i, hi, hx⟩); rw [hl] at this; cases this
      · simpa using c
    have HE : Hid ((∀ (i x : Nat), i < j → O[i]? = some x → Pu.lies D v x h = false) → Pu.isHub D v h (O.take j) = true) := by
      intro hall
      refine Pu.isHub_iff.2 ⟨by rw [← C.sym hh hv]; exact hd, fun m hm => ?_⟩
      obtain ⟨i, h1, h2⟩ := Pu.mem_take.1 hm
      exact hall i m h1 h2
    have HL : Hid (∀ x, x < n → ((Pu.far9 D h x + Pu.far9 D x v = D h v) ↔ Pu.lies D v x h = true)) := fun x hx => by rw [← e]; exact Pu.far9_lies C hv hx hh hd
    have HBD : Hid (∀ x, x < n → (0 ≤ Pu.far9 D h x ∧ Pu.far9 D h x ≤ 1000000000) ∧ (0 ≤ Pu.far9 D x v ∧ Pu.far9 D x v ≤ 1000000000)) := fun x hx => ⟨Pu.far9_bd C hh hx, Pu.far9_bd C hx hv⟩
    have HND : Hid (O.Nodup) := C.perm.nodup
    have HT : Hid (Tab w fg n (Pu.far9 D)) := hT
    have HO : Hid (Ord w ob n O) := hO
    rw [e] at t3
    have hlow : D h v < 1000000000 := by omega
    generalize hdx : D h v = dd at *
    generalize Pu.isHub D v h (O.take j) = res at *
    clear hd bd e t2 hT hO hB C hdx
    go_enter Tryd.func76, Tryd.ntmps76
    go_wp2
    go_loopw [9] (fun iv wr => ∃ i q : Nat, iv = .int .i64 i ∧ i ≤ j ∧ (∀ (i' x : Nat), i' < i → O[i']? = some x → Pu.lies D v x h = false) ∧ wr = w.drewN q) (fun iv _ => j - (intOf iv).toNat)
    case atStart => exact ⟨0, 0, rfl, Nat.zero_le _, fun i' x hi => by omega, rfl⟩
    case round =>
      obtain ⟨i, q, rfl, hi, hno, hwr⟩ := hrel
      obtain ⟨x, hx⟩ : ∃ x, O[i]? = some x := ⟨_, List.getElem?_eq_getElem (by omega)⟩
      obtain ⟨hxn, hcx⟩ := HO.out.2 i x hx
      have HWR : Hid (wr = w.drewN q) := hwr
      have y0 : wr.cell? ⟨ob, i, none⟩ = some (.int .i64 (x : Int)) := by rw [hwr]; exact hcx
      have hii : (i : Int) < (n : Int) := by omega
      by_cases hij : i = j
      · have hxh : x = h := by rw [hij, hj] at hx; exact (Option.some.inj hx).symm
        have hne : ((x : Int) != (h : Int)) = false := by simp; omega
        have HR : Hid (res = true) := HE.out (fun i' x' h1 h2 => hno i' x' (by omega) h2)
        clear hno hwr hx HI HE HL HBD HND HT HO hcx hij hxh
        go_wp2
        go_ret
        exact ⟨by rw [HR.out]; rfl, q, HWR.out⟩
      · have hxh : x ≠ h := by
          rintro rfl
          exact hij (Pu.nodup_get HND.out hx hj)
        have hne : ((x : Int) != (h : Int)) = true := by simp; omega
        obtain ⟨rx, s1, s2⟩ := HT.out x hxn
        obtain ⟨rh', s3, s4⟩ := HT.out h hh
        obtain rfl : rh' = rh := by rw [t1] at s3; injection s3 with s3; injection s3 with s3; injection s3 with s3; injection s3 with s3; exact s3.symm
        have y1 : wr.cell? ⟨fg, x, none⟩ = some (.slice (some ⟨rx, 0, none⟩) n n) := by rw [hwr]; exact s1
        have y2 : wr.cell? ⟨rx, v, none⟩ = some (.int .i64 (Pu.far9 D x v)) := by rw [hwr]; exact s2 v hv
        have y3 : wr.cell? ⟨fg, h, none⟩ = some (.slice (some ⟨rh', 0, none⟩) n n) := by rw [hwr]; exact t1
        have y4 : wr.cell? ⟨rh', x, none⟩ = some (.int .i64 (Pu.far9 D h x)) := by rw [hwr]; exact s4 x hxn
        have y5 : wr.cell? ⟨rh', v, none⟩ = some (.int .i64 dd) := by rw [hwr]; exact t3
        have y6 : wr.cell? ⟨b, 3, none⟩ = some (.slice (some ⟨fg, 0, none⟩) n fcap) := by rw [hwr]; exact c3
        have bb := HBD.out x hxn
        have hxi : (x : Int) < (n : Int) := by omega
        have HLX := HL.out x hxn
        have HLY : Hid ((Pu.far9 D h x + Pu.far9 D x v = dd) ↔ Pu.lies D v x h = true) := HLX
        have HXX : Hid (O[i]? = some x) := hx
        have hiv : i < j := by omega
        by_cases hs : Pu.far9 D h x + Pu.far9 D x v = dd
        · have hb : (Pu.far9 D h x + Pu.far9 D x v == dd) = true := by simp [hs]
          have HR : Hid (res = false) := HI.out i x hiv HXX.out (HLY.out.1 hs)
          clear hno hwr hx HI HE HL HBD HND HT HO hcx hs HLX HLY s1 s2 s3 s4 t1 t3 c3
          generalize Pu.far9 D h x = A at *
          generalize Pu.far9 D x v = B' at *
          go_wp2
          go_quiet (fail)
          go_wp2
          go_ret
          exact ⟨by rw [HR.out]; rfl, q + _, by rw [HWR.out, World.drewN_drewN]⟩
        · have hb : (Pu.far9 D h x + Pu.far9 D x v == dd) = false := by simp [hs]
          have HX : Hid (∀ nq, ∃ i' q' : Nat, (Value.int .i64 ((i : Int) + 1)) = .int .i64 i' ∧ i' ≤ j ∧ (∀ (i'' x : Nat), i'' < i' → O[i'']? = some x → Pu.lies D v x h = false) ∧ wr.drewN nq = w.drewN q') := by
            intro nq
            refine ⟨i + 1, q + nq, by go_num, by omega, fun i'' x' h1 h2 => ?_, by rw [hwr, World.drewN_drewN]⟩
            by_cases c : i'' = i
            · subst c
              rw [HXX.out] at h2
              cases h2
              cases e : Pu.lies D v x h with
              | false => rfl
              | true => exact absurd (HLY.out.2 e) hs
            · exact hno i'' x' (by omega) h2
          clear hno hwr hx HI HE HL HBD HND HT HO hcx hs HLX HLY s1 s2 s3 s4 t1 t3 c3
          generalize Pu.far9 D h x = A at *
          generalize Pu.far9 D x v = B' at *
          go_wp2
          go_quiet (fail)
          go_wp2
          go_roundw
          case measure => simp [intOf]; omega
          case rel => exact HX.out _
#print axioms rhub_any
end Go.Proofs.YtdogncjcainhlaaDoor
/- The walk of ways.step. -/
namespace Go.Proofs.YtdogncjcainhlaaDoor
open Go.RowKit
open Mem

/-- One can go on from a to j on a shortest way. -/
def Good (len : Nat → Nat → Int) (far : Nat → Int) (a j : Nat) : Prop := len a j ≠ 0 ∧ len a j + far j = far a

set_option maxRecDepth 1000000 in
set_option maxHeartbeats 1000000 in
theorem step_any (w : World) (b f n a J : Nat) (N R : Int) (len : Nat → Nat → Int) (far : Nat → Int) (hn : n ≤ 40) (ha : a < n) (hm : MapAt w b N R len) (hf : Ints w f n far) (L : Pu.Lens len)
    (hfar : ∀ j, j < n → -1 ≤ far j ∧ far j ≤ 40000) (hJ : J < n) (hG : Good len far a J) :
    Calls Tryd.prog 45 #[.pointer (some ⟨b, 0, none⟩), .slice (some ⟨f, 0, none⟩) n n, .int .i64 a] w fun e w' => ∃ (j q : Nat), e = .returned (.int .i64 j) ∧ j < n ∧ Good len far a j ∧ (∀ i, i < j → ¬ Good len far a i) ∧ w' = w.drewN q := by
  go_enter Tryd.func45, Tryd.ntmps45
  go_wp2
  go_loopg [7] n (fun gk v wr => ∃ (k q : Nat), v = .int .i64 k ∧ k ≤ J ∧ n ≤ gk + k ∧ (∀ i, i < k → ¬ Good len far a i) ∧ wr = w.drewN q)
  case atStart => exact ⟨0, 0, rfl, Nat.zero_le _, by omega, by omega, rfl⟩
  case round =>
    obtain ⟨k, q, rfl, hk, hgk, hno, rfl⟩ := hrel
    have hl := hm.cell a k (by omega) (by omega)
    have hck := hf.cell k (by omega)
    have hca := hf.cell a ha
    have hb1 := L.rng a k
    have hb2 := hfar k (by omega)
    have hb3 := hfar a ha
    have HG : Hid (Good len far a k ↔ (len a k ≠ 0 ∧ len a k + far k = far a)) := Iff.rfl
    have hkn : k < n := by omega
    generalize hX : far k = X at *
    generalize hA : far a = A at *
    generalize hLL : len a k = LL at *
    by_cases h0 : LL = 0
    · have hg : (LL == 0) = true := by simp [h0]
      have HN : Hid (¬ Good len far a k) := fun c => (HG.out.1 c).1 h0
      have hkJ : k ≠ J := by rintro rfl; exact HN.out hG
      have HNo : Hid (∀ i, i < k + 1 → ¬ Good len far a i) := fun i hi => by
        by_cases e : i = k
        · subst e; exact HN.out
        · exact hno i (by omega)
      clear h0 hX hA hLL HG HN hm hf hG hno hfar
      go_wp2_with fail
      go_quiet (fail)
      go_wp2
      go_roundg (gk - 1)
      case measure => omega
      case rel => exact ⟨k + 1, _, by go_num, by omega, by omega, HNo.out, rfl⟩
    · have hg : (LL == 0) = false := by simp [h0]
      by_cases h1 : LL + X = A
      · have hg1 : (LL + X != A) = false := by simp [h1]
        have HY : Hid (∃ j : Nat, k = j ∧ j < n ∧ Good len far a j ∧ ∀ i, i < j → ¬ Good len far a i) := ⟨k, rfl, hkn, HG.out.2 ⟨h0, h1⟩, hno⟩
        clear h0 h1 hX hA hLL HG hm hf hG hno hfar
        go_wp2_with fail
        go_quiet (fail)
        go_wp2
        go_ret
        obtain ⟨j, e, h1, h2, h3⟩ := HY.out
        subst e
        exact ⟨k, _, rfl, h1, h2, h3, World.drewN_drewN _ _ _⟩
      · have hg1 : (LL + X != A) = true := by simp [h1]
        have HN : Hid (¬ Good len far a k) := fun c => h1 (HG.out.1 c).2
        have hkJ : k ≠ J := by rintro rfl; exact HN.out hG
        have HNo : Hid (∀ i, i < k + 1 → ¬ Good len far a i) := fun i hi => by
          by_cases e : i = k
          · subst e; exact HN.out
          · exact hno i (by omega)
        clear h0 h1 hX hA hLL HG HN hm hf hG hno hfar
        go_wp2_with fail
        go_quiet (fail)
        go_wp2
        go_roundg (gk - 1)
        case measure => omega
        case rel => exact ⟨k + 1, _, by go_num, by omega, by omega, HNo.out, rfl⟩
end Go.Proofs.YtdogncjcainhlaaDoor
/- The walk of ways.First. -/
namespace Go.Proofs.YtdogncjcainhlaaDoor
open Go.RowKit Go.Deep
open Mem

/-- j is the least place to which one can go on from a. -/
def Least (len : Nat → Nat → Int) (far : Nat → Int) (a j : Nat) : Prop := Good len far a j ∧ ∀ i, i < j → ¬ Good len far a i
/-- The way from a to t by least places. -/
inductive Way (n : Nat) (len : Nat → Nat → Int) (far : Nat → Int) (t : Nat) : Nat → List Nat → Prop
  | done : Way n len far t t [t]
  | step (a j : Nat) (l : List Nat) : a ≠ t → j < n → Least len far a j → Way n len far t j l → Way n len far t a (a :: l)

def vals (l : List Nat) : List Value := l.map fun (j : Nat) => Value.int .i64 (j : Int)
theorem vals_length (l : List Nat) : (vals l).length = l.length := by simp [vals]
theorem vals_snoc (l : List Nat) (j : Nat) : vals l ++ [Value.int .i64 (j : Int)] = vals (l ++ [j]) := by simp [vals]

/-- What holds ahead of each round: the way so far ends at a. -/
def FirstInv (w1 : World) (n : Nat) (len : Nat → Nat → Int) (far : Nat → Int) (s t gk : Nat) (v va : Value) (wr : World) : Prop :=
  ∃ (a : Nat) (p : List Nat) (g cap : Nat), va = .int .i64 a ∧ v = .slice (some ⟨g, 0, none⟩) (p.length + 1) cap ∧ a < n ∧ 0 ≤ far a ∧ wr.ownsRow w1.heap.size 3 1 (.slice (some ⟨g, 0, none⟩) (p.length + 1) cap) (p.length + 1) (vals (p ++ [a])) ∧ (∀ l, Way n len far t a l → Way n len far t s (p ++ l)) ∧
    p.length + far a ≤ far s ∧ far a ≤ gk ∧ Turns (fun _ => False) w1 wr

set_option maxRecDepth 1000000 in
set_option maxHeartbeats 1000000 in
theorem waysFirst_any (w : World) (b n s t : Nat) (R : Int) (len : Nat → Nat → Int) (hn : n ≤ 40) (hs : s < n) (ht : t < n) (hm : MapAt w b n R len) (L : Pu.Lens len) (hsym : ∀ i j, len i j = len j i) :
    Calls Tryd.prog 30 #[.pointer (some ⟨b, 0, none⟩), .int .i64 s, .int .i64 t] w fun e w' => Turns (fun _ => False) w w' ∧ ∃ far, Pu.Dist n len t far ∧
      ((far s = -1 ∧ e = .returned (.tuple #[.slice none 0 0, .int .i64 (-1)])) ∨
       (0 ≤ far s ∧ ∃ way v, Way n len far t s way ∧ e = .returned (.tuple #[v, .int .i64 (far s)]) ∧ w'.ownsRow w.heap.size 3 1 v way.length (vals way))) := by
  go_enter Tryd.func30, Tryd.ntmps30
  go_wp2_with fail
  refine (farFrom_any _ b n t R len hn ht hm L).mono ?_
  rintro e w1 ⟨far, rfl, hI, hD, hT⟩
  have hcs := hI.cell s hs
  have hrs := hD.rng s hs
  by_cases h1 : far s = -1
  · rw [h1] at hcs
    have HX : Hid (∃ far, Pu.Dist n len t far ∧ far s = -1) := ⟨far, hD, h1⟩
    clear h1 hrs hD
    go_wp2
    go_ret2
    obtain ⟨far, hD, h1⟩ := HX.out
    exact ⟨hT, far, hD, Or.inl ⟨h1, rfl⟩⟩
  · have h0 : 0 ≤ far s := by omega
    have hg : (far s == -1) = false := by simp [h1]
    obtain ⟨i0, hi, hz0, hz1, hz2⟩ := info_parts info3
    clear h1
    have hT1 := hT.size
    have hrow : (w1.alloc (.cells #[.int .i64 (s : Int)] 3)).ownsRow w1.heap.size 3 1 (.slice (some ⟨w1.heap.size, 0, none⟩) 1 1) 1 (vals [s]) := World.ownsRow_lit w1 #[.int .i64 (s : Int)] 1 (Nat.le_refl _) (by decide) rfl
    go_wp2_with fail
    go_loopg [9, 10] (far s).toNat (fun gk v va wr => FirstInv w1 n len far s t gk v va wr)
    case atStart => exact ⟨s, [], w1.heap.size, 1, rfl, rfl, hs, h0, hrow, fun l h => h, by simp, by omega, (Turns.refl _ _).alloc _⟩
    case round =>
      obtain ⟨a, p, g, cap, rfl, rfl, ha, ha0, hown, hway, hlen, hgk, hTr⟩ := hrel
      clear hrow
      by_cases hat : a = t
      · subst hat
        have hne : ((a : Int) != (a : Int)) = false := by simp
        have hcs2 : wr.cell? ⟨w.heap.size, s, none⟩ = some (.int .i64 (far s)) := (hTr.cell (a := ⟨w.heap.size, s, none⟩) hI.lt (fun x => x)).trans hcs
        have HX : Hid (Turns (fun _ => False) w wr ∧ ∃ far', Pu.Dist n len a far' ∧ 0 ≤ far' s ∧ far' s = far s ∧ ∃ way, Way n len far' a s way ∧ wr.ownsRow w.heap.size 3 1 (.slice (some ⟨g, 0, none⟩) (p.length + 1) cap) way.length (vals way)) :=
          ⟨hT.trans ⟨hTr.os, hTr.tape, hTr.output, hTr.size, fun k hk hp => hTr.block k hk hp⟩, far, hD, h0, rfl, p ++ [a], hway _ Way.done, by simpa using owns_mono hown hT1⟩
        clear hD hway hown hT hTr
        go_wp2_with fail
        go_quiet (fail)
        go_wp2
        go_ret2
        obtain ⟨h1, far', h2, h3, h4, way, h5, h6⟩ := HX.out
        exact ⟨⟨h1.os, h1.tape, h1.output, h1.size, h1.block⟩, far', h2, Or.inr ⟨h3, way, _, h5, by rw [h4]; rfl, h6⟩⟩
      · have hne : ((a : Int) != (t : Int)) = true := by simp; omega
        obtain ⟨i, hi1, hi2, hi3, hi4⟩ := hD.pre a ha hat ha0
        have hM2 : MapAt wr b n R len := (hm.turns hT (fun x => x)).turns hTr (fun x => x)
        have hI2 : Ints wr w.heap.size n far := hI.turns hTr (fun x => x)
        go_wp2_with fail
        refine (step_any _ b w.heap.size n a i n R len far hn ha hM2 hI2 L (fun j hj => by have := hD.rng j hj; omega) hi1 ⟨by rw [hsym]; exact hi3, by rw [hsym a i, hi4]; omega⟩).mono ?_
        rintro e w2 ⟨j, q, rfl, hj, hG, hno, hw2⟩
        have hj0 := (hD.ed a j ha hj ha0 hG.1).1
        have hlj := L.rng a j
        have hgg := hG.2
        have hgn := hG.1
        have hrs2 := hD.rng s hs
        have hsz : w1.heap.size ≤ w2.heap.size := by rw [hw2]; exact hTr.size
        have hown2 : w2.ownsRow w1.heap.size 3 1 (.slice (some ⟨g, 0, none⟩) (p.length + 1) cap) (p.length + 1) (vals (p ++ [a])) := by rw [hw2]; exact hown
        have hT2 : Turns (fun _ => False) w1 w2 := by rw [hw2]; exact hTr.drewN q
        have HW : Hid (∀ l, Way n len far t j l → Way n len far t s (p ++ (a :: l))) := fun l hl => hway _ (Way.step a j l hat hj ⟨hG, hno⟩ hl)
        have hpl : p.length ≤ 40000 := by omega
        have hA : p.length + 1 + far j ≤ far s := by omega
        have hB : far j ≤ ((gk - 1 : Nat) : Int) := by omega
        have hC : gk - 1 < gk := by omega
        clear hw2 hway hown hTr hM2 hI2 hD hI hi1 hi2 hi3 hi4 hG hno hT hm hgg hgn
        go_wp2_with (at_builtin; refine wpList_append_own _ rfl _ _ 41 rfl w1.heap.size 3 i0 (.int .i64 0) 1 8 Tryd.underlying41 hi hz0 hz1 hz2 rfl (by decide) _ _ _ rfl (hown2.alloc _) ⟨w2.heap.size, 0, none⟩ 1 1 [.int .i64 (j : Int)] rfl rfl ?c1 ?c2 ?c3 ?c4 ?c5 ?_)
        case c1 => exact cell_one_new _ _ _
        case c2 => intro u hu; simp at hu; subst hu; rfl
        case c3 => unfold maxLen; omega
        case c4 => omega
        case c5 => simp; omega
        intro v' w3 hown3 hgrow _
        have hT3 : Turns (fun _ => False) w1 w3 := (hT2.alloc _).grown hgrow (fun k hk => Or.inl (hown2.lt k hk).1)
        obtain ⟨g', cap', hv'⟩ := owns_form hown3
        rw [hv'] at hown3 ⊢
        rw [vals_snoc] at hown3
        have HR : Hid (FirstInv w1 n len far s t (gk - 1) (.slice (some ⟨g', 0, none⟩) (p.length + 1 + 1) cap') (.int .i64 j) w3) :=
          ⟨j, p ++ [a], g', cap', rfl, by simp, hj, hj0, by simpa using hown3, fun l hl => by simpa using HW.out l hl, by simpa using hA, hB, hT3⟩
        clear hown3 hgrow hT3 hT2 hown2 HW hv'
        go_wp2
        go_roundg (gk - 1)
        case measure => exact hC
        case rel => exact HR.out
#print axioms waysFirst_any
end Go.Proofs.YtdogncjcainhlaaDoor
/- The walk of the reference's labels: of each place, from the highest hub to the lowest. -/
namespace Go.Proofs.YtdogncjcainhlaaDoor
open Go.RowKit Go.Deep
open Mem

theorem infoR117 : (Tryd.prog.info? 120).map (fun i => (i.zero, i.size, i.bytes)) = some (some (.agg #[.int .i64 0, .int .i64 0]), 2, 16) := by kernel_rfl
theorem infoR115 : (Tryd.prog.info? 118).map (fun i => (i.zero, i.size, i.bytes)) = some (some (.slice none 0 0), 1, 24) := by kernel_rfl

namespace Pu
/-- The hubs of place v of the first k of the order O, as the reference has them: rank, how far. -/
def hubK (D : Nat → Nat → Int) (O : List Nat) (v : Nat) : Nat → List (Nat × Int)
  | 0 => []
  | k + 1 => hubK D O v k ++ match O[k]? with
    | none => []
    | some h => if isHub D v h (O.take k) then [(k, D v h)] else []
theorem hubK_hit {D : Nat → Nat → Int} {O : List Nat} {v k h : Nat} (hk : O[k]? = some h) (hh : isHub D v h (O.take k) = true) : hubK D O v (k + 1) = hubK D O v k ++ [(k, D v h)] := by rw [hubK, hk]; simp [hh]
theorem hubK_miss {D : Nat → Nat → Int} {O : List Nat} {v k h : Nat} (hk : O[k]? = some h) (hh : isHub D v h (O.take k) = false) : hubK D O v (k + 1) = hubK D O v k := by rw [hubK, hk]; simp [hh]
theorem hubK_len (D : Nat → Nat → Int) (O : List Nat) (v : Nat) : ∀ k, (hubK D O v k).length ≤ k
  | 0 => Nat.le_refl _
  | k + 1 => by
    have := hubK_len D O v k
    rw [hubK, List.length_append]
    split
    · simp; omega
    · split <;> simp <;> omega
/-- The same as labels. -/
theorem hubK_lab (D : Nat → Nat → Int) (O : List Nat) (v : Nat) : ∀ k, labK D O v k = (hubK D O v k).map fun x => (v, O.getD x.1 0, x.2)
  | 0 => rfl
  | k + 1 => by
    rw [labK, hubK, List.map_append, hubK_lab D O v k]
    congr 1
    cases e : O[k]? with
    | none => rfl
    | some h =>
      simp only
      split
      · simp [List.getD, e]
      · rfl
/-- The cells of such hubs. -/
def hbVals : List (Nat × Int) → List Value
  | [] => []
  | (k, f) :: r => .int .i64 (k : Int) :: .int .i64 f :: hbVals r
theorem hbVals_length : ∀ l : List (Nat × Int), (hbVals l).length = l.length * 2
  | [] => rfl
  | (k, f) :: r => by simp [hbVals, hbVals_length r]; omega
theorem hbVals_append : ∀ (a b : List (Nat × Int)), hbVals (a ++ b) = hbVals a ++ hbVals b
  | [], b => rfl
  | (k, f) :: r, b => by simp [hbVals, hbVals_append r b]
theorem hbVals_get : ∀ (l : List (Nat × Int)) (i k : Nat) (f : Int), l[i]? = some (k, f) → (hbVals l)[i * 2]? = some (.int .i64 (k : Int)) ∧ (hbVals l)[i * 2 + 1]? = some (.int .i64 f)
  | [], i, k, f, h => by simp at h
  | (a, b) :: r, 0, k, f, h => by
    simp at h
    obtain ⟨rfl, rfl⟩ := h
    simp [hbVals]
  | (a, b) :: r, i + 1, k, f, h => by
    have := hbVals_get r i k f (by simpa using h)
    rw [show (i + 1) * 2 = i * 2 + 1 + 1 by omega, hbVals]
    simpa using this
end Pu

/-- A list of hubs that lies in memory: nothing, or a row of its own. -/
def HubRow (w : World) (v : Value) (l : List (Nat × Int)) : Prop := ∃ (a : Option Addr) (c : Nat), v = .slice a l.length c ∧ ∀ (i k : Nat) (f : Int), l[i]? = some (k, f) → ∃ g, a = some ⟨g, 0, none⟩ ∧ w.cell? ⟨g, i * 2, none⟩ = some (.int .i64 (k : Int)) ∧ w.cell? ⟨g, i * 2 + 1, none⟩ = some (.int .i64 f)
theorem HubRow.of_own {w : World} {B : Nat} {v : Value} {l : List (Nat × Int)} (h : w.ownsRow B 120 2 v l.length (Pu.hbVals l)) : HubRow w v l := by
  rcases h.2 with ⟨h1, h2⟩ | ⟨g, cap, cur, h1, _⟩
  · exact ⟨none, 0, by rw [h1, h2], fun i k f hi => by have := (List.getElem?_eq_some_iff.1 hi).1; omega⟩
  · subst h1
    refine ⟨_, _, rfl, fun i k f hi => ⟨g, rfl, ?_⟩⟩
    have hl := (List.getElem?_eq_some_iff.1 hi).1
    obtain ⟨r1, r2⟩ := Pu.hbVals_get l i k f hi
    exact ⟨by rw [World.ownsRow.cellAt h _ (by omega)]; exact r1, by rw [World.ownsRow.cellAt h _ (by omega)]; exact r2⟩
theorem HubRow.turns {p : Nat → Prop} {w w' : World} {v : Value} {l : List (Nat × Int)} (h : HubRow w v l) (t : Turns p w w') (hp : ∀ q, v.ownBlock = some q → ¬ p q) : HubRow w' v l := by
  obtain ⟨a, c, h1, h2⟩ := h
  refine ⟨a, c, h1, fun i k f hi => ?_⟩
  obtain ⟨g, e, c1, c2⟩ := h2 i k f hi
  have hpg := hp g (by rw [h1, e]; rfl)
  exact ⟨g, e, (t.cell (World.block_lt_of_cell? _ _ c1) hpg).trans c1, (t.cell (World.block_lt_of_cell? _ _ c2) hpg).trans c2⟩
/-- The row v holds the lists of hubs of the first places. -/
structure HubRows (w : World) (B : Nat) (v : Value) (hs : List Value) (L : Nat → List (Nat × Int)) : Prop where
  own : w.ownsRow B 118 1 v hs.length hs
  row : ∀ (i : Nat) (x : Value), hs[i]? = some x → HubRow w x (L i) ∧ x.oneCell' = true ∧ ∀ q, x.ownBlock = some q → q < w.heap.size ∧ v.ownBlock ≠ some q
theorem HubRows.nil (w : World) (B : Nat) (L : Nat → List (Nat × Int)) : HubRows w B (.slice none 0 0) [] L := ⟨World.ownsRow_nil _ _ _ _, fun i x h => by simp at h⟩
theorem HubRows.turns {w w' : World} {B : Nat} {v : Value} {hs : List Value} {L : Nat → List (Nat × Int)} (h : HubRows w B v hs L) (t : Turns (fun _ => False) w w') : HubRows w' B v hs L :=
  ⟨owns_turns h.own t, fun i x hx => ⟨(h.row i x hx).1.turns t (fun _ _ f => f), (h.row i x hx).2.1, fun q hq => ⟨Nat.lt_of_lt_of_le ((h.row i x hx).2.2 q hq).1 t.size, ((h.row i x hx).2.2 q hq).2⟩⟩⟩
/-- One list more. -/
theorem HubRows.snoc {w w4 : World} {B g cap : Nat} {v x : Value} {hs : List Value} {L : Nat → List (Nat × Int)} (h : HubRows w B v hs L) (hx : HubRow w x (L hs.length)) (hx1 : x.oneCell' = true) (hxb : ∀ q, x.ownBlock = some q → q < w.heap.size ∧ v.ownBlock ≠ some q)
    (hown : w4.ownsRow B 118 1 (.slice (some ⟨g, 0, none⟩) (hs.length + 1) cap) (hs.length + 1) (hs ++ [x])) (hT : Turns (fun k => v.ownBlock = some k) w w4) (hat : v.ownBlock = some g ∨ w.heap.size ≤ g) :
    HubRows w4 B (.slice (some ⟨g, 0, none⟩) (hs.length + 1) cap) (hs ++ [x]) L := by
  have one : ∀ (i : Nat) (y : Value), HubRow w y (L i) ∧ y.oneCell' = true ∧ (∀ q, y.ownBlock = some q → q < w.heap.size ∧ v.ownBlock ≠ some q) → HubRow w4 y (L i) ∧ y.oneCell' = true ∧ ∀ q, y.ownBlock = some q → q < w4.heap.size ∧ (Value.slice (some ⟨g, 0, none⟩) (hs.length + 1) cap).ownBlock ≠ some q := by
    rintro i y ⟨h1, h2, h3⟩
    refine ⟨h1.turns hT (fun q hq => (h3 q hq).2), h2, fun q hq => ⟨Nat.lt_of_lt_of_le (h3 q hq).1 hT.size, fun c => ?_⟩⟩
    simp only [Value.ownBlock, Option.some.injEq] at c
    subst c
    have := h3 _ hq
    rcases hat with hat | hat
    · exact this.2 hat
    · omega
  refine ⟨by simpa using hown, fun i y hy => ?_⟩
  by_cases e : i < hs.length
  · rw [List.getElem?_append_left e] at hy
    exact one i y (h.row i y hy)
  · rw [List.getElem?_append_right (by omega)] at hy
    have hi0 : i = hs.length := by
      have := (List.getElem?_eq_some_iff.1 hy).1
      simp at this; omega
    subst hi0
    simp at hy
    subst hy
    exact one _ _ ⟨hx, hx1, hxb⟩

set_option maxRecDepth 100000 in
set_option maxHeartbeats 2000000 in
theorem rlab_any (w : World) (b n fg fcap ob ocap : Nat) (R : Int) (lv : Value) (len D : Nat → Nat → Int) (O : List Nat) (C : Pu.Cov n len D O) (hB : RB w b n R lv (.slice (some ⟨fg, 0, none⟩) n fcap)) (hT : Tab w fg n (Pu.far9 D)) (hO : Ord w ob n O) (hn1 : 1 ≤ n) (hn : n ≤ 40) :
    Calls Tryd.prog 61 #[.pointer (some ⟨b, 0, none⟩), .slice (some ⟨ob, 0, none⟩) n ocap] w fun e w' => Turns (fun _ => False) w w' ∧ ∃ (og oc : Nat) (hs : List Value), e = .returned (.slice (some ⟨og, 0, none⟩) n oc) ∧ hs.length = n ∧ HubRows w' w.heap.size (.slice (some ⟨og, 0, none⟩) n oc) hs (fun v => Pu.hubK D O v n) := by
  obtain ⟨i0, hi, hz0, hz1, hz2⟩ := info_parts infoR117
  obtain ⟨i1, hj, hy0, hy1, hy2⟩ := info_parts infoR115
  have HALL : Hid (∀ wx, Turns (fun _ => False) w wx → RB wx b n R lv (.slice (some ⟨fg, 0, none⟩) n fcap) ∧ Tab wx fg n (Pu.far9 D) ∧ Ord wx ob n O) := fun wx hx => ⟨hB.turns hx (fun x => x), hT.turns hx, hO.turns hx⟩
  have HC : Hid (Pu.Cov n len D O) := C
  clear hB hT hO C
  go_enter Tryd.func61, Tryd.ntmps61
  go_wp2
  go_loopw [5, 6] (fun ov vv wr => ∃ (o : Value) (hs : List Value), o = ov ∧ vv = .int .i64 hs.length ∧ hs.length ≤ n ∧ HubRows wr w.heap.size o hs (fun v => Pu.hubK D O v n) ∧ Turns (fun _ => False) w wr) (fun _ vv _ => n - (intOf vv).toNat)
  case atStart => exact ⟨_, [], rfl, rfl, Nat.zero_le _, HubRows.nil _ _ _, Turns.refl _ _⟩
  case round =>
    obtain ⟨o, hs, ho, rfl, hvl, hH, hTr⟩ := hrel
    subst ho
    have c0 := (HALL.out _ hTr).1.c0
    obtain ⟨v, hvx⟩ : ∃ v, hs.length = v := ⟨_, rfl⟩
    have HV : Hid (hs.length = v) := hvx
    have HH : Hid (HubRows wr w.heap.size o hs (fun v => Pu.hubK D O v n) ∧ Turns (fun _ => False) w wr) := ⟨hH, hTr⟩
    have hsz := hTr.size
    rw [hvx] at hvl ⊢
    clear hH hTr hvx
    by_cases hvn : v < n
    · obtain ⟨wi, hwi⟩ : ∃ wi, wi = wr := ⟨_, rfl⟩
      subst hwi
      have hvi : (v : Int) < (n : Int) := by omega
      go_wp2
      go_loopw [7, 8] (fun lv' iv wr => ∃ (l : Value) (i : Nat), l = lv' ∧ iv = .int .i64 i ∧ i ≤ n ∧ wr.ownsRow wi.heap.size 120 2 l (Pu.hubK D O v i).length (Pu.hbVals (Pu.hubK D O v i)) ∧ Turns (fun _ => False) wi wr) (fun _ iv _ => n - (intOf iv).toNat)
      case atStart => exact ⟨_, 0, rfl, rfl, Nat.zero_le _, World.ownsRow_nil _ _ _ _, Turns.refl _ _⟩
      case round =>
        obtain ⟨l, i, hl, rfl, hin, hown, hTi⟩ := hrel
        subst hl
        have hTw := HH.out.2.trans hTi
        obtain ⟨k1, k2, k3⟩ := HALL.out _ hTw
        by_cases hii : i < n
        · have hiii : (i : Int) < (n : Int) := by omega
          obtain ⟨h, hh⟩ : ∃ h, O[i]? = some h := ⟨_, List.getElem?_eq_getElem (by have := k3.1; omega)⟩
          obtain ⟨hhn, hch⟩ := k3.2 i h hh
          have cr := rhub_any wr b n fg fcap ob ocap v i h R lv len D O HC.out k1 k2 k3 hn hvn hh
          obtain ⟨rv, t1', t2'⟩ := (HALL.out _ HH.out.2).2.1 v hvn
          have l1 : fg < wi.heap.size := World.block_lt_of_cell? _ _ t1'
          have l2 : rv < wi.heap.size := World.block_lt_of_cell? _ _ (t2' h hhn)
          have l3 : b < wi.heap.size := (HALL.out _ HH.out.2).1.lt
          have l4 : ob < wi.heap.size := World.block_lt_of_cell? _ _ ((HALL.out _ HH.out.2).2.2.2 i h hh).2
          have t1 := (hTi.cell (a := ⟨fg, v, none⟩) l1 (fun x => x)).trans t1'
          have t3 := (hTi.cell (a := ⟨rv, h, none⟩) l2 (fun x => x)).trans (t2' h hhn)
          have c3 := k1.c3
          have hhi : (h : Int) < (n : Int) := by omega
          have hll := Pu.hubK_len D O v i
          cases hb : Pu.isHub D v h (O.take i) with
          | false =>
            rw [hb] at cr
            have HX : Hid (∀ q, ∃ (l' : Value) (i' : Nat), l' = l ∧ (Value.int .i64 ((i : Int) + 1)) = .int .i64 i' ∧ i' ≤ n ∧ (wr.drewN q).ownsRow wi.heap.size 120 2 l' (Pu.hubK D O v i').length (Pu.hbVals (Pu.hubK D O v i')) ∧ Turns (fun _ => False) wi (wr.drewN q)) :=
              fun q => ⟨l, i + 1, rfl, by go_num, by omega, by rw [Pu.hubK_miss hh hb]; exact hown, hTi.drewN q⟩
            clear hown hTi hTw k1 k2 k3 hb t1' t2'
            go_wp2_with fail
            refine cr.mono ?_
            rintro e w3 ⟨rfl, q, hw3⟩
            subst hw3
            clear cr
            go_wp2
            go_roundw
            case measure => simp [intOf]; omega
            case rel => exact HX.out _
          | true =>
            rw [hb] at cr
            have hd : D v h ≠ -1 := (Pu.isHub_iff.1 hb).1
            have ef : Pu.far9 D v h = D v h := by unfold Pu.far9; rw [if_neg hd]
            rw [ef] at t3
            have HV1 : Hid (Pu.hbVals (Pu.hubK D O v i) ++ [.int .i64 (i : Int), .int .i64 (D v h)] = Pu.hbVals (Pu.hubK D O v (i + 1)) ∧ (Pu.hubK D O v (i + 1)).length = (Pu.hubK D O v i).length + 1) := by
              rw [Pu.hubK_hit hh hb, Pu.hbVals_append]
              exact ⟨rfl, by simp⟩
            generalize hLL : Pu.hubK D O v i = LL at *
            generalize hxx : D v h = x at *
            clear hb hd ef t1' t2' hTw k1 k2 k3 hLL hxx
            go_wp2_with fail
            refine cr.mono ?_
            rintro e w3 ⟨rfl, q, hw3⟩
            have e1 : w3.cell? ⟨fg, v, none⟩ = some (.slice (some ⟨rv, 0, none⟩) n n) := by rw [hw3]; exact t1
            have e2 : w3.cell? ⟨rv, h, none⟩ = some (.int .i64 x) := by rw [hw3]; exact t3
            have e3 : w3.cell? ⟨b, 3, none⟩ = some (.slice (some ⟨fg, 0, none⟩) n fcap) := by rw [hw3]; exact c3
            have e4 : w3.cell? ⟨ob, i, none⟩ = some (.int .i64 (h : Int)) := by rw [hw3]; exact hch
            have hown3 : w3.ownsRow wi.heap.size 120 2 l LL.length (Pu.hbVals LL) := by rw [hw3]; exact hown
            have hT3 : Turns (fun _ => False) wi w3 := by rw [hw3]; exact hTi.drewN q
            have hs3 := hT3.size
            clear cr hw3 hown hTi t1 t3 c3 hch
            go_wp2_with fail
            go_region_held3 (fun w' => w'.cell? ⟨fg, v, none⟩ = some (.slice (some ⟨rv, 0, none⟩) n n) ∧ w'.cell? ⟨rv, h, none⟩ = some (.int .i64 x) ∧ w'.cell? ⟨b, 3, none⟩ = some (.slice (some ⟨fg, 0, none⟩) n fcap) ∧ w'.cell? ⟨ob, i, none⟩ = some (.int .i64 (h : Int))) (go_keep)
              ((refine step_append_lies _ (by rfl) _ _ _ (by rfl) wi.heap.size 120 i0 _ 2 16 Tryd.underlying118 hi hz0 hz1 hz2 rfl (by omega) l LL.length (Pu.hbVals LL) (by rfl) ((hown3.alloc _).drew)
                  ⟨w3.heap.size, 0, none⟩ 1 1 [.int .i64 (i : Int), .int .i64 x] (by rfl) (by rfl) (World.news_of_block (cs := #[.int .i64 (i : Int), .int .i64 x]) (t := 120) (fr := (0, 0)) (heap_alloc_new w3 _)) (by simp [Value.oneCell'])
                  (by omega) (by unfold maxLen; omega) (by omega) (by simp; omega) (w3.heap.size + 1) (by simp) ?_; intro g' cap' w4 hown4 hgrow hat hlt4; have hT4 : Turns (fun k => l.ownBlock = some k) w3 w4 := (((Turns.refl _ w3).alloc _).drew).grown hgrow (fun _ hk => Or.inr hk); have hlb : ∀ q, l.ownBlock = some q → wi.heap.size ≤ q := fun q hq => (hown3.lt q hq).1; have f1 : w4.cell? ⟨fg, v, none⟩ = some (.slice (some ⟨rv, 0, none⟩) n n) := (hT4.cell (a := ⟨fg, v, none⟩) (by show fg < _; omega) (fun c => by have h9 : wi.heap.size ≤ fg := hlb _ c; omega)).trans e1; have f2 : w4.cell? ⟨rv, h, none⟩ = some (.int .i64 x) := (hT4.cell (a := ⟨rv, h, none⟩) (by show rv < _; omega) (fun c => by have h9 : wi.heap.size ≤ rv := hlb _ c; omega)).trans e2; have f3 : w4.cell? ⟨b, 3, none⟩ = some (.slice (some ⟨fg, 0, none⟩) n fcap) := (hT4.cell (a := ⟨b, 3, none⟩) (by show b < _; omega) (fun c => by have h9 : wi.heap.size ≤ b := hlb _ c; omega)).trans e3; have f4 : w4.cell? ⟨ob, i, none⟩ = some (.int .i64 (h : Int)) := (hT4.cell (a := ⟨ob, i, none⟩) (by show ob < _; omega) (fun c => by have h9 : wi.heap.size ≤ ob := hlb _ c; omega)).trans e4))
            all_goals
              have HX : Hid (∃ (l' : Value) (i' : Nat), l' = .slice (some ⟨g', 0, none⟩) (LL.length + 1) cap' ∧ (Value.int .i64 ((i : Int) + 1)) = .int .i64 i' ∧ i' ≤ n ∧ w4.ownsRow wi.heap.size 120 2 l' (Pu.hubK D O v i').length (Pu.hbVals (Pu.hubK D O v i')) ∧ Turns (fun _ => False) wi w4) :=
                ⟨_, i + 1, rfl, by go_num, by omega, by rw [HV1.out.2, ← HV1.out.1]; exact hown4, hT3.join hT4 (fun q hq _ c => by have := hlb _ c; omega)⟩
              clear hown4 hgrow hat hT4 hlb f1 f2 f3 f4 HV1 hown3 hT3 e1 e2 e3 e4
              go_wp2
              go_roundw
              case measure => simp [intOf]; omega
              case rel => exact HX.out
        · have hie : i = n := by omega
          obtain ⟨ga, gl, gc, hlf⟩ : ∃ ga gl gc, l = .slice ga gl gc := by
            rcases hown.2 with ⟨h1, _⟩ | ⟨_, _, _, h1, _⟩
            · exact ⟨_, _, _, h1⟩
            · exact ⟨_, _, _, h1⟩
          subst hlf
          have hH' := HH.out.1.turns hTi
          have hone : (Value.slice ga gl gc).oneCell' = true := rfl
          have hsz2 := hTi.size
          have hrow : HubRow wr (.slice ga gl gc) (Pu.hubK D O v n) := by rw [← hie]; exact HubRow.of_own hown
          have hlb : ∀ q, (Value.slice ga gl gc).ownBlock = some q → wi.heap.size ≤ q ∧ q < wr.heap.size := fun q hq => hown.lt q hq
          have hob : ∀ q, o.ownBlock = some q → w.heap.size ≤ q ∧ q < wi.heap.size := fun q hq => HH.out.1.own.lt q hq
          have hown' := hH'.own
          have HP : Hid (HubRows wr w.heap.size o hs (fun v => Pu.hubK D O v n) ∧ HubRow wr (.slice ga gl gc) (Pu.hubK D O v n) ∧ Turns (fun _ => False) w wr) := ⟨hH', hrow, hTw⟩
          rw [HV.out] at hown'
          have hiii : ¬ (i : Int) < (n : Int) := by omega
          clear hH' hrow hown hTw hTi k1 k2 k3 hie
          go_wp2_with (at_builtin; refine wpList_append_own_at _ rfl _ _ 115 rfl w.heap.size 118 i1 _ 1 24 Tryd.underlying115 hj hy0 hy1 hy2 rfl (by decide) _ _ _ rfl (hown'.alloc _) ⟨wr.heap.size, 0, none⟩ 1 1 [.slice ga gl gc] rfl rfl ?c1 ?c2 ?c3 ?c4 ?c5 ?_)
          case c3 => unfold maxLen; omega
          case c4 => omega
          case c5 => first | omega | (simp; omega)
          intro v' w4 hown4 hgrow _ hat
          obtain ⟨g', cap', hv'⟩ := owns_form hown4
          subst hv'
          have hT4 : Turns (fun k => o.ownBlock = some k) wr w4 := ((Turns.refl _ wr).alloc _).grown hgrow (fun q hq => Or.inr hq)
          have hat' : o.ownBlock = some g' ∨ wr.heap.size ≤ g' := by
            rcases hat with h' | h'
            · left; rw [← h']; rfl
            · right; simp [Value.ownBlock] at h'; omega
          have HX : Hid (∃ (o' : Value) (hs' : List Value), o' = .slice (some ⟨g', 0, none⟩) (v + 1) cap' ∧ (Value.int .i64 ((v : Int) + 1)) = .int .i64 hs'.length ∧ hs'.length ≤ n ∧ HubRows w4 w.heap.size o' hs' (fun v => Pu.hubK D O v n) ∧ Turns (fun _ => False) w w4) := by
            have hv := HV.out
            have hsn := HP.out.1.snoc (x := .slice ga gl gc) (g := g') (cap := cap') (by rw [hv]; exact HP.out.2.1) hone (fun q hq => ⟨(hlb q hq).2, fun c => by have := hlb q hq; have := hob q c; omega⟩) (by rw [hv]; exact hown4) hT4 hat'
            rw [hv] at hsn
            exact ⟨_, hs ++ [.slice ga gl gc], rfl, by simp [hv], by simp; omega, hsn, HP.out.2.2.join hT4 (fun q hq _ c => by have := hob q c; omega)⟩
          clear hown4 hgrow hat hat' hT4 HP hown' hlb hob
          go_wp2
          go_roundw
          case measure => simp [intOf]; omega
          case rel => exact HX.out
    · have hve : v = n := by omega
      have HX : Hid (∃ (og oc : Nat), o = .slice (some ⟨og, 0, none⟩) n oc ∧ hs.length = n ∧ HubRows wr w.heap.size (.slice (some ⟨og, 0, none⟩) n oc) hs (fun v => Pu.hubK D O v n) ∧ Turns (fun _ => False) w wr) := by
        have hv := HV.out
        obtain ⟨og, oc, ho, _, _⟩ := World.ownsRow.form HH.out.1.own (by omega)
        rw [hv, hve] at ho
        exact ⟨og, oc, ho, by omega, by rw [← ho]; exact HH.out.1, HH.out.2⟩
      have hvi : ¬ (v : Int) < (n : Int) := by omega
      clear HH hve
      go_wp2
      go_ret
      obtain ⟨og, oc, h1, h2, h3, h4⟩ := HX.out
      subst h1
      exact ⟨h4, og, oc, rfl, hs, h2, h3⟩
#print axioms rlab_any
end Go.Proofs.YtdogncjcainhlaaDoor
/- Plain: of ways that go on to the least place on each there is but one; and the in-place rounds of the reference's fill. -/
namespace Go.Proofs.YtdogncjcainhlaaDoor

theorem Least.one {len : Nat → Nat → Int} {far : Nat → Int} {a i j : Nat} (h : Least len far a i) (g : Least len far a j) : i = j := by
  rcases Nat.lt_trichotomy i j with c | c | c
  · exact absurd h.1 (g.2 i c)
  · exact c
  · exact absurd g.1 (h.2 j c)
theorem Way.one {n : Nat} {len : Nat → Nat → Int} {far : Nat → Int} {t a : Nat} {l m : List Nat} (h : Way n len far t a l) (g : Way n len far t a m) : l = m := by
  induction h generalizing m with
  | done =>
    cases g with
    | done => rfl
    | step _ j l' h1 _ _ _ => exact absurd rfl h1
  | step a j l h1 h2 h3 h4 ih =>
    cases g with
    | done => exact absurd rfl h1
    | step _ j' l' g1 g2 g3 g4 =>
      have e := Least.one h3 g3
      subst e
      rw [ih g4]

namespace Pu
/-- The table in the midst of the round of place x: what lies ahead of row i, place k is turned already. -/
def fillAt (t : Nat → Nat → Int) (x i k p q : Nat) : Int := if p < i ∨ (p = i ∧ q < k) then fstep t x p q else t p q
theorem fillAt_start (t : Nat → Nat → Int) (x p q : Nat) : fillAt t x 0 0 p q = t p q := by unfold fillAt; rw [if_neg (by omega)]
theorem fillAt_row (t : Nat → Nat → Int) (x i n p q : Nat) (hq : q < n) : fillAt t x i n p q = fillAt t x (i + 1) 0 p q := by
  unfold fillAt
  by_cases c : p < i ∨ (p = i ∧ q < n)
  · rw [if_pos c, if_pos (by omega)]
  · rw [if_neg c, if_neg (by omega)]
theorem fillAt_end (t : Nat → Nat → Int) (x n p q : Nat) (hp : p < n) : fillAt t x n 0 p q = fstep t x p q := by unfold fillAt; rw [if_pos (by omega)]
/-- In the midst of the round column x and row x still read as before. -/
theorem fillAt_col (t : Nat → Nat → Int) (x i k p : Nat) (hx : t x x = 0) : fillAt t x i k p x = t p x := by
  unfold fillAt fstep; split
  · rw [if_neg (by omega)]
  · rfl
theorem fillAt_xrow (t : Nat → Nat → Int) (x i k q : Nat) (hx : t x x = 0) : fillAt t x i k x q = t x q := by
  unfold fillAt fstep; split
  · rw [if_neg (by omega)]
  · rfl
theorem fillAt_here (t : Nat → Nat → Int) (x i k : Nat) : fillAt t x i k i k = t i k := by unfold fillAt; rw [if_neg (by omega)]
/-- One entry on. -/
theorem fillAt_next (t : Nat → Nat → Int) (x i k p q : Nat) : fillAt t x i (k + 1) p q = if p = i ∧ q = k then fstep t x i k else fillAt t x i k p q := by
  by_cases c : p = i ∧ q = k
  · obtain ⟨rfl, rfl⟩ := c
    rw [if_pos ⟨rfl, rfl⟩]; unfold fillAt; rw [if_pos (by omega)]
  · rw [if_neg c]; unfold fillAt
    by_cases d : p < i ∨ (p = i ∧ q < k)
    · rw [if_pos d, if_pos (by omega)]
    · rw [if_neg d, if_neg (by omega)]
end Pu
#print axioms Way.one
#print axioms Pu.fillAt_next
end Go.Proofs.YtdogncjcainhlaaDoor
/- The walk of the reference's fill: the table of how far it is, filled through every place. -/
namespace Go.Proofs.YtdogncjcainhlaaDoor
open Go.RowKit Go.Deep
open Mem

theorem info41r : (Tryd.prog.info? 41).map (fun i => (i.zero, i.size, i.bytes)) = some (some (.slice none 0 0), 1, 24) := by kernel_rfl

/-- A row of the table in the making. -/
def rowK (len : Nat → Nat → Int) (i k j : Nat) : Int := if j < k then Pu.fill0 len i j else 0
theorem rowK_self (len : Nat → Nat → Int) (i k : Nat) : rowK len i k k = 0 := by simp [rowK]
theorem rowK_step (len : Nat → Nat → Int) (i k j : Nat) : upd (rowK len i k) k (Pu.fill0 len i k) j = rowK len i (k + 1) j := by
  unfold upd rowK
  by_cases e : j = k
  · rw [if_pos e, if_pos (by omega), e]
  · rw [if_neg e]
    show (if j < k then _ else _) = _
    by_cases g : j < k
    · rw [if_pos g, if_pos (by omega)]
    · rw [if_neg g, if_neg (by omega)]
theorem rowK_end (len : Nat → Nat → Int) (i k j : Nat) (h : j < k) : rowK len i k j = Pu.fill0 len i j := by unfold rowK; rw [if_pos h]

/-- What holds ahead of each round of fill's first loop. -/
def Fill1 (w : World) (b n : Nat) (R : Int) (v : Value) (len : Nat → Nat → Int) (i : Value) (wr : World) : Prop :=
  ∃ (fv : Value) (fb : List Nat), i = .int .i64 fb.length ∧ fb.length ≤ n ∧ RB wr b n R v fv ∧ Grid wr w.heap.size n fv fb (Pu.fill0 len) ∧ Turns (· = b) w wr
/-- What holds in the rounds behind it. -/
def Fill2 (w : World) (b n : Nat) (R : Int) (v fv : Value) (fb : List Nat) (t : Nat → Nat → Int) (wr : World) : Prop :=
  RB wr b n R v fv ∧ Grid wr w.heap.size n fv fb t ∧ Turns (· = b) w wr
theorem Fill2.congr {w : World} {b n : Nat} {R : Int} {v fv : Value} {fb : List Nat} {t t' : Nat → Nat → Int} {wr : World} (h : Fill2 w b n R v fv fb t wr) (e : ∀ i j, i < fb.length → j < n → t i j = t' i j) : Fill2 w b n R v fv fb t' wr :=
  ⟨h.1, h.2.1.congr e, h.2.2⟩
theorem Fill2.drewN {w : World} {b n : Nat} {R : Int} {v fv : Value} {fb : List Nat} {t : Nat → Nat → Int} {wr : World} (h : Fill2 w b n R v fv fb t wr) (q : Nat) : Fill2 w b n R v fv fb t (wr.drewN q) :=
  ⟨h.1, h.2.1.turns ((Turns.refl (fun _ => False) wr).drewN q) (fun _ _ x => x), h.2.2.drewN q⟩
theorem Fill2.drew {w : World} {b n : Nat} {R : Int} {v fv : Value} {fb : List Nat} {t : Nat → Nat → Int} {wr : World} (h : Fill2 w b n R v fv fb t wr) : Fill2 w b n R v fv fb t wr.drew :=
  ⟨h.1, h.2.1.turns ((Turns.refl (fun _ => False) wr).drew) (fun _ _ x => x), h.2.2.drew⟩
/-- One entry written. -/
theorem Fill2.set {w : World} {b n : Nat} {R : Int} {v fv : Value} {fb : List Nat} {t t' : Nat → Nat → Int} {wr : World} (h : Fill2 w b n R v fv fb t wr) (hb : b < w.heap.size) {i r k : Nat} (hi : fb[i]? = some r) (hk : k < n) (x : Int)
    (e : ∀ p q, t' p q = if p = i ∧ q = k then x else t p q) : Fill2 w b n R v fv fb t' (wr.setCell ⟨r, k, none⟩ (.int .i64 x)) := by
  have hr := (h.2.1.row i r hi).2.1
  refine ⟨h.1.turns ((Turns.refl (· = r) wr).setCell (Or.inr rfl) _) (by omega), (h.2.1.set hi hk x).congr (fun p q _ _ => (e p q).symm), h.2.2.setCell (Or.inl hr) _⟩

set_option maxRecDepth 100000 in
set_option maxHeartbeats 2000000 in
theorem fill_any (w : World) (b B n lb lcap : Nat) (R : Int) (rb : List Nat) (len : Nat → Nat → Int) (hn1 : 1 ≤ n) (hn : n ≤ 40) (hRB : RB w b n R (.slice (some ⟨lb, 0, none⟩) rb.length lcap) (.slice none 0 0))
    (hG : Grid w B n (.slice (some ⟨lb, 0, none⟩) rb.length lcap) rb len) (hrl : rb.length = n) (hbB : b < B) (L : Pu.Lens len) :
    Calls Tryd.prog 38 #[.pointer (some ⟨b, 0, none⟩)] w fun e w' => e = .returned (.tuple #[]) ∧ ∃ fv fb, fb.length = n ∧ Fill2 w b n R (.slice (some ⟨lb, 0, none⟩) rb.length lcap) fv fb (Pu.fillTo len n) w' := by
  have hmk := run_make_row' (P := Tryd.prog) 41 3 (.int .i64 0) 8 Tryd.underlying41 info3 rfl .i64 .i64 n (by omega) (by omega)
  obtain ⟨i0, hi, hz0, hz1, hz2⟩ := info_parts info41r
  have hbl := hRB.lt
  go_enter Tryd.func38, Tryd.ntmps38
  go_wp2
  go_loopw [2] (fun i wr => Fill1 w b n R (.slice (some ⟨lb, 0, none⟩) rb.length lcap) len i wr) (fun i _ => n - (intOf i).toNat)
  case atStart => exact ⟨_, [], rfl, Nat.zero_le _, hRB, Grid.nil _ _ _ _, Turns.refl _ _⟩
  case round =>
    obtain ⟨fv, fb, rfl, hk, hB, hF, hT⟩ := hrel
    have c0 := hB.c0
    by_cases hlt : fb.length < n
    · obtain ⟨wo, hwo⟩ : ∃ wo, wo = wr := ⟨_, rfl⟩
      subst hwo
      have hsz := hT.size
      have hG1 := (hG.turns hT (fun k hk => by omega))
      have HF : Hid (RB wo b n R (.slice (some ⟨lb, 0, none⟩) rb.length lcap) fv ∧ Grid wo w.heap.size n fv fb (Pu.fill0 len) ∧ Turns (· = b) w wo) := ⟨hB, hF, hT⟩
      obtain ⟨ri, hri⟩ : ∃ ri, rb[fb.length]? = some ri := ⟨_, List.getElem?_eq_getElem (by omega)⟩
      have g1 := hG1.cell hri
      have r1 := hG1.row _ _ hri
      have c2 := hB.c2
      have hrli := r1.1.lt
      have hlbl : lb < wo.heap.size := World.block_lt_of_cell? _ _ g1
      have hI0 := Ints.made wo n 3 0
      obtain ⟨i, hfi⟩ : ∃ i, fb.length = i := ⟨_, rfl⟩
      have hIK : Ints (wo.alloc (.cells (madeCells #[.int .i64 0] n) 3)) wo.heap.size n (rowK len i 0) := hI0.congr (fun j _ => by simp [rowK])
      have HI : Hid (∀ k, k < n → wo.cell? ⟨ri, k, none⟩ = some (.int .i64 (len i k))) := fun k hk => by rw [← hfi]; exact r1.1.cell k hk
      rw [hfi] at hlt hri g1 ⊢
      have hil : (i : Int) < (rb.length : Int) := by omega
      have hrbl : b < wo.heap.size := hB.lt
      have HFI : Hid (fb.length = i) := hfi
      clear hI0 hB hF hT hG1 r1 hk hfi
      go_wp2
      go_loopw [4] (fun kv wx => ∃ k : Nat, kv = .int .i64 k ∧ k ≤ n ∧ Ints wx wo.heap.size n (rowK len i k) ∧ Turns (fun _ => False) wo wx) (fun kv _ => n - (intOf kv).toNat)
      case atStart => exact ⟨0, rfl, Nat.zero_le _, hIK, (Turns.refl _ _).alloc _⟩
      case round =>
        clear hIK
        obtain ⟨k, rfl, hk, hI, hTx⟩ := hrel
        have d0 : wr.cell? ⟨b, 0, none⟩ = some (.int .i64 n) := (hTx.cell (a := ⟨b, 0, none⟩) hrbl (fun x => x)).trans c0
        by_cases hkn : k < n
        · have hc := hI.cell k hkn
          have hf := hI.free k hkn
          rw [rowK_self] at hc
          have d2 := (hTx.cell (a := ⟨b, 2, none⟩) hrbl (fun x => x)).trans c2
          have dg := (hTx.cell (a := ⟨lb, i, none⟩) hlbl (fun x => x)).trans g1
          have dl := (hTx.cell (a := ⟨ri, k, none⟩) hrli (fun x => x)).trans (HI.out k hkn)
          have n1 : b ≠ wo.heap.size := by omega
          have n2 : lb ≠ wo.heap.size := by omega
          have n3 : ri ≠ wo.heap.size := by omega
          have s2 : ∀ y, (wr.setCell ⟨wo.heap.size, k, none⟩ y).cell? ⟨b, 2, none⟩ = some (.slice (some ⟨lb, 0, none⟩) rb.length lcap) := fun y => (World.cell?_setCell_other _ _ _ _ (by intro c; injection c with c; exact n1 c.symm)).trans d2
          have sg : ∀ y, (wr.setCell ⟨wo.heap.size, k, none⟩ y).cell? ⟨lb, i, none⟩ = some (.slice (some ⟨ri, 0, none⟩) n n) := fun y => (World.cell?_setCell_other _ _ _ _ (by intro c; injection c with c; exact n2 c.symm)).trans dg
          have sl : ∀ y, (wr.setCell ⟨wo.heap.size, k, none⟩ y).cell? ⟨ri, k, none⟩ = some (.int .i64 (len i k)) := fun y => (World.cell?_setCell_other _ _ _ _ (by intro c; injection c with c; exact n3 c.symm)).trans dl
          have sr : ∀ y, (wr.setCell ⟨wo.heap.size, k, none⟩ y).cell? ⟨wo.heap.size, k, none⟩ = some y := fun y => World.cell?_setCell_same _ _ _ hc
          have HN : Hid (∀ x, Pu.fill0 len i k = x → ∀ wx, wx = wr.setCell ⟨wo.heap.size, k, none⟩ (.int .i64 x) ∨ (∃ y, wx = (wr.setCell ⟨wo.heap.size, k, none⟩ (.int .i64 y)).setCell ⟨wo.heap.size, k, none⟩ (.int .i64 x)) → ∃ k' : Nat, (Value.int .i64 ((k : Int) + 1)) = .int .i64 k' ∧ k' ≤ n ∧ Ints wx wo.heap.size n (rowK len i k') ∧ Turns (fun _ => False) wo wx) := by
            intro x hx wx hwx
            refine ⟨k + 1, by go_num, by omega, ?_, ?_⟩
            · rcases hwx with rfl | ⟨y, rfl⟩
              · exact (hI.set hkn x).congr (fun j _ => by rw [← hx]; exact rowK_step len i k j)
              · refine ((hI.set hkn y).set hkn x).congr (fun j _ => ?_)
                rw [← rowK_step, hx]
                unfold upd
                by_cases e : j = k
                · rw [if_pos e, if_pos e]
                · rw [if_neg e, if_neg e, if_neg e]
            · rcases hwx with rfl | ⟨y, rfl⟩
              · exact hTx.setCell (Or.inl (Nat.le_refl _)) _
              · exact (hTx.setCell (Or.inl (Nat.le_refl _)) _).setCell (Or.inl (Nat.le_refl _)) _
          have hb := L.rng i k
          have hself := L.self i
          have hki : (k : Int) < (n : Int) := by omega
          clear hI hTx
          by_cases hpos : 0 < len i k
          · have hik : i ≠ k := by rintro rfl; omega
            have hikb : ((i : Int) == (k : Int)) = false := by simp; omega
            have HX : Hid (Pu.fill0 len i k = len i k) := by show _ = _; unfold Pu.fill0; rw [if_neg hik, if_pos hpos]
            clear hik
            go_wp2
            go_roundw
            case measure => simp [intOf]; omega
            case rel => exact HN.out _ HX.out _ (Or.inr ⟨_, rfl⟩)
          · by_cases hik : i = k
            · have hikb : ((i : Int) == (k : Int)) = true := by simp; omega
              have HX : Hid (Pu.fill0 len i k = 0) := by show _ = _; unfold Pu.fill0; rw [if_pos hik]
              have hpn : (0 < len i k) = False := by simp; omega
              clear hik
              go_wp2
              go_roundw
              case measure => simp [intOf]; omega
              case rel => exact HN.out _ HX.out _ (Or.inr ⟨_, rfl⟩)
            · have hikb : ((i : Int) == (k : Int)) = false := by simp; omega
              have HX : Hid (Pu.fill0 len i k = 1000000000) := by show _ = _; unfold Pu.fill0; rw [if_neg hik, if_neg hpos]
              have hpn : (0 < len i k) = False := by simp; omega
              clear hik
              go_wp2
              go_roundw
              case measure => simp [intOf]; omega
              case rel => exact HN.out _ HX.out _ (Or.inl rfl)
        · have ek : k = n := by omega
          subst ek
          have hF := HF.out.2.1
          have hFr := hF.turns hTx (fun _ _ x => x)
          have hBr := HF.out.1.turns hTx (fun x => x)
          have hTr : Turns (· = b) w wr := HF.out.2.2.join hTx (fun _ _ _ x => x)
          have hIr : Ints wr wo.heap.size k (Pu.fill0 len fb.length) := hI.congr (fun j hj => by rw [HFI.out]; exact rowK_end len i k j hj)
          have hown := hFr.own
          have hb3 := hBr.c3
          have hf3 := hBr.free 3
          have hrsz := hTr.size
          have hwsz := hTx.size
          have hnv : fv.ownBlock ≠ some wo.heap.size := fun c => by have := (hF.own.lt _ c).2; omega
          have hnr : ∀ j : Nat, fb[j]? ≠ some wo.heap.size := fun j c => by have := (hF.row j _ c).1.lt; omega
          have hvb : ∀ q, fv.ownBlock = some q → w.heap.size ≤ q ∧ q < wr.heap.size := fun q hq => hown.lt q hq
          have HP : Hid (Grid wr w.heap.size k fv fb (Pu.fill0 len) ∧ RB wr b k R (.slice (some ⟨lb, 0, none⟩) rb.length lcap) fv ∧ Turns (· = b) w wr ∧ Ints wr wo.heap.size k (Pu.fill0 len fb.length)) := ⟨hFr, hBr, hTr, hIr⟩
          clear hF hFr hBr hTr hIr hI hTx HF HI
          have hfl : fb.length = i := HFI.out
          go_wp2_with (at_builtin; refine wpList_append_own_at _ rfl _ _ 33 rfl w.heap.size 41 i0 _ 1 24 Tryd.underlying33 hi hz0 hz1 hz2 rfl (by decide) _ _ _ rfl (hown.alloc _) ⟨wr.heap.size, 0, none⟩ 1 1 [.slice (some ⟨wo.heap.size, 0, none⟩) k k] rfl rfl ?c1 ?c2 ?c3 ?c4 ?c5 ?_)
          case c1 => exact cell_one_new _ _ _
          case c2 => intro u hu; simp at hu; subst hu; rfl
          case c3 => unfold maxLen; omega
          case c4 => omega
          case c5 => simp; omega
          intro v' w3 hown3 hgrow _ hat
          obtain ⟨g', cap', hv'⟩ := owns_form hown3
          subst hv'
          obtain ⟨hFr, hBr, hTr, hIr⟩ := HP.out
          have hT3 : Turns (fun q => fv.ownBlock = some q) wr w3 := ((Turns.refl _ wr).alloc _).grown hgrow (fun q hq => Or.inr hq)
          have hat' : fv.ownBlock = some g' ∨ wr.heap.size ≤ g' := by
            rcases hat with h | h
            · left; rw [← h]; rfl
            · right; simp [Value.ownBlock] at h; omega
          have hG3 := hFr.snoc (cap := cap') hIr (by omega) hnr hnv (by rw [hfl]; exact hown3) hT3 hat'
          rw [hfl] at hG3
          have hB3 := hBr.turns hT3 (fun c => by have := (hvb _ c).1; omega)
          have hTw3 : Turns (· = b) w w3 := hTr.join hT3 (fun q hq _ c => by have := (hvb _ c).1; omega)
          have k3 := hB3.c3
          have j3 := hB3.free 3
          have HX : Hid (Fill1 w b k R (.slice (some ⟨lb, 0, none⟩) rb.length lcap) len (.int .i64 ((i : Int) + 1)) (w3.setCell ⟨b, 3, none⟩ (.slice (some ⟨g', 0, none⟩) (i + 1) cap'))) := by
            refine ⟨_, fb ++ [wo.heap.size], by rw [← hfl]; simp, by simp; omega, hB3.set3 _, hG3.turns ((Turns.refl (· = b) w3).setCell (Or.inr rfl) _) (fun q hq => by omega), hTw3.setCell (Or.inr rfl) _⟩
          clear hG3 hB3 hTw3 hT3 hown3 hgrow hFr hBr hTr hIr HP hown hat hat'
          go_wp2
          go_roundw
          case measure => simp [intOf]; omega
          case rel => exact HX.out
    · have hfl : fb.length = n := by omega
      have hFt : Fill2 w b n R (.slice (some ⟨lb, 0, none⟩) rb.length lcap) fv fb (Pu.fillTo len 0) wr := ⟨hB, hF, hT⟩
      clear hB hF hT hk hlt hmk hi hz0 hz1 hz2 hG hRB
      obtain ⟨fg, fcap, hfv, _, _⟩ := hFt.2.1.form (by omega)
      subst hfv
      have HFL : Hid (fb.length = n) := hfl
      rw [hfl] at hFt ⊢
      clear hfl
      go_wp2
      go_loopw [5] (fun xv wx => ∃ x : Nat, xv = .int .i64 x ∧ x ≤ n ∧ Fill2 w b n R (.slice (some ⟨lb, 0, none⟩) rb.length lcap) (.slice (some ⟨fg, 0, none⟩) n fcap) fb (Pu.fillTo len x) wx) (fun xv _ => n - (intOf xv).toNat)
      case atStart => exact ⟨0, rfl, Nat.zero_le _, hFt⟩
      case round =>
        clear hFt c0
        obtain ⟨x, rfl, hx, hF⟩ := hrel
        have c0 := hF.1.c0
        by_cases hxn : x < n
        · have HR := Pu.fillTo_rng L x
          have hF0 := hF.congr (t' := Pu.fillAt (Pu.fillTo len x) x 0 0) (fun p q _ _ => (Pu.fillAt_start _ x p q).symm)
          clear hF
          have HS : Hid (Pu.fillTo len (x + 1) = Pu.fstep (Pu.fillTo len x) x) := rfl
          generalize Pu.fillTo len x = t at *
          go_wp2
          go_loopw [6] (fun iv wx => ∃ i : Nat, iv = .int .i64 i ∧ i ≤ n ∧ Fill2 w b n R (.slice (some ⟨lb, 0, none⟩) rb.length lcap) (.slice (some ⟨fg, 0, none⟩) n fcap) fb (Pu.fillAt t x i 0) wx) (fun iv _ => n - (intOf iv).toNat)
          case atStart => exact ⟨0, rfl, Nat.zero_le _, hF0⟩
          case round =>
            clear hF0 c0
            obtain ⟨i, rfl, hi, hF⟩ := hrel
            have c0 := hF.1.c0
            by_cases hin : i < n
            · go_wp2
              go_loopw [7] (fun kv wx => ∃ k : Nat, kv = .int .i64 k ∧ k ≤ n ∧ Fill2 w b n R (.slice (some ⟨lb, 0, none⟩) rb.length lcap) (.slice (some ⟨fg, 0, none⟩) n fcap) fb (Pu.fillAt t x i k) wx) (fun kv _ => n - (intOf kv).toNat)
              case atStart => exact ⟨0, rfl, Nat.zero_le _, hF⟩
              case round =>
                clear hF c0
                obtain ⟨k, rfl, hk, hF⟩ := hrel
                have c0 := hF.1.c0
                by_cases hkn : k < n
                · obtain ⟨wq, hwq⟩ : ∃ wq, wq = wr := ⟨_, rfl⟩
                  subst hwq
                  have hrl' := HFL.out
                  obtain ⟨ri, hri⟩ : ∃ ri, fb[i]? = some ri := ⟨_, List.getElem?_eq_getElem (by omega)⟩
                  obtain ⟨rx, hrx⟩ : ∃ rx, fb[x]? = some rx := ⟨_, List.getElem?_eq_getElem (by omega)⟩
                  have hGr := hF.2.1
                  rw [← hrl'] at hGr
                  have g1 := hGr.cell hri
                  have g2 := hGr.cell hrx
                  rw [hrl'] at g1 g2 hGr
                  have r1 := hGr.row _ _ hri
                  have r2 := hGr.row _ _ hrx
                  have m1 := r1.1.cell x hxn
                  have m2 := r2.1.cell k hkn
                  have m3 := r1.1.cell k hkn
                  have f3 := r1.1.free k hkn
                  rw [Pu.fillAt_col t x i k i (HR.1 x)] at m1
                  rw [Pu.fillAt_xrow t x i k k (HR.1 x)] at m2
                  rw [Pu.fillAt_here] at m3
                  have b1 := HR.2 i x
                  have b2 := HR.2 x k
                  have b3 := HR.2 i k
                  have c3 := hF.1.c3
                  have hki : (k : Int) < (n : Int) := by omega
                  have hii : (i : Int) < (n : Int) := by omega
                  have hxi : (x : Int) < (n : Int) := by omega
                  have HX0 : Hid (¬ t i x + t x k < t i k → ∀ q, ∃ k' : Nat, (Value.int .i64 ((k : Int) + 1)) = .int .i64 k' ∧ k' ≤ n ∧ Fill2 w b n R (.slice (some ⟨lb, 0, none⟩) rb.length lcap) (.slice (some ⟨fg, 0, none⟩) n fcap) fb (Pu.fillAt t x i k') (wq.drewN q)) := by
                    intro hno q
                    refine ⟨k + 1, by go_num, by omega, (hF.congr (fun p r _ _ => ?_)).drewN q⟩
                    rw [Pu.fillAt_next]
                    by_cases c : p = i ∧ r = k
                    · rw [if_pos c, c.1, c.2, Pu.fillAt_here]; unfold Pu.fstep; rw [if_neg hno]
                    · rw [if_neg c]
                  have HX1 : Hid (t i x + t x k < t i k → ∀ wz, Fill2 w b n R (.slice (some ⟨lb, 0, none⟩) rb.length lcap) (.slice (some ⟨fg, 0, none⟩) n fcap) fb (Pu.fillAt t x i k) wz → ∃ k' : Nat, (Value.int .i64 ((k : Int) + 1)) = .int .i64 k' ∧ k' ≤ n ∧ Fill2 w b n R (.slice (some ⟨lb, 0, none⟩) rb.length lcap) (.slice (some ⟨fg, 0, none⟩) n fcap) fb (Pu.fillAt t x i k') (wz.setCell ⟨ri, k, none⟩ (.int .i64 (t i x + t x k)))) := by
                    intro hyes wz hFz
                    refine ⟨k + 1, by go_num, by omega, hFz.set hbl hri hkn _ (fun p r => ?_)⟩
                    rw [Pu.fillAt_next]
                    by_cases c : p = i ∧ r = k
                    · rw [if_pos c, if_pos c]; unfold Pu.fstep; rw [if_pos hyes]
                    · rw [if_neg c, if_neg c]
                  have HFF : Hid (Fill2 w b n R (.slice (some ⟨lb, 0, none⟩) rb.length lcap) (.slice (some ⟨fg, 0, none⟩) n fcap) fb (Pu.fillAt t x i k) wq) := hF
                  clear hF hGr r1 r2 hrl'
                  by_cases hless : t i x + t x k < t i k
                  · go_wp2
                    go_quiet (fail)
                    go_wp2_with fail
                    rename_i nq
                    obtain ⟨wz, hwz⟩ : ∃ wz, wq.drewN nq = wz := ⟨_, rfl⟩
                    rw [hwz]
                    have z3 : wz.cell? ⟨b, 3, none⟩ = some (.slice (some ⟨fg, 0, none⟩) n fcap) := by rw [← hwz]; exact c3
                    have zg1 : wz.cell? ⟨fg, i, none⟩ = some (.slice (some ⟨ri, 0, none⟩) n n) := by rw [← hwz]; exact g1
                    have zg2 : wz.cell? ⟨fg, x, none⟩ = some (.slice (some ⟨rx, 0, none⟩) n n) := by rw [← hwz]; exact g2
                    have zm1 : wz.cell? ⟨ri, x, none⟩ = some (.int .i64 (t i x)) := by rw [← hwz]; exact m1
                    have zm2 : wz.cell? ⟨rx, k, none⟩ = some (.int .i64 (t x k)) := by rw [← hwz]; exact m2
                    have zm3 : wz.cell? ⟨ri, k, none⟩ = some (.int .i64 (t i k)) := by rw [← hwz]; exact m3
                    have zf3 : wz.frozen? ⟨ri, k, none⟩ = false := by rw [← hwz]; exact f3
                    have HFz : Hid (Fill2 w b n R (.slice (some ⟨lb, 0, none⟩) rb.length lcap) (.slice (some ⟨fg, 0, none⟩) n fcap) fb (Pu.fillAt t x i k) wz) := by rw [← hwz]; exact HFF.out.drewN nq
                    clear hwz HX0 HFF c3 g1 g2 m1 m2 m3 f3
                    go_region
                    all_goals
                      go_wp2
                      go_roundw
                      case measure => simp [intOf]; omega
                      case rel => first
                        | exact HX1.out hless _ HFz.out.drew
                        | exact HX1.out hless _ HFz.out
                  · have hle : ¬ t i x + t x k < t i k := hless
                    go_wp2
                    go_quiet (fail)
                    go_wp2
                    go_roundw
                    case measure => simp [intOf]; omega
                    case rel => exact HX0.out hle _
                · have ek : k = n := by omega
                  subst ek
                  have HX := hF.congr (t' := Pu.fillAt t x (i + 1) 0) (fun p q _ hq => Pu.fillAt_row t x i k p q hq)
                  clear hF
                  go_wp2
                  go_roundw
                  case measure => simp [intOf]; omega
                  case rel => exact ⟨i + 1, by go_num, by omega, HX⟩
            · have ei : i = n := by omega
              subst ei
              have HX := hF.congr (t' := Pu.fillTo len (x + 1)) (fun p q hp _ => by rw [HS.out]; exact Pu.fillAt_end t x i p q (by have := HFL.out; omega))
              clear hF
              go_wp2
              go_roundw
              case measure => simp [intOf]; omega
              case rel => exact ⟨x + 1, by go_num, by omega, HX⟩
        · have ex : x = n := by omega
          subst ex
          go_wp2
          go_end0
          exact ⟨rfl, _, fb, HFL.out, hF⟩
#print axioms fill_any
end Go.Proofs.YtdogncjcainhlaaDoor
/- The walk of the reference's number, and that it reads numbers as package number does. -/
namespace Go.Proofs.YtdogncjcainhlaaDoor
open Go.RowKit
namespace Pu

/-- The rest of a number as the reference reads it. -/
def rd (most : Int) : Int → List UInt8 → Int
  | n, [] => if most < n then -1 else n
  | n, c :: r => if (c.toNat < 48 ∨ 57 < c.toNat) ∨ most < n then -1 else rd most (10 * n + ((c.toNat : Int) - 48)) r
/-- A number from 0 to most; -1: it is none. -/
def refNum (l : List UInt8) (most : Int) : Int := if l = [] ∨ (l.head? = some 48 ∧ 1 < l.length) then -1 else rd most 0 l
/-- What package number makes of the same. -/
def toRef (most : Int) : Option Int → Int
  | none => -1
  | some v => if most < v then -1 else v
theorem digs_ge : ∀ (l : List UInt8) (n v : Int), 0 ≤ n → digs n l = some v → n ≤ v
  | [], n, v, _, h => by simp [digs] at h; omega
  | c :: r, n, v, h0, h => by
    rw [digs] at h
    split at h
    · cases h
    · split at h
      · cases h
      · have := digs_ge r _ v (by omega) h; omega
theorem rd_eq {most : Int} (hm : 0 ≤ most) (hm2 : most ≤ 100000) : ∀ (l : List UInt8) (n : Int), 0 ≤ n → n ≤ 10 * most + 9 → rd most n l = toRef most (digs n l)
  | [], n, h0, h1 => by rw [rd, digs]; rfl
  | c :: r, n, h0, h1 => by
    rw [rd]
    by_cases hb : c.toNat < 48 ∨ 57 < c.toNat
    · rw [if_pos (Or.inl hb), digs_bad n c r hb]; rfl
    · by_cases hn : most < n
      · rw [if_pos (Or.inr hn)]
        cases hd : digs n (c :: r) with
        | none => rfl
        | some v =>
          have := digs_ge _ _ _ h0 hd
          show _ = if most < v then _ else _
          rw [if_pos (by omega)]
      · rw [if_neg (by omega), digs_cons n c r (by omega) (by omega) (by omega), rd_eq hm hm2 r _ (by omega) (by omega)]
        rw [show 10 * n + ((c.toNat : Int) - 48) = n * 10 + ((c.toNat : Int) - 48) by omega]
theorem refNum_eq (l : List UInt8) {most : Int} (hm : 0 ≤ most) (hm2 : most ≤ 100000) : refNum l most = toRef most (num l) := by
  unfold refNum num
  split
  · rfl
  · exact rd_eq hm hm2 l 0 (by omega) (by omega)
end Pu

set_option maxHeartbeats 400000 in
theorem refnum_empty (s : ByteArray) (most : Int) (w : World) (h0 : s.size = 0) : Calls Tryd.prog 37 #[.string s, .int .i64 most] w fun e w' => e = .returned (.int .i64 (Pu.refNum s.data.toList most)) ∧ w' = w := by
  have he := empty_of h0
  have hn : Pu.refNum s.data.toList most = -1 := by
    unfold Pu.refNum; rw [if_pos]; left; rw [ByteArray.toList_eq] at he; simpa using he
  rw [hn]
  go_enter Tryd.func37, Tryd.ntmps37
  go_wp2
  go_ret
  exact ⟨rfl, rfl⟩
set_option maxHeartbeats 400000 in
theorem refnum_zero (s : ByteArray) (most : Int) (w : World) (h0 : 1 < s.size) (h1 : s[0].toNat = 48) (hs : s.size ≤ maxLen) : Calls Tryd.prog 37 #[.string s, .int .i64 most] w fun e w' => e = .returned (.int .i64 (Pu.refNum s.data.toList most)) ∧ w' = w := by
  unfold maxLen at hs
  have he := nonempty_of (s := s) (by omega)
  have hn : Pu.refNum s.data.toList most = -1 := by
    unfold Pu.refNum; rw [if_pos]; right; refine ⟨?_, by simpa using h0⟩
    rw [head_of (by omega)]; congr 1; exact UInt8.toNat_inj.1 h1
  rw [hn]
  have hp : 0 < s.size := by omega
  have hb : ((s[0].toNat : Int) == 48) = true := by rw [beq_iff_eq]; omega
  clear h1
  go_enter Tryd.func37, Tryd.ntmps37
  go_wp2
  go_ret
  exact ⟨rfl, rfl⟩
set_option maxHeartbeats 1000000 in
theorem refnum_loop (s : ByteArray) (most : Int) (w : World) (hp : 0 < s.size) (h1 : s[0].toNat = 48 → s.size = 1) (hs : s.size ≤ maxLen) (hm : 0 ≤ most) (hm2 : most ≤ 100000) :
    Calls Tryd.prog 37 #[.string s, .int .i64 most] w fun e w' => e = .returned (.int .i64 (Pu.refNum s.data.toList most)) ∧ w' = w := by
  unfold maxLen at hs
  have he := nonempty_of (s := s) (by omega)
  have hn : Pu.refNum s.data.toList most = Pu.rd most 0 s.data.toList := by
    unfold Pu.refNum; rw [if_neg]; rintro (h | ⟨h, h'⟩)
    · rw [ByteArray.toList_eq, h] at he; simp at he
    · rw [head_of hp] at h
      have := h1 (by injection h with h; rw [h]; rfl)
      simp at h'; omega
  rw [hn]
  generalize hD : Pu.rd most 0 s.data.toList = D
  have HD : Hid (Pu.rd most 0 s.data.toList = D) := hD
  clear hD hn
  have hor : (((s[0].toNat : Int) == 48) = true ∧ s.size ≤ 1) ∨ ((s[0].toNat : Int) == 48) = false := by
    by_cases h : s[0].toNat = 48
    · left; exact ⟨by rw [beq_iff_eq]; omega, by have := h1 h; omega⟩
    · right; rw [beq_eq_false_iff_ne]; omega
  clear h1
  rcases hor with ⟨hb, hl⟩ | hb
  all_goals
    go_enter Tryd.func37, Tryd.ntmps37
    go_wp2
    go_loop [5, 6] (fun v i => ∃ (k : Nat) (n : Int), k ≤ s.size ∧ i = .int .i64 k ∧ v = .int .i64 n ∧ 0 ≤ n ∧ n ≤ 10 * most + 9 ∧ Hid (Pu.rd most n (s.data.toList.drop k) = D)) (fun _ i => s.size - (intOf i).toNat)
    case atStart => exact ⟨0, 0, Nat.zero_le _, rfl, rfl, by omega, by omega, HD⟩
    case round =>
      obtain ⟨k, n, hk, rfl, rfl, hn0, hn1, HK⟩ := hrel
      by_cases hlt : k < s.size
      · have HC : Hid (Pu.rd most n (s[k] :: s.data.toList.drop (k + 1)) = D) := by rw [← Pu.drop_cons s k hlt]; exact HK
        have hlti : (k : Int) < (s.size : Int) := by omega
        clear HK
        go_wp2
        all_goals first
          | (go_round; (case rel => exact ⟨k + 1, 10 * n + ((s[k].toNat : Int) - 48), by omega, by go_num, rfl, by omega, by omega, by rw [← HC.out]; show _ = Pu.rd _ _ _; rw [Pu.rd, if_neg (by omega)]⟩); (case measure => simp [intOf]; omega))
          | (go_ret; have e : D = -1 := by rw [← HC.out, Pu.rd, if_pos (by omega)]
             rw [e]; exact ⟨rfl, rfl⟩)
      · have hlti : ¬ (k : Int) < (s.size : Int) := by omega
        have e : (if most < n then (-1 : Int) else n) = D := by rw [← HK.out, List.drop_of_length_le (by simp; omega)]; rfl
        by_cases hgt : most < n
        · rw [if_pos hgt] at e
          have E : Hid ((-1 : Int) = D) := e
          clear e HK
          go_wp2
          go_ret
          exact ⟨by rw [← E.out]; rfl, rfl⟩
        · rw [if_neg hgt] at e
          have E : Hid (n = D) := e
          clear e HK
          go_wp2
          go_ret
          exact ⟨by rw [← E.out]; rfl, rfl⟩
/-- The reference's number reads as package number does. -/
theorem refnum_any (s : ByteArray) (most : Int) (w : World) (hs : s.size ≤ maxLen) (hm : 0 ≤ most) (hm2 : most ≤ 100000) :
    Calls Tryd.prog 37 #[.string s, .int .i64 most] w fun e w' => e = .returned (.int .i64 (Pu.toRef most (Pu.num s.data.toList))) ∧ w' = w := by
  rw [← Pu.refNum_eq _ hm hm2]
  by_cases h0 : s.size = 0
  · exact refnum_empty s most w h0
  · have hp : 0 < s.size := by omega
    by_cases h1 : s[0].toNat = 48 ∧ 1 < s.size
    · exact refnum_zero s most w h1.2 h1.1 hs
    · exact refnum_loop s most w hp (fun h => by have h3 : ¬ 1 < s.size := fun h' => h1 ⟨h, h'⟩
                                                 omega) hs hm hm2
#print axioms refnum_any
end Go.Proofs.YtdogncjcainhlaaDoor
