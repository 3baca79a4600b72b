/- Plain: labels by an order tell how far it is, and none can be left out. No program in it. -/
import Derived.Test.YtdogncjcainhlaaDoorPlain
import Derived.Test.YtdogncjcainhlaaDoorLeast
namespace Go.Proofs.YtdogncjcainhlaaDoor.Pu

theorem nodup_le : ∀ (n : Nat) (l : List Nat), l.Nodup → (∀ m ∈ l, m < n) → l.length ≤ n
  | 0, l, _, h => by
    cases l with
    | nil => simp
    | cons a r => exact absurd (h a (by simp)) (by omega)
  | n + 1, l, hd, h => by
    have h1 := nodup_le n (l.erase n) (hd.erase n) (fun m hm => by
      have := (List.Nodup.mem_erase_iff hd).1 hm
      have := h m this.2
      omega)
    by_cases c : n ∈ l
    · rw [List.length_erase_of_mem c] at h1; omega
    · rw [List.erase_of_not_mem c] at h1; omega
theorem Perm.mem {n : Nat} {O : List Nat} (h : Perm n O) {v : Nat} (hv : v < n) : v ∈ O := by
  by_cases c : v ∈ O
  · exact c
  · have := nodup_le n (v :: O) (List.nodup_cons.2 ⟨c, h.nodup⟩) (fun m hm => by
      rcases List.mem_cons.1 hm with rfl | hm
      · exact hv
      · exact h.lt m hm)
    have := h.len
    simp at *
    omega
theorem Perm.at' {n : Nat} {O : List Nat} (h : Perm n O) {v : Nat} (hv : v < n) : ∃ j : Nat, O[j]? = some v := List.mem_iff_getElem?.1 (h.mem hv)
theorem nodup_get {O : List Nat} (h : O.Nodup) {i j x : Nat} (hi : O[i]? = some x) (hj : O[j]? = some x) : i = j := by
  obtain ⟨h1, h2⟩ := List.getElem?_eq_some_iff.1 hi
  obtain ⟨h3, h4⟩ := List.getElem?_eq_some_iff.1 hj
  have hp := List.pairwise_iff_getElem.1 h
  rcases Nat.lt_trichotomy i j with c | c | c
  · exact absurd (h2.trans h4.symm) (hp i j h1 h3 c)
  · exact c
  · exact absurd (h4.trans h2.symm) (hp j i h3 h1 c)
theorem mem_take {O : List Nat} {j m : Nat} : m ∈ O.take j ↔ ∃ i, i < j ∧ O[i]? = some m := by
  rw [List.mem_iff_getElem?]
  constructor
  · rintro ⟨i, hi⟩
    have hl := (List.getElem?_eq_some_iff.1 hi).1
    rw [List.length_take] at hl
    rw [List.getElem?_take_of_lt (by omega)] at hi
    exact ⟨i, by omega, hi⟩
  · rintro ⟨i, h1, h2⟩
    exact ⟨i, by rw [List.getElem?_take_of_lt h1]; exact h2⟩

/-- All that is known of a map's table and an order. -/
structure Cov (n : Nat) (len D : Nat → Nat → Int) (O : List Nat) : Prop where
  net : Net n len
  dist : ∀ i, i < n → Dist n len i (D i)
  perm : Perm n O
variable {n : Nat} {len D : Nat → Nat → Int} {O : List Nat}
theorem Cov.sym (C : Cov n len D O) {i j : Nat} (hi : i < n) (hj : j < n) : D i j = D j i := Dist.sym C.net hj hi (C.dist i hi) (C.dist j hj)
theorem Cov.rng (C : Cov n len D O) {i j : Nat} (hi : i < n) (hj : j < n) : D i j = -1 ∨ (0 ≤ D i j ∧ D i j ≤ 40000) := (C.dist i hi).rng j hj
theorem Cov.tri (C : Cov n len D O) {i x k : Nat} (hi : i < n) (hx : x < n) (hk : k < n) (h1 : D i x ≠ -1) (h2 : D x k ≠ -1) : 0 ≤ D i k ∧ D i k ≤ D i x + D x k :=
  Dist.tri C.net C.dist hi hx hk (by have := C.rng hi hx; omega) (by have := C.rng hx hk; omega)
theorem Cov.zero (C : Cov n len D O) {v m : Nat} (hv : v < n) (hm : m < n) (h : D v m = 0) : m = v := by
  by_cases c : m = v
  · exact c
  · obtain ⟨p, _, h1, h2, h3⟩ := (C.dist v hv).pre m hm c (by omega)
    have := C.net.lens.rng p m
    omega
theorem lies_iff {a m b : Nat} : lies D a m b = true ↔ D a m ≠ -1 ∧ D m b ≠ -1 ∧ D a m + D m b = D a b := by unfold lies; rw [decide_eq_true_iff]
theorem lies_no {a m b : Nat} : lies D a m b = false ↔ ¬ (D a m ≠ -1 ∧ D m b ≠ -1 ∧ D a m + D m b = D a b) := by unfold lies; rw [decide_eq_false_iff_not]
/-- What lies between a and what lies between a and b lies between a and b. -/
theorem Cov.into (C : Cov n len D O) {a m h b : Nat} (ha : a < n) (hm : m < n) (hh : h < n) (hb : b < n) (h1 : lies D a m h = true) (h2 : lies D a h b = true) : lies D a m b = true := by
  rw [lies_iff] at h1 h2 ⊢
  have t1 := C.tri hm hh hb h1.2.1 h2.2.1
  have t2 := C.tri ha hm hb h1.1 (by omega)
  exact ⟨h1.1, by omega, by omega⟩
theorem Cov.back (C : Cov n len D O) {a m b : Nat} (ha : a < n) (hm : m < n) (hb : b < n) (h : lies D a m b = true) : lies D b m a = true := by
  rw [lies_iff] at h ⊢
  rw [C.sym hb hm, C.sym hm ha, C.sym hb ha]
  exact ⟨h.2.1, h.1, by omega⟩

theorem Cov.lab (C : Cov n len D O) {x : Rd} : x ∈ labP D O n ↔ ∃ v j h, v < n ∧ h < n ∧ O[j]? = some h ∧ isHub D v h (O.take j) = true ∧ x = (v, h, D v h) := by
  rw [labP_mem]
  constructor
  · rintro ⟨v, j, h, h1, h2, h3⟩; exact ⟨v, j, h, h1, C.perm.lt h (List.mem_of_getElem? h2), h2, h3⟩
  · rintro ⟨v, j, h, h1, _, h2, h3⟩; exact ⟨v, j, h, h1, h2, h3⟩
theorem Cov.selfHub (C : Cov n len D O) {v j : Nat} (hv : v < n) (hj : O[j]? = some v) : isHub D v v (O.take j) = true := by
  have h0 := (C.dist v hv).f0
  refine isHub_iff.2 ⟨by omega, fun m hm => ?_⟩
  obtain ⟨i, h1, h2⟩ := mem_take.1 hm
  have hmn := C.perm.lt m (List.mem_of_getElem? h2)
  rw [lies_no]
  rintro ⟨a, b, c⟩
  have r1 := C.rng hv hmn
  have r2 := C.rng hmn hv
  have e := C.zero hv hmn (by omega)
  subst e
  have := nodup_get C.perm.nodup h2 hj
  omega
theorem Cov.self (C : Cov n len D O) {v : Nat} (hv : v < n) : (v, v, (0 : Int)) ∈ labP D O n := by
  obtain ⟨j, hj⟩ := C.perm.at' hv
  exact C.lab.2 ⟨v, j, v, hv, hv, hj, C.selfHub hv hj, by rw [(C.dist v hv).f0]⟩
theorem Cov.each (C : Cov n len D O) {v h : Nat} {f : Int} (hx : (v, h, f) ∈ labP D O n) : v < n ∧ h < n ∧ f = D v h ∧ D v h ≠ -1 ∧ 0 ≤ f ∧ f ≤ 40000 := by
  obtain ⟨v', j, h', h1, h2, _, h3, h4⟩ := C.lab.1 hx
  simp only [Prod.mk.injEq] at h4
  obtain ⟨rfl, rfl, rfl⟩ := h4
  have h5 := (isHub_iff.1 h3).1
  have := C.rng h1 h2
  exact ⟨h1, h2, rfl, h5, by omega, by omega⟩
theorem Cov.many (C : Cov n len D O) : ∀ p, p ≤ n → p ≤ (labP D O p).length
  | 0, _ => Nat.zero_le _
  | p + 1, hp => by
    have h1 := C.many p (by omega)
    obtain ⟨j, hj⟩ := C.perm.at' (show p < n by omega)
    have h2 : (p, p, D p p) ∈ labK D O p O.length := (labK_mem _).2 ⟨j, p, (List.getElem?_eq_some_iff.1 hj).1, hj, C.selfHub (by omega) hj, rfl⟩
    have h3 := List.length_pos_of_mem h2
    rw [labP, List.length_append]; omega
/-- By any common hub it is as far as it is, or farther. -/
theorem Cov.low (C : Cov n len D O) {o : Int} {u v : Nat} {s : Int} (h : Through (labP D O n) o u v s) : u < n ∧ v < n ∧ D u v ≠ -1 ∧ D u v ≤ s := by
  obtain ⟨i, j, g, f, f', h1, h2, _, _, h3⟩ := h
  have e1 := C.each (List.mem_of_getElem? h1)
  have e2 := C.each (List.mem_of_getElem? h2)
  have t := C.tri e1.1 e1.2.1 e2.1 e1.2.2.2.1 (by rw [C.sym e1.2.1 e2.1]; exact e2.2.2.2.1)
  rw [C.sym e1.2.1 e2.1] at t
  exact ⟨e1.1, e2.1, by omega, by omega⟩
/-- There is a common hub that lies between. -/
theorem Cov.hits (C : Cov n len D O) {u v : Nat} (hu : u < n) (hv : v < n) (hd : D u v ≠ -1) : Through (labP D O n) (-1) u v (D u v) := by
  have hmin : ∀ (k j h : Nat), j ≤ k → O[j]? = some h → lies D u h v = true → ∃ (j' h' : Nat), O[j']? = some h' ∧ lies D u h' v = true ∧ ∀ m ∈ O.take j', lies D u m v = false := by
    intro k
    induction k with
    | zero =>
      intro j h hj h1 h2
      exact ⟨j, h, h1, h2, fun m hm => by obtain ⟨i, h3, _⟩ := mem_take.1 hm; omega⟩
    | succ k ih =>
      intro j h hj h1 h2
      by_cases c : ∃ m ∈ O.take j, lies D u m v = true
      · obtain ⟨m, hm, h3⟩ := c
        obtain ⟨i, h4, h5⟩ := mem_take.1 hm
        exact ih i m (by omega) h5 h3
      · exact ⟨j, h, h1, h2, fun m hm => by
          cases e : lies D u m v with
          | false => rfl
          | true => exact absurd ⟨m, hm, e⟩ c⟩
  obtain ⟨ju, hju⟩ := C.perm.at' hu
  have h0 := (C.dist u hu).f0
  obtain ⟨j, h, hj, hl, hno⟩ := hmin ju ju u (Nat.le_refl _) hju (lies_iff.2 ⟨by omega, hd, by omega⟩)
  have hh := C.perm.lt h (List.mem_of_getElem? hj)
  have hl' := lies_iff.1 hl
  have m1 : (u, h, D u h) ∈ labP D O n := C.lab.2 ⟨u, j, h, hu, hh, hj, isHub_iff.2 ⟨hl'.1, fun m hm => by
    have hmn := C.perm.lt m (List.mem_of_mem_take hm)
    cases e : lies D u m h with
    | false => rfl
    | true => have := C.into hu hmn hh hv e hl; rw [hno m hm] at this; cases this⟩, rfl⟩
  have m2 : (v, h, D v h) ∈ labP D O n := C.lab.2 ⟨v, j, h, hv, hh, hj, isHub_iff.2 ⟨by rw [C.sym hv hh]; exact hl'.2.1, fun m hm => by
    have hmn := C.perm.lt m (List.mem_of_mem_take hm)
    cases e : lies D v m h with
    | false => rfl
    | true =>
      have h1 := C.into hv hmn hh hu e (C.back hu hh hv hl)
      have h2 := C.back hv hmn hu h1
      rw [hno m hm] at h2; cases h2⟩, rfl⟩
  obtain ⟨i1, k1⟩ := List.mem_iff_getElem?.1 m1
  obtain ⟨i2, k2⟩ := List.mem_iff_getElem?.1 m2
  exact ⟨i1, i2, h, _, _, k1, k2, by omega, by omega, by rw [C.sym hv hh]; exact hl'.2.2.symm⟩
/-- By the labels it is as far as it is. -/
theorem Cov.tells (C : Cov n len D O) {u v : Nat} (hu : u < n) (hv : v < n) {b : Int} (h : Best (Through (labP D O n) (-1) u v) b) : b = D u v := by
  by_cases hd : D u v = -1
  · rcases h with ⟨h1, _⟩ | ⟨h1, _⟩
    · omega
    · have := (C.low h1).2.2.1; omega
  · have hh := C.hits hu hv hd
    rcases h with ⟨_, h2⟩ | ⟨h1, _, h2⟩
    · exact absurd hh (h2 _)
    · have := h2 _ hh
      have := (C.low h1).2.2.2
      omega
theorem labP_sorted : ∀ p, (labP D O p).Pairwise (fun x y => x.1 ≤ y.1)
  | 0 => by simp [labP]
  | p + 1 => by
    rw [labP, List.pairwise_append]
    refine ⟨labP_sorted p, ?_, fun x hx y hy => ?_⟩
    · have h : ∀ x ∈ labK D O p O.length, x.1 = p := fun x hx => by
        obtain ⟨j, h, _, _, _, rfl⟩ := (labK_mem _).1 hx; rfl
      exact List.pairwise_of_forall_mem_list (fun a ha b hb => by rw [h a ha, h b hb]; exact Nat.le_refl _)
    · obtain ⟨v, _, _, h1, _, _, rfl⟩ := (labP_mem _).1 hx
      obtain ⟨_, _, _, _, _, rfl⟩ := (labK_mem _).1 hy
      show v ≤ p; omega
theorem labK_apart (hO : O.Nodup) {v : Nat} : ∀ k, (labK D O v k).Pairwise (fun x y => x.1 ≠ y.1 ∨ x.2.1 ≠ y.2.1)
  | 0 => by simp [labK]
  | k + 1 => by
    rw [labK, List.pairwise_append]
    refine ⟨labK_apart hO k, ?_, fun x hx y hy => ?_⟩
    · split
      · simp
      · split <;> simp
    · obtain ⟨j, h, h1, h2, _, rfl⟩ := (labK_mem _).1 hx
      right
      cases e : O[k]? with
      | none => rw [e] at hy; simp at hy
      | some z =>
        rw [e] at hy
        simp only at hy
        split at hy
        · rw [List.mem_singleton] at hy
          subst hy
          intro c
          simp only at c
          subst c
          have := nodup_get hO h2 e
          omega
        · simp at hy
theorem labP_apart (hO : O.Nodup) : ∀ p, (labP D O p).Pairwise (fun x y => x.1 ≠ y.1 ∨ x.2.1 ≠ y.2.1)
  | 0 => by simp [labP]
  | p + 1 => by
    rw [labP, List.pairwise_append]
    refine ⟨labP_apart hO p, labK_apart hO _, fun x hx y hy => ?_⟩
    obtain ⟨v, _, _, h1, _, _, rfl⟩ := (labP_mem _).1 hx
    obtain ⟨_, _, _, _, _, rfl⟩ := (labK_mem _).1 hy
    left; show v ≠ p; omega
theorem Cov.one (C : Cov n len D O) {i j v h : Nat} {f f' : Int} (hi : (labP D O n)[i]? = some (v, h, f)) (hj : (labP D O n)[j]? = some (v, h, f')) : i = j := by
  obtain ⟨a1, a2⟩ := List.getElem?_eq_some_iff.1 hi
  obtain ⟨b1, b2⟩ := List.getElem?_eq_some_iff.1 hj
  have hp := List.pairwise_iff_getElem.1 (labP_apart (D := D) C.perm.nodup n)
  rcases Nat.lt_trichotomy i j with c | c | c
  · have := hp i j a1 b1 c
    rw [a2, b2] at this
    simp at this
  · exact c
  · have := hp j i b1 a1 c
    rw [a2, b2] at this
    simp at this
theorem labP_rising {i a b c d : Nat} {f f' : Int} (hi : (labP D O n)[i]? = some (a, b, f)) (hj : (labP D O n)[i + 1]? = some (c, d, f')) : a ≤ c := by
  obtain ⟨a1, a2⟩ := List.getElem?_eq_some_iff.1 hi
  obtain ⟨b1, b2⟩ := List.getElem?_eq_some_iff.1 hj
  have hp := List.pairwise_iff_getElem.1 (labP_sorted (D := D) (O := O) n) i (i + 1) a1 b1 (by omega)
  rw [a2, b2] at hp
  exact hp
/-- No label can be left out. -/
theorem Cov.needed (C : Cov n len D O) {k v h : Nat} {f b : Int} (hk : (labP D O n)[k]? = some (v, h, f)) (hb : Best (Through (labP D O n) (k : Int) v h) b) : b < 0 ∨ f < b := by
  rcases hb with ⟨h1, _⟩ | ⟨h1, h0, _⟩
  · left; omega
  · right
    have lo := C.low h1
    obtain ⟨e1, e2, e3, e4, _, _⟩ := C.each (List.mem_of_getElem? hk)
    by_cases c : D v h = b
    · exfalso
      obtain ⟨i, j, g, x, y, k1, k2, k3, k4, k5⟩ := h1
      have x1 := C.each (List.mem_of_getElem? k1)
      have y1 := C.each (List.mem_of_getElem? k2)
      obtain ⟨v', jh, h', _, _, q1, q2, q3⟩ := C.lab.1 (List.mem_of_getElem? hk)
      simp only [Prod.mk.injEq] at q3
      obtain ⟨rfl, rfl, _⟩ := q3
      obtain ⟨v'', jg, g', _, _, r1, r2, r3⟩ := C.lab.1 (List.mem_of_getElem? k2)
      simp only [Prod.mk.injEq] at r3
      obtain ⟨rfl, rfl, _⟩ := r3
      have hs := C.sym x1.2.1 e2
      have hgl : lies D v g h = true := lies_iff.2 ⟨x1.2.2.2.1, by rw [hs]; exact y1.2.2.2.1, by rw [hs]; omega⟩
      rcases Nat.lt_trichotomy jg jh with c1 | c1 | c1
      · have := (isHub_iff.1 q2).2 g (mem_take.2 ⟨jg, c1, r1⟩)
        rw [hgl] at this; cases this
      · subst c1
        rw [q1] at r1
        cases r1
        exact k3 (by rw [C.one k1 hk])
      · have h00 := (C.dist h e2).f0
        have := (isHub_iff.1 r2).2 h (mem_take.2 ⟨jh, c1, q1⟩)
        rw [lies_no] at this
        exact this ⟨by omega, y1.2.2.2.1, by omega⟩
    · omega
#print axioms Cov.needed
end Go.Proofs.YtdogncjcainhlaaDoor.Pu
