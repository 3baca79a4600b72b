/- Reading the bytes of a store back: counts, labels, the whole: no program in it. -/
import Derived.Test.YtdogncjcainhlaaDoorPStore
namespace Go.Proofs.YtdogncjcainhlaaDoor
namespace Pu

/-- The count at the front, and how many bytes it has. -/
def cntR : List UInt8 → Option (Nat × Nat)
  | [] => none
  | a :: r => if a.toNat < 128 then some (a.toNat, 1) else
    match r with
    | [] => none
    | b :: q => if b.toNat < 128 then (if b.toNat = 0 then none else some (a.toNat - 128 + 128 * b.toNat, 2)) else
      match q with
      | [] => none
      | c :: _ => if c.toNat = 0 ∨ 127 < c.toNat then none else some (a.toNat - 128 + 128 * (b.toNat - 128) + 16384 * c.toNat, 3)
theorem toNat_ofNat8 {x : Nat} (h : x < 256) : (UInt8.ofNat x).toNat = x := by simp; omega
theorem ofNat_toNat8 (a : UInt8) {x : Nat} (h : x = a.toNat) : UInt8.ofNat x = a := by subst h; simp
/-- A count that was written is read back. -/
theorem cntR_back {n : Nat} (hn : n < 2097152) (r : List UInt8) : cntR (countB n ++ r) = some (n, (countB n).length) := by
  unfold countB
  split
  · rename_i h
    simp only [List.cons_append, List.nil_append, cntR, toNat_ofNat8 (show n < 256 by omega), if_pos h, List.length_cons, List.length_nil]
  · rename_i h
    split
    · rename_i h2
      simp only [List.cons_append, List.nil_append, cntR, toNat_ofNat8 (show 128 + n % 128 < 256 by omega), toNat_ofNat8 (show n / 128 < 256 by omega)]
      rw [if_neg (by omega), if_pos (by omega), if_neg (by omega)]
      simp only [List.length_cons, List.length_nil, Option.some.injEq, Prod.mk.injEq]
      exact ⟨by omega, trivial⟩
    · rename_i h2
      simp only [List.cons_append, List.nil_append, cntR, toNat_ofNat8 (show 128 + n % 128 < 256 by omega), toNat_ofNat8 (show 128 + n / 128 % 128 < 256 by omega), toNat_ofNat8 (show n / 16384 < 256 by omega)]
      rw [if_neg (by omega), if_neg (by omega), if_neg (by omega)]
      simp only [List.length_cons, List.length_nil, Option.some.injEq, Prod.mk.injEq]
      exact ⟨by omega, trivial⟩
/-- What is read as a count is one that was written. -/
theorem cntR_some {l : List UInt8} {n k : Nat} (h : cntR l = some (n, k)) : n < 2097152 ∧ k = (countB n).length ∧ l = countB n ++ l.drop k := by
  unfold cntR at h
  split at h
  · exact absurd h (by simp)
  · rename_i a r
    have ha := a.toNat_lt
    split at h
    · rename_i h1
      injection h with h; injection h with e1 e2
      subst e1 e2
      have : countB a.toNat = [a] := by unfold countB; rw [if_pos h1, ofNat_toNat8 a rfl]
      rw [this]
      exact ⟨by omega, rfl, rfl⟩
    · rename_i h1
      split at h
      · exact absurd h (by simp)
      · rename_i b q
        have hb := b.toNat_lt
        split at h
        · rename_i h2
          split at h
          · exact absurd h (by simp)
          · rename_i h3
            injection h with h; injection h with e1 e2
            subst e1 e2
            have : countB (a.toNat - 128 + 128 * b.toNat) = [a, b] := by
              unfold countB
              rw [if_neg (by omega), if_pos (by omega), ofNat_toNat8 a (by omega), ofNat_toNat8 b (by omega)]
            rw [this]
            exact ⟨by omega, rfl, rfl⟩
        · rename_i h2
          split at h
          · exact absurd h (by simp)
          · rename_i c q2
            split at h
            · exact absurd h (by simp)
            · rename_i h3
              injection h with h; injection h with e1 e2
              subst e1 e2
              have : countB (a.toNat - 128 + 128 * (b.toNat - 128) + 16384 * c.toNat) = [a, b, c] := by
                unfold countB
                rw [if_neg (by omega), if_neg (by omega), ofNat_toNat8 a (by omega), ofNat_toNat8 b (by omega), ofNat_toNat8 c (by omega)]
              rw [this]
              exact ⟨by omega, rfl, rfl⟩
theorem cntR_pos {l : List UInt8} {n k : Nat} (h : cntR l = some (n, k)) : 1 ≤ k ∧ k ≤ 3 ∧ k ≤ l.length := by
  obtain ⟨_, h2, h3⟩ := cntR_some h
  have := countB_len n
  have h4 := congrArg List.length h3
  rw [List.length_append, List.length_drop] at h4
  omega
theorem count_inj {a b : Nat} (ha : a < 2097152) (hb : b < 2097152) {r s : List UInt8} (h : countB a ++ r = countB b ++ s) : a = b ∧ r = s := by
  have h1 := cntR_back ha r
  rw [h, cntR_back hb s] at h1
  injection h1 with h1; injection h1 with e1 e2
  subst e1
  exact ⟨rfl, List.append_cancel_left h⟩

/-- All bytes, as counts. -/
def flatB (ns : List Nat) : List UInt8 := ns.flatMap countB
def Small (ns : List Nat) : Prop := ∀ n ∈ ns, n < 2097152
def cnts : Nat → List UInt8 → Option (List Nat)
  | _, [] => some []
  | 0, _ :: _ => none
  | f + 1, a :: l => match cntR (a :: l) with
    | none => none
    | some (n, k) => match cnts f ((a :: l).drop k) with
      | none => none
      | some ns => some (n :: ns)
theorem countB_cons (n : Nat) : ∃ a r, countB n = a :: r := by
  have := countB_len n
  cases h : countB n with
  | nil => rw [h] at this; simp at this
  | cons a r => exact ⟨a, r, rfl⟩
theorem flat_inj : ∀ {a b : List Nat}, Small a → Small b → flatB a = flatB b → a = b
  | [], [], _, _, _ => rfl
  | [], n :: b, _, _, h => by
    obtain ⟨x, r, e⟩ := countB_cons n
    simp [flatB, e] at h
  | n :: a, [], _, _, h => by
    obtain ⟨x, r, e⟩ := countB_cons n
    simp [flatB, e] at h
  | n :: a, m :: b, ha, hb, h => by
    simp only [flatB, List.flatMap_cons] at h
    obtain ⟨e1, e2⟩ := count_inj (ha n (by simp)) (hb m (by simp)) h
    rw [e1, flat_inj (fun x hx => ha x (by simp [hx])) (fun x hx => hb x (by simp [hx])) e2]
theorem cnts_some : ∀ (f : Nat) {l : List UInt8} {ns : List Nat}, cnts f l = some ns → Small ns ∧ l = flatB ns
  | _, [], ns, h => by
    simp only [cnts, Option.some.injEq] at h
    subst h
    exact ⟨fun n hn => by simp at hn, rfl⟩
  | 0, a :: l, ns, h => by simp [cnts] at h
  | f + 1, a :: l, ns, h => by
    unfold cnts at h
    split at h
    · exact absurd h (by simp)
    · rename_i n k hc
      split at h
      · exact absurd h (by simp)
      · rename_i ms hm
        injection h with h
        subst h
        obtain ⟨h1, h2⟩ := cnts_some f hm
        obtain ⟨c1, c2, c3⟩ := cntR_some hc
        refine ⟨fun x hx => ?_, ?_⟩
        · rcases List.mem_cons.1 hx with rfl | hx
          · exact c1
          · exact h1 x hx
        · rw [flatB, List.flatMap_cons, ← flatB, ← h2]; exact c3
theorem cnts_back : ∀ (ns : List Nat) (f : Nat), Small ns → (flatB ns).length ≤ f → cnts f (flatB ns) = some ns
  | [], f, _, _ => by cases f <;> rfl
  | n :: ns, f, hs, hf => by
    obtain ⟨a, r, e⟩ := countB_cons n
    have e1 : flatB (n :: ns) = a :: (r ++ flatB ns) := by rw [flatB, List.flatMap_cons, e]; rfl
    rw [e1] at hf ⊢
    cases f with
    | zero => simp at hf
    | succ f =>
      have hb := cntR_back (hs n (by simp)) (flatB ns)
      rw [e] at hb
      simp only [List.cons_append] at hb
      have hl : ((a :: (r ++ flatB ns)).drop (a :: r).length) = flatB ns := by
        rw [← List.cons_append, List.drop_left]
      unfold cnts
      rw [hb]
      simp only [hl]
      rw [cnts_back ns f (fun x hx => hs x (by simp [hx])) (by simp at hf; omega)]
/-- The hubs that counts tell, so many places being ahead. -/
def unflat : Nat → List Nat → List (Nat × Int)
  | x, g :: f :: t => (x + g, (f : Int)) :: unflat (x + g + 1) t
  | _, _ => []
theorem unflat_B : ∀ (k : Nat) (x : Nat) (t : List Nat), t.length = 2 * k → hubsB x (unflat x t) = flatB t ∧ (unflat x t).length = k
  | 0, x, t, h => by
    have : t = [] := List.eq_nil_of_length_eq_zero (by omega)
    subst this
    exact ⟨rfl, rfl⟩
  | k + 1, x, t, h => by
    match t, h with
    | g :: f :: t, h =>
      obtain ⟨h1, h2⟩ := unflat_B k (x + g + 1) t (by simp at h; omega)
      refine ⟨?_, by rw [unflat, List.length_cons, h2]⟩
      rw [unflat, hubsB, h1, flatB, flatB, List.flatMap_cons, List.flatMap_cons, show x + g - x = g by omega, Int.toNat_natCast, List.append_assoc]
    | [g], h => simp at h; omega
    | [], h => simp at h
/-- Ranks rise, and all is small enough for counts. -/
def Rise : Nat → List (Nat × Int) → Prop
  | _, [] => True
  | x, (r, f) :: t => x ≤ r ∧ r - x < 2097152 ∧ 0 ≤ f ∧ f < 2097152 ∧ Rise (r + 1) t
theorem unflat_rise : ∀ (k : Nat) (x : Nat) (t : List Nat), t.length = 2 * k → Small t → Rise x (unflat x t)
  | 0, x, t, h, _ => by
    have : t = [] := List.eq_nil_of_length_eq_zero (by omega)
    subst this
    exact trivial
  | k + 1, x, t, h, hs => by
    match t, h, hs with
    | g :: f :: t, h, hs =>
      have h1 := hs g (by simp)
      have h2 := hs f (by simp)
      exact ⟨by omega, by omega, by omega, by omega, unflat_rise k (x + g + 1) t (by simp at h; omega) (fun y hy => hs y (by simp [hy]))⟩
    | [g], h, hs => simp at h; omega
    | [], h, hs => simp at h
def flatH : Nat → List (Nat × Int) → List Nat
  | _, [] => []
  | x, (r, f) :: t => (r - x) :: f.toNat :: flatH (r + 1) t
theorem hubsB_flat : ∀ (l : List (Nat × Int)) (x : Nat), hubsB x l = flatB (flatH x l)
  | [], x => rfl
  | (r, f) :: t, x => by rw [hubsB, hubsB_flat t, flatH, flatB, flatB, List.flatMap_cons, List.flatMap_cons, List.append_assoc]
theorem flatH_len : ∀ (l : List (Nat × Int)) (x : Nat), (flatH x l).length = 2 * l.length
  | [], x => rfl
  | (r, f) :: t, x => by rw [flatH, List.length_cons, List.length_cons, flatH_len t, List.length_cons]; omega
theorem flatH_small : ∀ (l : List (Nat × Int)) (x : Nat), Rise x l → Small (flatH x l)
  | [], x, _ => fun n hn => by simp [flatH] at hn
  | (r, f) :: t, x, ⟨h1, h2, h3, h4, h5⟩ => fun n hn => by
    rcases List.mem_cons.1 hn with rfl | hn
    · exact h2
    · rcases List.mem_cons.1 hn with rfl | hn
      · omega
      · exact flatH_small t (r + 1) h5 n hn
theorem flatH_back : ∀ (l : List (Nat × Int)) (x : Nat), Rise x l → unflat x (flatH x l) = l
  | [], x, _ => rfl
  | (r, f) :: t, x, ⟨h1, h2, h3, h4, h5⟩ => by
    rw [flatH, unflat, show x + (r - x) = r by omega, show ((f.toNat : Nat) : Int) = f by omega, flatH_back t (r + 1) h5]
theorem labB_flat (l : List (Nat × Int)) : labB l = flatB (l.length :: flatH 0 l) := by
  rw [labB, hubsB_flat, flatB, flatB, List.flatMap_cons]
/-- Two labels with the same bytes are the same. -/
theorem labB_inj {a b : List (Nat × Int)} (ha : Rise 0 a) (hb : Rise 0 b) (la : a.length < 2097152) (lb : b.length < 2097152) (h : labB a = labB b) : a = b := by
  rw [labB_flat, labB_flat] at h
  have sm (l : List (Nat × Int)) (h1 : Rise 0 l) (h2 : l.length < 2097152) : Small (l.length :: flatH 0 l) := fun n hn => by
    rcases List.mem_cons.1 hn with rfl | hn
    · exact h2
    · exact flatH_small l 0 h1 n hn
  have e := flat_inj (sm a ha la) (sm b hb lb) h
  injection e with e1 e2
  rw [← flatH_back a 0 ha, ← flatH_back b 0 hb, e2]
/-- A label of a place of this rank. -/
def HubsOk (rank : Nat) : Nat → List (Nat × Int) → Prop
  | _, [] => False
  | x, [(r, f)] => x ≤ r ∧ r = rank ∧ f = 0
  | x, (r, f) :: h :: t => x ≤ r ∧ r < rank ∧ 1 ≤ f ∧ f ≤ 39000 ∧ HubsOk rank (r + 1) (h :: t)
theorem HubsOk.rise {rank : Nat} (hr : rank < 40) : ∀ {l : List (Nat × Int)} {x : Nat}, HubsOk rank x l → Rise x l
  | [], _, h => h.elim
  | [(r, f)], x, ⟨h1, h2, h3⟩ => ⟨h1, by omega, by omega, by omega, trivial⟩
  | (r, f) :: h :: t, x, ⟨h1, h2, h3, h4, h5⟩ => ⟨h1, by omega, by omega, by omega, HubsOk.rise hr h5⟩
theorem HubsOk.len {rank : Nat} : ∀ {l : List (Nat × Int)} {x : Nat}, HubsOk rank x l → x + l.length ≤ rank + 1 ∧ 1 ≤ l.length
  | [], _, h => h.elim
  | [(r, f)], x, ⟨h1, h2, h3⟩ => by simp; omega
  | (r, f) :: h :: t, x, ⟨h1, h2, h3, h4, h5⟩ => by
    have := HubsOk.len h5
    simp only [List.length_cons] at this ⊢
    omega
/-- The bytes, of whole pages, are a store's: this order, these labels. -/
structure Valid (s : List UInt8) (n : Nat) (O : List Nat) (L : Nat → List (Nat × Int)) : Prop where
  n1 : 1 ≤ n
  n40 : n ≤ 40
  len : O.length = n
  lt : ∀ m ∈ O, m < n
  nd : O.Nodup
  lab : ∀ v, v < n → ∃ r, O[r]? = some v ∧ HubsOk r 0 (L v)
  eq : s = pad (heldB O L n)
theorem Valid.rise {s : List UInt8} {n : Nat} {O : List Nat} {L : Nat → List (Nat × Int)} (h : Valid s n O L) {v : Nat} (hv : v < n) : Rise 0 (L v) ∧ 1 ≤ (L v).length ∧ (L v).length ≤ n := by
  obtain ⟨r, h1, h2⟩ := h.lab v hv
  have hr := (List.getElem?_eq_some_iff.1 h1).1
  have := h.len
  have := h.n40
  have h3 := h2.len
  exact ⟨h2.rise (by omega), by omega, by omega⟩
theorem sizesB_flat (L : Nat → List (Nat × Int)) : ∀ n, sizesB L n = flatB ((List.range n).map fun v => (labB (L v)).length)
  | 0 => rfl
  | n + 1 => by rw [sizesB, sizesB_flat L n, List.range_succ, List.map_append, flatB, flatB, List.flatMap_append]; simp
theorem flat_front : ∀ {a b : List Nat} {r s : List UInt8}, a.length = b.length → Small a → Small b → flatB a ++ r = flatB b ++ s → a = b ∧ r = s
  | [], [], _, _, _, _, _, h => ⟨rfl, h⟩
  | [], _ :: _, _, _, hl, _, _, _ => by simp at hl
  | _ :: _, [], _, _, hl, _, _, _ => by simp at hl
  | n :: a, m :: b, r, s, hl, ha, hb, h => by
    simp only [flatB, List.flatMap_cons, List.append_assoc] at h
    obtain ⟨e1, e2⟩ := count_inj (ha n (by simp)) (hb m (by simp)) h
    obtain ⟨e3, e4⟩ := flat_front (by simpa using hl) (fun x hx => ha x (by simp [hx])) (fun x hx => hb x (by simp [hx])) e2
    exact ⟨by rw [e1, e3], e4⟩
theorem labs_front {L M : Nat → List (Nat × Int)} : ∀ (n : Nat) {r s : List UInt8}, (∀ v, v < n → (labB (L v)).length = (labB (M v)).length) → labsB L n ++ r = labsB M n ++ s → (∀ v, v < n → labB (L v) = labB (M v)) ∧ r = s
  | 0, r, s, _, h => ⟨fun v hv => by omega, h⟩
  | n + 1, r, s, hl, h => by
    rw [labsB, labsB, List.append_assoc, List.append_assoc] at h
    obtain ⟨h1, h2⟩ := labs_front n (fun v hv => hl v (by omega)) h
    obtain ⟨h3, h4⟩ := List.append_inj h2 (hl n (by omega))
    refine ⟨fun v hv => ?_, h4⟩
    by_cases e : v = n
    · rw [e]; exact h3
    · exact h1 v (by omega)
theorem map_ofNat_inj : ∀ {a b : List Nat}, (∀ m ∈ a, m < 256) → (∀ m ∈ b, m < 256) → a.map UInt8.ofNat = b.map UInt8.ofNat → a = b
  | [], [], _, _, _ => rfl
  | [], _ :: _, _, _, h => by simp at h
  | _ :: _, [], _, _, h => by simp at h
  | x :: a, y :: b, ha, hb, h => by
    simp only [List.map_cons, List.cons.injEq] at h
    have e := congrArg UInt8.toNat h.1
    rw [toNat_ofNat8 (ha x (by simp)), toNat_ofNat8 (hb y (by simp))] at e
    rw [e, map_ofNat_inj (fun m hm => ha m (by simp [hm])) (fun m hm => hb m (by simp [hm])) h.2]
/-- Bytes are one store at most. -/
theorem Valid.unique {s : List UInt8} {n m : Nat} {O P : List Nat} {L M : Nat → List (Nat × Int)} (h : Valid s n O L) (k : Valid s m P M) : n = m ∧ O = P ∧ ∀ v, v < n → L v = M v := by
  have e : pad (heldB O L n) = pad (heldB P M m) := by rw [← h.eq, ← k.eq]
  have hn1 := h.n1; have hn2 := h.n40; have hm1 := k.n1; have hm2 := k.n40
  simp only [pad, heldB, headB, List.append_assoc, List.cons_append, List.cons.injEq, true_and] at e
  obtain ⟨e1, e2⟩ := e
  have e1 := congrArg UInt8.toNat e1
  have hl := h.len
  have kl := k.len
  rw [toNat_ofNat8 (by omega), toNat_ofNat8 (by omega)] at e1
  have enm : n = m := by omega
  subst enm
  obtain ⟨e3, e4⟩ := List.append_inj e2 (by simp; omega)
  have e5 := map_ofNat_inj (fun m hm => by have := h.lt m hm; omega) (fun m hm => by have := k.lt m hm; omega) e3
  refine ⟨rfl, e5, ?_⟩
  rw [sizesB_flat, sizesB_flat] at e4
  have sm {s : List UInt8} {O : List Nat} {L : Nat → List (Nat × Int)} (h : Valid s n O L) : Small ((List.range n).map fun v => (labB (L v)).length) := by
    intro x hx
    obtain ⟨v, hv, rfl⟩ := List.mem_map.1 hx
    have h1 := (h.rise (List.mem_range.1 hv)).2.2
    have h2 := labB_len (L v)
    omega
  obtain ⟨e6, e7⟩ := flat_front (by simp) (sm h) (sm k) e4
  have hlen : ∀ v, v < n → (labB (L v)).length = (labB (M v)).length := by
    intro v hv
    have := congrArg (fun l => l[v]?) e6
    simpa [hv] using this
  obtain ⟨e8, _⟩ := labs_front n hlen e7
  intro v hv
  obtain ⟨a1, a2, a3⟩ := h.rise hv
  obtain ⟨b1, b2, b3⟩ := k.rise hv
  exact labB_inj a1 b1 (by omega) (by omega) (e8 v hv)
end Pu
end Go.Proofs.YtdogncjcainhlaaDoor
