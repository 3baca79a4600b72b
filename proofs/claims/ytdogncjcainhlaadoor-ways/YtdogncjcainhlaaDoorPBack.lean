/- A town's text, read, is the town. Plain: no program in it. -/
import Derived.Test.YtdogncjcainhlaaDoorPTown
namespace Go.Proofs.YtdogncjcainhlaaDoor
namespace Pu
open Mem

theorem dig_toNat {m : Nat} (h : m < 10) : (48 + m).toUInt8.toNat = 48 + m := by simp; omega
/-- All signs of a number's text are digits. -/
theorem dec_digits (n : Nat) : ∀ c ∈ dec n, 48 ≤ c.toNat ∧ c.toNat ≤ 57 := by
  induction n using Nat.strongRecOn with
  | ind n ih =>
    by_cases h : n < 10
    · rw [dec_low h]; intro c hc; rw [List.mem_singleton] at hc; subst hc; rw [dig_toNat h]; omega
    · rw [dec_high h]; intro c hc
      rcases List.mem_append.1 hc with hc | hc
      · exact ih (n / 10) (by omega) c hc
      · rw [List.mem_singleton] at hc; subst hc; rw [dig_toNat (by omega)]; omega
theorem dec_ne (n : Nat) : dec n ≠ [] := by
  by_cases h : n < 10
  · rw [dec_low h]; simp
  · rw [dec_high h]; simp
/-- A number that is not 0 begins with another sign than 0. -/
theorem dec_head (n : Nat) (h0 : 0 < n) : (dec n).head? ≠ some 48 := by
  induction n using Nat.strongRecOn with
  | ind n ih =>
    by_cases h : n < 10
    · rw [dec_low h]
      simp only [List.head?_cons, ne_eq, Option.some.injEq]
      intro c
      have := congrArg UInt8.toNat c
      rw [dig_toNat h] at this
      have e : (48 : UInt8).toNat = 48 := rfl
      omega
    · rw [dec_high h]
      have := ih (n / 10) (by omega) (by omega)
      cases e : dec (n / 10) with
      | nil => exact absurd e (dec_ne _)
      | cons a l => rw [e] at this; simpa using this
theorem digs_append : ∀ (l : List UInt8) (n m : Int) (r : List UInt8), digs n l = some m → digs n (l ++ r) = digs m r
  | [], n, m, r, h => by simp [digs] at h; subst h; rfl
  | c :: l, n, m, r, h => by
    rw [digs] at h
    show digs n (c :: (l ++ r)) = _
    rw [digs]
    split at h
    · cases h
    · rename_i h1
      split at h
      · cases h
      · rename_i h2
        rw [if_neg h1, if_neg h2]; exact digs_append l _ m r h
theorem digs_dec (n : Nat) (hn : n < 100000) : digs 0 (dec n) = some (n : Int) := by
  induction n using Nat.strongRecOn with
  | ind n ih =>
    by_cases h : n < 10
    · rw [dec_low h, digs_cons _ _ _ (by rw [dig_toNat h]; omega) (by rw [dig_toNat h]; omega) (by rw [dig_toNat h]; omega), dig_toNat h, digs]
      congr 1; omega
    · rw [dec_high h, digs_append _ _ _ _ (ih (n / 10) (by omega) (by omega))]
      have hd := dig_toNat (m := n % 10) (by omega)
      rw [digs_cons _ _ _ (by rw [hd]; omega) (by rw [hd]; omega) (by rw [hd]; omega), hd, digs]
      congr 1; omega
theorem num_dec (n : Nat) (hn : n < 100000) : num (dec n) = some (n : Int) := by
  unfold num
  rw [if_neg, digs_dec n hn]
  rintro (h | ⟨h, h'⟩)
  · exact dec_ne n h
  · by_cases h0 : n = 0
    · subst h0; rw [dec_low (by omega)] at h'; simp at h'
    · exact dec_head n (by omega) h
theorem within_dec {n : Nat} {lo hi : Int} (hn : n < 100000) (h1 : lo ≤ n) (h2 : n ≤ hi) : within (dec n) lo hi = some (n : Int) := by
  unfold within; rw [num_dec n hn]; simp only; rw [if_neg (by omega)]

/-- A text without c is one piece. -/
theorem cuts_free {c : UInt8} : ∀ l : List UInt8, (∀ x ∈ l, x ≠ c) → cuts c l = [l]
  | [], _ => rfl
  | x :: l, h => by rw [cuts_other l (h x (by simp)) (cuts_free l (fun y hy => h y (by simp [hy])))]
theorem cuts_step {c : UInt8} : ∀ (l r : List UInt8), (∀ x ∈ l, x ≠ c) → cuts c (l ++ c :: r) = l :: cuts c r
  | [], r, _ => cuts_same c r
  | x :: l, r, h => by
    show cuts c (x :: (l ++ c :: r)) = _
    rw [cuts_other _ (h x (by simp)) (cuts_step l r (fun y hy => h y (by simp [hy])))]
theorem dec_no {n : Nat} {c : UInt8} (hc : c.toNat < 48) : ∀ x ∈ dec n, x ≠ c := by
  intro x hx e; subst e; have := dec_digits n x hx; omega
theorem cuts_road (r : Rd) : cuts 32 (roadLine r) = [dec r.1, dec r.2.1, dec r.2.2.toNat] := by
  unfold roadLine
  rw [cuts_step _ _ (dec_no (by decide)), cuts_step _ _ (dec_no (by decide)), cuts_free _ (dec_no (by decide))]
theorem road_back {n : Nat} {r : Rd} (hn : n ≤ 14) (h : RdOk n r) : road (roadLine r) (n : Int) = some ((r.1 : Int), (r.2.1 : Int), r.2.2) := by
  obtain ⟨h1, h2, h3, h4⟩ := h
  rw [road_three (cuts_road r), within_dec (n := r.2.1) (by omega) (by omega) (by omega)]
  simp only
  rw [within_dec (n := r.1) (by omega) (by omega) (by omega)]
  simp only
  rw [within_dec (n := r.2.2.toNat) (by omega) (by omega) (by omega)]
  simp only [Option.some.injEq, Prod.mk.injEq, true_and]
  omega
theorem roadLine_no {r : Rd} : ∀ x ∈ roadLine r, x ≠ 10 := by
  intro x hx
  unfold roadLine at hx
  have no : ∀ n, ∀ y ∈ dec n, y ≠ 10 := fun n => dec_no (by decide)
  rcases List.mem_append.1 hx with h | h
  · exact no _ _ h
  · rcases List.mem_cons.1 h with h | h
    · subst h; decide
    · rcases List.mem_append.1 h with h | h
      · exact no _ _ h
      · rcases List.mem_cons.1 h with h | h
        · subst h; decide
        · exact no _ _ h
theorem cuts_lines : ∀ (acc : List Rd) (l : List UInt8), (∀ x ∈ l, x ≠ 10) → cuts 10 (l ++ acc.flatMap fun r => 10 :: roadLine r) = l :: acc.map roadLine
  | [], l, h => by simp; exact cuts_free l h
  | r :: acc, l, h => by
    rw [List.flatMap_cons, List.cons_append, cuts_step l _ h, cuts_lines acc (roadLine r) roadLine_no]; rfl
theorem roads_back {n : Nat} (hn : n ≤ 14) : ∀ (acc : List Rd) (i : Nat), (∀ r ∈ acc, RdOk n r) → roads (n : Int) (acc.map roadLine) i = .inr acc
  | [], i, _ => rfl
  | r :: acc, i, h => by
    have hr := h r (by simp)
    rw [List.map_cons, roads, road_back hn hr, roads_back hn acc (i + 1) (fun r' h' => h r' (by simp [h']))]
    simp
theorem count_lines (n : Nat) (acc : List Rd) : (townText n acc).count 10 = acc.length := by
  have h := cuts_length 10 (townText n acc)
  rw [townText_eq, cuts_lines acc (dec n) (dec_no (by decide))] at h
  rw [townText_eq]; simp only [List.length_cons, List.length_map] at h; omega
/-- What is read of a town's text is the town. -/
theorem parse_back {n : Nat} {acc : List Rd} {len : Nat → Nat → Int} (h1 : 1 ≤ n) (hn : n ≤ 14) (hok : ∀ r ∈ acc, RdOk n r) (hac : acc.length ≤ 60) (hl : lay (fun _ _ => 0) acc 0 = .inr len) : parse (townText n acc) = .ok n acc.length len := by
  unfold parse
  have hlen := townText_le hn acc hok
  rw [if_neg (by rw [count_lines]; omega)]
  have hc : cuts 10 (townText n acc) = dec n :: acc.map roadLine := by rw [townText_eq]; exact cuts_lines acc (dec n) (dec_no (by decide))
  rw [hc]
  show parseRows (dec n) (acc.map roadLine) = _
  unfold parseRows
  rw [within_dec (n := n) (by omega) (by omega) (by omega)]
  simp only
  rw [roads_back hn acc 0 hok]
  simp only
  rw [hl]
  simp
/-- How far it is is told by one answer alone. -/
theorem Dist.unique {n : Nat} {len : Nat → Nat → Int} {s : Nat} {f g : Nat → Int} (L : Lens len) (hf : Dist n len s f) (hg : Dist n len s g) : ∀ j, j < n → f j = g j := by
  have le : ∀ {f g : Nat → Int}, Dist n len s f → Dist n len s g → ∀ (k : Nat) (j : Nat), j < n → 0 ≤ f j → f j ≤ k → 0 ≤ g j ∧ g j ≤ f j := by
    intro f g hf hg k
    induction k with
    | zero =>
      intro j hj h0 hk
      by_cases e : j = s
      · subst e; have := hg.f0; have := hf.f0; omega
      · obtain ⟨i, hi, h1, h2, h3⟩ := hf.pre j hj e h0
        have := L.rng i j; omega
    | succ k ih =>
      intro j hj h0 hk
      by_cases e : j = s
      · subst e; have := hg.f0; have := hf.f0; omega
      · obtain ⟨i, hi, h1, h2, h3⟩ := hf.pre j hj e h0
        have hl := L.rng i j
        have h4 := ih i hi h1 (by omega)
        have h5 := hg.ed i j hi hj h4.1 h2
        omega
  intro j hj
  rcases hf.rng j hj with h | h
  · rcases hg.rng j hj with h' | h'
    · rw [h, h']
    · have := le hg hf (g j).toNat j hj h'.1 (by omega); omega
  · have h1 := le hf hg (f j).toNat j hj h.1 (by omega)
    have h2 := le hg hf (g j).toNat j hj h1.1 (by omega)
    omega
end Pu
end Go.Proofs.YtdogncjcainhlaaDoor
