/- A text cut at a byte. Plain: no program in it. -/
import Derived.Lib.Split
import Derived.Shelf.Strings.Split
import Derived.Test.YtdogncjcainhlaaDoorPNum
namespace Go.Proofs.YtdogncjcainhlaaDoor
namespace Pu

/-- A text cut at each byte c. -/
def cuts (c : UInt8) : List UInt8 → List (List UInt8)
  | [] => [[]]
  | x :: r => if x = c then [] :: cuts c r else match cuts c r with
    | [] => [[x]]
    | h :: t => (x :: h) :: t
theorem cuts_ne (c : UInt8) : ∀ l, ∃ h t, cuts c l = h :: t
  | [] => ⟨[], [], rfl⟩
  | x :: r => by
    rw [cuts]
    split
    · exact ⟨_, _, rfl⟩
    · obtain ⟨h, t, e⟩ := cuts_ne c r; rw [e]; exact ⟨_, _, rfl⟩
theorem cuts_same (c : UInt8) (r : List UInt8) : cuts c (c :: r) = [] :: cuts c r := by rw [cuts, if_pos rfl]
theorem cuts_other {c x : UInt8} (r : List UInt8) (hx : x ≠ c) {h : List UInt8} {t : List (List UInt8)} (e : cuts c r = h :: t) : cuts c (x :: r) = (x :: h) :: t := by rw [cuts, if_neg hx, e]
theorem cuts_length (c : UInt8) : ∀ l : List UInt8, (cuts c l).length = l.count c + 1
  | [] => rfl
  | x :: r => by
    have ih := cuts_length c r
    by_cases hx : x = c
    · subst hx; rw [cuts_same]; simp [ih]
    · obtain ⟨h, t, e⟩ := cuts_ne c r
      rw [cuts_other r hx e]; rw [e] at ih
      rw [List.count_cons_of_ne hx]; simpa using ih
theorem cuts_le (c : UInt8) : ∀ (l p : List UInt8), p ∈ cuts c l → p.length ≤ l.length
  | [], p, h => by simp [cuts] at h; simp [h]
  | x :: r, p, hp => by
    have ih := cuts_le c r
    by_cases hx : x = c
    · subst hx; rw [cuts_same] at hp
      rcases List.mem_cons.1 hp with rfl | hp
      · simp
      · have := ih p hp; simp; omega
    · obtain ⟨h, t, e⟩ := cuts_ne c r
      rw [cuts_other r hx e] at hp
      rcases List.mem_cons.1 hp with rfl | hp
      · have := ih h (by rw [e]; simp); simp; omega
      · have := ih p (by rw [e]; simp [hp]); simp; omega
theorem cuts_miss (c : UInt8) : ∀ l : List UInt8, Lib.indexByte l c = -1 → cuts c l = [l]
  | [], _ => rfl
  | x :: r, h => by
    rw [Lib.indexByte] at h
    split at h
    · omega
    · rename_i hx
      have hx' : x ≠ c := by simpa using hx
      split at h
      · rename_i g
        rw [cuts_other r hx' (cuts_miss c r (by simpa using g))]
      · have := Lib.indexByte_ge r c; rename_i g; simp at g; omega
theorem cuts_hit (c : UInt8) : ∀ (l : List UInt8) (i : Nat), Lib.indexByte l c = i → cuts c l = l.take i :: cuts c (l.drop (i + 1))
  | [], i, h => by simp [Lib.indexByte] at h
  | x :: r, i, h => by
    rw [Lib.indexByte] at h
    split at h
    · rename_i hx
      have hx' : x = c := by simpa using hx
      subst hx'
      obtain rfl : i = 0 := by omega
      rw [cuts_same]; simp
    · rename_i hx
      have hx' : x ≠ c := by simpa using hx
      split at h
      · omega
      · obtain ⟨k, rfl⟩ : ∃ k, i = k + 1 := ⟨i - 1, by have := Lib.indexByte_ge r c; rename_i g; simp at g; omega⟩
        rw [cuts_other r hx' (cuts_hit c r k (by omega))]; simp
theorem splitK_cuts (c : UInt8) : ∀ (n : Nat) (l : List UInt8), l.length ≤ n → Lib.splitK [c] 0 (Lib.count l [c]) l = cuts c l
  | n, l, hn => by
    have hi := Lib.index_one l c
    by_cases h : Lib.indexByte l c = -1
    · rw [Lib.count_miss (by rw [hi]; exact h), cuts_miss c l h]; rfl
    · have hge := Lib.indexByte_ge l c
      obtain ⟨i, e⟩ : ∃ i : Nat, Lib.indexByte l c = i := ⟨(Lib.indexByte l c).toNat, by omega⟩
      rw [Lib.count_hit (by simp) (hi.trans e), Nat.add_comm, cuts_hit c l i e, Lib.splitK, if_neg (by rw [hi, e]; simp)]
      have e2 : (Lib.index l [c]).toNat = i := by rw [hi, e]; simp
      rw [e2]
      match n, l, hn with
      | 0, [], _ => simp [Lib.indexByte] at e
      | n + 1, l, hn =>
        have hlen : (l.drop (i + 1)).length ≤ n := by
          cases l with
          | nil => simp
          | cons x r => simp at hn ⊢; omega
        have ih := splitK_cuts c n (l.drop (i + 1)) hlen
        simp only [Nat.add_zero, List.length_singleton]
        rw [ih]

/-- The pieces, as the library cuts them. -/
def pieces (c : UInt8) (s : ByteArray) : List ByteArray := Lib.splitB ⟨#[c]⟩ 0 (Lib.countB s ⟨#[c]⟩) s
theorem pieces_data (c : UInt8) (s : ByteArray) : (pieces c s).map (·.data.toList) = cuts c s.data.toList := by
  unfold pieces
  rw [Lib.splitB_data]
  exact splitK_cuts c s.data.toList.length s.data.toList (Nat.le_refl _)
theorem pieces_length (c : UInt8) (s : ByteArray) : (pieces c s).length = Lib.countB s ⟨#[c]⟩ + 1 := Lib.splitB_all ⟨#[c]⟩ (Nat.le_refl 1) 0 _ s rfl
theorem pieces_count (c : UInt8) (s : ByteArray) : (pieces c s).length = s.data.toList.count c + 1 := by
  rw [← cuts_length, ← pieces_data]; simp
theorem pieces_size {c : UInt8} {s p : ByteArray} (h : p ∈ pieces c s) : p.size ≤ s.size := by
  have : p.data.toList ∈ cuts c s.data.toList := by rw [← pieces_data]; exact List.mem_map_of_mem h
  have := cuts_le c _ _ this
  simpa using this

/-- A road's line: two places, the first the lesser one, and a length. -/
def road (l : List UInt8) (n : Int) : Option (Int × Int × Int) := match cuts 32 l with
  | [a, b, c] => match within b 0 (n - 1) with
    | none => none
    | some v => match within a 0 (v - 1) with
      | none => none
      | some u => match within c 1 1000 with
        | none => none
        | some x => some (u, v, x)
  | _ => none
theorem road_ne {l : List UInt8} {n : Int} (h : (cuts 32 l).length ≠ 3) : road l n = none := by
  unfold road
  split
  · rename_i e; rw [e] at h; simp at h
  · rfl
theorem road_three {l : List UInt8} {n : Int} {a b c : List UInt8} (h : cuts 32 l = [a, b, c]) : road l n = match within b 0 (n - 1) with
    | none => none
    | some v => match within a 0 (v - 1) with
      | none => none
      | some u => match within c 1 1000 with
        | none => none
        | some x => some (u, v, x) := by unfold road; rw [h]
theorem road_some {l : List UInt8} {n u v x : Int} (h : road l n = some (u, v, x)) : 0 ≤ u ∧ u < v ∧ v < n ∧ 1 ≤ x ∧ x ≤ 1000 := by
  unfold road at h
  split at h
  · split at h
    · cases h
    · rename_i v' hv
      split at h
      · cases h
      · rename_i u' hu
        split at h
        · cases h
        · rename_i x' hx
          simp only [Option.some.injEq, Prod.mk.injEq] at h
          obtain ⟨rfl, rfl, rfl⟩ := h
          have h1 := within_some hv; have h2 := within_some hu; have h3 := within_some hx
          omega
  · cases h
end Pu
end Go.Proofs.YtdogncjcainhlaaDoor
