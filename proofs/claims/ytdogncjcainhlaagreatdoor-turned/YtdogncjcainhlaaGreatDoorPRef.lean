/- Plain: the reference reads a map's text as the document has it. No program in it. -/
import Derived.Test.YtdogncjcainhlaaGreatDoorRNum
import Derived.Test.YtdogncjcainhlaaGreatDoorPlain
namespace Go.Proofs.YtdogncjcainhlaaGreatDoor.Pu

theorem toRef_bd {l : List UInt8} {most : Int} : toRef most (num l) = -1 ∨ (0 ≤ toRef most (num l) ∧ toRef most (num l) ≤ most) := by
  cases h : num l with
  | none => left; rfl
  | some v =>
    have := num_bd h
    show (if most < v then (-1 : Int) else v) = -1 ∨ _
    unfold toRef
    simp only
    split <;> omega
theorem within_ref (l : List UInt8) {lo hi : Int} (h0 : 0 ≤ lo) (r : Int) (hr : toRef hi (num l) = r) : within l lo hi = if r < lo then none else some r := by
  subst hr
  unfold within
  cases h : num l with
  | none => show none = if (-1 : Int) < lo then none else _; rw [if_pos (by omega)]
  | some v =>
    have := num_bd h
    unfold toRef
    simp only
    by_cases c : hi < v
    · rw [if_pos (by omega), if_pos c, if_pos (by omega)]
    · rw [if_neg c]
      by_cases d : v < lo
      · rw [if_pos (by omega), if_pos d]
      · rw [if_neg (by omega), if_neg d]
/-- A road's line, as the reference reads it. -/
theorem ref_road {l a b c : List UInt8} {n u v x : Int} (h : cuts 32 l = [a, b, c]) (hu : toRef (n - 1) (num a) = u) (hv : toRef (n - 1) (num b) = v) (hx : toRef 1000 (num c) = x) :
    road l n = if u < 0 ∨ v ≤ u ∨ x < 1 then none else some (u, v, x) := by
  rw [road_three h, within_ref b (by omega) v hv]
  have bu := toRef_bd (l := a) (most := n - 1)
  have bv := toRef_bd (l := b) (most := n - 1)
  rw [hu] at bu
  rw [hv] at bv
  have eu : ∀ v', v' = v → 0 ≤ v → within a 0 (v' - 1) = if u < 0 ∨ v ≤ u then none else some u := by
    rintro v' rfl h0
    rw [within_ref a (by omega) _ rfl]
    rw [← hu]
    cases hn : num a with
    | none =>
      show (if (-1 : Int) < 0 then none else some (-1 : Int)) = if (-1 : Int) < 0 ∨ v' ≤ (-1 : Int) then none else some (-1 : Int)
      rw [if_pos (by omega), if_pos (by omega)]
    | some z =>
      have hz := num_bd hn
      unfold toRef
      simp only
      by_cases c1 : v' - 1 < z
      · rw [if_pos c1, if_pos (by omega)]
        by_cases c2 : n - 1 < z
        · rw [if_pos c2, if_pos (by omega)]
        · rw [if_neg c2, if_pos (by omega)]
      · rw [if_neg c1, if_neg (by omega), if_neg (show ¬ n - 1 < z by omega), if_neg (by omega)]
  by_cases c1 : v < 0
  · rw [if_pos c1, if_pos (by omega)]
  · rw [if_neg c1]
    simp only
    rw [eu v rfl (by omega)]
    by_cases c2 : u < 0 ∨ v ≤ u
    · rw [if_pos c2, if_pos (by omega)]
    · rw [if_neg c2]
      simp only
      rw [within_ref c (by omega) x hx]
      by_cases c3 : x < 1
      · rw [if_pos c3, if_pos (by omega)]
      · rw [if_neg c3, if_neg (by omega)]

theorem lay_push_twice {len len' : Nat → Nat → Int} {u v : Nat} {x : Int} : ∀ (acc : List Rd) (i : Nat), lay len acc i = .inr len' → len' u v ≠ 0 → lay len (acc ++ [(u, v, x)]) i = .inl (i + acc.length)
  | [], i, h, h0 => by
    rw [lay] at h; cases h
    show lay len [(u, v, x)] i = _
    rw [lay_twice h0]; rfl
  | (a, b, c) :: acc, i, h, h0 => by
    by_cases e : len a b = 0
    · rw [lay_go e] at h
      show lay len ((a, b, c) :: (acc ++ [(u, v, x)])) i = _
      rw [lay_go e, lay_push_twice acc (i + 1) h h0]
      simp; omega
    · rw [lay_twice e] at h; cases h
theorem lay_push_no {r : Rd} {j : Nat} : ∀ (acc : List Rd) (i : Nat) (len : Nat → Nat → Int), lay len acc i = .inl j → lay len (acc ++ [r]) i = .inl j
  | [], i, len, h => by rw [lay] at h; cases h
  | (a, b, c) :: acc, i, len, h => by
    by_cases e : len a b = 0
    · rw [lay_go e] at h
      show lay len ((a, b, c) :: (acc ++ [r])) i = _
      rw [lay_go e]
      exact lay_push_no acc (i + 1) _ h
    · rw [lay_twice e] at h
      show lay len ((a, b, c) :: (acc ++ [r])) i = _
      rw [lay_twice e]; exact h

/-- What the reference knows of the roads acc: laid all (0), or the line of the first that was there already. -/
def LaySt (acc : List Rd) (t : Nat) (len : Nat → Nat → Int) : Prop := (lay (fun _ _ => 0) acc 0 = .inr len ∧ t = 0) ∨ ∃ j, lay (fun _ _ => 0) acc 0 = .inl j ∧ t = j + 1
theorem LaySt.zero : LaySt [] 0 (fun _ _ => 0) := Or.inl ⟨rfl, rfl⟩
theorem LaySt.step {acc : List Rd} {t u v : Nat} {x : Int} {len : Nat → Nat → Int} (h : LaySt acc t len) (hpos : 0 ≤ len u v ∨ t ≠ 0) : LaySt (acc ++ [(u, v, x)]) (if 0 < len u v ∧ t = 0 then acc.length + 1 else t) (layLen len u v x) := by
  rcases h with ⟨h, rfl⟩ | ⟨j, h, rfl⟩
  · by_cases c : 0 < len u v
    · rw [if_pos ⟨c, rfl⟩]
      exact Or.inr ⟨acc.length, by rw [lay_push_twice acc 0 h (by omega)]; simp, rfl⟩
    · rw [if_neg (fun d => c d.1)]
      exact Or.inl ⟨lay_push acc 0 h (by omega), rfl⟩
  · rw [if_neg (fun d => by omega)]
    exact Or.inr ⟨j, lay_push_no acc 0 _ h, rfl⟩
theorem parse_long {l : List UInt8} (h : 4000 < l.length ∨ 200 < l.count 10) : parse l = .err 1 0 := by unfold parse; rw [if_pos h]
theorem parse_cut {l a : List UInt8} {t : List (List UInt8)} (h : ¬ (4000 < l.length ∨ 200 < l.count 10)) (hc : cuts 10 l = a :: t) : parse l = parseRows a t := by unfold parse; rw [if_neg h, hc]
theorem rows_none {a : List UInt8} {t : List (List UInt8)} (h : toRef 40 (num a) < 1) : parseRows a t = .err 2 0 := by
  unfold parseRows; rw [within_ref a (by omega) _ rfl, if_pos h]
theorem rows_some {a : List UInt8} {t : List (List UInt8)} {n : Nat} (h : toRef 40 (num a) = n) (h1 : 1 ≤ n) : parseRows a t = match roads n t 0 with
    | .inl i => .err 2 ((i : Int) + 1)
    | .inr rs => match lay (fun _ _ => 0) rs 0 with
      | .inl i => .err 3 ((i : Int) + 1)
      | .inr len => .ok n rs.length len := by
  unfold parseRows; rw [within_ref a (by omega) _ h, if_neg (by omega)]; rfl
end Go.Proofs.YtdogncjcainhlaaGreatDoor.Pu
