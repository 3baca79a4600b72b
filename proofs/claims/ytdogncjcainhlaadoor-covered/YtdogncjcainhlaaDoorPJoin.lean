/- Plain: an order's text, written and read back. No program in it. -/
import Derived.Test.YtdogncjcainhlaaDoorPBack
import Derived.Test.YtdogncjcainhlaaDoorPOrd
namespace Go.Proofs.YtdogncjcainhlaaDoor.Pu

/-- Places behind a first one, a blank ahead of each. -/
def tailT : List Nat → List UInt8
  | [] => []
  | a :: r => 32 :: (dec a ++ tailT r)
/-- Places with a blank between each two. -/
def joinT : List Nat → List UInt8
  | [] => []
  | a :: r => dec a ++ tailT r
theorem tailT_snoc : ∀ (l : List Nat) (x : Nat), tailT (l ++ [x]) = tailT l ++ 32 :: dec x
  | [], x => by simp [tailT]
  | a :: r, x => by
    show 32 :: (dec a ++ tailT (r ++ [x])) = 32 :: (dec a ++ tailT r) ++ 32 :: dec x
    rw [tailT_snoc r x]; simp
theorem joinT_one (x : Nat) : joinT [x] = dec x := by simp [joinT, tailT]
theorem joinT_snoc {l : List Nat} (h : l ≠ []) (x : Nat) : joinT (l ++ [x]) = joinT l ++ 32 :: dec x := by
  cases l with
  | nil => exact absurd rfl h
  | cons a r =>
    show dec a ++ tailT (r ++ [x]) = dec a ++ tailT r ++ 32 :: dec x
    rw [tailT_snoc]; simp
theorem joinT_len : ∀ l : List Nat, (∀ m ∈ l, m < 100) → (joinT l).length ≤ 5 * l.length
  | [], _ => by simp [joinT]
  | a :: r, h => by
    have aux : ∀ l : List Nat, (∀ m ∈ l, m < 100) → (tailT l).length ≤ 5 * l.length := by
      intro l
      induction l with
      | nil => intro _; simp [tailT]
      | cons b r ih =>
        intro h
        have h1 := dec_len4 (n := b) (by have := h b (by simp); omega)
        have h2 := ih (fun m hm => h m (by simp [hm]))
        simp only [tailT, List.length_cons, List.length_append]; omega
    have h1 := dec_len4 (n := a) (by have := h a (by simp); omega)
    have h2 := aux r (fun m hm => h m (by simp [hm]))
    simp only [joinT, List.length_append, List.length_cons]; omega
theorem joinT_pos {l : List Nat} (h : l ≠ []) : 0 < (joinT l).length := by
  cases l with
  | nil => exact absurd rfl h
  | cons a r =>
    have := List.length_pos_iff.2 (dec_ne a)
    simp only [joinT, List.length_append]; omega
theorem cuts_join : ∀ (a : Nat) (r : List Nat), cuts 32 (joinT (a :: r)) = (a :: r).map dec
  | a, [] => by rw [joinT_one]; exact cuts_free _ (dec_no (by decide))
  | a, b :: r => by
    show cuts 32 (dec a ++ 32 :: (dec b ++ tailT r)) = _
    rw [cuts_step _ _ (dec_no (by decide))]
    rw [show dec b ++ tailT r = joinT (b :: r) from rfl, cuts_join b r]
    rfl
theorem ordGo_back {n : Nat} (hn : n ≤ 40) : ∀ (l acc : List Nat), (acc ++ l).Nodup → (∀ m ∈ l, m < n) → ordGo n (l.map dec) acc = some (acc ++ l)
  | [], acc, _, _ => by simp [ordGo]
  | a :: r, acc, hd, hlt => by
    have ha := hlt a (by simp)
    have hna : ¬ a ∈ acc := by
      intro c
      rw [List.nodup_append] at hd
      exact hd.2.2 a c a (by simp) rfl
    rw [List.map_cons, ordGo_next (x := a) (within_dec (by omega) (by omega) (by omega)) hna, ordGo_back hn r (acc ++ [a]) (by simpa using hd) (fun m hm => hlt m (by simp [hm]))]
    simp
/-- The text of an order is read back. -/
theorem order_back {n : Nat} {O : List Nat} (hn1 : 1 ≤ n) (hn : n ≤ 40) (h : Perm n O) : order n (joinT O) = some O := by
  cases O with
  | nil => have := h.len; simp at this; omega
  | cons a r =>
    unfold order
    rw [cuts_join, if_pos (by rw [List.length_map]; exact h.len), ordGo_back hn (a :: r) [] (by simpa using h.nodup) h.lt]
    rfl
/-- What is left when the place number k is taken out. -/
theorem take_out {l : List Nat} {k x : Nat} (hk : l[k]? = some x) : (l.take k ++ l.drop (k + 1)).length + 1 = l.length ∧ ∀ acc : List Nat, (acc ++ l).Nodup → (acc ++ [x] ++ (l.take k ++ l.drop (k + 1))).Nodup := by
  have hlt := (List.getElem?_eq_some_iff.1 hk).1
  have hx := (List.getElem?_eq_some_iff.1 hk).2
  have hl : l = l.take k ++ x :: l.drop (k + 1) := by rw [← hx, ← List.drop_eq_getElem_cons hlt, List.take_append_drop]
  refine ⟨by simp; omega, fun acc h => ?_⟩
  have hp : (acc ++ l).Perm (acc ++ [x] ++ (l.take k ++ l.drop (k + 1))) := by
    rw [List.append_assoc]
    refine List.Perm.append_left acc ?_
    have h2 : l.Perm (x :: (l.take k ++ l.drop (k + 1))) := by
      have h3 : (l.take k ++ x :: l.drop (k + 1)).Perm (x :: (l.take k ++ l.drop (k + 1))) := List.perm_middle
      rw [← hl] at h3; exact h3
    exact h2
  exact hp.nodup_iff.1 h
end Go.Proofs.YtdogncjcainhlaaDoor.Pu
