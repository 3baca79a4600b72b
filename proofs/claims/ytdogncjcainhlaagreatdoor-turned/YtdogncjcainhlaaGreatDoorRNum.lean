/- The walk of the reference's number, and that it reads numbers as package number does. -/
import Derived.Test.YtdogncjcainhlaaGreatDoorPack2
namespace Go.Proofs.YtdogncjcainhlaaGreatDoor
open Go.RowKit
namespace Pu

/-- The rest of a number as the reference reads it. -/
def rd (most : Int) : Int → List UInt8 → Int
  | n, [] => if most < n then -1 else n
  | n, c :: r => if (c.toNat < 48 ∨ 57 < c.toNat) ∨ most < n then -1 else rd most (10 * n + ((c.toNat : Int) - 48)) r
/-- A number from 0 to most; -1: it is none. -/
def refNum (l : List UInt8) (most : Int) : Int := if l = [] ∨ (l.head? = some 48 ∧ 1 < l.length) then -1 else rd most 0 l
/-- What package number makes of the same. -/
def toRef (most : Int) : Option Int → Int
  | none => -1
  | some v => if most < v then -1 else v
theorem digs_ge : ∀ (l : List UInt8) (n v : Int), 0 ≤ n → digs n l = some v → n ≤ v
  | [], n, v, _, h => by simp [digs] at h; omega
  | c :: r, n, v, h0, h => by
    rw [digs] at h
    split at h
    · cases h
    · split at h
      · cases h
      · have := digs_ge r _ v (by omega) h; omega
theorem rd_eq {most : Int} (hm : 0 ≤ most) (hm2 : most ≤ 100000) : ∀ (l : List UInt8) (n : Int), 0 ≤ n → n ≤ 10 * most + 9 → rd most n l = toRef most (digs n l)
  | [], n, h0, h1 => by rw [rd, digs]; rfl
  | c :: r, n, h0, h1 => by
    rw [rd]
    by_cases hb : c.toNat < 48 ∨ 57 < c.toNat
    · rw [if_pos (Or.inl hb), digs_bad n c r hb]; rfl
    · by_cases hn : most < n
      · rw [if_pos (Or.inr hn)]
        cases hd : digs n (c :: r) with
        | none => rfl
        | some v =>
          have := digs_ge _ _ _ h0 hd
          show _ = if most < v then _ else _
          rw [if_pos (by omega)]
      · rw [if_neg (by omega), digs_cons n c r (by omega) (by omega) (by omega), rd_eq hm hm2 r _ (by omega) (by omega)]
        rw [show 10 * n + ((c.toNat : Int) - 48) = n * 10 + ((c.toNat : Int) - 48) by omega]
theorem refNum_eq (l : List UInt8) {most : Int} (hm : 0 ≤ most) (hm2 : most ≤ 100000) : refNum l most = toRef most (num l) := by
  unfold refNum num
  split
  · rfl
  · exact rd_eq hm hm2 l 0 (by omega) (by omega)
end Pu

set_option maxHeartbeats 400000 in
theorem refnum_empty (s : ByteArray) (most : Int) (w : World) (h0 : s.size = 0) : Calls Tryz.prog 106 #[.string s, .int .i64 most] w fun e w' => e = .returned (.int .i64 (Pu.refNum s.data.toList most)) ∧ w' = w := by
  have he := empty_of h0
  have hn : Pu.refNum s.data.toList most = -1 := by
    unfold Pu.refNum; rw [if_pos]; left; rw [ByteArray.toList_eq] at he; simpa using he
  rw [hn]
  go_enter Tryz.func106, Tryz.ntmps106
  go_wp2
  go_ret
  exact ⟨rfl, rfl⟩
set_option maxHeartbeats 400000 in
theorem refnum_zero (s : ByteArray) (most : Int) (w : World) (h0 : 1 < s.size) (h1 : s[0].toNat = 48) (hs : s.size ≤ maxLen) : Calls Tryz.prog 106 #[.string s, .int .i64 most] w fun e w' => e = .returned (.int .i64 (Pu.refNum s.data.toList most)) ∧ w' = w := by
  unfold maxLen at hs
  have he := nonempty_of (s := s) (by omega)
  have hn : Pu.refNum s.data.toList most = -1 := by
    unfold Pu.refNum; rw [if_pos]; right; refine ⟨?_, by simpa using h0⟩
    rw [head_of (by omega)]; congr 1; exact UInt8.toNat_inj.1 h1
  rw [hn]
  have hp : 0 < s.size := by omega
  have hb : ((s[0].toNat : Int) == 48) = true := by rw [beq_iff_eq]; omega
  clear h1
  go_enter Tryz.func106, Tryz.ntmps106
  go_wp2
  go_ret
  exact ⟨rfl, rfl⟩
set_option maxHeartbeats 1000000 in
theorem refnum_loop (s : ByteArray) (most : Int) (w : World) (hp : 0 < s.size) (h1 : s[0].toNat = 48 → s.size = 1) (hs : s.size ≤ maxLen) (hm : 0 ≤ most) (hm2 : most ≤ 100000) :
    Calls Tryz.prog 106 #[.string s, .int .i64 most] w fun e w' => e = .returned (.int .i64 (Pu.refNum s.data.toList most)) ∧ w' = w := by
  unfold maxLen at hs
  have he := nonempty_of (s := s) (by omega)
  have hn : Pu.refNum s.data.toList most = Pu.rd most 0 s.data.toList := by
    unfold Pu.refNum; rw [if_neg]; rintro (h | ⟨h, h'⟩)
    · rw [ByteArray.toList_eq, h] at he; simp at he
    · rw [head_of hp] at h
      have := h1 (by injection h with h; rw [h]; rfl)
      simp at h'; omega
  rw [hn]
  generalize hD : Pu.rd most 0 s.data.toList = D
  have HD : Hid (Pu.rd most 0 s.data.toList = D) := hD
  clear hD hn
  have hor : (((s[0].toNat : Int) == 48) = true ∧ s.size ≤ 1) ∨ ((s[0].toNat : Int) == 48) = false := by
    by_cases h : s[0].toNat = 48
    · left; exact ⟨by rw [beq_iff_eq]; omega, by have := h1 h; omega⟩
    · right; rw [beq_eq_false_iff_ne]; omega
  clear h1
  rcases hor with ⟨hb, hl⟩ | hb
  all_goals
    go_enter Tryz.func106, Tryz.ntmps106
    go_wp2
    go_loop [5, 6] (fun v i => ∃ (k : Nat) (n : Int), k ≤ s.size ∧ i = .int .i64 k ∧ v = .int .i64 n ∧ 0 ≤ n ∧ n ≤ 10 * most + 9 ∧ Hid (Pu.rd most n (s.data.toList.drop k) = D)) (fun _ i => s.size - (intOf i).toNat)
    case atStart => exact ⟨0, 0, Nat.zero_le _, rfl, rfl, by omega, by omega, HD⟩
    case round =>
      obtain ⟨k, n, hk, rfl, rfl, hn0, hn1, HK⟩ := hrel
      by_cases hlt : k < s.size
      · have HC : Hid (Pu.rd most n (s[k] :: s.data.toList.drop (k + 1)) = D) := by rw [← Pu.drop_cons s k hlt]; exact HK
        have hlti : (k : Int) < (s.size : Int) := by omega
        clear HK
        go_wp2
        all_goals first
          | (go_round; (case rel => exact ⟨k + 1, 10 * n + ((s[k].toNat : Int) - 48), by omega, by go_num, rfl, by omega, by omega, by rw [← HC.out]; show _ = Pu.rd _ _ _; rw [Pu.rd, if_neg (by omega)]⟩); (case measure => simp [intOf]; omega))
          | (go_ret; have e : D = -1 := by rw [← HC.out, Pu.rd, if_pos (by omega)]
             rw [e]; exact ⟨rfl, rfl⟩)
      · have hlti : ¬ (k : Int) < (s.size : Int) := by omega
        have e : (if most < n then (-1 : Int) else n) = D := by rw [← HK.out, List.drop_of_length_le (by simp; omega)]; rfl
        by_cases hgt : most < n
        · rw [if_pos hgt] at e
          have E : Hid ((-1 : Int) = D) := e
          clear e HK
          go_wp2
          go_ret
          exact ⟨by rw [← E.out]; rfl, rfl⟩
        · rw [if_neg hgt] at e
          have E : Hid (n = D) := e
          clear e HK
          go_wp2
          go_ret
          exact ⟨by rw [← E.out]; rfl, rfl⟩
/-- The reference's number reads as package number does. -/
theorem refnum_any (s : ByteArray) (most : Int) (w : World) (hs : s.size ≤ maxLen) (hm : 0 ≤ most) (hm2 : most ≤ 100000) :
    Calls Tryz.prog 106 #[.string s, .int .i64 most] w fun e w' => e = .returned (.int .i64 (Pu.toRef most (Pu.num s.data.toList))) ∧ w' = w := by
  rw [← Pu.refNum_eq _ hm hm2]
  by_cases h0 : s.size = 0
  · exact refnum_empty s most w h0
  · have hp : 0 < s.size := by omega
    by_cases h1 : s[0].toNat = 48 ∧ 1 < s.size
    · exact refnum_zero s most w h1.2 h1.1 hs
    · exact refnum_loop s most w hp (fun h => by have h3 : ¬ 1 < s.size := fun h' => h1 ⟨h, h'⟩
                                                 omega) hs hm hm2
#print axioms refnum_any
end Go.Proofs.YtdogncjcainhlaaGreatDoor
