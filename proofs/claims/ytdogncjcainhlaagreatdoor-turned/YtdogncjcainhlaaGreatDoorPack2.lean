/- Pack2: texts of one proof, one behind the other. -/
import Derived.Test.YtdogncjcainhlaaGreatDoorPlain
import Derived.Test.YtdogncjcainhlaaGreatDoorProg
import Derived.WalkKit
import Derived.WalkSpells
import Derived.WalkLawsBesides
/- What bywaykeep.town hands back. -/
namespace Go.Proofs.YtdogncjcainhlaaGreatDoor
open Go.RowKit
open Mem

/-- The raw roads that came in. -/
structure Raw (w : World) (ra : Option Addr) (K : Nat) (raw : Nat → Int × Int × Int) : Prop where
  at' : 0 < K → ∃ rr ro : Nat, ra = some ⟨rr, ro, none⟩ ∧ rr < w.heap.size ∧ ∀ i, i < K → w.cell? ⟨rr, ro + i * 3, none⟩ = some (.int .i64 (raw i).1) ∧ w.cell? ⟨rr, ro + i * 3 + 1, none⟩ = some (.int .i64 (raw i).2.1) ∧ w.cell? ⟨rr, ro + i * 3 + 2, none⟩ = some (.int .i64 (raw i).2.2)
  rng : ∀ i, i < K → -9223372036854775808 ≤ (raw i).1 ∧ (raw i).1 ≤ 9223372036854775807 ∧ -9223372036854775808 ≤ (raw i).2.1 ∧ (raw i).2.1 ≤ 9223372036854775807 ∧ -9223372036854775808 ≤ (raw i).2.2 ∧ (raw i).2.2 ≤ 9223372036854775807

/-- A town of n places with these lengths: its text is read as such a map; the slice v has its rows. -/
structure TownIs (w : World) (B : Nat) (txt : ByteArray) (n R : Nat) (v : Value) (rb : List Nat) (len : Nat → Nat → Int) : Prop where
  n1 : 1 ≤ n
  n2 : n ≤ 14
  size : txt.size ≤ 1000
  parse : Pu.parse txt.data.toList = .ok n R len
  grid : Grid w B n v rb len
  cnt : rb.length = n
theorem TownIs.turns {w w' : World} {B : Nat} {txt : ByteArray} {n R : Nat} {v : Value} {rb : List Nat} {len : Nat → Nat → Int} (h : TownIs w B txt n R v rb len) (t : Turns (fun _ => False) w w') : TownIs w' B txt n R v rb len :=
  ⟨h.n1, h.n2, h.size, h.parse, h.grid.turns t (fun _ _ x => x), h.cnt⟩
theorem TownIs.net {w : World} {B : Nat} {txt : ByteArray} {n R : Nat} {v : Value} {rb : List Nat} {len : Nat → Nat → Int} (h : TownIs w B txt n R v rb len) : Pu.Net n len := (Pu.parse_ok h.parse).2.2.2

theorem TownIs.form {w : World} {B : Nat} {txt : ByteArray} {n R : Nat} {v : Value} {rb : List Nat} {len : Nat → Nat → Int} (h : TownIs w B txt n R v rb len) : ∃ lb cap, v = .slice (some ⟨lb, 0, none⟩) n cap := by
  obtain ⟨lb, cap, hv, _⟩ := h.grid.form (by have := h.cnt; have := h.n1; omega)
  exact ⟨lb, cap, by rw [hv, h.cnt]⟩
/-- The cells of a town's rows. -/
theorem TownIs.cells {w : World} {B : Nat} {txt : ByteArray} {n R lb cap : Nat} {rb : List Nat} {len : Nat → Nat → Int} (h : TownIs w B txt n R (.slice (some ⟨lb, 0, none⟩) n cap) rb len) {i j : Nat} (hi : i < n) (hj : j < n) :
    ∃ r, w.cell? ⟨lb, i, none⟩ = some (.slice (some ⟨r, 0, none⟩) n n) ∧ w.cell? ⟨r, j, none⟩ = some (.int .i64 (len i j)) := by
  obtain ⟨r, hr⟩ : ∃ r, rb[i]? = some r := ⟨_, List.getElem?_eq_getElem (by rw [h.cnt]; exact hi)⟩
  have hg := h.grid
  have hc := h.cnt
  have h1 := hg.row i r hr
  refine ⟨r, ?_, h1.1.cell j hj⟩
  have h2 : Grid w B n (.slice (some ⟨lb, 0, none⟩) rb.length cap) rb len := by rw [hc]; exact hg
  exact h2.cell hr

/-- What town hands back. -/
def TownSaid : Prop := ∀ (w : World) (size : Int) (ra : Option Addr) (K cap : Nat) (raw : Nat → Int × Int × Int), -9223372036854775808 ≤ size → size ≤ 9223372036854775807 → K ≤ 9223372036854775807 → Raw w ra K raw →
  Calls Tryz.prog 7 #[.int .i64 size, .slice ra K cap] w fun e w' => Turns (fun _ => False) w w' ∧ ∃ (txt : ByteArray) (n R : Nat) (v : Value) (rb : List Nat) (len : Nat → Nat → Int), e = .returned (.agg #[.string txt, .int .i64 n, v]) ∧ TownIs w' w.heap.size txt n R v rb len
end Go.Proofs.YtdogncjcainhlaaGreatDoor
/- The walks of package number: Parse reads a number as the document has it; Within holds it against two bounds. -/
namespace Go.Proofs.YtdogncjcainhlaaGreatDoor
open Go.RowKit

theorem ret_nb {a a' : Int} {b b' : Bool} (h : a = a') (g : b = b') : Ending.returned (.tuple #[.int .i64 a, .bool b]) = .returned (.tuple #[.int .i64 a', .bool b']) := by rw [h, g]

theorem empty_of {s : ByteArray} (h : s.size = 0) : s.toList.isEmpty = true := by
  rw [ByteArray.toList_eq]
  have : s.data.toList.length = 0 := by simpa using h
  simp_all
theorem nonempty_of {s : ByteArray} (h : 0 < s.size) : s.toList.isEmpty = false := by
  rw [ByteArray.toList_eq]
  cases e : s.data.toList with
  | nil => have : s.data.toList.length = s.size := by simp
           rw [e] at this; simp at this; omega
  | cons a r => rfl
theorem head_of {s : ByteArray} (h : 0 < s.size) : s.data.toList.head? = some s[0] := by
  rw [List.head?_eq_getElem?, List.getElem?_eq_getElem (by simpa using h)]; rfl

set_option maxHeartbeats 400000 in
theorem parse_empty (s : ByteArray) (w : World) (h0 : s.size = 0) :
    Calls Tryz.prog 125 #[.string s] w fun e w' => e = .returned (.tuple #[.int .i64 ((Pu.num s.data.toList).getD 0), .bool (Pu.num s.data.toList).isSome]) ∧ w' = w := by
  have he := empty_of h0
  have hn : Pu.num s.data.toList = none := by
    unfold Pu.num; rw [if_pos]; left; rw [ByteArray.toList_eq] at he; simpa using he
  rw [hn]
  go_enter Tryz.func125, Tryz.ntmps125
  go_wp2
  go_ret2
  exact ⟨rfl, rfl⟩
set_option maxHeartbeats 400000 in
theorem parse_zero (s : ByteArray) (w : World) (h0 : 1 < s.size) (h1 : s[0].toNat = 48) (hs : s.size ≤ maxLen) :
    Calls Tryz.prog 125 #[.string s] w fun e w' => e = .returned (.tuple #[.int .i64 ((Pu.num s.data.toList).getD 0), .bool (Pu.num s.data.toList).isSome]) ∧ w' = w := by
  unfold maxLen at hs
  have he := nonempty_of (s := s) (by omega)
  have hn : Pu.num s.data.toList = none := by
    unfold Pu.num; rw [if_pos]; right; refine ⟨?_, by simpa using h0⟩
    rw [head_of (by omega)]; congr 1; exact UInt8.toNat_inj.1 h1
  rw [hn]
  have hp : 0 < s.size := by omega
  have hb : ((s[0].toNat : Int) == 48) = true := by rw [beq_iff_eq]; omega
  clear h1
  go_enter Tryz.func125, Tryz.ntmps125
  go_wp2
  go_ret2
  exact ⟨rfl, rfl⟩
set_option maxHeartbeats 1000000 in
theorem parse_loop (s : ByteArray) (w : World) (hp : 0 < s.size) (h1 : s[0].toNat = 48 → s.size = 1) (hs : s.size ≤ maxLen) :
    Calls Tryz.prog 125 #[.string s] w fun e w' => e = .returned (.tuple #[.int .i64 ((Pu.num s.data.toList).getD 0), .bool (Pu.num s.data.toList).isSome]) ∧ w' = w := by
  unfold maxLen at hs
  have he := nonempty_of (s := s) (by omega)
  have hn : Pu.num s.data.toList = Pu.digs 0 s.data.toList := by
    unfold Pu.num; rw [if_neg]; rintro (h | ⟨h, h'⟩)
    · rw [ByteArray.toList_eq, h] at he; simp at he
    · rw [head_of hp] at h
      have := h1 (by injection h with h; rw [h]; rfl)
      simp at h'; omega
  rw [hn]
  generalize hD : Pu.digs 0 s.data.toList = D
  have HD : Hid (Pu.digs 0 s.data.toList = D) := hD
  clear hD hn
  have hor : (((s[0].toNat : Int) == 48) = true ∧ s.size ≤ 1) ∨ ((s[0].toNat : Int) == 48) = false := by
    by_cases h : s[0].toNat = 48
    · left; exact ⟨by rw [beq_iff_eq]; omega, by have := h1 h; omega⟩
    · right; rw [beq_eq_false_iff_ne]; omega
  clear h1
  rcases hor with ⟨hb, hl⟩ | hb
  all_goals
    go_enter Tryz.func125, Tryz.ntmps125
    go_wp2
    go_loop [4, 21] (fun v i => ∃ (k : Nat) (n : Int), k ≤ s.size ∧ i = .int .i64 k ∧ v = .int .i64 n ∧ 0 ≤ n ∧ n ≤ 9223372036854775807 ∧ Hid (Pu.digs n (s.data.toList.drop k) = D)) (fun _ i => s.size - (intOf i).toNat)
    case atStart => exact ⟨0, 0, Nat.zero_le _, rfl, rfl, by omega, by omega, HD⟩
    case round =>
      obtain ⟨k, n, hk, rfl, rfl, hn0, hn1, HK⟩ := hrel
      by_cases hlt : k < s.size
      · have HC : Hid (Pu.digs n (s[k] :: s.data.toList.drop (k + 1)) = D) := by rw [← Pu.drop_cons s k hlt]; exact HK
        clear HK
        go_wp2
        all_goals first
          | (go_round; (case rel => exact ⟨k + 1, n * 10 + ((s[k].toNat : Int) - 48), by omega, by go_num, rfl, by omega, by omega, by rw [← Pu.digs_cons n s[k] _ (by omega) (by omega) (by omega)]; exact HC⟩); (case measure => simp [intOf]; omega))
          | (go_ret2; have e : D = none := by rw [← HC.out]; first | exact Pu.digs_bad _ _ _ (by omega) | exact Pu.digs_big _ _ _ (by omega)
             rw [e]; exact ⟨rfl, rfl⟩)
      · go_wp2
        go_ret2
        have e : D = some n := by rw [← HK.out, List.drop_of_length_le (by simp; omega)]; rfl
        rw [e]; exact ⟨rfl, rfl⟩

theorem parse_any (s : ByteArray) (w : World) (hs : s.size ≤ maxLen) :
    Calls Tryz.prog 125 #[.string s] w fun e w' => e = .returned (.tuple #[.int .i64 ((Pu.num s.data.toList).getD 0), .bool (Pu.num s.data.toList).isSome]) ∧ w' = w := by
  by_cases h0 : s.size = 0
  · exact parse_empty s w h0
  · have hp : 0 < s.size := by omega
    by_cases h1 : s[0].toNat = 48 ∧ 1 < s.size
    · exact parse_zero s w h1.2 h1.1 hs
    · exact parse_loop s w hp (fun h => by have : ¬ 1 < s.size := fun h' => h1 ⟨h, h'⟩
                                           omega) hs

set_option maxHeartbeats 400000 in
theorem within_none (s : ByteArray) (lo hi : Int) (w : World) (hs : s.size ≤ maxLen) (h : Pu.within s.data.toList lo hi = none) :
    Calls Tryz.prog 77 #[.string s, .int .i64 lo, .int .i64 hi] w fun e w' => e = .returned (.tuple #[.int .i64 0, .bool false]) ∧ w' = w := by
  cases hn : Pu.num s.data.toList with
  | none =>
    have c := parse_any s w hs
    rw [hn] at c
    go_enter Tryz.func77, Tryz.ntmps77
    go_wp2_with (go_at_call 125; refine c.mono ?_; rintro e w' ⟨rfl, rfl⟩)
    go_ret2
    exact ⟨rfl, rfl⟩
  | some n =>
    have c := parse_any s w hs
    rw [hn] at c
    have hb := Pu.num_bd hn
    have ho : n < lo ∨ hi < n := by
      unfold Pu.within at h; rw [hn] at h; simp only at h
      split at h
      · assumption
      · cases h
    clear hn h
    rcases ho with ho | ho
    all_goals
      go_enter Tryz.func77, Tryz.ntmps77
      go_wp2_with (go_at_call 125; refine c.mono ?_; rintro e w' ⟨rfl, rfl⟩)
      all_goals go_ret2
      all_goals exact ⟨rfl, rfl⟩
set_option maxHeartbeats 400000 in
theorem within_some (s : ByteArray) (lo hi n : Int) (w : World) (hs : s.size ≤ maxLen) (h : Pu.within s.data.toList lo hi = some n) :
    Calls Tryz.prog 77 #[.string s, .int .i64 lo, .int .i64 hi] w fun e w' => e = .returned (.tuple #[.int .i64 n, .bool true]) ∧ w' = w := by
  obtain ⟨hn, h1, h2⟩ := Pu.within_some h
  have c := parse_any s w hs
  rw [hn] at c
  have hb := Pu.num_bd hn
  clear hn h
  go_enter Tryz.func77, Tryz.ntmps77
  go_wp2_with (go_at_call 125; refine c.mono ?_; rintro e w' ⟨rfl, rfl⟩)
  go_ret2
  exact ⟨rfl, rfl⟩
#print axioms within_some
#print axioms within_none
end Go.Proofs.YtdogncjcainhlaaGreatDoor
