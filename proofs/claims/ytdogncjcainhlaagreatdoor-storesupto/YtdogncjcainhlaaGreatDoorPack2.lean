/- Pack2: texts of one proof, one behind the other. -/
import Derived.Test.YtdogncjcainhlaaGreatDoorPlain
import Derived.Test.YtdogncjcainhlaaGreatDoorProg
import Derived.WalkKit
import Derived.WalkSpells
import Derived.WalkLawsBesides
import Derived.Shelf.Strings.Count
import Derived.Shelf.Strings.Split
import Derived.Laws.ResultCell
import Derived.Test.YtdogncjcainhlaaGreatDoorCards
import Derived.Test.YtdogncjcainhlaaGreatDoorTie
import Derived.ProofKit
import Derived.OpenShut
import Derived.ShutString
import Derived.ChangeOld
import Derived.Below
import Derived.Deep.DeepHandedRow
import Derived.Deep.Strs
import Derived.Lib.LaidTab
import Derived.Shelf.LaysM
import Derived.Deep.AppendLies
import Derived.Deep.RegionWith
import Derived.Laws.BitsAllLaws
import Derived.Deep.RegionHeld3
/- What bywaykeep.town hands back. -/
namespace Go.Proofs.YtdogncjcainhlaaGreatDoor
open Go.RowKit
open Mem

/-- The raw roads that came in. -/
structure Raw (w : World) (ra : Option Addr) (K : Nat) (raw : Nat → Int × Int × Int) : Prop where
  at' : 0 < K → ∃ rr ro : Nat, ra = some ⟨rr, ro, none⟩ ∧ rr < w.heap.size ∧ ∀ i, i < K → w.cell? ⟨rr, ro + i * 3, none⟩ = some (.int .i64 (raw i).1) ∧ w.cell? ⟨rr, ro + i * 3 + 1, none⟩ = some (.int .i64 (raw i).2.1) ∧ w.cell? ⟨rr, ro + i * 3 + 2, none⟩ = some (.int .i64 (raw i).2.2)
  rng : ∀ i, i < K → -9223372036854775808 ≤ (raw i).1 ∧ (raw i).1 ≤ 9223372036854775807 ∧ -9223372036854775808 ≤ (raw i).2.1 ∧ (raw i).2.1 ≤ 9223372036854775807 ∧ -9223372036854775808 ≤ (raw i).2.2 ∧ (raw i).2.2 ≤ 9223372036854775807

/-- A town of n places with these lengths: its text is read as such a map; the slice v has its rows. -/
structure TownIs (w : World) (B : Nat) (txt : ByteArray) (n R : Nat) (v : Value) (rb : List Nat) (len : Nat → Nat → Int) : Prop where
  n1 : 1 ≤ n
  n2 : n ≤ 14
  size : txt.size ≤ 1000
  parse : Pu.parse txt.data.toList = .ok n R len
  grid : Grid w B n v rb len
  cnt : rb.length = n
theorem TownIs.turns {w w' : World} {B : Nat} {txt : ByteArray} {n R : Nat} {v : Value} {rb : List Nat} {len : Nat → Nat → Int} (h : TownIs w B txt n R v rb len) (t : Turns (fun _ => False) w w') : TownIs w' B txt n R v rb len :=
  ⟨h.n1, h.n2, h.size, h.parse, h.grid.turns t (fun _ _ x => x), h.cnt⟩
theorem TownIs.net {w : World} {B : Nat} {txt : ByteArray} {n R : Nat} {v : Value} {rb : List Nat} {len : Nat → Nat → Int} (h : TownIs w B txt n R v rb len) : Pu.Net n len := (Pu.parse_ok h.parse).2.2.2

theorem TownIs.form {w : World} {B : Nat} {txt : ByteArray} {n R : Nat} {v : Value} {rb : List Nat} {len : Nat → Nat → Int} (h : TownIs w B txt n R v rb len) : ∃ lb cap, v = .slice (some ⟨lb, 0, none⟩) n cap := by
  obtain ⟨lb, cap, hv, _⟩ := h.grid.form (by have := h.cnt; have := h.n1; omega)
  exact ⟨lb, cap, by rw [hv, h.cnt]⟩
/-- The cells of a town's rows. -/
theorem TownIs.cells {w : World} {B : Nat} {txt : ByteArray} {n R lb cap : Nat} {rb : List Nat} {len : Nat → Nat → Int} (h : TownIs w B txt n R (.slice (some ⟨lb, 0, none⟩) n cap) rb len) {i j : Nat} (hi : i < n) (hj : j < n) :
    ∃ r, w.cell? ⟨lb, i, none⟩ = some (.slice (some ⟨r, 0, none⟩) n n) ∧ w.cell? ⟨r, j, none⟩ = some (.int .i64 (len i j)) := by
  obtain ⟨r, hr⟩ : ∃ r, rb[i]? = some r := ⟨_, List.getElem?_eq_getElem (by rw [h.cnt]; exact hi)⟩
  have hg := h.grid
  have hc := h.cnt
  have h1 := hg.row i r hr
  refine ⟨r, ?_, h1.1.cell j hj⟩
  have h2 : Grid w B n (.slice (some ⟨lb, 0, none⟩) rb.length cap) rb len := by rw [hc]; exact hg
  exact h2.cell hr

/-- What town hands back. -/
def TownSaid : Prop := ∀ (w : World) (size : Int) (ra : Option Addr) (K cap : Nat) (raw : Nat → Int × Int × Int), -9223372036854775808 ≤ size → size ≤ 9223372036854775807 → K ≤ 9223372036854775807 → Raw w ra K raw →
  Calls Tryz.prog 7 #[.int .i64 size, .slice ra K cap] w fun e w' => Turns (fun _ => False) w w' ∧ ∃ (txt : ByteArray) (n R : Nat) (v : Value) (rb : List Nat) (len : Nat → Nat → Int), e = .returned (.agg #[.string txt, .int .i64 n, v]) ∧ TownIs w' w.heap.size txt n R v rb len
end Go.Proofs.YtdogncjcainhlaaGreatDoor
/- The walks of package number: Parse reads a number as the document has it; Within holds it against two bounds. -/
namespace Go.Proofs.YtdogncjcainhlaaGreatDoor
open Go.RowKit

theorem ret_nb {a a' : Int} {b b' : Bool} (h : a = a') (g : b = b') : Ending.returned (.tuple #[.int .i64 a, .bool b]) = .returned (.tuple #[.int .i64 a', .bool b']) := by rw [h, g]

theorem empty_of {s : ByteArray} (h : s.size = 0) : s.toList.isEmpty = true := by
  rw [ByteArray.toList_eq]
  have : s.data.toList.length = 0 := by simpa using h
  simp_all
theorem nonempty_of {s : ByteArray} (h : 0 < s.size) : s.toList.isEmpty = false := by
  rw [ByteArray.toList_eq]
  cases e : s.data.toList with
  | nil => have : s.data.toList.length = s.size := by simp
           rw [e] at this; simp at this; omega
  | cons a r => rfl
theorem head_of {s : ByteArray} (h : 0 < s.size) : s.data.toList.head? = some s[0] := by
  rw [List.head?_eq_getElem?, List.getElem?_eq_getElem (by simpa using h)]; rfl

set_option maxHeartbeats 400000 in
theorem parse_empty (s : ByteArray) (w : World) (h0 : s.size = 0) :
    Calls Tryz.prog 125 #[.string s] w fun e w' => e = .returned (.tuple #[.int .i64 ((Pu.num s.data.toList).getD 0), .bool (Pu.num s.data.toList).isSome]) ∧ w' = w := by
  have he := empty_of h0
  have hn : Pu.num s.data.toList = none := by
    unfold Pu.num; rw [if_pos]; left; rw [ByteArray.toList_eq] at he; simpa using he
  rw [hn]
  go_enter Tryz.func125, Tryz.ntmps125
  go_wp2
  go_ret2
  exact ⟨rfl, rfl⟩
set_option maxHeartbeats 400000 in
theorem parse_zero (s : ByteArray) (w : World) (h0 : 1 < s.size) (h1 : s[0].toNat = 48) (hs : s.size ≤ maxLen) :
    Calls Tryz.prog 125 #[.string s] w fun e w' => e = .returned (.tuple #[.int .i64 ((Pu.num s.data.toList).getD 0), .bool (Pu.num s.data.toList).isSome]) ∧ w' = w := by
  unfold maxLen at hs
  have he := nonempty_of (s := s) (by omega)
  have hn : Pu.num s.data.toList = none := by
    unfold Pu.num; rw [if_pos]; right; refine ⟨?_, by simpa using h0⟩
    rw [head_of (by omega)]; congr 1; exact UInt8.toNat_inj.1 h1
  rw [hn]
  have hp : 0 < s.size := by omega
  have hb : ((s[0].toNat : Int) == 48) = true := by rw [beq_iff_eq]; omega
  clear h1
  go_enter Tryz.func125, Tryz.ntmps125
  go_wp2
  go_ret2
  exact ⟨rfl, rfl⟩
set_option maxHeartbeats 1000000 in
theorem parse_loop (s : ByteArray) (w : World) (hp : 0 < s.size) (h1 : s[0].toNat = 48 → s.size = 1) (hs : s.size ≤ maxLen) :
    Calls Tryz.prog 125 #[.string s] w fun e w' => e = .returned (.tuple #[.int .i64 ((Pu.num s.data.toList).getD 0), .bool (Pu.num s.data.toList).isSome]) ∧ w' = w := by
  unfold maxLen at hs
  have he := nonempty_of (s := s) (by omega)
  have hn : Pu.num s.data.toList = Pu.digs 0 s.data.toList := by
    unfold Pu.num; rw [if_neg]; rintro (h | ⟨h, h'⟩)
    · rw [ByteArray.toList_eq, h] at he; simp at he
    · rw [head_of hp] at h
      have := h1 (by injection h with h; rw [h]; rfl)
      simp at h'; omega
  rw [hn]
  generalize hD : Pu.digs 0 s.data.toList = D
  have HD : Hid (Pu.digs 0 s.data.toList = D) := hD
  clear hD hn
  have hor : (((s[0].toNat : Int) == 48) = true ∧ s.size ≤ 1) ∨ ((s[0].toNat : Int) == 48) = false := by
    by_cases h : s[0].toNat = 48
    · left; exact ⟨by rw [beq_iff_eq]; omega, by have := h1 h; omega⟩
    · right; rw [beq_eq_false_iff_ne]; omega
  clear h1
  rcases hor with ⟨hb, hl⟩ | hb
  all_goals
    go_enter Tryz.func125, Tryz.ntmps125
    go_wp2
    go_loop [4, 21] (fun v i => ∃ (k : Nat) (n : Int), k ≤ s.size ∧ i = .int .i64 k ∧ v = .int .i64 n ∧ 0 ≤ n ∧ n ≤ 9223372036854775807 ∧ Hid (Pu.digs n (s.data.toList.drop k) = D)) (fun _ i => s.size - (intOf i).toNat)
    case atStart => exact ⟨0, 0, Nat.zero_le _, rfl, rfl, by omega, by omega, HD⟩
    case round =>
      obtain ⟨k, n, hk, rfl, rfl, hn0, hn1, HK⟩ := hrel
      by_cases hlt : k < s.size
      · have HC : Hid (Pu.digs n (s[k] :: s.data.toList.drop (k + 1)) = D) := by rw [← Pu.drop_cons s k hlt]; exact HK
        clear HK
        go_wp2
        all_goals first
          | (go_round; (case rel => exact ⟨k + 1, n * 10 + ((s[k].toNat : Int) - 48), by omega, by go_num, rfl, by omega, by omega, by rw [← Pu.digs_cons n s[k] _ (by omega) (by omega) (by omega)]; exact HC⟩); (case measure => simp [intOf]; omega))
          | (go_ret2; have e : D = none := by rw [← HC.out]; first | exact Pu.digs_bad _ _ _ (by omega) | exact Pu.digs_big _ _ _ (by omega)
             rw [e]; exact ⟨rfl, rfl⟩)
      · go_wp2
        go_ret2
        have e : D = some n := by rw [← HK.out, List.drop_of_length_le (by simp; omega)]; rfl
        rw [e]; exact ⟨rfl, rfl⟩

theorem parse_any (s : ByteArray) (w : World) (hs : s.size ≤ maxLen) :
    Calls Tryz.prog 125 #[.string s] w fun e w' => e = .returned (.tuple #[.int .i64 ((Pu.num s.data.toList).getD 0), .bool (Pu.num s.data.toList).isSome]) ∧ w' = w := by
  by_cases h0 : s.size = 0
  · exact parse_empty s w h0
  · have hp : 0 < s.size := by omega
    by_cases h1 : s[0].toNat = 48 ∧ 1 < s.size
    · exact parse_zero s w h1.2 h1.1 hs
    · exact parse_loop s w hp (fun h => by have : ¬ 1 < s.size := fun h' => h1 ⟨h, h'⟩
                                           omega) hs

set_option maxHeartbeats 400000 in
theorem within_none (s : ByteArray) (lo hi : Int) (w : World) (hs : s.size ≤ maxLen) (h : Pu.within s.data.toList lo hi = none) :
    Calls Tryz.prog 77 #[.string s, .int .i64 lo, .int .i64 hi] w fun e w' => e = .returned (.tuple #[.int .i64 0, .bool false]) ∧ w' = w := by
  cases hn : Pu.num s.data.toList with
  | none =>
    have c := parse_any s w hs
    rw [hn] at c
    go_enter Tryz.func77, Tryz.ntmps77
    go_wp2_with (go_at_call 125; refine c.mono ?_; rintro e w' ⟨rfl, rfl⟩)
    go_ret2
    exact ⟨rfl, rfl⟩
  | some n =>
    have c := parse_any s w hs
    rw [hn] at c
    have hb := Pu.num_bd hn
    have ho : n < lo ∨ hi < n := by
      unfold Pu.within at h; rw [hn] at h; simp only at h
      split at h
      · assumption
      · cases h
    clear hn h
    rcases ho with ho | ho
    all_goals
      go_enter Tryz.func77, Tryz.ntmps77
      go_wp2_with (go_at_call 125; refine c.mono ?_; rintro e w' ⟨rfl, rfl⟩)
      all_goals go_ret2
      all_goals exact ⟨rfl, rfl⟩
set_option maxHeartbeats 400000 in
theorem within_some (s : ByteArray) (lo hi n : Int) (w : World) (hs : s.size ≤ maxLen) (h : Pu.within s.data.toList lo hi = some n) :
    Calls Tryz.prog 77 #[.string s, .int .i64 lo, .int .i64 hi] w fun e w' => e = .returned (.tuple #[.int .i64 n, .bool true]) ∧ w' = w := by
  obtain ⟨hn, h1, h2⟩ := Pu.within_some h
  have c := parse_any s w hs
  rw [hn] at c
  have hb := Pu.num_bd hn
  clear hn h
  go_enter Tryz.func77, Tryz.ntmps77
  go_wp2_with (go_at_call 125; refine c.mono ?_; rintro e w' ⟨rfl, rfl⟩)
  go_ret2
  exact ⟨rfl, rfl⟩
#print axioms within_some
#print axioms within_none
end Go.Proofs.YtdogncjcainhlaaGreatDoor
/- The library's contracts of strings.Count and strings.Split, laid at this translation. -/
namespace Go.Proofs.YtdogncjcainhlaaGreatDoor
open Go.Shelf Go.RowKit Go.Lib
def lays138_ren : Go.Shelf.Ren := ⟨fun | 138 => 75 | 195 => 121 | 218 => 122 | 143 => 123 | 219 => 159 | 217 => 178 | 225 => 179 | 224 => 180 | 267 => 181 | 266 => 198 | 314 => 199 | n => n, fun | 9 => 9 | 3 => 3 | 4 => 4 | 5 => 5 | 0 => 0 | 46 => 194 | 146 => 249 | 51 => 88 | n => n, fun | 1 => 0 | n => n⟩
theorem lays138 : Go.Proofs.Lays.n138 Tryz.prog lays138_ren := {
  mixed := by kernel_rfl
  f138 := Tryz.func75.trans (congrArg some (by kernel_rfl))
  f143 := Tryz.func123.trans (congrArg some (by kernel_rfl))
  f195 := Tryz.func121.trans (congrArg some (by kernel_rfl))
  f217 := Tryz.func178.trans (congrArg some (by kernel_rfl))
  f218 := Tryz.func122.trans (congrArg some (by kernel_rfl))
  f219 := Tryz.func159.trans (congrArg some (by kernel_rfl))
  f224 := Tryz.func180.trans (congrArg some (by kernel_rfl))
  f225 := Tryz.func179.trans (congrArg some (by kernel_rfl))
  f266 := Tryz.func198.trans (congrArg some (by kernel_rfl))
  f267 := Tryz.func181.trans (congrArg some (by kernel_rfl))
  f314 := Tryz.func199.trans (congrArg some (by kernel_rfl))
  t0 := Tryz.underlying0
  a0 := Tryz.isAgg0
  z0 := Tryz.sizeOf0
  v0 := Tryz.zeroValue0
  t3 := Tryz.underlying3
  a3 := Tryz.isAgg3
  z3 := Tryz.sizeOf3
  v3 := Tryz.zeroValue3
  t4 := Tryz.underlying4
  a4 := Tryz.isAgg4
  z4 := Tryz.sizeOf4
  v4 := Tryz.zeroValue4
  t5 := Tryz.underlying5
  a5 := Tryz.isAgg5
  z5 := Tryz.sizeOf5
  v5 := Tryz.zeroValue5
  t9 := Tryz.underlying9
  a9 := Tryz.isAgg9
  z9 := Tryz.sizeOf9
  v9 := Tryz.zeroValue9
  t46 := Tryz.underlying194
  a46 := Tryz.isAgg194
  z46 := Tryz.sizeOf194
  v46 := Tryz.zeroValue194
  t51 := Tryz.underlying88
  a51 := Tryz.isAgg88
  z51 := Tryz.sizeOf88
  v51 := Tryz.zeroValue88
  t146 := Tryz.underlying249
  a146 := Tryz.isAgg249
  z146 := Tryz.sizeOf249
  v146 := Tryz.zeroValue249
  g1 := by kernel_rfl }
theorem strings_Count_one (s : ByteArray) (c : UInt8) (w : World) :
    Calls Tryz.prog 75 #[.string s, .string ⟨#[c]⟩] w fun e w' => e = .returned (.int .i64 (Lib.countByte s.data.toList c)) ∧ w' = w := Any.strings_Count_one lays138 s c w
def lays146_ren : Go.Shelf.Ren := ⟨fun | 146 => 76 | 221 => 124 | 268 => 160 | 138 => 75 | 143 => 123 | 195 => 121 | 197 => 182 | 218 => 122 | 219 => 159 | 260 => 200 | 217 => 178 | 225 => 179 | 224 => 180 | 267 => 181 | 266 => 198 | 314 => 199 | n => n, fun | 9 => 9 | 31 => 172 | 3 => 3 | 4 => 4 | 0 => 0 | 105 => 280 | 21 => 21 | 5 => 5 | 46 => 194 | 119 => 298 | 139 => 301 | 138 => 300 | 146 => 249 | 51 => 88 | n => n, fun | 1 => 0 | 3 => 1 | 4 => 2 | n => n⟩
theorem lays146 : Go.Proofs.Lays.n146 Tryz.prog lays146_ren := {
  mixed := by kernel_rfl
  f138 := Tryz.func75.trans (congrArg some (by kernel_rfl))
  f143 := Tryz.func123.trans (congrArg some (by kernel_rfl))
  f146 := Tryz.func76.trans (congrArg some (by kernel_rfl))
  f195 := Tryz.func121.trans (congrArg some (by kernel_rfl))
  f197 := Tryz.func182.trans (congrArg some (by kernel_rfl))
  f217 := Tryz.func178.trans (congrArg some (by kernel_rfl))
  f218 := Tryz.func122.trans (congrArg some (by kernel_rfl))
  f219 := Tryz.func159.trans (congrArg some (by kernel_rfl))
  f221 := Tryz.func124.trans (congrArg some (by kernel_rfl))
  f224 := Tryz.func180.trans (congrArg some (by kernel_rfl))
  f225 := Tryz.func179.trans (congrArg some (by kernel_rfl))
  f260 := Tryz.func200.trans (congrArg some (by kernel_rfl))
  f266 := Tryz.func198.trans (congrArg some (by kernel_rfl))
  f267 := Tryz.func181.trans (congrArg some (by kernel_rfl))
  f268 := Tryz.func160.trans (congrArg some (by kernel_rfl))
  f314 := Tryz.func199.trans (congrArg some (by kernel_rfl))
  t0 := Tryz.underlying0
  a0 := Tryz.isAgg0
  z0 := Tryz.sizeOf0
  v0 := Tryz.zeroValue0
  t3 := Tryz.underlying3
  a3 := Tryz.isAgg3
  z3 := Tryz.sizeOf3
  v3 := Tryz.zeroValue3
  t4 := Tryz.underlying4
  a4 := Tryz.isAgg4
  z4 := Tryz.sizeOf4
  v4 := Tryz.zeroValue4
  t5 := Tryz.underlying5
  a5 := Tryz.isAgg5
  z5 := Tryz.sizeOf5
  v5 := Tryz.zeroValue5
  t9 := Tryz.underlying9
  a9 := Tryz.isAgg9
  z9 := Tryz.sizeOf9
  v9 := Tryz.zeroValue9
  t21 := Tryz.underlying21
  a21 := Tryz.isAgg21
  z21 := Tryz.sizeOf21
  v21 := Tryz.zeroValue21
  t31 := Tryz.underlying172
  a31 := Tryz.isAgg172
  z31 := Tryz.sizeOf172
  v31 := Tryz.zeroValue172
  t46 := Tryz.underlying194
  a46 := Tryz.isAgg194
  z46 := Tryz.sizeOf194
  v46 := Tryz.zeroValue194
  t51 := Tryz.underlying88
  a51 := Tryz.isAgg88
  z51 := Tryz.sizeOf88
  v51 := Tryz.zeroValue88
  t105 := Tryz.underlying280
  a105 := Tryz.isAgg280
  z105 := Tryz.sizeOf280
  v105 := Tryz.zeroValue280
  t119 := Tryz.underlying298
  a119 := Tryz.isAgg298
  z119 := Tryz.sizeOf298
  t138 := Tryz.underlying300
  a138 := Tryz.isAgg300
  z138 := Tryz.sizeOf300
  v138 := Tryz.zeroValue300
  t139 := Tryz.underlying301
  a139 := Tryz.isAgg301
  z139 := Tryz.sizeOf301
  v139 := Tryz.zeroValue301
  t146 := Tryz.underlying249
  a146 := Tryz.isAgg249
  z146 := Tryz.sizeOf249
  v146 := Tryz.zeroValue249
  g1 := by kernel_rfl
  g3 := by kernel_rfl
  g4 := by kernel_rfl }
theorem strings_Split (s sep : ByteArray) (m : Int) (w : World) (hs : s.size < 4294967281) (hm : w.cell? ⟨0, 0, none⟩ = some (.int .i64 m)) (h1 : 1 ≤ sep.size) :
    Calls Tryz.prog 76 #[.string s, .string sep] w fun e w' =>
      e = .returned (.slice (some ⟨w.heap.size, 0, none⟩) (Lib.countB s sep + 1) (Lib.countB s sep + 1)) ∧ w' = w.alloc (.cells ((Lib.splitB sep 0 (Lib.countB s sep) s).map Value.string).toArray 9) := Any.strings_Split lays146 (by kernel_rfl) s sep m w hs hm h1
end Go.Proofs.YtdogncjcainhlaaGreatDoor
/- The walk of atlas.parseRoad. -/
namespace Go.Proofs.YtdogncjcainhlaaGreatDoor
open Go.RowKit
open Mem

/-- internal/bytealg.MaxLen holds some int. -/
def Ml (w : World) : Prop := 0 < w.heap.size ∧ ∃ m, w.cell? ⟨0, 0, none⟩ = some (.int .i64 m)
theorem Ml.turns {p : Nat → Prop} {w w' : World} (h : Ml w) (t : Turns p w w') (hp : ¬ p 0) : Ml w' := ⟨Nat.lt_of_lt_of_le h.1 t.size, by obtain ⟨m, hm⟩ := h.2; exact ⟨m, (t.cell (a := ⟨0, 0, none⟩) h.1 hp).trans hm⟩⟩
theorem Ml.alloc {w : World} (h : Ml w) (o : Obj) : Ml (w.alloc o) := h.turns (Turns.alloc (Turns.refl (fun _ => False) w) o) (fun x => x)

theorem split_any (s : ByteArray) (c : UInt8) (w : World) (hs : s.size ≤ 4000) (hm : Ml w) :
    Calls Tryz.prog 76 #[.string s, .string ⟨#[c]⟩] w fun e w' => e = .returned (.slice (some ⟨w.heap.size, 0, none⟩) (Pu.pieces c s).length (Pu.pieces c s).length) ∧ w' = w.alloc (.cells ((Pu.pieces c s).map Value.string).toArray 9) := by
  obtain ⟨m, hm⟩ := hm.2
  rw [Pu.pieces_length]
  exact strings_Split s ⟨#[c]⟩ m w (by omega) hm (Nat.le_refl 1)

theorem three {α : Type} {l : List α} (h : l.length = 3) : ∃ a b c, l = [a, b, c] := by
  match l, h with
  | [a, b, c], _ => exact ⟨a, b, c, rfl⟩

set_option maxHeartbeats 1000000 in
theorem road_ne (s : ByteArray) (n : Int) (w : World) (hs : s.size ≤ 4000) (hm : Ml w) (h : (Pu.pieces 32 s).length ≠ 3) :
    Calls Tryz.prog 78 #[.string s, .int .i64 n] w fun e w' => e = .returned (.tuple #[.agg #[.int .i64 0, .int .i64 0, .int .i64 0], .bool false]) ∧ Turns (fun _ => False) w w' := by
  have hne : (((Pu.pieces 32 s).length : Int) != 3) = true := by simp; omega
  go_enter Tryz.func78, Tryz.ntmps78
  go_wp2_with fail
  refine (split_any s 32 _ hs (hm.alloc _)).mono ?_
  rintro e w1 ⟨rfl, hw1⟩
  subst hw1
  clear hm h
  go_wp2
  exact bodyPost_ret (v := .tuple #[.agg #[.int .i64 0, .int .i64 0, .int .i64 0], .bool false]) (by simp [results, Tryz.results78, go_sem]) rfl ⟨rfl, ((Turns.refl _ _).alloc _).alloc _⟩

theorem split_three (s A B C : ByteArray) (w : World) (hs : s.size ≤ 4000) (hm : Ml w) (h : Pu.pieces 32 s = [A, B, C]) :
    Calls Tryz.prog 76 #[.string s, .string ⟨#[32]⟩] w fun e w' => e = .returned (.slice (some ⟨w.heap.size, 0, none⟩) 3 3) ∧ w' = w.alloc (.cells #[.string A, .string B, .string C] 9) := by
  have c := split_any s 32 w hs hm
  rw [h] at c
  exact c

set_option maxHeartbeats 1000000 in
theorem road_badv (s A B C : ByteArray) (n : Int) (w : World) (hs : s.size ≤ 4000) (hm : Ml w) (h : Pu.pieces 32 s = [A, B, C]) (hB : B.size ≤ maxLen) (hn0 : 1 ≤ n) (hn1 : n ≤ 40)
    (h1 : Pu.within B.data.toList 0 (n - 1) = none) :
    Calls Tryz.prog 78 #[.string s, .int .i64 n] w fun e w' => e = .returned (.tuple #[.agg #[.int .i64 0, .int .i64 0, .int .i64 0], .bool false]) ∧ Turns (fun _ => False) w w' := by
  go_enter Tryz.func78, Tryz.ntmps78
  go_wp2_with fail
  refine (split_three s A B C _ hs (hm.alloc _) h).mono ?_
  rintro e w1 ⟨rfl, hw1⟩
  subst hw1
  clear hm h
  go_wp2_with fail
  refine (within_none B 0 (n - 1) _ hB h1).mono ?_
  rintro e w1 ⟨rfl, hw1⟩
  subst hw1
  clear h1
  go_wp2
  exact bodyPost_ret (v := .tuple #[.agg #[.int .i64 0, .int .i64 0, .int .i64 0], .bool false]) (by simp [results, Tryz.results78, go_sem]) rfl ⟨rfl, ((Turns.refl _ _).alloc _).alloc _⟩

set_option maxHeartbeats 1000000 in
theorem road_badu (s A B C : ByteArray) (n v : Int) (w : World) (hs : s.size ≤ 4000) (hm : Ml w) (h : Pu.pieces 32 s = [A, B, C]) (hB : B.size ≤ maxLen) (hA : A.size ≤ maxLen) (hn0 : 1 ≤ n) (hn1 : n ≤ 40)
    (h1 : Pu.within B.data.toList 0 (n - 1) = some v) (h2 : Pu.within A.data.toList 0 (v - 1) = none) :
    Calls Tryz.prog 78 #[.string s, .int .i64 n] w fun e w' => e = .returned (.tuple #[.agg #[.int .i64 0, .int .i64 0, .int .i64 0], .bool false]) ∧ Turns (fun _ => False) w w' := by
  have hv := Pu.within_some h1
  have hv0 := hv.2.1
  have hv1 := hv.2.2
  clear hv
  go_enter Tryz.func78, Tryz.ntmps78
  go_wp2_with fail
  refine (split_three s A B C _ hs (hm.alloc _) h).mono ?_
  rintro e w1 ⟨rfl, hw1⟩
  subst hw1
  clear hm h
  go_wp2_with fail
  refine (within_some B 0 (n - 1) v _ hB h1).mono ?_
  rintro e w1 ⟨rfl, hw1⟩
  subst hw1
  clear h1
  go_wp2_with fail
  refine (within_none A 0 (v - 1) _ hA h2).mono ?_
  rintro e w1 ⟨rfl, hw1⟩
  subst hw1
  clear h2
  go_wp2
  exact bodyPost_ret (v := .tuple #[.agg #[.int .i64 0, .int .i64 0, .int .i64 0], .bool false]) (by simp [results, Tryz.results78, go_sem]) rfl ⟨rfl, ((Turns.refl _ _).alloc _).alloc _⟩

set_option maxHeartbeats 1000000 in
theorem road_badx (s A B C : ByteArray) (n v u : Int) (w : World) (hs : s.size ≤ 4000) (hm : Ml w) (h : Pu.pieces 32 s = [A, B, C]) (hB : B.size ≤ maxLen) (hA : A.size ≤ maxLen) (hC : C.size ≤ maxLen) (hn0 : 1 ≤ n) (hn1 : n ≤ 40)
    (h1 : Pu.within B.data.toList 0 (n - 1) = some v) (h2 : Pu.within A.data.toList 0 (v - 1) = some u) (h3 : Pu.within C.data.toList 1 1000 = none) :
    Calls Tryz.prog 78 #[.string s, .int .i64 n] w fun e w' => e = .returned (.tuple #[.agg #[.int .i64 0, .int .i64 0, .int .i64 0], .bool false]) ∧ Turns (fun _ => False) w w' := by
  have hv := Pu.within_some h1
  have hv0 := hv.2.1
  have hv1 := hv.2.2
  clear hv
  go_enter Tryz.func78, Tryz.ntmps78
  go_wp2_with fail
  refine (split_three s A B C _ hs (hm.alloc _) h).mono ?_
  rintro e w1 ⟨rfl, hw1⟩
  subst hw1
  clear hm h
  go_wp2_with fail
  refine (within_some B 0 (n - 1) v _ hB h1).mono ?_
  rintro e w1 ⟨rfl, hw1⟩
  subst hw1
  clear h1
  go_wp2_with fail
  refine (within_some A 0 (v - 1) u _ hA h2).mono ?_
  rintro e w1 ⟨rfl, hw1⟩
  subst hw1
  clear h2
  go_wp2_with fail
  refine (within_none C 1 1000 _ hC h3).mono ?_
  rintro e w1 ⟨rfl, hw1⟩
  subst hw1
  clear h3
  go_wp2
  exact bodyPost_ret (v := .tuple #[.agg #[.int .i64 0, .int .i64 0, .int .i64 0], .bool false]) (by simp [results, Tryz.results78, go_sem]) rfl ⟨rfl, ((Turns.refl _ _).alloc _).alloc _⟩

set_option maxHeartbeats 1000000 in
theorem road_good (s A B C : ByteArray) (n v u x : Int) (w : World) (hs : s.size ≤ 4000) (hm : Ml w) (h : Pu.pieces 32 s = [A, B, C]) (hB : B.size ≤ maxLen) (hA : A.size ≤ maxLen) (hC : C.size ≤ maxLen) (hn0 : 1 ≤ n) (hn1 : n ≤ 40)
    (h1 : Pu.within B.data.toList 0 (n - 1) = some v) (h2 : Pu.within A.data.toList 0 (v - 1) = some u) (h3 : Pu.within C.data.toList 1 1000 = some x) :
    Calls Tryz.prog 78 #[.string s, .int .i64 n] w fun e w' => e = .returned (.tuple #[.agg #[.int .i64 u, .int .i64 v, .int .i64 x], .bool true]) ∧ Turns (fun _ => False) w w' := by
  have hv := Pu.within_some h1
  have hv0 := hv.2.1
  have hv1 := hv.2.2
  clear hv
  go_enter Tryz.func78, Tryz.ntmps78
  go_wp2_with fail
  refine (split_three s A B C _ hs (hm.alloc _) h).mono ?_
  rintro e w1 ⟨rfl, hw1⟩
  subst hw1
  clear hm h
  go_wp2_with fail
  refine (within_some B 0 (n - 1) v _ hB h1).mono ?_
  rintro e w1 ⟨rfl, hw1⟩
  subst hw1
  clear h1
  go_wp2_with fail
  refine (within_some A 0 (v - 1) u _ hA h2).mono ?_
  rintro e w1 ⟨rfl, hw1⟩
  subst hw1
  clear h2
  go_wp2_with fail
  refine (within_some C 1 1000 x _ hC h3).mono ?_
  rintro e w1 ⟨rfl, hw1⟩
  subst hw1
  clear h3
  go_wp2
  exact bodyPost_ret (v := .tuple #[.agg #[.int .i64 u, .int .i64 v, .int .i64 x], .bool true]) (by simp [results, Tryz.results78, go_sem]) rfl ⟨rfl, ((Turns.refl _ _).alloc _).alloc _⟩

/-- What parseRoad hands back. -/
def roadV : Option (Int × Int × Int) → Value
  | none => .tuple #[.agg #[.int .i64 0, .int .i64 0, .int .i64 0], .bool false]
  | some (u, v, x) => .tuple #[.agg #[.int .i64 u, .int .i64 v, .int .i64 x], .bool true]

theorem road_any (s : ByteArray) (n : Int) (w : World) (hs : s.size ≤ 4000) (hm : Ml w) (hn0 : 1 ≤ n) (hn1 : n ≤ 40) :
    Calls Tryz.prog 78 #[.string s, .int .i64 n] w fun e w' => e = .returned (roadV (Pu.road s.data.toList n)) ∧ Turns (fun _ => False) w w' := by
  by_cases h : (Pu.pieces 32 s).length = 3
  · obtain ⟨A, B, C, e⟩ := three h
    have hd := Pu.pieces_data 32 s
    rw [e] at hd
    have hA : A.size ≤ maxLen := by have := Pu.pieces_size (c := 32) (s := s) (p := A) (by rw [e]; simp); unfold maxLen; omega
    have hB : B.size ≤ maxLen := by have := Pu.pieces_size (c := 32) (s := s) (p := B) (by rw [e]; simp); unfold maxLen; omega
    have hC : C.size ≤ maxLen := by have := Pu.pieces_size (c := 32) (s := s) (p := C) (by rw [e]; simp); unfold maxLen; omega
    rw [Pu.road_three hd.symm]
    cases h1 : Pu.within B.data.toList 0 (n - 1) with
    | none => exact road_badv s A B C n w hs hm e hB hn0 hn1 h1
    | some v =>
      simp only
      cases h2 : Pu.within A.data.toList 0 (v - 1) with
      | none => exact road_badu s A B C n v w hs hm e hB hA hn0 hn1 h1 h2
      | some u =>
        simp only
        cases h3 : Pu.within C.data.toList 1 1000 with
        | none => exact road_badx s A B C n v u w hs hm e hB hA hC hn0 hn1 h1 h2 h3
        | some x => exact road_good s A B C n v u x w hs hm e hB hA hC hn0 hn1 h1 h2 h3
  · rw [Pu.road_ne (by rw [← Pu.pieces_data]; simpa using h)]
    exact road_ne s n w hs hm h
#print axioms road_any
end Go.Proofs.YtdogncjcainhlaaGreatDoor
/- What the rows' frames share: the arguments' raw roads, the world of the witness. -/
namespace Go.Proofs.YtdogncjcainhlaaGreatDoor
open Go.ChangeShapes Go.WideShapes Go.ChangeAt Go.RowKit
open Mem

theorem own : ownKnob Tryz.prog.godebug = none := by kernel_rfl
theorem laidOut : laidOutB Tryz.prog = true := by kernel_rfl
/-- internal/bytealg.MaxLen holds some int, in every world of the right shape. -/
theorem ml_of_shaped {W : World} (h : W.ShapedOpen Tryz.prog) : Ml W := by
  have hc : ∃ m, W.cell? ⟨0, 0, none⟩ = some (.int .i64 m) := Go.Proofs.cell_of_shapedOpen_int (zero := #[.int .i64 0]) (t := 3) h (of_decide_eq_true (by kernel_rfl)) (by kernel_rfl) rfl (by kernel_rfl) (by kernel_rfl) Tryz.underlying3
  obtain ⟨m, hm⟩ := hc
  exact ⟨World.block_lt_of_cell? W _ hm, m, hm⟩

theorem spot_none {w : World} {a : Addr} {v : Value} (h : w.cell? a = some v) : a.spot = none := by
  unfold World.cell? at h
  split at h
  · cases hs : a.spot with
    | none => rfl
    | some x => simp [hs] at h
  · simp at h
theorem wf_i64 {x : Int} (h : (Lit.int .i64 x).wf = true) : -9223372036854775808 ≤ x ∧ x ≤ 9223372036854775807 := by
  have := bounds_i64 h
  omega

theorem add_none (b o i : Nat) : (⟨b, o, none⟩ : Addr).add i = ⟨b, o + i, none⟩ := by
  unfold Addr.add
  split
  · simp
  · rfl
theorem cells77 : Tryz.prog.cellsOf 71 = 3 := by kernel_rfl
theorem cells3 : Tryz.prog.cellsOf 3 = 1 := by kernel_rfl

/-- A slice of roads that came in, as the walks are told of it. -/
theorem raw_of {H : Type} {enc : TypeId × Value → H} {W : World} {ra : Option Addr} {K cap : Nat} {d : DataW H} {p : List MemPlace} (h : DataW.Trod enc Tryz.prog W 0 (fun _ => true) true 22 (Value.slice ra K cap) d p) : K ≤ 9223372036854775807 ∧ ∃ raw, Raw W ra K raw := by
  obtain ⟨fuel, hf⟩ := h
  rcases Deep.open_slice Tryz.underlying22 hf with ⟨hcs, _⟩ | ⟨a, len, cap', m, n, D, Pl, hcs, _, hl, hm, hmm, _, hx⟩
  · simp [Value.cells] at hcs
    obtain ⟨rfl, rfl, rfl⟩ := hcs
    exact ⟨by omega, fun _ => (0, 0, 0), fun h => absurd h (by omega), fun i h => absurd h (by omega)⟩
  · simp [Value.cells] at hcs
    obtain ⟨rfl, rfl, rfl⟩ := hcs
    have hlm : K ≤ m := by rw [hmm]; split <;> omega
    refine ⟨by unfold maxLen at hm; omega, ?_⟩
    rw [cells77] at hx
    have each : ∀ i, i < K → ∃ t : Int × Int × Int, (W.cell? (a.add (i * 3)) = some (.int .i64 t.1) ∧ W.cell? (a.add (i * 3 + 1)) = some (.int .i64 t.2.1) ∧ W.cell? (a.add (i * 3 + 2)) = some (.int .i64 t.2.2)) ∧
        (Lit.int .i64 t.1).wf = true ∧ (Lit.int .i64 t.2.1).wf = true ∧ (Lit.int .i64 t.2.2).wf = true := by
      intro i hi
      obtain ⟨cs', h1, h2⟩ := hx i (by omega)
      obtain ⟨_, hlen, hcell⟩ := World.cells?_some h1
      obtain ⟨y0, y1, y2, k, _, _, g0, g1, g2⟩ := Deep.trod_struct3 Tryz.underlying71 h2
      obtain ⟨v0, v1, v2, rfl⟩ := three hlen
      simp [cells3] at g0 g1 g2
      obtain ⟨x0, e0, _, w0⟩ := DataW.trod_int Tryz.underlying3 g0
      obtain ⟨x1, e1, _, w1⟩ := DataW.trod_int Tryz.underlying3 g1
      obtain ⟨x2, e2, _, w2⟩ := DataW.trod_int Tryz.underlying3 g2
      simp at e0 e1 e2
      subst e0 e1 e2
      have c0 := hcell 0 (by omega)
      have c1 := hcell 1 (by omega)
      have c2 := hcell 2 (by omega)
      rw [Deep.add_add] at c0 c1 c2
      exact ⟨(x0, x1, x2), ⟨by simpa using c0, by simpa using c1, by simpa using c2⟩, w0, w1, w2⟩
    obtain ⟨raw, hr⟩ := Deep.choose_lt each
    refine ⟨raw, fun h0 => ?_, fun i hi => ?_⟩
    · have hsp := spot_none (hr 0 h0).1.1
      obtain ⟨b, o, sp⟩ := a
      simp [Addr.add] at hsp
      subst hsp
      refine ⟨b, o, rfl, World.block_lt_of_cell? W _ (hr 0 h0).1.1, fun i hi => ?_⟩
      have hh := (hr i hi).1
      rw [add_none, add_none, add_none] at hh
      refine ⟨hh.1, ?_, ?_⟩
      · rw [Nat.add_assoc]; exact hh.2.1
      · rw [Nat.add_assoc]; exact hh.2.2
    · have h1 := wf_i64 (hr i hi).2.1
      have h2 := wf_i64 (hr i hi).2.2.1
      have h3 := wf_i64 (hr i hi).2.2.2
      exact ⟨h1.1, h1.2, h2.1, h2.2, h3.1, h3.2⟩

/-- The cells of the listed ranges. -/
def rangeCells : Array Value := #[.int .u8 128, .int .u8 191, .int .u8 160, .int .u8 191, .int .u8 128, .int .u8 159, .int .u8 144, .int .u8 191, .int .u8 128, .int .u8 143, .int .u8 0, .int .u8 0, .int .u8 0, .int .u8 0, .int .u8 0, .int .u8 0,
  .int .u8 0, .int .u8 0, .int .u8 0, .int .u8 0, .int .u8 0, .int .u8 0, .int .u8 0, .int .u8 0, .int .u8 0, .int .u8 0, .int .u8 0, .int .u8 0, .int .u8 0, .int .u8 0, .int .u8 0, .int .u8 0]
/-- The cells of the listed table of first bytes. -/
def firstCells : Array Value := (Go.Pinned.utf8FirstZ.map fun (n : Nat) => Value.int .u8 (n : Int)).toArray
/-- A block with other cells. -/
def recells (C : Array Value) : Obj → Obj
  | .cells _ t frozen => .cells C t frozen
  | o => o
/-- A world for the witness: the settled one, the two tables (blocks 1 and 2) holding what their texts lay. -/
noncomputable def laidWorld (os : Os) : World :=
  { World.holding Tryz.prog os ⟨#[], #[], []⟩ with heap := ((World.holding Tryz.prog os ⟨#[], #[], []⟩).heap.modify 1 (recells firstCells)).modify 2 (recells rangeCells) }
end Go.Proofs.YtdogncjcainhlaaGreatDoor
/- Lists that are held, full of marks: no program in it. -/
namespace Go.Proofs.YtdogncjcainhlaaGreatDoor
open Go.RowKit
namespace Mem

section
variable {P : Program} (w : World)
/-- append onto a row of one's own: what lay in the old row still lies there, whether it grows or not. -/
theorem run_append_stays (t ty : TypeId) (base : Nat) (e : TypeId) (i : TypeInfo) (z : Value) (size bytes : Nat) (ht : P.underlying t = some (.slice e)) (hi : P.info? e = some i) (hz : i.zero = some z)
    (hsize : i.size = size) (hby : i.bytes = bytes) (hzs : z.cells.size = size) (hsz : 0 < size)
    (v : Value) (n : Nat) (xs : List Value) (hown : w.ownsRow base e size v n xs)
    (ad : Addr) (m c : Nat) (news : List Value) (hl : news.length = m * size) (hnews : ∀ j u, news[j]? = some u → w.cell? (ad.add j) = some u) (h1 : ∀ u ∈ news, u.oneCell' = true)
    (hm : 0 < m) (h63 : n + m ≤ maxLen) (hbytes : (n + m) * bytes ≤ 140737488355328) (hbase : base ≤ w.heap.size) :
    ∃ g cap w', (Builtin.append_ #[t, t] ty #[v, .slice (some ad) m c]).run P w = .ok (.slice (some ⟨g, 0, none⟩) (n + m) cap) w' ∧
      w'.ownsRow base e size (.slice (some ⟨g, 0, none⟩) (n + m) cap) (n + m) (xs ++ news) ∧ w.grownBy w' v.ownBlock ∧ (v.ownBlock = some g ∨ g = w.heap.size) ∧
      ∀ b, v.ownBlock = some b → ∀ j, j < n * size → w'.cell? ⟨b, j, none⟩ = w.cell? ⟨b, j, none⟩ := by
  obtain ⟨g, cap, w', hr, h2, h3, h4, _⟩ := run_append_lies (P := P) w t ty base e i z size bytes ht hi hz hsize hby hzs hsz v n xs hown ad m c news hl hnews h1 hm h63 hbytes hbase _ rfl
  refine ⟨g, cap, w', hr, h2, h3, h4, ?_⟩
  have same : v.ownBlock = some g → ∀ b, v.ownBlock = some b → ∀ j, j < n * size → w'.cell? ⟨b, j, none⟩ = w.cell? ⟨b, j, none⟩ := by
    intro hg b hb j hj
    rw [hg] at hb
    cases hb
    have hx := hown.1
    obtain ⟨g0, cap0, cur, rfl, _⟩ : ∃ g0 cap0 cur, v = .slice (some ⟨g0, 0, none⟩) n cap0 ∧ w.heap[g0]? = some (.cells cur e (0, 0)) := by
      rcases hown.2 with ⟨rfl, _⟩ | ⟨g0, cap0, cur, hv, _, hh, _⟩
      · cases hg
      · exact ⟨g0, cap0, cur, hv, hh⟩
    simp only [Value.ownBlock, Option.some.injEq] at hg
    subst hg
    rw [h2.cellAt j (by rw [Nat.add_mul]; omega), hown.cellAt j hj, List.getElem?_append_left (by omega)]
  rcases hown.2 with ⟨rfl, _⟩ | ⟨g0, cap0, cur, rfl, hbg, hg, hnc, hcm, hcs, htake⟩
  · intro b hb; cases hb
  · by_cases hroom : n + m ≤ cap0
    · subst hsize
      have hfit : n * i.size + news.length ≤ cur.size := by rw [hl, hcs, ← Nat.add_mul]; exact Nat.mul_le_mul_right _ hroom
      have hr2 := run_append_room (P := P) w t ty e i ht hi g0 n cap0 cur hg ad m c news hl hnews h1 hroom hfit
      rw [hr] at hr2
      injection hr2 with e1 e2
      injection e1 with e3 _ _
      injection e3 with e4
      injection e4 with e5
      exact same (by rw [e5]; rfl)
    · subst hsize
      subst hby
      have holds : ∀ j u, xs[j]? = some u → w.cell? ((⟨g0, 0, none⟩ : Addr).add j) = some u := hown.cells (g := g0) rfl
      have hsmall : n + m ≤ 9223372036854775807 := by simp only [maxLen] at h63; omega
      have hr2 := run_append_grow (P := P) w t ty e i z ht hi hz ⟨g0, 0, none⟩ n cap0 xs hown.1 holds ad m c news hl hnews (by omega) (by omega) (growslice_fits (by omega) hbytes)
      rw [hr] at hr2
      injection hr2 with e1 e2
      subst e2
      intro b hb j _
      simp only [Value.ownBlock, Option.some.injEq] at hb
      subst hb
      rw [World.cell?_alloc_lt _ _ _ (by show g0 < w.heap.size; exact lt_of_block hg)]
      rfl

theorem wpList_append_stays {ops : Array Oper} {rest : List Oper} {o : Oper} {a : Act} {Q : Exit → Act → World → Prop} (hgd : o.guard = none) (s x : Operand) (t : TypeId)
    (ho : o.op = .call { callee := .builtin .append, args := #[s, x], argTypes := #[t, t] })
    (base : Nat) (e : TypeId) (i : TypeInfo) (z : Value) (size bytes : Nat) (ht : P.underlying t = some (.slice e)) (hi : P.info? e = some i) (hz : i.zero = some z)
    (hsize : i.size = size) (hby : i.bytes = bytes) (hzs : z.cells.size = size) (hsz : 0 < size)
    (v : Value) (n : Nat) (xs : List Value) (hs : a.eval s = v) (hown : w.ownsRow base e size v n xs)
    (ad : Addr) (m c : Nat) (news : List Value) (hx : a.eval x = .slice (some ad) m c) (hl : news.length = m * size) (hnews : ∀ j u, news[j]? = some u → w.cell? (ad.add j) = some u) (h1 : ∀ u ∈ news, u.oneCell' = true)
    (hm : 0 < m) (h63 : n + m ≤ maxLen) (hbytes : (n + m) * bytes ≤ 140737488355328) (hbase : base ≤ w.heap.size)
    (h : ∀ g cap w', w'.ownsRow base e size (.slice (some ⟨g, 0, none⟩) (n + m) cap) (n + m) (xs ++ news) → w.grownBy w' v.ownBlock → (v.ownBlock = some g ∨ g = w.heap.size) →
      (∀ b, v.ownBlock = some b → ∀ j, j < n * size → w'.cell? ⟨b, j, none⟩ = w.cell? ⟨b, j, none⟩) → wpList P ops Q rest (a.put o.dst (.slice (some ⟨g, 0, none⟩) (n + m) cap)) w') : wpList P ops Q (o :: rest) a w := by
  refine wpList_plain hgd fun K hK => ?_
  obtain ⟨g, cap, w', hr, h2, h3, h4, h5⟩ := run_append_stays (P := P) w t o.type base e i z size bytes ht hi hz hsize hby hzs hsz v n xs hown ad m c news hl hnews h1 hm h63 hbytes hbase
  unfold Oper.wp execOp
  simp only [ho, resolve, invoke, builtin, Sem.run_bind, Sem.run_pure, Result.andThen_ok, List.map_toArray, List.map_cons, List.map_nil, hs, hx, hr]
  exact hK _ _ (h g cap w' h2 h3 h4 h5)
end

/-- A cell of a row of one's own written. -/
theorem owns_set {w : World} {base : Nat} {e : TypeId} {size g cap n : Nat} {xs : List Value} (h : w.ownsRow base e size (.slice (some ⟨g, 0, none⟩) n cap) n xs) (j : Nat) (u : Value) :
    (w.setCell ⟨g, j, none⟩ u).ownsRow base e size (.slice (some ⟨g, 0, none⟩) n cap) n (xs.set j u) := by
  obtain ⟨h1, h2⟩ := h
  refine ⟨by simpa using h1, ?_⟩
  rcases h2 with ⟨hv, _⟩ | ⟨g', cap', cur, hv, hb, hg, hnc, hcm, hcs, htake⟩
  · cases hv
  · injection hv with e1 _ e3
    injection e1 with e1
    injection e1 with e1
    subst e1
    subst e3
    refine Or.inr ⟨g, cap, cur.setIfInBounds j u, rfl, hb, heap_setCell_same hg u, hnc, hcm, by simpa using hcs, ?_⟩
    rw [← htake, Array.toList_setIfInBounds, List.take_set]

/-- What is held: a list (its elements of sz cells) that reads as its mark; it lies at B or behind, and not in the row v. -/
def Held1 (sz : Nat) (w : World) (B : Nat) (v : Value) (e : Value × Int) : Prop :=
  e.1 = .slice none 0 0 ∨ ∃ q len cap, e.1 = .slice (some ⟨q, 0, none⟩) len cap ∧ B ≤ q ∧ q < w.heap.size ∧ v.ownBlock ≠ some q ∧ len ≤ cap ∧ cap ≤ maxLen ∧ ∀ j, j < len * sz → w.cell? ⟨q, j, none⟩ = some (.int .i64 e.2)
theorem Held1.turns {sz : Nat} {p : Nat → Prop} {w w' : World} {B : Nat} {v : Value} {e : Value × Int} (h : Held1 sz w B v e) (t : Turns p w w') (hp : ∀ q, e.1.ownBlock = some q → ¬ p q) : Held1 sz w' B v e := by
  rcases h with h | ⟨q, len, cap, h1, h2, h3, h4, h5, h6, h7⟩
  · exact Or.inl h
  · exact Or.inr ⟨q, len, cap, h1, h2, Nat.lt_of_lt_of_le h3 t.size, h4, h5, h6, fun j hj => (t.cell (a := ⟨q, j, none⟩) h3 (hp q (by rw [h1]; rfl))).trans (h7 j hj)⟩
theorem Held1.row {sz : Nat} {w : World} {B : Nat} {v v' : Value} {e : Value × Int} (h : Held1 sz w B v e) (hv : ∀ q, e.1.ownBlock = some q → v'.ownBlock ≠ some q) : Held1 sz w B v' e := by
  rcases h with h | ⟨q, len, cap, h1, h2, h3, _, h5⟩
  · exact Or.inl h
  · exact Or.inr ⟨q, len, cap, h1, h2, h3, hv q (by rw [h1]; rfl), h5⟩
theorem Held1.lt {sz : Nat} {w : World} {B : Nat} {v : Value} {e : Value × Int} (h : Held1 sz w B v e) : ∀ q, e.1.ownBlock = some q → B ≤ q ∧ q < w.heap.size ∧ v.ownBlock ≠ some q := by
  intro q hq
  rcases h with h | ⟨q', len, cap, h1, h2, h3, h4, _⟩
  · rw [h] at hq; cases hq
  · rw [h1] at hq; cases hq; exact ⟨h2, h3, h4⟩

def hvals : List (Value × Int) → List Value
  | [] => []
  | (v, m) :: r => v :: .int .i64 m :: hvals r
theorem hvals_length : ∀ E : List (Value × Int), (hvals E).length = E.length * 2
  | [] => rfl
  | (v, m) :: r => by simp [hvals, hvals_length r]; omega
theorem hvals_append : ∀ (a b : List (Value × Int)), hvals (a ++ b) = hvals a ++ hvals b
  | [], b => rfl
  | (v, m) :: r, b => by simp [hvals, hvals_append r b]
theorem hvals_get : ∀ (E : List (Value × Int)) (k : Nat) (v : Value) (m : Int), E[k]? = some (v, m) → (hvals E)[k * 2]? = some v ∧ (hvals E)[k * 2 + 1]? = some (.int .i64 m)
  | [], k, v, m, h => by simp at h
  | (a, b) :: r, 0, v, m, h => by
    simp at h
    obtain ⟨rfl, rfl⟩ := h
    simp [hvals]
  | (a, b) :: r, k + 1, v, m, h => by
    have := hvals_get r k v m (by simpa using h)
    rw [show (k + 1) * 2 = k * 2 + 1 + 1 by omega, hvals]
    simpa using this

/-- The row v holds the lists E, each full of its mark. -/
structure Lists (sz et : Nat) (w : World) (B : Nat) (v : Value) (E : List (Value × Int)) : Prop where
  own : w.ownsRow B et 2 v E.length (hvals E)
  full : ∀ e ∈ E, Held1 sz w B v e
theorem Lists.nil (sz et : Nat) (w : World) (B : Nat) : Lists sz et w B (.slice none 0 0) [] := ⟨World.ownsRow_nil _ _ _ _, fun e he => by cases he⟩
theorem Lists.turns {sz et : Nat} {p : Nat → Prop} {w w' : World} {B : Nat} {v : Value} {E : List (Value × Int)} (h : Lists sz et w B v E) (t : Turns p w w') (hv : ∀ q, v.ownBlock = some q → ¬ p q) (hp : ∀ e ∈ E, ∀ q, e.1.ownBlock = some q → ¬ p q) : Lists sz et w' B v E := by
  refine ⟨?_, fun e he => (h.full e he).turns t (hp e he)⟩
  obtain ⟨h1, h2⟩ := h.own
  refine ⟨h1, ?_⟩
  rcases h2 with h2 | ⟨g, cap, cur, hv', hg, hb, r⟩
  · exact Or.inl h2
  · exact Or.inr ⟨g, cap, cur, hv', hg, (t.block g (lt_of_block hb) (hv g (by rw [hv']; rfl))).trans hb, r⟩

/-- The block of what is held: how many lists came, the rows of held lists of numbers and of labels. -/
def HB (w : World) (h : Nat) (k : Int) (v u : Value) : Prop := w.heap[h]? = some (.cells #[.int .i64 k, v, u, .slice none 0 0] 45 (0, 0))
theorem HB.lt {w : World} {h : Nat} {k : Int} {v u : Value} (H : HB w h k v u) : h < w.heap.size := lt_of_block H
theorem HB.c0 {w : World} {h : Nat} {k : Int} {v u : Value} (H : HB w h k v u) : w.cell? ⟨h, 0, none⟩ = some (.int .i64 k) := by unfold HB at H; simp [World.cell?, H]
theorem HB.c1 {w : World} {h : Nat} {k : Int} {v u : Value} (H : HB w h k v u) : w.cell? ⟨h, 1, none⟩ = some v := by unfold HB at H; simp [World.cell?, H]
theorem HB.c2 {w : World} {h : Nat} {k : Int} {v u : Value} (H : HB w h k v u) : w.cell? ⟨h, 2, none⟩ = some u := by unfold HB at H; simp [World.cell?, H]
theorem HB.c3 {w : World} {h : Nat} {k : Int} {v u : Value} (H : HB w h k v u) : w.cell? ⟨h, 3, none⟩ = some (.slice none 0 0) := by unfold HB at H; simp [World.cell?, H]
theorem HB.free {w : World} {h : Nat} {k : Int} {v u : Value} (H : HB w h k v u) (j : Nat) : w.frozen? ⟨h, j, none⟩ = false := by unfold HB at H; simp [World.frozen?, H]
theorem HB.turns {p : Nat → Prop} {w w' : World} {h : Nat} {k : Int} {v u : Value} (H : HB w h k v u) (t : Turns p w w') (hp : ¬ p h) : HB w' h k v u := (t.block h H.lt hp).trans H
theorem HB.set0 {w : World} {h : Nat} {k : Int} {v u : Value} (H : HB w h k v u) (x : Int) : HB (w.setCell ⟨h, 0, none⟩ (.int .i64 x)) h x v u := heap_setCell_same H _
theorem HB.set1 {w : World} {h : Nat} {k : Int} {v u : Value} (H : HB w h k v u) (x : Value) : HB (w.setCell ⟨h, 1, none⟩ x) h k x u := heap_setCell_same H _
theorem HB.set2 {w : World} {h : Nat} {k : Int} {v u : Value} (H : HB w h k v u) (x : Value) : HB (w.setCell ⟨h, 2, none⟩ x) h k v x := heap_setCell_same H _
theorem HB.new (w : World) : HB (w.alloc (.cells #[.int .i64 0, .slice none 0 0, .slice none 0 0, .slice none 0 0] 45)) w.heap.size 0 (.slice none 0 0) (.slice none 0 0) := by
  show (w.heap.push _)[w.heap.size]? = _
  simp

/-- One list more in the row. -/
theorem Lists.snoc {sz et : Nat} {w w4 : World} {B g cap n : Nat} {v : Value} {E : List (Value × Int)} {gv : Value} {m : Int} (h : Lists sz et w B v E) (hg : Held1 sz w B v (gv, m))
    (hown : w4.ownsRow B et 2 (.slice (some ⟨g, 0, none⟩) (n + 1) cap) (n + 1) (hvals E ++ [gv, .int .i64 m])) (hn : E.length = n) (hT : Turns (fun k => v.ownBlock = some k) w w4) (hat : v.ownBlock = some g ∨ w.heap.size ≤ g) :
    Lists sz et w4 B (.slice (some ⟨g, 0, none⟩) (n + 1) cap) (E ++ [(gv, m)]) := by
  have one : ∀ e, Held1 sz w B v e → Held1 sz w4 B (.slice (some ⟨g, 0, none⟩) (n + 1) cap) e := by
    intro e he
    refine (he.turns hT (fun q hq => (he.lt q hq).2.2)).row (fun q hq c => ?_)
    simp only [Value.ownBlock, Option.some.injEq] at c
    subst c
    have := he.lt g hq
    rcases hat with hat | hat
    · exact this.2.2 hat
    · omega
  refine ⟨by rw [hvals_append]; simpa [hvals, hn] using hown, fun e he => ?_⟩
  rcases List.mem_append.1 he with he | he
  · exact one e (h.full e he)
  · rw [List.mem_singleton] at he; subst he; exact one _ hg
end Mem
end Go.Proofs.YtdogncjcainhlaaGreatDoor
/- A list that is held again and again, full of its mark: no walk in it. -/
namespace Go.Proofs.YtdogncjcainhlaaGreatDoor
open Go.RowKit
open Mem

/-- What holds while a list is held again and again: the row v' has the lists E', the list gv (n' elements) is full of m. -/
structure HS (sz et rt : Nat) (p : Nat → Prop) (w : World) (B n' : Nat) (m : Int) (v' gv : Value) (E' : List (Value × Int)) (wr : World) : Prop where
  ls : Lists sz et wr B v' E'
  row : ∃ ys, wr.ownsRow B rt sz gv n' ys ∧ ∀ j, j < n' * sz → ys[j]? = some (.int .i64 m)
  apart : ∀ q, gv.ownBlock = some q → v'.ownBlock ≠ some q ∧ ∀ e ∈ E', e.1.ownBlock = some q → ∃ len cap, e.1 = .slice (some ⟨q, 0, none⟩) len cap ∧ len ≤ n'
  new1 : ∀ q, v'.ownBlock = some q → p q ∨ w.heap.size ≤ q
  new2 : ∀ q, gv.ownBlock = some q → p q ∨ w.heap.size ≤ q
  t : Turns p w wr
theorem HS.held {sz et rt : Nat} {p : Nat → Prop} {w : World} {B n' : Nat} {m : Int} {v' gv : Value} {E' : List (Value × Int)} {wr : World} (h : HS sz et rt p w B n' m v' gv E' wr) : Held1 sz wr B v' (gv, m) := by
  obtain ⟨ys, h1, h2⟩ := h.row
  have h3 := h1
  rcases h1.2 with ⟨hv, _⟩ | ⟨q, cap, cur, hv, hb, hg, hnc, hcm, _⟩
  · exact Or.inl hv
  · rw [hv] at h3
    exact Or.inr ⟨q, n', cap, hv, hb, lt_of_block hg, (h.apart q (by rw [hv]; rfl)).1, hnc, hcm, fun j hj => by rw [h3.cellAt j hj]; exact h2 j hj⟩
/-- The list is held. -/
theorem HS.list {sz et rt : Nat} {p : Nat → Prop} {w : World} {B n' : Nat} {m : Int} {v' gv : Value} {E' : List (Value × Int)} {wr w3 : World} {o : Obj} {g cap c hblk slot : Nat} (h : HS sz et rt p w B n' m v' gv E' wr) (hh : hblk < B) (hp : p hblk) (hE : E'.length = c)
    (hown : w3.ownsRow B et 2 (.slice (some ⟨g, 0, none⟩) (c + 1) cap) (c + 1) (hvals E' ++ [gv, .int .i64 m])) (hgrow : (wr.alloc o).grownBy w3 v'.ownBlock) (hat : v'.ownBlock = some g ∨ g = wr.heap.size + 1) (x : Value) :
    HS sz et rt p w B n' m (.slice (some ⟨g, 0, none⟩) (c + 1) cap) gv (E' ++ [(gv, m)]) (w3.setCell ⟨hblk, slot, none⟩ x) := by
  have hT : Turns (fun k => v'.ownBlock = some k) wr w3 := ((Turns.refl _ wr).alloc _).grown hgrow (fun k hk => Or.inr hk)
  have hS : Turns (· = hblk) w3 (w3.setCell ⟨hblk, slot, none⟩ x) := (Turns.refl (· = hblk) w3).setCell (Or.inr rfl) _
  have hL := h.ls.snoc h.held hown hE hT (by rcases hat with hat | hat; · exact Or.inl hat
                                             · exact Or.inr (by omega))
  have hgB : B ≤ g := (hown.lt g rfl).1
  refine ⟨hL.turns hS (fun q hq => by simp only [Value.ownBlock, Option.some.injEq] at hq; omega) (fun e he q hq => by have := ((hL.full e he).lt q hq).1; omega), ?_, ?_, ?_, h.new2, ?_⟩
  · obtain ⟨ys, h1, h2⟩ := h.row
    refine ⟨ys, ?_, h2⟩
    refine ownsRow_setCell_other ?_ (fun c => by have := (h1.lt _ c).1; simp at this; omega) x
    obtain ⟨h3, h4⟩ := h1
    refine ⟨h3, ?_⟩
    rcases h4 with h4 | ⟨q, cap', cur, hv, hb, hg, r⟩
    · exact Or.inl h4
    · exact Or.inr ⟨q, cap', cur, hv, hb, (hT.block q (lt_of_block hg) (h.apart q (by rw [hv]; rfl)).1).trans hg, r⟩
  · intro q hq
    have ha := h.apart q hq
    have hlt : q < wr.heap.size := by
      obtain ⟨ys, h1, _⟩ := h.row
      exact (h1.lt q hq).2
    refine ⟨fun c => ?_, fun e he hb => ?_⟩
    · simp only [Value.ownBlock, Option.some.injEq] at c
      subst c
      rcases hat with hat | hat
      · exact ha.1 hat
      · omega
    · rcases List.mem_append.1 he with he | he
      · exact ha.2 e he hb
      · rw [List.mem_singleton] at he
        subst he
        obtain ⟨ys, h1, _⟩ := h.row
        rcases h1.2 with ⟨hv, _⟩ | ⟨q', cap', cur, hv, _⟩
        · rw [hv] at hq; cases hq
        · rw [hv] at hq; cases hq
          exact ⟨n', cap', hv, Nat.le_refl _⟩
  · intro q hq
    simp only [Value.ownBlock, Option.some.injEq] at hq
    subst hq
    have := h.t.size
    rcases hat with hat | hat
    · exact h.new1 _ hat
    · right; omega
  · refine Turns.setCell ?_ (Or.inr hp) x
    refine h.t.join hT (fun i hi hnp c => ?_)
    rcases h.new1 i c with h' | h'
    · exact hnp h'
    · omega
/-- One more of the mark behind it. -/
theorem HS.grow {sz et rt : Nat} {p : Nat → Prop} {w : World} {B n' : Nat} {m : Int} {v' gv : Value} {E' : List (Value × Int)} {wr w5 : World} {o : Obj} {g cap : Nat} {ys news : List Value} (h : HS sz et rt p w B n' m v' gv E' wr)
    (hys : wr.ownsRow B rt sz gv n' ys) (hm : ∀ j, j < n' * sz → ys[j]? = some (.int .i64 m)) (hnl : news.length = sz) (hnews : ∀ u ∈ news, u = .int .i64 m)
    (hown : w5.ownsRow B rt sz (.slice (some ⟨g, 0, none⟩) (n' + 1) cap) (n' + 1) (ys ++ news)) (hgrow : (wr.alloc o).grownBy w5 gv.ownBlock) (hat : gv.ownBlock = some g ∨ g = wr.heap.size + 1)
    (hst : ∀ b, gv.ownBlock = some b → ∀ j, j < n' * sz → w5.cell? ⟨b, j, none⟩ = (wr.alloc o).cell? ⟨b, j, none⟩) :
    HS sz et rt p w B (n' + 1) m v' (.slice (some ⟨g, 0, none⟩) (n' + 1) cap) E' w5 := by
  have hT : Turns (fun k => gv.ownBlock = some k) wr w5 := ((Turns.refl _ wr).alloc _).grown hgrow (fun k hk => Or.inr hk)
  refine ⟨⟨?_, fun e he => ?_⟩, ⟨ys ++ news, hown, fun j hj => ?_⟩, ?_, h.new1, ?_, ?_⟩
  · obtain ⟨h1, h2⟩ := h.ls.own
    refine ⟨h1, ?_⟩
    rcases h2 with h2 | ⟨q, cap', cur, hv, hb, hg, r⟩
    · exact Or.inl h2
    · exact Or.inr ⟨q, cap', cur, hv, hb, (hT.block q (lt_of_block hg) (fun c => (h.apart q c).1 (by rw [hv]; rfl))).trans hg, r⟩
  · have he1 := h.ls.full e he
    rcases he1 with h1 | ⟨q, len, cap', h1, h2, h3, h4, h5, h6, h7⟩
    · exact Or.inl h1
    · refine Or.inr ⟨q, len, cap', h1, h2, Nat.lt_of_lt_of_le h3 hT.size, h4, h5, h6, fun j hj => ?_⟩
      by_cases c : gv.ownBlock = some q
      · obtain ⟨len', cap'', h8, h9⟩ := (h.apart q c).2 e he (by rw [h1]; rfl)
        rw [h1] at h8
        injection h8 with _ e2 _
        subst e2
        have hle : len * sz ≤ n' * sz := Nat.mul_le_mul_right _ h9
        rw [hst q c j (by omega), World.cell?_alloc_lt _ _ _ h3]
        exact h7 j hj
      · exact (hT.cell (a := ⟨q, j, none⟩) h3 c).trans (h7 j hj)
  · have hyl := hys.1
    by_cases c : j < n' * sz
    · rw [List.getElem?_append_left (by omega)]; exact hm j c
    · rw [Nat.add_mul] at hj
      rw [List.getElem?_append_right (by omega)]
      have hlt : j - ys.length < news.length := by omega
      rw [List.getElem?_eq_getElem hlt, hnews _ (List.getElem_mem hlt)]
  · intro q hq
    simp only [Value.ownBlock, Option.some.injEq] at hq
    subst hq
    rcases hat with hat | hat
    · refine ⟨(h.apart _ hat).1, fun e he hb => ?_⟩
      obtain ⟨len, cap', h1, h2⟩ := (h.apart _ hat).2 e he hb
      exact ⟨len, cap', h1, by omega⟩
    · refine ⟨fun c => ?_, fun e he hb => ?_⟩
      · have := (h.ls.own.lt _ c).2; omega
      · have := ((h.ls.full e he).lt _ hb).2.1; omega
  · intro q hq
    simp only [Value.ownBlock, Option.some.injEq] at hq
    subst hq
    have := h.t.size
    rcases hat with hat | hat
    · exact h.new2 _ hat
    · right; omega
  · refine h.t.join hT (fun i hi hnp c => ?_)
    rcases h.new2 i c with h' | h'
    · exact hnp h'
    · omega
theorem HS.one {sz et rt : Nat} {p : Nat → Prop} {w : World} {B n' : Nat} {m : Int} {v' gv : Value} {E' : List (Value × Int)} {wr : World} (h : HS sz et rt p w B n' m v' gv E' wr) : gv.oneCell' = true := by
  obtain ⟨ys, h1, _⟩ := h.row
  rcases h1.2 with ⟨hv, _⟩ | ⟨q, cap, cur, hv, _⟩ <;> rw [hv] <;> rfl
theorem HS.form {sz et rt : Nat} {p : Nat → Prop} {w : World} {B n' : Nat} {m : Int} {v' gv : Value} {E' : List (Value × Int)} {wr : World} (h : HS sz et rt p w B n' m v' gv E' wr) : ∃ ga gl gc, gv = .slice ga gl gc := by
  obtain ⟨ys, h1, _⟩ := h.row
  rcases h1.2 with ⟨hv, _⟩ | ⟨q, cap, cur, hv, _⟩
  · exact ⟨_, _, _, hv⟩
  · exact ⟨_, _, _, hv⟩
end Go.Proofs.YtdogncjcainhlaaGreatDoor
/- The walks of bywaykeep.pick and bywaykeep.decimal. -/
namespace Go.Proofs.YtdogncjcainhlaaGreatDoor
open Go.RowKit
open Mem

theorem ret_int {k : IntKind} {a b : Int} (h : a = b) : Ending.returned (.int k a) = .returned (.int k b) := by rw [h]
set_option maxHeartbeats 400000 in
theorem pick_any (c : Int) (n : Nat) (w : World) (h0 : -9223372036854775808 ≤ c) (h1 : c ≤ 9223372036854775807) (hn : 0 < n) (hn2 : n ≤ 1000) :
    Calls Tryz.prog 10 #[.int .i64 c, .int .i64 n] w fun e w' => e = .returned (.int .i64 (Pu.pick c n)) ∧ w' = w := by
  by_cases hc : c < 0
  · have hz : ((n : Int) == 0) = false := by simp; omega
    have H : Hid (((Pu.pick c n : Nat) : Int) = -((c + 1).tmod (n : Int))) := by
      show _ = _
      unfold Pu.pick; rw [if_pos hc, Int.natCast_emod, Int.toNat_of_nonneg (by omega), ← Int.neg_tmod, Int.tmod_eq_emod_of_nonneg (by omega)]
    go_enter Tryz.func10, Tryz.ntmps10
    go_wp2
    go_ret
    exact ⟨ret_int H.out.symm, rfl⟩
  · have hz : ((n : Int) == 0) = false := by simp; omega
    have H : Hid (((Pu.pick c n : Nat) : Int) = c % (n : Int)) := by
      show _ = _
      unfold Pu.pick; rw [if_neg hc, Int.natCast_emod, Int.toNat_of_nonneg (by omega)]
    go_enter Tryz.func10, Tryz.ntmps10
    go_wp2
    go_ret
    exact ⟨ret_int H.out.symm, rfl⟩
/-- 'string([]byte{c})', c a digit. -/
theorem conv_dig (m : Nat) (hm : m < 10) (x : Int) (hx : x = 48 + (m : Int)) (W : World) (b : Nat) (hc : W.cell? ⟨b, 0, none⟩ = some (.int .u8 x)) :
    (convert 31 9 (.slice (some ⟨b, 0, none⟩) 1 1)).run Tryz.prog W = .ok (.string ⟨[(48 + m).toUInt8].toArray⟩) W := by
  refine run_convert_bytes_back W 31 9 5 ⟨b, 0, none⟩ 1 [(48 + m).toUInt8] Tryz.underlying31 Tryz.underlying5 Tryz.underlying9 ?_
  intro j hj
  obtain rfl : j = 0 := by simpa using hj
  have e : ((48 + m).toUInt8.toNat : Int) = x := by
    have : (48 + m).toUInt8.toNat = 48 + m := by simp; omega
    omega
  simp only [List.getElem_cons_zero, e]
  exact hc
theorem wrap_dig (n : Nat) : IntKind.u8.wrap (IntKind.i64.wrap (48 + (n : Int).tmod 10)) = 48 + ((n % 10 : Nat) : Int) := by
  have e : (n : Int).tmod 10 = ((n % 10 : Nat) : Int) := by rw [Int.tmod_eq_emod_of_nonneg (by omega)]; omega
  have h : n % 10 < 10 := by omega
  rw [e]
  generalize n % 10 = m at *
  have e1 : IntKind.i64.wrap (48 + (m : Int)) = 48 + (m : Int) := by rw [IntKind.wrap_i64]; omega
  rw [e1, IntKind.wrap_u8]
  omega
theorem ret_str {M L : List UInt8} : Ending.returned (.string ({ data := M.toArray } ++ { data := L.toArray })) = .returned (.string ⟨(M ++ L).toArray⟩) := by
  have e : ({ data := M.toArray } ++ { data := L.toArray } : ByteArray) = ⟨(M ++ L).toArray⟩ := by
    apply ByteArray.ext
    simp
  rw [e]
theorem bcell {W w' : World} (h : Turns (fun _ => False) W w') : ∀ b o, b < W.heap.size → w'.cell? ⟨b, o, none⟩ = W.cell? ⟨b, o, none⟩ := fun b o hb => h.cell (a := ⟨b, o, none⟩) hb (fun x => x)
theorem bfree {W w' : World} (h : Turns (fun _ => False) W w') : ∀ b o, b < W.heap.size → w'.frozen? ⟨b, o, none⟩ = W.frozen? ⟨b, o, none⟩ := fun b o hb => h.frozen (a := ⟨b, o, none⟩) hb (fun x => x)

set_option maxRecDepth 100000 in
set_option maxHeartbeats 400000 in
theorem dec_lo (n : Nat) (w : World) (h : n < 10) :
    Calls Tryz.prog 22 #[.int .i64 n] w fun e w' => e = .returned (.string ⟨(Pu.dec n).toArray⟩) ∧ Turns (fun _ => False) w w' := by
  rw [Pu.dec_low h]
  have hcv := conv_dig n h (48 + n) rfl
  generalize [(48 + n).toUInt8].toArray = L at *
  go_enter Tryz.func22, Tryz.ntmps22
  go_wp2
  go_ret
  exact ⟨rfl, (Turns.refl _ _).alloc _⟩
set_option maxRecDepth 100000 in
set_option maxHeartbeats 1000000 in
theorem dec_hi (n : Nat) (w : World) (h : ¬ n < 10) (hn : n ≤ 100000)
    (ih : ∀ w, Calls Tryz.prog 22 #[.int .i64 ((n : Int) / 10)] w fun e w' => e = .returned (.string ⟨(Pu.dec (n / 10)).toArray⟩) ∧ Turns (fun _ => False) w w') (hl : (Pu.dec (n / 10)).length ≤ 1000000) :
    Calls Tryz.prog 22 #[.int .i64 n] w fun e w' => e = .returned (.string ⟨(Pu.dec n).toArray⟩) ∧ Turns (fun _ => False) w w' := by
  rw [Pu.dec_high h]
  have hcv := conv_dig (n % 10) (by omega) (IntKind.u8.wrap (IntKind.i64.wrap (48 + (n : Int).tmod 10))) (wrap_dig n)
  have hge : 10 ≤ n := by omega
  generalize hL : [(48 + n % 10).toUInt8] = L at *
  generalize Pu.dec (n / 10) = M at *
  have ew : IntKind.i64.wrap ((n : Int) / 10) = (n : Int) / 10 := by rw [IntKind.wrap_i64]; omega
  rw [← ew] at ih
  have IH : Hid (∀ w, Calls Tryz.prog 22 #[.int .i64 (IntKind.i64.wrap ((n : Int) / 10))] w fun e w' => e = .returned (.string ⟨M.toArray⟩) ∧ Turns (fun _ => False) w w') := ih
  have hLl : L.length = 1 := by rw [← hL]; rfl
  clear ih h hL ew
  go_enter Tryz.func22, Tryz.ntmps22
  go_wp2
  go_region_with (go_at_call 22; refine (IH.out _).mono ?_; rintro e w' ⟨rfl, hT⟩; have hcl := bcell hT; have hsz := hT.size)
  all_goals go_wp2
  all_goals go_ret
  all_goals refine ⟨ret_str, ?_⟩
  all_goals first
    | exact ((Turns.refl _ w).drew.trans hT).alloc _
    | exact ((Turns.refl _ w).drew.alloc _).trans hT
/-- decimal gives a number's text. -/
theorem dec_any (n : Nat) : n ≤ 100000 → ∀ w, Calls Tryz.prog 22 #[.int .i64 n] w fun e w' => e = .returned (.string ⟨(Pu.dec n).toArray⟩) ∧ Turns (fun _ => False) w w' := by
  induction n using Nat.strongRecOn with
  | ind n ih =>
    intro hn w
    by_cases h : n < 10
    · exact dec_lo n w h
    · have hl := Pu.dec_len (n / 10)
      exact dec_hi n w h hn (fun w => by have := ih (n / 10) (by omega) (by omega) w; simpa using this) (by omega)
#print axioms dec_any
end Go.Proofs.YtdogncjcainhlaaGreatDoor
/- The walks of the reference's Count, Sum and Sealed. -/
namespace Go.Proofs.YtdogncjcainhlaaGreatDoor
open Go.RowKit
open Mem

theorem conv1 (x : Int) (a : UInt8) (hx : x = (a.toNat : Int)) (W : World) (b : Nat) (hc : W.cell? ⟨b, 0, none⟩ = some (.int .u8 x)) :
    (convert 31 9 (.slice (some ⟨b, 0, none⟩) 1 1)).run Tryz.prog W = .ok (.string ⟨[a].toArray⟩) W := by
  refine run_convert_bytes_back W 31 9 5 ⟨b, 0, none⟩ 1 [a] Tryz.underlying31 Tryz.underlying5 Tryz.underlying9 ?_
  intro j hj
  obtain rfl : j = 0 := by simpa using hj
  subst hx
  exact hc
theorem conv2 (x y : Int) (a c : UInt8) (hx : x = (a.toNat : Int)) (hy : y = (c.toNat : Int)) (W : World) (b : Nat) (hc : W.cell? ⟨b, 0, none⟩ = some (.int .u8 x)) (hd : W.cell? ⟨b, 1, none⟩ = some (.int .u8 y)) :
    (convert 31 9 (.slice (some ⟨b, 0, none⟩) 2 2)).run Tryz.prog W = .ok (.string ⟨[a, c].toArray⟩) W := by
  refine run_convert_bytes_back W 31 9 5 ⟨b, 0, none⟩ 2 [a, c] Tryz.underlying31 Tryz.underlying5 Tryz.underlying9 ?_
  intro j hj
  subst hx hy
  rcases (by simp at hj; omega : j = 0 ∨ j = 1) with rfl | rfl
  · exact hc
  · exact hd
theorem conv3 (x y z : Int) (a c d : UInt8) (hx : x = (a.toNat : Int)) (hy : y = (c.toNat : Int)) (hz : z = (d.toNat : Int)) (W : World) (b : Nat) (h0 : W.cell? ⟨b, 0, none⟩ = some (.int .u8 x)) (h1 : W.cell? ⟨b, 1, none⟩ = some (.int .u8 y)) (h2 : W.cell? ⟨b, 2, none⟩ = some (.int .u8 z)) :
    (convert 31 9 (.slice (some ⟨b, 0, none⟩) 3 3)).run Tryz.prog W = .ok (.string ⟨[a, c, d].toArray⟩) W := by
  refine run_convert_bytes_back W 31 9 5 ⟨b, 0, none⟩ 3 [a, c, d] Tryz.underlying31 Tryz.underlying5 Tryz.underlying9 ?_
  intro j hj
  subst hx hy hz
  rcases (by simp at hj; omega : j = 0 ∨ j = 1 ∨ j = 2) with rfl | rfl | rfl
  · exact h0
  · exact h1
  · exact h2
theorem conv4 (x y z u : Int) (a c d e : UInt8) (hx : x = (a.toNat : Int)) (hy : y = (c.toNat : Int)) (hz : z = (d.toNat : Int)) (hu : u = (e.toNat : Int)) (W : World) (b : Nat) (h0 : W.cell? ⟨b, 0, none⟩ = some (.int .u8 x)) (h1 : W.cell? ⟨b, 1, none⟩ = some (.int .u8 y)) (h2 : W.cell? ⟨b, 2, none⟩ = some (.int .u8 z)) (h3 : W.cell? ⟨b, 3, none⟩ = some (.int .u8 u)) :
    (convert 31 9 (.slice (some ⟨b, 0, none⟩) 4 4)).run Tryz.prog W = .ok (.string ⟨[a, c, d, e].toArray⟩) W := by
  refine run_convert_bytes_back W 31 9 5 ⟨b, 0, none⟩ 4 [a, c, d, e] Tryz.underlying31 Tryz.underlying5 Tryz.underlying9 ?_
  intro j hj
  subst hx hy hz hu
  rcases (by simp at hj; omega : j = 0 ∨ j = 1 ∨ j = 2 ∨ j = 3) with rfl | rfl | rfl | rfl
  · exact h0
  · exact h1
  · exact h2
  · exact h3
theorem ofNat_int {n : Nat} (h : n < 256) : (n : Int) = ((UInt8.ofNat n).toNat : Int) := by
  have : (UInt8.ofNat n).toNat = n := by simp; omega
  omega

set_option maxRecDepth 100000 in
set_option maxHeartbeats 400000 in
theorem rcount_lo (n : Nat) (w : World) (h : n < 128) :
    Calls Tryz.prog 31 #[.int .i64 n] w fun e w' => e = .returned (.string ⟨(Pu.countB n).toArray⟩) ∧ Turns (fun _ => False) w w' := by
  have e : Pu.countB n = [UInt8.ofNat n] := by unfold Pu.countB; rw [if_pos h]
  rw [e]
  have hcv := conv1 (n : Int) (UInt8.ofNat n) (ofNat_int (by omega))
  generalize [UInt8.ofNat n].toArray = L at *
  clear e
  go_enter Tryz.func31, Tryz.ntmps31
  go_wp2
  go_ret
  exact ⟨rfl, (Turns.refl _ _).alloc _⟩
set_option maxRecDepth 100000 in
set_option maxHeartbeats 400000 in
theorem rcount_mid (n : Nat) (w : World) (h : ¬ n < 128) (h2 : n < 16384) :
    Calls Tryz.prog 31 #[.int .i64 n] w fun e w' => e = .returned (.string ⟨(Pu.countB n).toArray⟩) ∧ Turns (fun _ => False) w w' := by
  have e : Pu.countB n = [UInt8.ofNat (128 + n % 128), UInt8.ofNat (n / 128)] := by unfold Pu.countB; rw [if_neg h, if_pos h2]
  rw [e]
  have hcv := conv2 (128 + (n : Int) % 128) ((n : Int) / 128) (UInt8.ofNat (128 + n % 128)) (UInt8.ofNat (n / 128)) (by have := ofNat_int (n := 128 + n % 128) (by omega); omega) (by have := ofNat_int (n := n / 128) (by omega); omega)
  generalize [UInt8.ofNat (128 + n % 128), UInt8.ofNat (n / 128)].toArray = L at *
  clear e
  go_enter Tryz.func31, Tryz.ntmps31
  go_wp2
  go_ret
  exact ⟨rfl, (Turns.refl _ _).alloc _⟩
set_option maxRecDepth 100000 in
set_option maxHeartbeats 400000 in
theorem rcount_hi (n : Nat) (w : World) (h : ¬ n < 16384) (h2 : n < 2097152) :
    Calls Tryz.prog 31 #[.int .i64 n] w fun e w' => e = .returned (.string ⟨(Pu.countB n).toArray⟩) ∧ Turns (fun _ => False) w w' := by
  have h0 : ¬ n < 128 := by omega
  have e : Pu.countB n = [UInt8.ofNat (128 + n % 128), UInt8.ofNat (128 + n / 128 % 128), UInt8.ofNat (n / 16384)] := by unfold Pu.countB; rw [if_neg h0, if_neg h]
  rw [e]
  have hcv := conv3 (128 + (n : Int) % 128) (128 + (n : Int) / 128 % 128) ((n : Int) / 16384) (UInt8.ofNat (128 + n % 128)) (UInt8.ofNat (128 + n / 128 % 128)) (UInt8.ofNat (n / 16384)) (by have := ofNat_int (n := 128 + n % 128) (by omega); omega) (by have := ofNat_int (n := 128 + n / 128 % 128) (by omega); omega) (by have := ofNat_int (n := n / 16384) (by omega); omega)
  generalize [UInt8.ofNat (128 + n % 128), UInt8.ofNat (128 + n / 128 % 128), UInt8.ofNat (n / 16384)].toArray = L at *
  clear e
  go_enter Tryz.func31, Tryz.ntmps31
  go_wp2
  go_ret
  exact ⟨rfl, (Turns.refl _ _).alloc _⟩
/-- The reference's Count. -/
theorem rcount_any (n : Nat) (w : World) (h : n < 2097152) :
    Calls Tryz.prog 31 #[.int .i64 n] w fun e w' => e = .returned (.string ⟨(Pu.countB n).toArray⟩) ∧ Turns (fun _ => False) w w' := by
  by_cases h1 : n < 128
  · exact rcount_lo n w h1
  · by_cases h2 : n < 16384
    · exact rcount_mid n w h1 h2
    · exact rcount_hi n w h2 h
#print axioms rcount_any

namespace Pu
theorem crc_snoc (l : List UInt8) (b : UInt8) (h : Nat) : crc h (l ++ [b]) = addB (crc h l) b := by rw [crc_append]; rfl
theorem bit1_odd {h : Nat} (e : h % 2 = 1) : bit1 h = h / 2 ^^^ 3988292384 := by unfold bit1; rw [if_pos e]
theorem bit1_even {h : Nat} (e : ¬ h % 2 = 1) : bit1 h = h / 2 := by unfold bit1; rw [if_neg e]
end Pu

set_option maxRecDepth 100000 in
set_option maxHeartbeats 1000000 in
/-- The reference's Sum. -/
theorem rsum_any (s : ByteArray) (w : World) (hs : s.size ≤ 2000000) :
    Calls Tryz.prog 109 #[.string s] w fun e w' => e = .returned (.int .u32 (Pu.sumN s.data.toList : Nat)) ∧ w' = w := by
  go_enter Tryz.func109, Tryz.ntmps109
  go_wp2
  go_loop [3, 4] (fun h i => ∃ (k H : Nat), k ≤ s.size ∧ i = .int .i64 k ∧ h = .int .u32 H ∧ H < 4294967296 ∧ Hid (H = Pu.crc 4294967295 (s.data.toList.take k))) (fun _ i => s.size - (intOf i).toNat)
  case atStart => exact ⟨0, 4294967295, Nat.zero_le _, rfl, rfl, by decide, rfl⟩
  case round =>
    obtain ⟨k, H, hk, rfl, rfl, hH, HK⟩ := hrel
    by_cases hlt : k < s.size
    · have hlti : (k : Int) < (s.size : Int) := by omega
      have hb : s[k].toNat < 256 := s[k].toNat_lt
      have hx := u32_xor_nat H s[k].toNat hH (by omega)
      have hxl : H ^^^ s[k].toNat < 4294967296 := Nat.xor_lt_two_pow (n := 32) hH (by omega)
      have HC : Hid (Pu.addB H s[k] = Pu.crc 4294967295 (s.data.toList.take (k + 1))) := by
        show _ = _
        rw [List.take_add_one, show s.data.toList[k]? = some s[k] by rw [List.getElem?_eq_getElem (by simpa using hlt)]; rfl, Option.toList_some, Pu.crc_snoc, ← HK.out]
      have HA : Hid (Pu.bitN 8 (H ^^^ s[k].toNat) = Pu.addB H s[k]) := rfl
      clear HK
      generalize H ^^^ s[k].toNat = X at *
      go_wp2
      go_loop [3, 5] (fun h i => ∃ (j Y : Nat), j ≤ 8 ∧ i = .int .i64 j ∧ h = .int .u32 Y ∧ Y < 4294967296 ∧ Hid (Y = Pu.bitN j X)) (fun _ i => 8 - (intOf i).toNat)
      case atStart => exact ⟨0, X, by omega, rfl, rfl, hxl, rfl⟩
      case round =>
        obtain ⟨j, Y, hj, rfl, rfl, hY, HJ⟩ := hrel
        by_cases hj8 : j < 8
        · have hji : (j : Int) < 8 := by omega
          by_cases ho : Y % 2 = 1
          · have hoi : ((Y : Int) % 2 == 1) = true := by rw [beq_iff_eq]; omega
            have hxx : bits .xor .u32 ((Y : Int) / 2) 3988292384 = ((Y / 2 ^^^ 3988292384 : Nat) : Int) := by have := u32_xor_nat (Y / 2) 3988292384 (by omega) (by decide); simpa using this
            have hyl : Y / 2 ^^^ 3988292384 < 4294967296 := Nat.xor_lt_two_pow (n := 32) (by omega) (by decide)
            have HN : Hid (Y / 2 ^^^ 3988292384 = Pu.bitN (j + 1) X) := by show _ = Pu.bit1 _; rw [← HJ.out, Pu.bit1_odd ho]
            generalize Y / 2 ^^^ 3988292384 = Z at *
            clear HJ
            go_wp2
            go_round
            case rel => exact ⟨j + 1, Z, by omega, by go_num, rfl, hyl, HN⟩
            case measure => simp [intOf]; omega
          · have hoi : ((Y : Int) % 2 == 1) = false := by rw [beq_eq_false_iff_ne]; omega
            have HN : Hid (Y / 2 = Pu.bitN (j + 1) X) := by show _ = Pu.bit1 _; rw [← HJ.out, Pu.bit1_even ho]
            clear HJ
            go_wp2
            go_round
            case rel => exact ⟨j + 1, Y / 2, by omega, by go_num, by go_num, by omega, HN⟩
            case measure => simp [intOf]; omega
        · have hj9 : j = 8 := by omega
          have hji : ¬ (j : Int) < 8 := by omega
          have HN : Hid (Y = Pu.crc 4294967295 (s.data.toList.take (k + 1))) := by show _ = _; rw [← HC.out, ← HA.out, HJ.out, hj9]
          clear HJ hj9
          go_wp2
          go_round
          case rel => exact ⟨k + 1, Y, by omega, by go_num, rfl, hY, HN⟩
          case measure => simp [intOf]; omega
    · have hlti : ¬ (k : Int) < (s.size : Int) := by omega
      have HN : Hid (4294967295 - (H : Int) = (Pu.sumN s.data.toList : Nat)) := by
        show _ = _
        have e := HK.out
        rw [List.take_of_length_le (by simp; omega)] at e
        unfold Pu.sumN
        rw [← e]; omega
      clear HK
      go_wp2
      go_ret
      exact ⟨by rw [← HN.out]; rfl, rfl⟩
#print axioms rsum_any
end Go.Proofs.YtdogncjcainhlaaGreatDoor
/- The walk of the reference's cut: a text cut at a byte. -/
namespace Go.Proofs.YtdogncjcainhlaaGreatDoor
open Go.RowKit
open Mem
namespace Pu

/-- The pieces that end ahead of place k, as the reference cuts them; and where the next one begins. -/
def cutTo (c : UInt8) (l : List UInt8) : Nat → List (List UInt8) × Nat
  | 0 => ([], 0)
  | k + 1 => if l[k]? = some c then ((cutTo c l k).1 ++ [(l.take k).drop (cutTo c l k).2], k + 1) else cutTo c l k
theorem cutTo_le (c : UInt8) (l : List UInt8) : ∀ k, (cutTo c l k).2 ≤ k
  | 0 => Nat.le_refl _
  | k + 1 => by have := cutTo_le c l k; rw [cutTo]; split <;> simp <;> omega
theorem cutTo_len (c : UInt8) (l : List UInt8) : ∀ k, (cutTo c l k).1.length ≤ k
  | 0 => Nat.le_refl _
  | k + 1 => by have := cutTo_len c l k; rw [cutTo]; split <;> simp <;> omega
theorem drop_split {l : List UInt8} {c : UInt8} {k f : Nat} (hkl : k < l.length) (e : l[k] = c) (hle : f ≤ k) : l.drop f = (l.take k).drop f ++ c :: l.drop (k + 1) := by
  have h5 : l = l.take k ++ c :: l.drop (k + 1) := by
    rw [← e, ← List.drop_eq_getElem_cons hkl]; exact (List.take_append_drop k l).symm
  have h6 : (l.take k ++ c :: l.drop (k + 1)).drop f = (l.take k).drop f ++ c :: l.drop (k + 1) := List.drop_append_of_le_length (by simp; omega)
  rw [← h5] at h6
  exact h6
/-- All pieces. -/
theorem cutTo_all (c : UInt8) (l : List UInt8) : ∀ k, k ≤ l.length → cuts c l = (cutTo c l k).1 ++ cuts c (l.drop (cutTo c l k).2) ∧ ∀ i, (cutTo c l k).2 ≤ i → i < k → l[i]? ≠ some c
  | 0, _ => ⟨by simp [cutTo], fun i h1 h2 => by omega⟩
  | k + 1, hk => by
    obtain ⟨h1, h2⟩ := cutTo_all c l k (by omega)
    have hle := cutTo_le c l k
    rw [cutTo]
    by_cases e : l[k]? = some c
    · rw [if_pos e]
      refine ⟨?_, fun i h3 h4 => by simp at h3; omega⟩
      rw [h1, List.append_assoc]
      congr 1
      generalize (cutTo c l k).2 = f at *
      have hkl : k < l.length := by omega
      have hd : l.drop f = (l.take k).drop f ++ c :: l.drop (k + 1) := drop_split hkl (by rw [List.getElem?_eq_getElem hkl] at e; exact Option.some.inj e) hle
      rw [hd, cuts_step]
      · rfl
      · intro x hx hxc
        subst hxc
        obtain ⟨i, hi⟩ := List.mem_iff_getElem?.1 hx
        rw [List.getElem?_drop] at hi
        have hlt := (List.getElem?_eq_some_iff.1 hi).1
        simp at hlt
        rw [List.getElem?_take_of_lt (by omega)] at hi
        exact h2 (f + i) (by omega) (by omega) hi
    · rw [if_neg e]
      exact ⟨h1, fun i h3 h4 => by
        by_cases g : i = k
        · subst g; exact e
        · exact h2 i h3 (by omega)⟩
theorem cutTo_last (c : UInt8) (l : List UInt8) : cuts c l = (cutTo c l l.length).1 ++ [l.drop (cutTo c l l.length).2] := by
  obtain ⟨h1, h2⟩ := cutTo_all c l l.length (Nat.le_refl _)
  rw [h1]
  congr 1
  refine cuts_free _ ?_
  intro x hx hxc
  subst hxc
  obtain ⟨i, hi⟩ := List.mem_iff_getElem?.1 hx
  rw [List.getElem?_drop] at hi
  have hlt := (List.getElem?_eq_some_iff.1 hi).1
  exact h2 _ (by omega) hlt hi
end Pu

theorem info9 : (Tryz.prog.info? 9).map (fun i => (i.zero, i.size, i.bytes)) = some (some (.string ⟨#[]⟩), 1, 16) := by kernel_rfl
theorem extract_list (s : ByteArray) (a b : Nat) : (s.extract a b).data.toList = (s.data.toList.take b).drop a := by
  rw [Lib.extract_data]
  by_cases h : a ≤ b
  · simp [List.take_drop, show a + (b - a) = b by omega]
  · have e : b - a = 0 := by omega
    rw [e, List.take_zero, List.drop_eq_nil_of_le (by simp; omega)]
/-- What holds ahead of each round: the pieces that end ahead of place k lie in the row v. -/
def CutInv (w : World) (s : ByteArray) (c : UInt8) (v fr i : Value) (wr : World) : Prop :=
  ∃ (k f : Nat) (ps : List ByteArray), i = .int .i64 k ∧ fr = .int .i64 f ∧ wr.ownsRow w.heap.size 9 1 v ps.length (ps.map Value.string) ∧ Turns (fun _ => False) w wr ∧
    ((k ≤ s.size ∧ ps.map (·.data.toList) = (Pu.cutTo c s.data.toList k).1 ∧ f = (Pu.cutTo c s.data.toList k).2) ∨ (k = s.size + 1 ∧ f = s.size + 1 ∧ ps.map (·.data.toList) = Pu.cuts c s.data.toList))

set_option maxRecDepth 100000 in
set_option maxHeartbeats 1000000 in
theorem cut_any (s : ByteArray) (c : UInt8) (w : World) (hs : s.size ≤ 2000000) :
    Calls Tryz.prog 105 #[.string s, .int .u8 (c.toNat : Int)] w fun e w' => Turns (fun _ => False) w w' ∧ ∃ (g cap : Nat) (ps : List ByteArray), e = .returned (.slice (some ⟨g, 0, none⟩) ps.length cap) ∧ ps.map (·.data.toList) = Pu.cuts c s.data.toList ∧ w'.ownsRow w.heap.size 9 1 (.slice (some ⟨g, 0, none⟩) ps.length cap) ps.length (ps.map Value.string) := by
  obtain ⟨i0, hi, hz0, hz1, hz2⟩ := info_parts info9
  go_enter Tryz.func105, Tryz.ntmps105
  go_wp2
  go_loopw [5, 6, 7] (fun v fr i wr => CutInv w s c v fr i wr) (fun _ _ i _ => s.size + 1 - (intOf i).toNat)
  case atStart => exact ⟨0, 0, [], rfl, rfl, World.ownsRow_nil _ _ _ _, Turns.refl _ _, Or.inl ⟨Nat.zero_le _, rfl, rfl⟩⟩
  case round =>
    obtain ⟨k, f, ps, rfl, rfl, hown, hT, hcase⟩ := hrel
    have hTs := hT.size
    rcases hcase with ⟨hk, hps, hf⟩ | ⟨hk, hf, hps⟩
    · have hfl := Pu.cutTo_le c s.data.toList k
      have hpl := Pu.cutTo_len c s.data.toList k
      rw [← hf] at hfl
      rw [← hps] at hpl
      simp only [List.length_map] at hpl
      by_cases hlast : k = s.size
      · have hki : (k : Int) ≤ (s.size : Int) := by omega
        have hke : ((k : Int) == (s.size : Int)) = true := by simp; omega
        have hfi : (f : Int) ≤ (k : Int) := by omega
        have HL : Hid ((ps ++ [s.extract f k]).map (·.data.toList) = Pu.cuts c s.data.toList) := by
          show (ps ++ [s.extract f k]).map (·.data.toList) = _
          have hsz : s.data.toList.length = s.size := by simp
          rw [List.map_append, hps, Pu.cutTo_last, hsz, ← hlast, ← hf]
          congr 1
          simp only [List.map_cons, List.map_nil]
          rw [extract_list, List.take_of_length_le (by omega)]
        have HLast : Hid (k = s.size) := hlast
        clear hlast hps hf
        go_wp2_with (at_builtin; refine wpList_append_own _ rfl _ _ 172 rfl w.heap.size 9 i0 _ 1 16 Tryz.underlying172 hi hz0 hz1 hz2 rfl (by decide) _ _ _ rfl (hown.alloc _) ⟨wr.heap.size, 0, none⟩ 1 1 [.string (s.extract f k)] rfl rfl ?c1A ?c2A ?c3A ?c4A ?c5A ?_)
        case c1A => exact cell_one_new _ _ _
        case c2A => intro u hu; simp at hu; subst hu; rfl
        case c3A => unfold maxLen; omega
        case c4A => omega
        case c5A => simp; omega
        intro v' w3 hown3 hgrow _
        have hT3 : Turns (fun _ => False) w w3 := (hT.alloc _).grown hgrow (fun k hk => Or.inl (hown.lt k hk).1)
        have hown4 : w3.ownsRow w.heap.size 9 1 v' (ps ++ [s.extract f k]).length ((ps ++ [s.extract f k]).map Value.string) := by simpa using hown3
        have HR : Hid (CutInv w s c v' (.int .i64 ((k : Int) + 1)) (.int .i64 ((k : Int) + 1)) w3) := ⟨k + 1, k + 1, ps ++ [s.extract f k], by go_num, by go_num, hown4, hT3, Or.inr ⟨by rw [HLast.out], by rw [HLast.out], HL.out⟩⟩
        obtain ⟨g', cap', hv'⟩ := owns_form hown3
        rw [hv'] at HR ⊢
        clear hown3 hgrow hT3 hown4 hv' hown
        go_wp2
        go_roundw
        case measure => simp [intOf]; omega
        case rel => exact HR.out
      · have hkl : k < s.size := by omega
        have hki : (k : Int) ≤ (s.size : Int) := by omega
        have hki2 : (k : Int) < (s.size : Int) := by omega
        have hke : ((k : Int) == (s.size : Int)) = false := by simp; omega
        have hfi : (f : Int) ≤ (k : Int) := by omega
        have hg : s.data.toList[k]? = some s[k] := by rw [List.getElem?_eq_getElem (by simpa using hkl)]; rfl
        by_cases hb : s[k] = c
        · have hbb : ((s[k].toNat : Int) == (c.toNat : Int)) = true := by rw [hb]; simp
          have HL : Hid ((ps ++ [s.extract f k]).map (·.data.toList) = (Pu.cutTo c s.data.toList (k + 1)).1 ∧ k + 1 = (Pu.cutTo c s.data.toList (k + 1)).2) := by
            rw [Pu.cutTo, if_pos (by rw [hg, hb])]
            refine ⟨?_, rfl⟩
            rw [List.map_append, hps, hf]
            congr 1
            simp only [List.map_cons, List.map_nil]
            rw [extract_list]
          clear hlast hps hf hb hg
          go_wp2_with (at_builtin; refine wpList_append_own _ rfl _ _ 172 rfl w.heap.size 9 i0 _ 1 16 Tryz.underlying172 hi hz0 hz1 hz2 rfl (by decide) _ _ _ rfl (hown.alloc _) ⟨wr.heap.size, 0, none⟩ 1 1 [.string (s.extract f k)] rfl rfl ?c1B ?c2B ?c3B ?c4B ?c5B ?_)
          case c1B => exact cell_one_new _ _ _
          case c2B => intro u hu; simp at hu; subst hu; rfl
          case c3B => unfold maxLen; omega
          case c4B => omega
          case c5B => simp; omega
          intro v' w3 hown3 hgrow _
          have hT3 : Turns (fun _ => False) w w3 := (hT.alloc _).grown hgrow (fun k hk => Or.inl (hown.lt k hk).1)
          have hown4 : w3.ownsRow w.heap.size 9 1 v' (ps ++ [s.extract f k]).length ((ps ++ [s.extract f k]).map Value.string) := by simpa using hown3
          have HR : Hid (CutInv w s c v' (.int .i64 ((k : Int) + 1)) (.int .i64 ((k : Int) + 1)) w3) := ⟨k + 1, k + 1, ps ++ [s.extract f k], by go_num, by go_num, hown4, hT3, Or.inl ⟨by omega, HL.out.1, HL.out.2⟩⟩
          obtain ⟨g', cap', hv'⟩ := owns_form hown3
          rw [hv'] at HR ⊢
          clear hown3 hgrow hT3 hown4 hv' hown
          go_wp2
          go_roundw
          case measure => simp [intOf]; omega
          case rel => exact HR.out
        · have hbb : ((s[k].toNat : Int) == (c.toNat : Int)) = false := by
            simp only [beq_eq_false_iff_ne, ne_eq]
            intro e
            exact hb (UInt8.toNat_inj.1 (by omega))
          have HR : Hid (∀ v, wr.ownsRow w.heap.size 9 1 v ps.length (ps.map Value.string) → CutInv w s c v (.int .i64 f) (.int .i64 ((k : Int) + 1)) wr) := by
            intro v hv
            refine ⟨k + 1, f, ps, by go_num, rfl, hv, hT, Or.inl ⟨by omega, ?_, ?_⟩⟩
            · rw [Pu.cutTo, if_neg (by rw [hg]; simpa using hb)]; exact hps
            · rw [Pu.cutTo, if_neg (by rw [hg]; simpa using hb)]; exact hf
          clear hlast hps hf hb hg
          go_wp2
          go_roundw
          case measure => simp [intOf]; omega
          case rel => exact HR.out _ hown
    · have hki : ¬ (k : Int) ≤ (s.size : Int) := by omega
      obtain ⟨q, hq⟩ : ∃ q, ps.length = q + 1 := by
        have := congrArg List.length hps
        rw [Pu.cuts_length] at this
        simp at this
        exact ⟨ps.length - 1, by omega⟩
      have hown' := hown
      rw [hq] at hown'
      obtain ⟨g', cap', rfl⟩ := owns_form hown'
      have HE : Hid (ps.map (·.data.toList) = Pu.cuts c s.data.toList) := hps
      have HQ : Hid (ps.length = q + 1) := hq
      have HO : Hid (wr.ownsRow w.heap.size 9 1 (.slice (some ⟨g', 0, none⟩) (q + 1) cap') ps.length (ps.map Value.string)) := hown
      clear hown hown' hps hq hk hf
      go_wp2
      go_ret
      exact ⟨hT, g', cap', ps, by rw [HQ.out]; rfl, HE.out, by have := HO.out; rw [HQ.out] at this ⊢; exact this⟩
#print axioms cut_any
end Go.Proofs.YtdogncjcainhlaaGreatDoor
/- The walks of the reference's Sealed and Paged. -/
namespace Go.Proofs.YtdogncjcainhlaaGreatDoor
open Go.RowKit Go.Deep
open Mem

theorem cat_list (a b : ByteArray) : (a ++ b).data.toList = a.data.toList ++ b.data.toList := by simp
theorem of_list {a : ByteArray} {l : List UInt8} (h : a.data.toList = l) : a = ⟨l.toArray⟩ := by
  apply ByteArray.ext
  rw [← h]
theorem size_list (a : ByteArray) : a.size = a.data.toList.length := by simp

set_option maxRecDepth 100000 in
set_option maxHeartbeats 1000000 in
/-- The reference's Sealed. -/
theorem rseal_any (p : Nat) (h : ByteArray) (w : World) (hp : p < 65536) (hh : h.size ≤ 1000) :
    Calls Tryz.prog 69 #[.int .i64 p, .string h] w fun e w' => e = .returned (.string ⟨(Pu.sealB p h.data.toList).toArray⟩) ∧ Turns (fun _ => False) w w' := by
  have hcv := conv2 ((p : Int) / 256) ((p : Int) % 256) (UInt8.ofNat (p / 256)) (UInt8.ofNat (p % 256)) (by have := ofNat_int (n := p / 256) (by omega); omega) (by have := ofNat_int (n := p % 256) (by omega); omega)
  obtain ⟨A, hA⟩ : ∃ A : ByteArray, A = ⟨[UInt8.ofNat (p / 256), UInt8.ofNat (p % 256)].toArray⟩ := ⟨_, rfl⟩
  rw [← hA] at hcv
  have hAs : A.size = 2 := by rw [hA]; rfl
  have hAl : (A ++ h).data.toList = UInt8.ofNat (p / 256) :: UInt8.ofNat (p % 256) :: h.data.toList := by rw [cat_list, hA]; rfl
  have cs := fun w => rsum_any (A ++ h) w (by rw [ByteArray.size_append]; omega)
  rw [hAl] at cs
  have hN := Pu.sumN_lt (UInt8.ofNat (p / 256) :: UInt8.ofNat (p % 256) :: h.data.toList)
  have HE : Hid (h.data.toList ++ Pu.sumB (Pu.sumN (UInt8.ofNat (p / 256) :: UInt8.ofNat (p % 256) :: h.data.toList)) = Pu.sealB p h.data.toList) := rfl
  generalize Pu.sumN (UInt8.ofNat (p / 256) :: UInt8.ofNat (p % 256) :: h.data.toList) = N at *
  have hcw := conv4 ((N : Int) / 16777216) ((N : Int) / 65536 % 256) ((N : Int) / 256 % 256) ((N : Int) % 256) (UInt8.ofNat (N / 16777216)) (UInt8.ofNat (N / 65536 % 256)) (UInt8.ofNat (N / 256 % 256)) (UInt8.ofNat (N % 256))
    (by have := ofNat_int (n := N / 16777216) (by omega); omega) (by have := ofNat_int (n := N / 65536 % 256) (by omega); omega) (by have := ofNat_int (n := N / 256 % 256) (by omega); omega) (by have := ofNat_int (n := N % 256) (by omega); omega)
  obtain ⟨B, hB⟩ : ∃ B : ByteArray, B = ⟨[UInt8.ofNat (N / 16777216), UInt8.ofNat (N / 65536 % 256), UInt8.ofNat (N / 256 % 256), UInt8.ofNat (N % 256)].toArray⟩ := ⟨_, rfl⟩
  rw [← hB] at hcw
  have hBs : B.size = 4 := by rw [hB]; rfl
  have HB : Hid (h ++ B = ⟨(Pu.sealB p h.data.toList).toArray⟩) := by
    refine of_list ?_
    rw [cat_list, ← HE.out, hB]; rfl
  clear hA hB hAl HE
  go_enter Tryz.func69, Tryz.ntmps69
  go_wp2_with (go_at_call 109; refine (cs _).mono ?_; rintro e w1 ⟨rfl, hw1⟩; subst hw1)
  go_ret
  refine ⟨by rw [← HB.out]; rfl, ?_⟩
  exact ((Turns.refl _ _).alloc _).alloc _
#print axioms rseal_any

/-- How many bytes a text has. -/
def strLen : Value → Nat
  | .string b => b.size
  | _ => 0
namespace Pu
theorem padded {x : List UInt8} {j : Nat} (h : (x.length + j) % 28 = 0) (hj : j ≤ (28 - x.length % 28) % 28) : x ++ List.replicate j 0 = pad x := by
  unfold pad
  rw [show j = (28 - x.length % 28) % 28 by omega]
theorem pageP_next {s : List UInt8} {k : Nat} : pageP s (k + 1) = pageP s k ++ sealB k ((s.take (28 * k + 28)).drop (28 * k)) := by
  rw [pageP, chunk]
  congr 2
  rw [List.drop_take, show 28 * k + 28 - 28 * k = 28 by omega]
end Pu

set_option maxRecDepth 100000 in
set_option maxHeartbeats 2000000 in
/-- The reference's Paged. -/
theorem rpaged_any (x : ByteArray) (w : World) (hx : x.size ≤ 20000) :
    Calls Tryz.prog 32 #[.string x] w fun e w' => e = .returned (.string ⟨(Pu.paged x.data.toList).toArray⟩) ∧ Turns (fun _ => False) w w' := by
  have HXL : Hid (x.size = x.data.toList.length) := size_list x
  go_enter Tryz.func32, Tryz.ntmps32
  go_wp2
  go_loop [0] (fun sv => ∃ (S : ByteArray) (j : Nat), sv = .string S ∧ S.size ≤ 20100 ∧ Hid (S.size = x.size + j ∧ j ≤ (28 - x.size % 28) % 28 ∧ S.data.toList = x.data.toList ++ List.replicate j 0)) (fun sv => x.size + (28 - x.size % 28) % 28 - strLen sv)
  case atStart => exact ⟨x, 0, rfl, by omega, rfl, Nat.zero_le _, by simp⟩
  case round =>
    obtain ⟨S, j, rfl, hSb, HS⟩ := hrel
    by_cases hm : S.size % 28 = 0
    · have hmi : ((S.size : Int) % 28 != 0) = false := by simp; omega
      have HP : Hid (S.data.toList = Pu.pad x.data.toList) := by
        obtain ⟨h1, h2, h3⟩ := HS.out
        have hxl := HXL.out
        show _ = _
        rw [h3]; exact Pu.padded (by rw [← hxl]; omega) (by rw [← hxl]; exact h2)
      obtain ⟨K, hK⟩ : ∃ K, S.size = 28 * K := ⟨S.size / 28, by omega⟩
      have HK : Hid (S.size = 28 * K) := hK
      clear HS hK hm
      go_wp2
      go_loopw [3, 4] (fun ov iv wr => ∃ (o : ByteArray) (k i : Nat), ov = .string o ∧ iv = .int .i64 i ∧ i ≤ 30000 ∧ o.size ≤ 40000 ∧ Hid (i = 28 * k ∧ k ≤ K ∧ o.size = 32 * k ∧ o.data.toList = Pu.pageP S.data.toList k) ∧ Turns (fun _ => False) w wr) (fun _ iv _ => S.size - (intOf iv).toNat)
      case atStart => exact ⟨⟨#[]⟩, 0, 0, rfl, rfl, by omega, by decide, ⟨rfl, Nat.zero_le _, rfl, rfl⟩, Turns.refl _ _⟩
      case round =>
        obtain ⟨o, k, i, rfl, rfl, hib, hob, HO, hT⟩ := hrel
        obtain ⟨hik, hkK, ho, hol⟩ := HO.out
        have hK := HK.out
        by_cases hlt : k < K
        · have hii : (i : Int) < (S.size : Int) := by omega
          have hq : (i : Int) / 28 = (k : Int) := by omega
          have c := rseal_any k (S.extract i (i + 28)) wr (by omega) (by rw [ByteArray.size_extract]; omega)
          have hel : (S.extract i (i + 28)).data.toList = (S.data.toList.take (28 * k + 28)).drop (28 * k) := by rw [extract_list, hik]
          obtain ⟨Z, hZ⟩ : ∃ Z : ByteArray, Z = ⟨(Pu.sealB k (S.extract i (i + 28)).data.toList).toArray⟩ := ⟨_, rfl⟩
          have hZs : Z.size = 32 := by
            rw [hZ, size_list]
            show (Pu.sealB k _).length = 32
            rw [Pu.sealB_len, hel, List.length_drop, List.length_take, ← size_list]; omega
          have HN : Hid ((o ++ Z).data.toList = Pu.pageP S.data.toList (k + 1)) := by
            show _ = _
            rw [cat_list, hol, Pu.pageP_next, hZ, hel]
          rw [← hZ] at c
          have hle : ((i : Int) ≤ (i : Int) + 28) := by omega
          have hle2 : ((i : Int) + 28 ≤ (S.size : Int)) := by omega
          have hle3 : i + 28 ≤ S.size := by omega
          have hbig : (9223372036854775807 < o.size + Z.size) = False := by simp; omega
          have HX : Hid (∀ w2, Turns (fun _ => False) wr w2 → ∃ (o' : ByteArray) (k' i' : Nat), Value.string (o ++ Z) = .string o' ∧ Value.int .i64 ((i : Int) + 28) = .int .i64 i' ∧ i' ≤ 30000 ∧ o'.size ≤ 40000 ∧ Hid (i' = 28 * k' ∧ k' ≤ K ∧ o'.size = 32 * k' ∧ o'.data.toList = Pu.pageP S.data.toList k') ∧ Turns (fun _ => False) w w2) :=
            fun w2 h2 => ⟨o ++ Z, k + 1, i + 28, rfl, by go_num, by omega, by rw [ByteArray.size_append]; omega, ⟨by omega, by omega, by rw [ByteArray.size_append]; omega, HN.out⟩, hT.trans h2⟩
          have HM : Hid (i < S.size) := by show _ < _; omega
          have hZb : Z.size ≤ 32 := by omega
          clear HO hZ hel hT hik hkK ho hol hK hZs HK hlt
          go_wp2_with (go_at_call 69; refine c.mono ?_; rintro e w2 ⟨rfl, hT2⟩)
          go_roundw
          case rel => exact HX.out _ hT2
          case measure => have := HM.out; simp [intOf]; omega
        · have hii : ¬ (i : Int) < (S.size : Int) := by omega
          have HE : Hid (o = ⟨(Pu.paged x.data.toList).toArray⟩) := by
            refine of_list ?_
            have h1 := HP.out
            have h2 : (Pu.pad x.data.toList).length / 28 = k := by rw [← h1, ← size_list]; omega
            rw [hol, h1, Pu.paged, h2]
          clear HO hik hkK ho hol hK
          go_wp2
          go_ret
          exact ⟨by rw [← HE.out]; rfl, hT⟩
    · have hmi : ((S.size : Int) % 28 != 0) = true := by simp; omega
      have hbig : (9223372036854775807 < S.size + 1) = False := by simp; omega
      have HX : Hid (∃ (S' : ByteArray) (j' : Nat), Value.string (S ++ ⟨#[0]⟩) = .string S' ∧ S'.size ≤ 20100 ∧ Hid (S'.size = x.size + j' ∧ j' ≤ (28 - x.size % 28) % 28 ∧ S'.data.toList = x.data.toList ++ List.replicate j' 0)) := by
        obtain ⟨h1, h2, h3⟩ := HS.out
        have h4 : (S ++ ⟨#[0]⟩ : ByteArray).size = S.size + 1 := by rw [ByteArray.size_append]; rfl
        refine ⟨_, j + 1, rfl, by omega, by omega, by omega, ?_⟩
        rw [cat_list, h3, List.replicate_succ', List.append_assoc]
      have HM : Hid (S.size + 1 ≤ x.size + (28 - x.size % 28) % 28) := by
        obtain ⟨h1, h2, h3⟩ := HS.out
        show _ ≤ _
        omega
      clear HS hm
      go_wp2
      go_round
      case rel => exact HX.out
      case measure =>
        have h4 : (S ++ ⟨#[0]⟩ : ByteArray).size = S.size + 1 := by rw [ByteArray.size_append]; rfl
        have := HM.out
        show _ - (S ++ ⟨#[0]⟩ : ByteArray).size < _ - S.size
        omega
#print axioms rpaged_any
end Go.Proofs.YtdogncjcainhlaaGreatDoor
