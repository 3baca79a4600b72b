/- The walk of atlas.parseRoad. -/
import Derived.Test.YtdogncjcainhlaaGreatDoorPack2
import Derived.Test.YtdogncjcainhlaaGreatDoorShelf
import Derived.Test.YtdogncjcainhlaaGreatDoorPlain
import Derived.Laws.ResultCell
namespace Go.Proofs.YtdogncjcainhlaaGreatDoor
open Go.RowKit
open Mem

/-- internal/bytealg.MaxLen holds some int. -/
def Ml (w : World) : Prop := 0 < w.heap.size ∧ ∃ m, w.cell? ⟨0, 0, none⟩ = some (.int .i64 m)
theorem Ml.turns {p : Nat → Prop} {w w' : World} (h : Ml w) (t : Turns p w w') (hp : ¬ p 0) : Ml w' := ⟨Nat.lt_of_lt_of_le h.1 t.size, by obtain ⟨m, hm⟩ := h.2; exact ⟨m, (t.cell (a := ⟨0, 0, none⟩) h.1 hp).trans hm⟩⟩
theorem Ml.alloc {w : World} (h : Ml w) (o : Obj) : Ml (w.alloc o) := h.turns (Turns.alloc (Turns.refl (fun _ => False) w) o) (fun x => x)

theorem split_any (s : ByteArray) (c : UInt8) (w : World) (hs : s.size ≤ 4000) (hm : Ml w) :
    Calls Tryz.prog 76 #[.string s, .string ⟨#[c]⟩] w fun e w' => e = .returned (.slice (some ⟨w.heap.size, 0, none⟩) (Pu.pieces c s).length (Pu.pieces c s).length) ∧ w' = w.alloc (.cells ((Pu.pieces c s).map Value.string).toArray 9) := by
  obtain ⟨m, hm⟩ := hm.2
  rw [Pu.pieces_length]
  exact strings_Split s ⟨#[c]⟩ m w (by omega) hm (Nat.le_refl 1)

theorem three {α : Type} {l : List α} (h : l.length = 3) : ∃ a b c, l = [a, b, c] := by
  match l, h with
  | [a, b, c], _ => exact ⟨a, b, c, rfl⟩

set_option maxHeartbeats 1000000 in
theorem road_ne (s : ByteArray) (n : Int) (w : World) (hs : s.size ≤ 4000) (hm : Ml w) (h : (Pu.pieces 32 s).length ≠ 3) :
    Calls Tryz.prog 78 #[.string s, .int .i64 n] w fun e w' => e = .returned (.tuple #[.agg #[.int .i64 0, .int .i64 0, .int .i64 0], .bool false]) ∧ Turns (fun _ => False) w w' := by
  have hne : (((Pu.pieces 32 s).length : Int) != 3) = true := by simp; omega
  go_enter Tryz.func78, Tryz.ntmps78
  go_wp2_with fail
  refine (split_any s 32 _ hs (hm.alloc _)).mono ?_
  rintro e w1 ⟨rfl, hw1⟩
  subst hw1
  clear hm h
  go_wp2
  exact bodyPost_ret (v := .tuple #[.agg #[.int .i64 0, .int .i64 0, .int .i64 0], .bool false]) (by simp [results, Tryz.results78, go_sem]) rfl ⟨rfl, ((Turns.refl _ _).alloc _).alloc _⟩

theorem split_three (s A B C : ByteArray) (w : World) (hs : s.size ≤ 4000) (hm : Ml w) (h : Pu.pieces 32 s = [A, B, C]) :
    Calls Tryz.prog 76 #[.string s, .string ⟨#[32]⟩] w fun e w' => e = .returned (.slice (some ⟨w.heap.size, 0, none⟩) 3 3) ∧ w' = w.alloc (.cells #[.string A, .string B, .string C] 9) := by
  have c := split_any s 32 w hs hm
  rw [h] at c
  exact c

set_option maxHeartbeats 1000000 in
theorem road_badv (s A B C : ByteArray) (n : Int) (w : World) (hs : s.size ≤ 4000) (hm : Ml w) (h : Pu.pieces 32 s = [A, B, C]) (hB : B.size ≤ maxLen) (hn0 : 1 ≤ n) (hn1 : n ≤ 40)
    (h1 : Pu.within B.data.toList 0 (n - 1) = none) :
    Calls Tryz.prog 78 #[.string s, .int .i64 n] w fun e w' => e = .returned (.tuple #[.agg #[.int .i64 0, .int .i64 0, .int .i64 0], .bool false]) ∧ Turns (fun _ => False) w w' := by
  go_enter Tryz.func78, Tryz.ntmps78
  go_wp2_with fail
  refine (split_three s A B C _ hs (hm.alloc _) h).mono ?_
  rintro e w1 ⟨rfl, hw1⟩
  subst hw1
  clear hm h
  go_wp2_with fail
  refine (within_none B 0 (n - 1) _ hB h1).mono ?_
  rintro e w1 ⟨rfl, hw1⟩
  subst hw1
  clear h1
  go_wp2
  exact bodyPost_ret (v := .tuple #[.agg #[.int .i64 0, .int .i64 0, .int .i64 0], .bool false]) (by simp [results, Tryz.results78, go_sem]) rfl ⟨rfl, ((Turns.refl _ _).alloc _).alloc _⟩

set_option maxHeartbeats 1000000 in
theorem road_badu (s A B C : ByteArray) (n v : Int) (w : World) (hs : s.size ≤ 4000) (hm : Ml w) (h : Pu.pieces 32 s = [A, B, C]) (hB : B.size ≤ maxLen) (hA : A.size ≤ maxLen) (hn0 : 1 ≤ n) (hn1 : n ≤ 40)
    (h1 : Pu.within B.data.toList 0 (n - 1) = some v) (h2 : Pu.within A.data.toList 0 (v - 1) = none) :
    Calls Tryz.prog 78 #[.string s, .int .i64 n] w fun e w' => e = .returned (.tuple #[.agg #[.int .i64 0, .int .i64 0, .int .i64 0], .bool false]) ∧ Turns (fun _ => False) w w' := by
  have hv := Pu.within_some h1
  have hv0 := hv.2.1
  have hv1 := hv.2.2
  clear hv
  go_enter Tryz.func78, Tryz.ntmps78
  go_wp2_with fail
  refine (split_three s A B C _ hs (hm.alloc _) h).mono ?_
  rintro e w1 ⟨rfl, hw1⟩
  subst hw1
  clear hm h
  go_wp2_with fail
  refine (within_some B 0 (n - 1) v _ hB h1).mono ?_
  rintro e w1 ⟨rfl, hw1⟩
  subst hw1
  clear h1
  go_wp2_with fail
  refine (within_none A 0 (v - 1) _ hA h2).mono ?_
  rintro e w1 ⟨rfl, hw1⟩
  subst hw1
  clear h2
  go_wp2
  exact bodyPost_ret (v := .tuple #[.agg #[.int .i64 0, .int .i64 0, .int .i64 0], .bool false]) (by simp [results, Tryz.results78, go_sem]) rfl ⟨rfl, ((Turns.refl _ _).alloc _).alloc _⟩

set_option maxHeartbeats 1000000 in
theorem road_badx (s A B C : ByteArray) (n v u : Int) (w : World) (hs : s.size ≤ 4000) (hm : Ml w) (h : Pu.pieces 32 s = [A, B, C]) (hB : B.size ≤ maxLen) (hA : A.size ≤ maxLen) (hC : C.size ≤ maxLen) (hn0 : 1 ≤ n) (hn1 : n ≤ 40)
    (h1 : Pu.within B.data.toList 0 (n - 1) = some v) (h2 : Pu.within A.data.toList 0 (v - 1) = some u) (h3 : Pu.within C.data.toList 1 1000 = none) :
    Calls Tryz.prog 78 #[.string s, .int .i64 n] w fun e w' => e = .returned (.tuple #[.agg #[.int .i64 0, .int .i64 0, .int .i64 0], .bool false]) ∧ Turns (fun _ => False) w w' := by
  have hv := Pu.within_some h1
  have hv0 := hv.2.1
  have hv1 := hv.2.2
  clear hv
  go_enter Tryz.func78, Tryz.ntmps78
  go_wp2_with fail
  refine (split_three s A B C _ hs (hm.alloc _) h).mono ?_
  rintro e w1 ⟨rfl, hw1⟩
  subst hw1
  clear hm h
  go_wp2_with fail
  refine (within_some B 0 (n - 1) v _ hB h1).mono ?_
  rintro e w1 ⟨rfl, hw1⟩
  subst hw1
  clear h1
  go_wp2_with fail
  refine (within_some A 0 (v - 1) u _ hA h2).mono ?_
  rintro e w1 ⟨rfl, hw1⟩
  subst hw1
  clear h2
  go_wp2_with fail
  refine (within_none C 1 1000 _ hC h3).mono ?_
  rintro e w1 ⟨rfl, hw1⟩
  subst hw1
  clear h3
  go_wp2
  exact bodyPost_ret (v := .tuple #[.agg #[.int .i64 0, .int .i64 0, .int .i64 0], .bool false]) (by simp [results, Tryz.results78, go_sem]) rfl ⟨rfl, ((Turns.refl _ _).alloc _).alloc _⟩

set_option maxHeartbeats 1000000 in
theorem road_good (s A B C : ByteArray) (n v u x : Int) (w : World) (hs : s.size ≤ 4000) (hm : Ml w) (h : Pu.pieces 32 s = [A, B, C]) (hB : B.size ≤ maxLen) (hA : A.size ≤ maxLen) (hC : C.size ≤ maxLen) (hn0 : 1 ≤ n) (hn1 : n ≤ 40)
    (h1 : Pu.within B.data.toList 0 (n - 1) = some v) (h2 : Pu.within A.data.toList 0 (v - 1) = some u) (h3 : Pu.within C.data.toList 1 1000 = some x) :
    Calls Tryz.prog 78 #[.string s, .int .i64 n] w fun e w' => e = .returned (.tuple #[.agg #[.int .i64 u, .int .i64 v, .int .i64 x], .bool true]) ∧ Turns (fun _ => False) w w' := by
  have hv := Pu.within_some h1
  have hv0 := hv.2.1
  have hv1 := hv.2.2
  clear hv
  go_enter Tryz.func78, Tryz.ntmps78
  go_wp2_with fail
  refine (split_three s A B C _ hs (hm.alloc _) h).mono ?_
  rintro e w1 ⟨rfl, hw1⟩
  subst hw1
  clear hm h
  go_wp2_with fail
  refine (within_some B 0 (n - 1) v _ hB h1).mono ?_
  rintro e w1 ⟨rfl, hw1⟩
  subst hw1
  clear h1
  go_wp2_with fail
  refine (within_some A 0 (v - 1) u _ hA h2).mono ?_
  rintro e w1 ⟨rfl, hw1⟩
  subst hw1
  clear h2
  go_wp2_with fail
  refine (within_some C 1 1000 x _ hC h3).mono ?_
  rintro e w1 ⟨rfl, hw1⟩
  subst hw1
  clear h3
  go_wp2
  exact bodyPost_ret (v := .tuple #[.agg #[.int .i64 u, .int .i64 v, .int .i64 x], .bool true]) (by simp [results, Tryz.results78, go_sem]) rfl ⟨rfl, ((Turns.refl _ _).alloc _).alloc _⟩

/-- What parseRoad hands back. -/
def roadV : Option (Int × Int × Int) → Value
  | none => .tuple #[.agg #[.int .i64 0, .int .i64 0, .int .i64 0], .bool false]
  | some (u, v, x) => .tuple #[.agg #[.int .i64 u, .int .i64 v, .int .i64 x], .bool true]

theorem road_any (s : ByteArray) (n : Int) (w : World) (hs : s.size ≤ 4000) (hm : Ml w) (hn0 : 1 ≤ n) (hn1 : n ≤ 40) :
    Calls Tryz.prog 78 #[.string s, .int .i64 n] w fun e w' => e = .returned (roadV (Pu.road s.data.toList n)) ∧ Turns (fun _ => False) w w' := by
  by_cases h : (Pu.pieces 32 s).length = 3
  · obtain ⟨A, B, C, e⟩ := three h
    have hd := Pu.pieces_data 32 s
    rw [e] at hd
    have hA : A.size ≤ maxLen := by have := Pu.pieces_size (c := 32) (s := s) (p := A) (by rw [e]; simp); unfold maxLen; omega
    have hB : B.size ≤ maxLen := by have := Pu.pieces_size (c := 32) (s := s) (p := B) (by rw [e]; simp); unfold maxLen; omega
    have hC : C.size ≤ maxLen := by have := Pu.pieces_size (c := 32) (s := s) (p := C) (by rw [e]; simp); unfold maxLen; omega
    rw [Pu.road_three hd.symm]
    cases h1 : Pu.within B.data.toList 0 (n - 1) with
    | none => exact road_badv s A B C n w hs hm e hB hn0 hn1 h1
    | some v =>
      simp only
      cases h2 : Pu.within A.data.toList 0 (v - 1) with
      | none => exact road_badu s A B C n v w hs hm e hB hA hn0 hn1 h1 h2
      | some u =>
        simp only
        cases h3 : Pu.within C.data.toList 1 1000 with
        | none => exact road_badx s A B C n v u w hs hm e hB hA hC hn0 hn1 h1 h2 h3
        | some x => exact road_good s A B C n v u x w hs hm e hB hA hC hn0 hn1 h1 h2 h3
  · rw [Pu.road_ne (by rw [← Pu.pieces_data]; simpa using h)]
    exact road_ne s n w hs hm h
#print axioms road_any
end Go.Proofs.YtdogncjcainhlaaGreatDoor
