/- The walks of byway.Read and byway.Route. -/
import Derived.Test.YtdogncjcainhlaaGreatDoorParse
import Derived.Test.YtdogncjcainhlaaGreatDoorWFirst
namespace Go.Proofs.YtdogncjcainhlaaGreatDoor
open Go.RowKit
open Mem

set_option maxHeartbeats 400000 in
theorem has_no (w : World) (b n : Nat) (R p : Int) (len : Nat → Nat → Int) (hM : MapAt w b n R len) (h : ¬ (0 ≤ p ∧ p < n)) :
    Calls Tryz.prog 42 #[.pointer (some ⟨b, 0, none⟩), .int .i64 p] w fun e w' => e = .returned (.bool false) ∧ w' = w := by
  have h1 := hM.places
  rcases (show p < 0 ∨ (0 ≤ p ∧ (n : Int) ≤ p) by omega) with h2 | ⟨h2, h3⟩
  all_goals
    clear h
    go_enter Tryz.func42, Tryz.ntmps42
    go_wp2
    go_ret
    exact ⟨by simp; try omega, rfl⟩
set_option maxHeartbeats 400000 in
theorem has_yes (w : World) (b n : Nat) (R p : Int) (len : Nat → Nat → Int) (hM : MapAt w b n R len) (h : 0 ≤ p) (h' : p < n) :
    Calls Tryz.prog 42 #[.pointer (some ⟨b, 0, none⟩), .int .i64 p] w fun e w' => e = .returned (.bool true) ∧ w' = w := by
  have h1 := hM.places
  go_enter Tryz.func42, Tryz.ntmps42
  go_wp2
  go_ret
  exact ⟨by simp, rfl⟩

/-- The two are places of a map of n. -/
def InMap (n : Nat) (s t : Int) : Prop := 0 ≤ s ∧ s < n ∧ 0 ≤ t ∧ t < n
/-- What Route hands back. -/
def RoutePost (w : World) (r : Pu.Res) (s t : Int) (e : Ending) (w' : World) : Prop :=
  Turns (fun _ => False) w w' ∧ match r with
    | .err c p => e = .returned (.tuple #[.slice none 0 0, .int .i64 0, .int .i64 c, .int .i64 p])
    | .ok n _ len => (¬ InMap n s t ∧ e = .returned (.tuple #[.slice none 0 0, .int .i64 0, .int .i64 5, .int .i64 0])) ∨
        (InMap n s t ∧ ∃ far, Pu.Dist n len t.toNat far ∧
          ((far s.toNat = -1 ∧ e = .returned (.tuple #[.slice none 0 0, .int .i64 0, .int .i64 6, .int .i64 0])) ∨
           (0 ≤ far s.toNat ∧ ∃ way v, Way n len far t.toNat s.toNat way ∧ e = .returned (.tuple #[v, .int .i64 (far s.toNat), .int .i64 0, .int .i64 0]) ∧ w'.ownsRow w.heap.size 3 1 v way.length (vals way))))

set_option maxHeartbeats 400000 in
theorem route_err (x : ByteArray) (s t : Int) (w : World) (hs : x.size ≤ maxLen) (hm : Ml w) (c p : Int) (hp : Pu.parse x.data.toList = .err c p) :
    Calls Tryz.prog 19 #[.string x, .int .i64 s, .int .i64 t] w (RoutePost w (.err c p) s t) := by
  have k := parseMap_any x w hs hm
  rw [hp] at k
  have he := Pu.parse_err hp
  have hne : (c != 0) = true := by simp; omega
  clear hp he
  go_enter Tryz.func19, Tryz.ntmps19
  go_wp2_with (go_at_call 41; refine k.mono ?_; rintro e w1 ⟨hT, rfl⟩)
  exact bodyPost_ret (v := .tuple #[.slice none 0 0, .int .i64 0, .int .i64 c, .int .i64 p]) (by simp [results, Tryz.results19, go_sem]) rfl ⟨‹_›, rfl⟩
set_option maxHeartbeats 400000 in
theorem route_out (x : ByteArray) (s t : Int) (w : World) (hs : x.size ≤ maxLen) (hm : Ml w) (n q : Nat) (len : Nat → Nat → Int) (hp : Pu.parse x.data.toList = .ok n q len) (hno : ¬ InMap n s t) :
    Calls Tryz.prog 19 #[.string x, .int .i64 s, .int .i64 t] w (RoutePost w (.ok n q len) s t) := by
  have k := parseMap_any x w hs hm
  rw [hp] at k
  clear hp
  by_cases h1 : 0 ≤ s ∧ s < n
  · have h2 : ¬ (0 ≤ t ∧ t < n) := fun h => hno ⟨h1.1, h1.2, h.1, h.2⟩
    go_enter Tryz.func19, Tryz.ntmps19
    go_wp2_with fail
    refine k.mono ?_
    rintro e w1 ⟨hT, b, rfl, hb, hM⟩
    clear k
    go_wp2_with fail
    refine (has_yes _ b n q s len hM h1.1 h1.2).mono ?_
    rintro e w2 ⟨rfl, hw2⟩
    subst w2
    go_wp2_with fail
    refine (has_no _ b n q t len hM h2).mono ?_
    rintro e w2 ⟨rfl, hw2⟩
    subst w2
    go_wp2
    exact bodyPost_ret (v := .tuple #[.slice none 0 0, .int .i64 0, .int .i64 5, .int .i64 0]) (by simp [results, Tryz.results19, go_sem]) rfl ⟨hT, Or.inl ⟨hno, rfl⟩⟩
  · go_enter Tryz.func19, Tryz.ntmps19
    go_wp2_with fail
    refine k.mono ?_
    rintro e w1 ⟨hT, b, rfl, hb, hM⟩
    clear k
    go_wp2_with fail
    refine (has_no _ b n q s len hM h1).mono ?_
    rintro e w2 ⟨rfl, hw2⟩
    subst w2
    go_wp2
    exact bodyPost_ret (v := .tuple #[.slice none 0 0, .int .i64 0, .int .i64 5, .int .i64 0]) (by simp [results, Tryz.results19, go_sem]) rfl ⟨hT, Or.inl ⟨hno, rfl⟩⟩
set_option maxHeartbeats 400000 in
theorem route_in (x : ByteArray) (s t : Nat) (w : World) (hs : x.size ≤ maxLen) (hm : Ml w) (n q : Nat) (len : Nat → Nat → Int) (hp : Pu.parse x.data.toList = .ok n q len) (hs' : s < n) (ht' : t < n) :
    Calls Tryz.prog 19 #[.string x, .int .i64 s, .int .i64 t] w (RoutePost w (.ok n q len) s t) := by
  have k := parseMap_any x w hs hm
  rw [hp] at k
  obtain ⟨hn1, hn2, _, hN⟩ := Pu.parse_ok hp
  clear hp
  go_enter Tryz.func19, Tryz.ntmps19
  go_wp2_with fail
  refine k.mono ?_
  rintro e w1 ⟨hT, b, rfl, hb, hM⟩
  clear k
  go_wp2_with fail
  refine (has_yes _ b n q s len hM (by omega) (by omega)).mono ?_
  rintro e w2 ⟨rfl, hw2⟩
  subst w2
  go_wp2_with fail
  refine (has_yes _ b n q t len hM (by omega) (by omega)).mono ?_
  rintro e w2 ⟨rfl, hw2⟩
  subst w2
  go_wp2_with fail
  refine (waysFirst_any _ b n s t q len hn2 hs' ht' hM hN.lens hN.sym).mono ?_
  rintro e w2 ⟨hT2, far, hD, h⟩
  have hTT : Turns (fun _ => False) w w2 := hT.trans ⟨hT2.os, hT2.tape, hT2.output, hT2.size, hT2.block⟩
  have hsz := hT.size
  have hin : InMap n s t := ⟨by omega, by omega, by omega, by omega⟩
  rcases h with ⟨h1, rfl⟩ | ⟨h1, way, v, h2, rfl, h3⟩
  · have HX : Hid (∃ far, Pu.Dist n len t far ∧ far s = -1) := ⟨far, hD, h1⟩
    clear h1 hD hT2 hT
    go_wp2
    obtain ⟨far, hD, h1⟩ := HX.out
    exact bodyPost_ret (v := .tuple #[.slice none 0 0, .int .i64 0, .int .i64 6, .int .i64 0]) (by simp [results, Tryz.results19, go_sem]) rfl ⟨hTT, Or.inr ⟨hin, far, by simpa using hD, Or.inl ⟨by simpa using h1, rfl⟩⟩⟩
  · have hne : (far s == -1) = false := by simp; omega
    have HX : Hid (∃ far', Pu.Dist n len t far' ∧ far' s = far s ∧ 0 ≤ far' s ∧ ∃ way, Way n len far' t s way ∧ w2.ownsRow w.heap.size 3 1 v way.length (vals way)) := ⟨far, hD, rfl, h1, way, h2, owns_mono h3 hsz⟩
    clear h1 hD hT2 hT h2 h3
    go_wp2
    obtain ⟨far', hD, e1, h1, way, h2, h3⟩ := HX.out
    exact bodyPost_ret (v := .tuple #[v, .int .i64 (far s), .int .i64 0, .int .i64 0]) (by simp [results, Tryz.results19, go_sem]) rfl ⟨hTT, Or.inr ⟨hin, far', by simpa using hD, Or.inr ⟨by simpa using h1, way, v, by simpa using h2, by simp [e1], h3⟩⟩⟩

/-- Route gives the first of all shortest ways, as the document has it. -/
theorem route_any (x : ByteArray) (s t : Int) (w : World) (hs : x.size ≤ maxLen) (hm : Ml w) :
    Calls Tryz.prog 19 #[.string x, .int .i64 s, .int .i64 t] w (RoutePost w (Pu.parse x.data.toList) s t) := by
  cases hp : Pu.parse x.data.toList with
  | err c p => exact route_err x s t w hs hm c p hp
  | ok n q len =>
    by_cases h : InMap n s t
    · obtain ⟨h1, h2, h3, h4⟩ := h
      obtain ⟨s, rfl⟩ := Int.eq_ofNat_of_zero_le h1
      obtain ⟨t, rfl⟩ := Int.eq_ofNat_of_zero_le h3
      exact route_in x s t w hs hm n q len hp (by omega) (by omega)
    · exact route_out x s t w hs hm n q len hp h
#print axioms route_any
end Go.Proofs.YtdogncjcainhlaaGreatDoor
