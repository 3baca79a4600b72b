/- Pack11: texts of one proof, one behind the other. -/
import Derived.Test.YtdogncjcainhlaaGreatDoorParse
import Derived.Test.YtdogncjcainhlaaGreatDoorWFirst
import Derived.Test.YtdogncjcainhlaaGreatDoorPlain
/- The walks of byway.Read and byway.Route. -/
namespace Go.Proofs.YtdogncjcainhlaaGreatDoor
open Go.RowKit
open Mem

set_option maxHeartbeats 400000 in
theorem has_no (w : World) (b n : Nat) (R p : Int) (len : Nat → Nat → Int) (hM : MapAt w b n R len) (h : ¬ (0 ≤ p ∧ p < n)) :
    Calls Tryz.prog 42 #[.pointer (some ⟨b, 0, none⟩), .int .i64 p] w fun e w' => e = .returned (.bool false) ∧ w' = w := by
  have h1 := hM.places
  rcases (show p < 0 ∨ (0 ≤ p ∧ (n : Int) ≤ p) by omega) with h2 | ⟨h2, h3⟩
  all_goals
    clear h
    go_enter Tryz.func42, Tryz.ntmps42
    go_wp2
    go_ret
    exact ⟨by simp; try omega, rfl⟩
set_option maxHeartbeats 400000 in
theorem has_yes (w : World) (b n : Nat) (R p : Int) (len : Nat → Nat → Int) (hM : MapAt w b n R len) (h : 0 ≤ p) (h' : p < n) :
    Calls Tryz.prog 42 #[.pointer (some ⟨b, 0, none⟩), .int .i64 p] w fun e w' => e = .returned (.bool true) ∧ w' = w := by
  have h1 := hM.places
  go_enter Tryz.func42, Tryz.ntmps42
  go_wp2
  go_ret
  exact ⟨by simp, rfl⟩

/-- The two are places of a map of n. -/
def InMap (n : Nat) (s t : Int) : Prop := 0 ≤ s ∧ s < n ∧ 0 ≤ t ∧ t < n
/-- What Route hands back. -/
def RoutePost (w : World) (r : Pu.Res) (s t : Int) (e : Ending) (w' : World) : Prop :=
  Turns (fun _ => False) w w' ∧ match r with
    | .err c p => e = .returned (.tuple #[.slice none 0 0, .int .i64 0, .int .i64 c, .int .i64 p])
    | .ok n _ len => (¬ InMap n s t ∧ e = .returned (.tuple #[.slice none 0 0, .int .i64 0, .int .i64 5, .int .i64 0])) ∨
        (InMap n s t ∧ ∃ far, Pu.Dist n len t.toNat far ∧
          ((far s.toNat = -1 ∧ e = .returned (.tuple #[.slice none 0 0, .int .i64 0, .int .i64 6, .int .i64 0])) ∨
           (0 ≤ far s.toNat ∧ ∃ way v, Way n len far t.toNat s.toNat way ∧ e = .returned (.tuple #[v, .int .i64 (far s.toNat), .int .i64 0, .int .i64 0]) ∧ w'.ownsRow w.heap.size 3 1 v way.length (vals way))))

set_option maxHeartbeats 400000 in
theorem route_err (x : ByteArray) (s t : Int) (w : World) (hs : x.size ≤ maxLen) (hm : Ml w) (c p : Int) (hp : Pu.parse x.data.toList = .err c p) :
    Calls Tryz.prog 19 #[.string x, .int .i64 s, .int .i64 t] w (RoutePost w (.err c p) s t) := by
  have k := parseMap_any x w hs hm
  rw [hp] at k
  have he := Pu.parse_err hp
  have hne : (c != 0) = true := by simp; omega
  clear hp he
  go_enter Tryz.func19, Tryz.ntmps19
  go_wp2_with (go_at_call 41; refine k.mono ?_; rintro e w1 ⟨hT, rfl⟩)
  exact bodyPost_ret (v := .tuple #[.slice none 0 0, .int .i64 0, .int .i64 c, .int .i64 p]) (by simp [results, Tryz.results19, go_sem]) rfl ⟨‹_›, rfl⟩
set_option maxHeartbeats 400000 in
theorem route_out (x : ByteArray) (s t : Int) (w : World) (hs : x.size ≤ maxLen) (hm : Ml w) (n q : Nat) (len : Nat → Nat → Int) (hp : Pu.parse x.data.toList = .ok n q len) (hno : ¬ InMap n s t) :
    Calls Tryz.prog 19 #[.string x, .int .i64 s, .int .i64 t] w (RoutePost w (.ok n q len) s t) := by
  have k := parseMap_any x w hs hm
  rw [hp] at k
  clear hp
  by_cases h1 : 0 ≤ s ∧ s < n
  · have h2 : ¬ (0 ≤ t ∧ t < n) := fun h => hno ⟨h1.1, h1.2, h.1, h.2⟩
    go_enter Tryz.func19, Tryz.ntmps19
    go_wp2_with fail
    refine k.mono ?_
    rintro e w1 ⟨hT, b, rfl, hb, hM⟩
    clear k
    go_wp2_with fail
    refine (has_yes _ b n q s len hM h1.1 h1.2).mono ?_
    rintro e w2 ⟨rfl, hw2⟩
    subst w2
    go_wp2_with fail
    refine (has_no _ b n q t len hM h2).mono ?_
    rintro e w2 ⟨rfl, hw2⟩
    subst w2
    go_wp2
    exact bodyPost_ret (v := .tuple #[.slice none 0 0, .int .i64 0, .int .i64 5, .int .i64 0]) (by simp [results, Tryz.results19, go_sem]) rfl ⟨hT, Or.inl ⟨hno, rfl⟩⟩
  · go_enter Tryz.func19, Tryz.ntmps19
    go_wp2_with fail
    refine k.mono ?_
    rintro e w1 ⟨hT, b, rfl, hb, hM⟩
    clear k
    go_wp2_with fail
    refine (has_no _ b n q s len hM h1).mono ?_
    rintro e w2 ⟨rfl, hw2⟩
    subst w2
    go_wp2
    exact bodyPost_ret (v := .tuple #[.slice none 0 0, .int .i64 0, .int .i64 5, .int .i64 0]) (by simp [results, Tryz.results19, go_sem]) rfl ⟨hT, Or.inl ⟨hno, rfl⟩⟩
set_option maxHeartbeats 400000 in
theorem route_in (x : ByteArray) (s t : Nat) (w : World) (hs : x.size ≤ maxLen) (hm : Ml w) (n q : Nat) (len : Nat → Nat → Int) (hp : Pu.parse x.data.toList = .ok n q len) (hs' : s < n) (ht' : t < n) :
    Calls Tryz.prog 19 #[.string x, .int .i64 s, .int .i64 t] w (RoutePost w (.ok n q len) s t) := by
  have k := parseMap_any x w hs hm
  rw [hp] at k
  obtain ⟨hn1, hn2, _, hN⟩ := Pu.parse_ok hp
  clear hp
  go_enter Tryz.func19, Tryz.ntmps19
  go_wp2_with fail
  refine k.mono ?_
  rintro e w1 ⟨hT, b, rfl, hb, hM⟩
  clear k
  go_wp2_with fail
  refine (has_yes _ b n q s len hM (by omega) (by omega)).mono ?_
  rintro e w2 ⟨rfl, hw2⟩
  subst w2
  go_wp2_with fail
  refine (has_yes _ b n q t len hM (by omega) (by omega)).mono ?_
  rintro e w2 ⟨rfl, hw2⟩
  subst w2
  go_wp2_with fail
  refine (waysFirst_any _ b n s t q len hn2 hs' ht' hM hN.lens hN.sym).mono ?_
  rintro e w2 ⟨hT2, far, hD, h⟩
  have hTT : Turns (fun _ => False) w w2 := hT.trans ⟨hT2.os, hT2.tape, hT2.output, hT2.size, hT2.block⟩
  have hsz := hT.size
  have hin : InMap n s t := ⟨by omega, by omega, by omega, by omega⟩
  rcases h with ⟨h1, rfl⟩ | ⟨h1, way, v, h2, rfl, h3⟩
  · have HX : Hid (∃ far, Pu.Dist n len t far ∧ far s = -1) := ⟨far, hD, h1⟩
    clear h1 hD hT2 hT
    go_wp2
    obtain ⟨far, hD, h1⟩ := HX.out
    exact bodyPost_ret (v := .tuple #[.slice none 0 0, .int .i64 0, .int .i64 6, .int .i64 0]) (by simp [results, Tryz.results19, go_sem]) rfl ⟨hTT, Or.inr ⟨hin, far, by simpa using hD, Or.inl ⟨by simpa using h1, rfl⟩⟩⟩
  · have hne : (far s == -1) = false := by simp; omega
    have HX : Hid (∃ far', Pu.Dist n len t far' ∧ far' s = far s ∧ 0 ≤ far' s ∧ ∃ way, Way n len far' t s way ∧ w2.ownsRow w.heap.size 3 1 v way.length (vals way)) := ⟨far, hD, rfl, h1, way, h2, owns_mono h3 hsz⟩
    clear h1 hD hT2 hT h2 h3
    go_wp2
    obtain ⟨far', hD, e1, h1, way, h2, h3⟩ := HX.out
    exact bodyPost_ret (v := .tuple #[v, .int .i64 (far s), .int .i64 0, .int .i64 0]) (by simp [results, Tryz.results19, go_sem]) rfl ⟨hTT, Or.inr ⟨hin, far', by simpa using hD, Or.inr ⟨by simpa using h1, way, v, by simpa using h2, by simp [e1], h3⟩⟩⟩

/-- Route gives the first of all shortest ways, as the document has it. -/
theorem route_any (x : ByteArray) (s t : Int) (w : World) (hs : x.size ≤ maxLen) (hm : Ml w) :
    Calls Tryz.prog 19 #[.string x, .int .i64 s, .int .i64 t] w (RoutePost w (Pu.parse x.data.toList) s t) := by
  cases hp : Pu.parse x.data.toList with
  | err c p => exact route_err x s t w hs hm c p hp
  | ok n q len =>
    by_cases h : InMap n s t
    · obtain ⟨h1, h2, h3, h4⟩ := h
      obtain ⟨s, rfl⟩ := Int.eq_ofNat_of_zero_le h1
      obtain ⟨t, rfl⟩ := Int.eq_ofNat_of_zero_le h3
      exact route_in x s t w hs hm n q len hp (by omega) (by omega)
    · exact route_out x s t w hs hm n q len hp h
#print axioms route_any
end Go.Proofs.YtdogncjcainhlaaGreatDoor
/- The walk of bywaykeep.awake: the document's first example. -/
namespace Go.Proofs.YtdogncjcainhlaaGreatDoor
open Go.RowKit
open Mem

/-- The example's text. -/
def shown : ByteArray := ⟨#[52, 10, 48, 32, 49, 32, 53, 10, 49, 32, 50, 32, 49, 10, 48, 32, 50, 32, 55]⟩
/-- Its roads. -/
def shownLen : Nat → Nat → Int := Pu.layLen (Pu.layLen (Pu.layLen (fun _ _ => 0) 0 1 5) 1 2 1) 0 2 7
theorem shown_parse : Pu.parse shown.data.toList = .ok 4 3 shownLen := by kernel_rfl
def shownFar : Nat → Int := fun j => if j = 0 then 6 else if j = 1 then 1 else if j = 2 then 0 else -1
theorem four {P : Nat → Prop} (h0 : P 0) (h1 : P 1) (h2 : P 2) (h3 : P 3) : ∀ j, j < 4 → P j := by
  intro j hj
  match j, hj with
  | 0, _ => exact h0
  | 1, _ => exact h1
  | 2, _ => exact h2
  | 3, _ => exact h3
theorem shown_ed : ∀ i, i < 4 → ∀ j, j < 4 → 0 ≤ shownFar i → shownLen i j ≠ 0 → 0 ≤ shownFar j ∧ shownFar j ≤ shownFar i + shownLen i j := by
  refine four ?_ ?_ ?_ ?_ <;> refine four ?_ ?_ ?_ ?_ <;> decide
theorem shown_rng : ∀ j, j < 4 → shownFar j = -1 ∨ (0 ≤ shownFar j ∧ shownFar j ≤ 40000) := by refine four ?_ ?_ ?_ ?_ <;> decide
theorem shown_dist : Pu.Dist 4 shownLen 2 shownFar := by
  refine ⟨rfl, shown_rng, fun i j hi hj => shown_ed i hi j hj, ?_⟩
  intro j hj
  match j, hj with
  | 0, _ => exact fun _ _ => ⟨1, by decide⟩
  | 1, _ => exact fun _ _ => ⟨2, by decide⟩
  | 2, _ => exact fun h => absurd rfl h
  | 3, _ => exact fun _ h => absurd h (by decide)
theorem shown_net : Pu.Net 4 shownLen := (Pu.parse_ok shown_parse).2.2.2
theorem shown_good {far : Nat → Int} (hf : ∀ j, j < 4 → far j = shownFar j) {a j : Nat} (ha : a < 4) (hj : j < 4) : Good shownLen far a j ↔ Good shownLen shownFar a j := by
  unfold Good; rw [hf a ha, hf j hj]
/-- The first way of the example. -/
theorem shown_way {far : Nat → Int} (hD : Pu.Dist 4 shownLen 2 far) {way : List Nat} (h : Way 4 shownLen far 2 0 way) : way = [0, 1, 2] := by
  have hf : ∀ j, j < 4 → far j = shownFar j := Pu.Dist.unique shown_net.lens hD shown_dist
  cases h with
  | step _ j l _ hj hL hW =>
    have h1 : j = 1 := by
      have g := (shown_good hf (by omega) hj).1 hL.1
      match j, hj, g with
      | 0, _, g => exact absurd g (by unfold Good; decide)
      | 1, _, _ => rfl
      | 2, _, g => exact absurd g (by unfold Good; decide)
      | 3, _, g => exact absurd g (by unfold Good; decide)
    subst h1
    cases hW with
    | step _ j l' _ hj hL hW =>
      have h2 : j = 2 := by
        have g := (shown_good hf (by omega) hj).1 hL.1
        match j, hj, g with
        | 0, _, g => exact absurd g (by unfold Good; decide)
        | 1, _, g => exact absurd g (by unfold Good; decide)
        | 2, _, _ => rfl
        | 3, _, g => exact absurd g (by unfold Good; decide)
      subst h2
      cases hW with
      | done => rfl
      | step _ _ _ hne _ _ _ => exact absurd rfl hne

set_option maxHeartbeats 400000 in
theorem awake_any (w : World) (hm : Ml w) : Calls Tryz.prog 8 #[] w fun e w' => e = .returned (.bool true) ∧ Turns (fun _ => False) w w' := by
  have k := route_any shown 0 2 w (by decide) hm
  rw [shown_parse] at k
  go_enter Tryz.func8, Tryz.ntmps8
  go_wp2_with fail
  refine k.mono ?_
  rintro e w1 ⟨hT, h⟩
  rcases h with ⟨hno, _⟩ | ⟨_, far, hD, h⟩
  · exact absurd (by unfold InMap; omega) hno
  · have hf : ∀ j, j < 4 → far j = shownFar j := Pu.Dist.unique shown_net.lens (by simpa using hD) shown_dist
    have h6 : far (0 : Int).toNat = 6 := hf 0 (by omega)
    rcases h with ⟨h1, _⟩ | ⟨h0, way, v, hW, rfl, hown⟩
    · rw [h6] at h1; omega
    · have hway : way = [0, 1, 2] := shown_way (by simpa using hD) (by simpa using hW)
      subst hway
      rw [h6]
      obtain ⟨g, cap, rfl⟩ := owns_form hown
      have c0 := hown.cellAt 0 (by decide)
      have c1 := hown.cellAt 1 (by decide)
      have c2 := hown.cellAt 2 (by decide)
      simp only [vals] at c0 c1 c2
      clear hown hf hD hW h0 h6 k
      simp at c0 c1 c2
      simp only [List.length_cons, List.length_nil, Nat.zero_add]
      go_wp2
      go_ret
      exact ⟨rfl, hT⟩
#print axioms awake_any
end Go.Proofs.YtdogncjcainhlaaGreatDoor
