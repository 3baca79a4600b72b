/- The walks of byway.rankAndLabel and byway.Labels, where the order is not empty. -/
import Derived.Test.YtdogncjcainhlaaGreatDoorRank
import Derived.Test.YtdogncjcainhlaaGreatDoorParse
import Derived.Test.YtdogncjcainhlaaGreatDoorPlain
namespace Go.Proofs.YtdogncjcainhlaaGreatDoor
open Go.RowKit Go.Deep
open Mem

/-- What rankAndLabel hands back, o being the order that was asked for. -/
def RalPost (w : World) (r : Pu.Res) (o : Nat → (Nat → Nat → Int) → Option (List Nat)) (e : Ending) (w' : World) : Prop := Turns (fun _ => False) w w' ∧ match r with
  | .err c p => e = .returned (.tuple #[.slice none 0 0, .slice none 0 0, .int .i64 c, .int .i64 p])
  | .ok n _ len => match o n len with
    | none => e = .returned (.tuple #[.slice none 0 0, .slice none 0 0, .int .i64 4, .int .i64 0])
    | some O => ∃ (D : Nat → Nat → Int) (ob ocap : Nat) (v : Value), (∀ i, i < n → Pu.Dist n len i (D i)) ∧ e = .returned (.tuple #[.slice (some ⟨ob, 0, none⟩) n ocap, v, .int .i64 0, .int .i64 0]) ∧ Ord w' ob n O ∧ w'.ownsRow w.heap.size 120 3 v (Pu.labP D O n).length (Pu.rdVals (Pu.labP D O n))
/-- What Labels hands back, o being the order that was asked for. -/
def LabPost (w : World) (r : Pu.Res) (o : Nat → (Nat → Nat → Int) → Option (List Nat)) (e : Ending) (w' : World) : Prop := Turns (fun _ => False) w w' ∧ match r with
  | .err c p => e = .returned (.tuple #[.slice none 0 0, .int .i64 c, .int .i64 p])
  | .ok n _ len => match o n len with
    | none => e = .returned (.tuple #[.slice none 0 0, .int .i64 4, .int .i64 0])
    | some O => ∃ (D : Nat → Nat → Int) (v : Value), (∀ i, i < n → Pu.Dist n len i (D i)) ∧ e = .returned (.tuple #[v, .int .i64 0, .int .i64 0]) ∧ w'.ownsRow w.heap.size 120 3 v (Pu.labP D O n).length (Pu.rdVals (Pu.labP D O n))

set_option maxHeartbeats 400000 in
theorem ral_err (x s : ByteArray) (w : World) (o : Nat → (Nat → Nat → Int) → Option (List Nat)) (hx : x.size ≤ maxLen) (hm : Ml w) (c p : Int) (hp : Pu.parse x.data.toList = .err c p) :
    Calls Tryz.prog 23 #[.string x, .string s] w (RalPost w (.err c p) o) := by
  have k := parseMap_any x w hx hm
  rw [hp] at k
  have he := Pu.parse_err hp
  have hne : (c != 0) = true := by simp; omega
  clear hp he
  go_enter Tryz.func23, Tryz.ntmps23
  go_wp2_with (go_at_call 41; refine k.mono ?_; rintro e w1 ⟨hT, rfl⟩)
  exact bodyPost_ret (v := .tuple #[.slice none 0 0, .slice none 0 0, .int .i64 c, .int .i64 p]) (by simp [results, Tryz.results23, go_sem]) rfl ⟨‹_›, rfl⟩

/-- The order and the labels of a map by whatever order: r is what ranks.Parse makes of it. -/
theorem ral_ok (x s : ByteArray) (w : World) (o : Nat → (Nat → Nat → Int) → Option (List Nat)) (hx : x.size ≤ maxLen) (hm : Ml w) (n q : Nat) (len : Nat → Nat → Int) (hp : Pu.parse x.data.toList = .ok n q len)
    (hr : ∀ w1 b, Turns (fun _ => False) w w1 → MapAt w1 b n q len → Calls Tryz.prog 54 #[.pointer (some ⟨b, 0, none⟩), .string s] w1 (RankPost w1 n (o n len))) :
    Calls Tryz.prog 23 #[.string x, .string s] w (RalPost w (.ok n q len) o) := by
  have k := parseMap_any x w hx hm
  rw [hp] at k
  obtain ⟨hn1, hn2, _, hN⟩ := Pu.parse_ok hp
  have hDD : ∀ i, ∃ far, Pu.Dist n len i far := fun i => Pu.Dist.any hN.lens hn2
  obtain ⟨D, hD⟩ : ∃ D : Nat → Nat → Int, ∀ i, Pu.Dist n len i (D i) := ⟨fun i => Classical.choose (hDD i), fun i => Classical.choose_spec (hDD i)⟩
  clear hp
  go_enter Tryz.func23, Tryz.ntmps23
  go_wp2_with fail
  refine k.mono ?_
  rintro e w1 ⟨hT1, b, rfl, hb, hM⟩
  have c2 := hr w1 b hT1 hM
  have HO : Hid (o n len = o n len) := rfl
  cases ho : o n len with
  | none =>
    rw [ho] at c2
    clear k
    go_wp2_with fail
    refine c2.mono ?_
    rintro e w2 ⟨hT2, rfl⟩
    have HX : Hid (RalPost w (.ok n q len) o (.returned (.tuple #[.slice none 0 0, .slice none 0 0, .int .i64 4, .int .i64 0])) w2) := by
      refine ⟨hT1.trans hT2, ?_⟩
      dsimp only
      rw [ho]
    clear c2 hT1 hT2 ho hr hD hDD HO
    go_wp2
    exact bodyPost_ret (v := .tuple #[.slice none 0 0, .slice none 0 0, .int .i64 4, .int .i64 0]) (by simp [results, Tryz.results23, go_sem]) rfl HX.out
  | some O =>
    rw [ho] at c2
    clear k
    go_wp2_with fail
    refine c2.mono ?_
    rintro e w2 ⟨hT2, ob, ocap, rfl, hOr, hoc⟩
    have c3 := hubs_any w2 b n ob ocap q len D O hn1 hn2 (hM.turns hT2 (fun x => x)) hN.lens (fun i _ => hD i) hOr hoc
    have hsz := (hT1.trans hT2).size
    have HX : Hid (∀ v w3, Turns (fun _ => False) w2 w3 → w3.ownsRow w2.heap.size 120 3 v (Pu.labP D O n).length (Pu.rdVals (Pu.labP D O n)) → RalPost w (.ok n q len) o (.returned (.tuple #[.slice (some ⟨ob, 0, none⟩) n ocap, v, .int .i64 0, .int .i64 0])) w3) := by
      intro v w3 hT3 hown
      refine ⟨(hT1.trans hT2).trans hT3, ?_⟩
      dsimp only
      rw [ho]
      exact ⟨D, ob, ocap, v, fun i _ => hD i, rfl, hOr.turns hT3, owns_mono hown hsz⟩
    clear c2 hT1 hT2 ho hr hD hDD HO hOr hM
    go_wp2_with fail
    refine c3.mono ?_
    rintro e w3 ⟨hT3, v, rfl, hown⟩
    have HY : Hid (RalPost w (.ok n q len) o (.returned (.tuple #[.slice (some ⟨ob, 0, none⟩) n ocap, v, .int .i64 0, .int .i64 0])) w3) := HX.out v w3 hT3 hown
    clear c3 hT3 hown HX
    go_wp2
    exact bodyPost_ret (v := .tuple #[.slice (some ⟨ob, 0, none⟩) n ocap, v, .int .i64 0, .int .i64 0]) (by simp [results, Tryz.results23, go_sem]) rfl HY.out
end Go.Proofs.YtdogncjcainhlaaGreatDoor
