/- The walk of the reference's labelled: a map's order and labels. -/
import Derived.Test.YtdogncjcainhlaaGreatDoorRLab
import Derived.Test.YtdogncjcainhlaaGreatDoorRRead
import Derived.Test.YtdogncjcainhlaaGreatDoorRRoads
namespace Go.Proofs.YtdogncjcainhlaaGreatDoor
open Go.RowKit Go.Deep
open Mem

theorem Mem.Grid.tab {w : World} {B n lb cap : Nat} {rb : List Nat} {len : Nat → Nat → Int} (h : Grid w B n (.slice (some ⟨lb, 0, none⟩) n cap) rb len) (hl : rb.length = n) : Tab w lb n len := fun i hi => by
  obtain ⟨r, hr⟩ : ∃ r, rb[i]? = some r := ⟨_, List.getElem?_eq_getElem (by omega)⟩
  refine ⟨r, ?_, fun j hj => (h.row i r hr).1.cell j hj⟩
  subst hl
  exact h.cell hr
theorem tab_congr {w : World} {fb n : Nat} {D D' : Nat → Nat → Int} (h : Tab w fb n D) (e : ∀ i j, i < n → j < n → D i j = D' i j) : Tab w fb n D' := fun i hi => by
  obtain ⟨r, h1, h2⟩ := h i hi
  exact ⟨r, h1, fun j hj => by rw [← e i j hi hj]; exact h2 j hj⟩

/-- What labelled hands back, o being the order that was asked for. -/
def RLabdPost (w : World) (r : Pu.Res) (o : Nat → (Nat → Nat → Int) → Option (List Nat)) (e : Ending) (w' : World) : Prop := Turns (fun _ => False) w w' ∧ match r with
  | .err c p => e = .returned (.tuple #[.slice none 0 0, .slice none 0 0, .int .i64 c, .int .i64 p])
  | .ok n _ len => match o n len with
    | none => e = .returned (.tuple #[.slice none 0 0, .slice none 0 0, .int .i64 4, .int .i64 0])
    | some O => ∃ (D : Nat → Nat → Int) (B ob ocap og oc : Nat) (hs : List Value), Pu.Cov n len D O ∧ e = .returned (.tuple #[.slice (some ⟨ob, 0, none⟩) n ocap, .slice (some ⟨og, 0, none⟩) n oc, .int .i64 0, .int .i64 0]) ∧
        Ord w' ob n O ∧ hs.length = n ∧ HubRows w' B (.slice (some ⟨og, 0, none⟩) n oc) hs (fun v => Pu.hubK D O v n)

set_option maxHeartbeats 400000 in
theorem rlabd_err (x s : ByteArray) (w : World) (o : Nat → (Nat → Nat → Int) → Option (List Nat)) (hx : x.size ≤ 2000000) (c p : Int) (hp : Pu.parse x.data.toList = .err c p) :
    Calls Tryz.prog 30 #[.string x, .string s] w (RLabdPost w (.err c p) o) := by
  have k := rread_any x w hx
  rw [hp] at k
  have he := Pu.parse_err hp
  have hne : (c != 0) = true := by simp; omega
  clear hp he
  go_enter Tryz.func30, Tryz.ntmps30
  go_wp2_with (go_at_call 66; refine k.mono ?_; rintro e w1 ⟨hT, rfl⟩)
  exact bodyPost_ret (v := .tuple #[.slice none 0 0, .slice none 0 0, .int .i64 c, .int .i64 p]) (by simp [results, Tryz.results30, go_sem]) rfl ⟨‹_›, rfl⟩

set_option maxRecDepth 100000 in
set_option maxHeartbeats 1000000 in
theorem rlabd_ok (x s : ByteArray) (w : World) (o : Nat → (Nat → Nat → Int) → Option (List Nat)) (hx : x.size ≤ 2000000) (n q : Nat) (len : Nat → Nat → Int) (hp : Pu.parse x.data.toList = .ok n q len) (hperm : ∀ O, o n len = some O → Pu.Perm n O)
    (hr : ∀ w1 b lb lcap fv, Turns (fun _ => False) w w1 → RB w1 b n q (.slice (some ⟨lb, 0, none⟩) n lcap) fv → Tab w1 lb n len → Calls Tryz.prog 67 #[.pointer (some ⟨b, 0, none⟩), .string s] w1 (ROrdPost w1 n (o n len))) :
    Calls Tryz.prog 30 #[.string x, .string s] w (RLabdPost w (.ok n q len) o) := by
  have k := rread_any x w hx
  rw [hp] at k
  obtain ⟨hn1, hn2, _, hN⟩ := Pu.parse_ok hp
  have hDD : ∀ i, ∃ far, Pu.Dist n len i far := fun i => Pu.Dist.any hN.lens hn2
  obtain ⟨D, hD⟩ : ∃ D : Nat → Nat → Int, ∀ i, Pu.Dist n len i (D i) := ⟨fun i => Classical.choose (hDD i), fun i => Classical.choose_spec (hDD i)⟩
  clear hp hDD
  go_enter Tryz.func30, Tryz.ntmps30
  go_wp2_with fail
  refine k.mono ?_
  rintro e w1 ⟨hT1, b, lb, lcap, fg, fcap, rb, fb, rfl, _, hB, hrl, hfl, hG, hF⟩
  have c2 := hr w1 b lb lcap _ hT1 hB (hG.tab hrl)
  have hTab : Tab w1 fg n (Pu.far9 D) := tab_congr (hF.tab hfl) (fun i j hi hj => by
    rw [Pu.table_says hN hn2 hj (hD j) hi, ← Pu.Dist.sym hN hj hi (hD i) (hD j)]; rfl)
  clear hrl hfl hG hF k hr
  cases ho : o n len with
  | none =>
    rw [ho] at c2
    clear hB hTab
    go_wp2_with fail
    refine c2.mono ?_
    rintro e w2 ⟨hT2, v, rfl⟩
    have HX : Hid (RLabdPost w (.ok n q len) o (.returned (.tuple #[.slice none 0 0, .slice none 0 0, .int .i64 4, .int .i64 0])) w2) := by
      refine ⟨hT1.trans hT2, ?_⟩
      dsimp only
      rw [ho]
    clear c2 hT1 hT2 ho hD hperm
    go_wp2
    exact bodyPost_ret (v := .tuple #[.slice none 0 0, .slice none 0 0, .int .i64 4, .int .i64 0]) (by simp [results, Tryz.results30, go_sem]) rfl HX.out
  | some O =>
    rw [ho] at c2
    have hC : Pu.Cov n len D O := ⟨hN, fun i _ => hD i, hperm O ho⟩
    go_wp2_with fail
    refine c2.mono ?_
    rintro e w2 ⟨hT2, ob, ocap, rfl, hOr⟩
    have c3 := rlab_any w2 b n fg fcap ob ocap q _ len D O hC (hB.turns hT2 (fun x => x)) (hTab.turns hT2) hOr hn1 hn2
    have HX : Hid (∀ (og oc : Nat) (hs : List Value) w3, Turns (fun _ => False) w2 w3 → hs.length = n → HubRows w3 w2.heap.size (.slice (some ⟨og, 0, none⟩) n oc) hs (fun v => Pu.hubK D O v n) → RLabdPost w (.ok n q len) o (.returned (.tuple #[.slice (some ⟨ob, 0, none⟩) n ocap, .slice (some ⟨og, 0, none⟩) n oc, .int .i64 0, .int .i64 0])) w3) := by
      intro og oc hs w3 hT3 hl hH
      refine ⟨(hT1.trans hT2).trans hT3, ?_⟩
      dsimp only
      rw [ho]
      exact ⟨D, _, ob, ocap, og, oc, hs, hC, rfl, hOr.turns hT3, hl, hH⟩
    clear c2 hT1 hT2 ho hD hC hOr hB hTab hperm
    go_wp2_with fail
    refine c3.mono ?_
    rintro e w3 ⟨hT3, og, oc, hs, rfl, hl, hH⟩
    have HY := HX.out og oc hs w3 hT3 hl hH
    have HZ : Hid (RLabdPost w (.ok n q len) o (.returned (.tuple #[.slice (some ⟨ob, 0, none⟩) n ocap, .slice (some ⟨og, 0, none⟩) n oc, .int .i64 0, .int .i64 0])) w3) := HY
    clear c3 hT3 hH HX hl HY
    go_wp2
    exact bodyPost_ret (v := .tuple #[.slice (some ⟨ob, 0, none⟩) n ocap, .slice (some ⟨og, 0, none⟩) n oc, .int .i64 0, .int .i64 0]) (by simp [results, Tryz.results30, go_sem]) rfl HZ.out

/-- The order that a text asks for. -/
def Pu.orderOf (s : List UInt8) (n : Nat) (len : Nat → Nat → Int) : Option (List Nat) := if s.length = 0 then some (Pu.ranked (fun v => Pu.rowCnt len v n) n) else Pu.order n s
theorem Pu.orderOf_perm {s : List UInt8} {n : Nat} {len : Nat → Nat → Int} {O : List Nat} (h : Pu.orderOf s n len = some O) : Pu.Perm n O := by
  unfold Pu.orderOf at h
  split at h
  · cases h; exact Pu.ranked_perm (fun x _ => Pu.rowCnt_le' len x n)
  · exact Pu.order_ok h
theorem rlabd_any (x s : ByteArray) (w : World) (hx : x.size ≤ 2000000) (hs : s.size ≤ 2000000) : Calls Tryz.prog 30 #[.string x, .string s] w (RLabdPost w (Pu.parse x.data.toList) (Pu.orderOf s.data.toList)) := by
  cases hp : Pu.parse x.data.toList with
  | err c p => exact rlabd_err x s w _ hx c p hp
  | ok n q len =>
    obtain ⟨hn1, hn2, _, _⟩ := Pu.parse_ok hp
    refine rlabd_ok x s w _ hx n q len hp (fun O hO => Pu.orderOf_perm hO) (fun w1 b lb lcap fv _ hB hL => ?_)
    have e : s.data.toList.length = s.size := by simp
    unfold Pu.orderOf
    by_cases h : s.size = 0
    · rw [if_pos (by rw [e]; exact h)]
      exact rord_roads s w1 b n lb lcap q fv len h hn1 hn2 hB hL
    · rw [if_neg (by rw [e]; exact h)]
      exact rord_text s w1 b n q _ fv (by omega) hs hn1 hn2 hB
#print axioms rlabd_any
end Go.Proofs.YtdogncjcainhlaaGreatDoor
