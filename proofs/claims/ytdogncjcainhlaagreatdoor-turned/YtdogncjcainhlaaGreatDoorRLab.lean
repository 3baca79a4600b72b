/- The walk of the reference's labels: of each place, from the highest hub to the lowest. -/
import Derived.Test.YtdogncjcainhlaaGreatDoorRHub
import Derived.Test.YtdogncjcainhlaaGreatDoorWFirst
import Derived.Maps.AppendAt
import Derived.Deep.RegionLaw
import Derived.Deep.AppendLies
import Derived.Deep.RegionHeld3
namespace Go.Proofs.YtdogncjcainhlaaGreatDoor
open Go.RowKit Go.Deep
open Mem

theorem infoR117 : (Tryz.prog.info? 100).map (fun i => (i.zero, i.size, i.bytes)) = some (some (.agg #[.int .i64 0, .int .i64 0]), 2, 16) := by kernel_rfl
theorem infoR115 : (Tryz.prog.info? 98).map (fun i => (i.zero, i.size, i.bytes)) = some (some (.slice none 0 0), 1, 24) := by kernel_rfl

namespace Pu
/-- The hubs of place v of the first k of the order O, as the reference has them: rank, how far. -/
def hubK (D : Nat → Nat → Int) (O : List Nat) (v : Nat) : Nat → List (Nat × Int)
  | 0 => []
  | k + 1 => hubK D O v k ++ match O[k]? with
    | none => []
    | some h => if isHub D v h (O.take k) then [(k, D v h)] else []
theorem hubK_hit {D : Nat → Nat → Int} {O : List Nat} {v k h : Nat} (hk : O[k]? = some h) (hh : isHub D v h (O.take k) = true) : hubK D O v (k + 1) = hubK D O v k ++ [(k, D v h)] := by rw [hubK, hk]; simp [hh]
theorem hubK_miss {D : Nat → Nat → Int} {O : List Nat} {v k h : Nat} (hk : O[k]? = some h) (hh : isHub D v h (O.take k) = false) : hubK D O v (k + 1) = hubK D O v k := by rw [hubK, hk]; simp [hh]
theorem hubK_len (D : Nat → Nat → Int) (O : List Nat) (v : Nat) : ∀ k, (hubK D O v k).length ≤ k
  | 0 => Nat.le_refl _
  | k + 1 => by
    have := hubK_len D O v k
    rw [hubK, List.length_append]
    split
    · simp; omega
    · split <;> simp <;> omega
/-- The same as labels. -/
theorem hubK_lab (D : Nat → Nat → Int) (O : List Nat) (v : Nat) : ∀ k, labK D O v k = (hubK D O v k).map fun x => (v, O.getD x.1 0, x.2)
  | 0 => rfl
  | k + 1 => by
    rw [labK, hubK, List.map_append, hubK_lab D O v k]
    congr 1
    cases e : O[k]? with
    | none => rfl
    | some h =>
      simp only
      split
      · simp [List.getD, e]
      · rfl
/-- The cells of such hubs. -/
def hbVals : List (Nat × Int) → List Value
  | [] => []
  | (k, f) :: r => .int .i64 (k : Int) :: .int .i64 f :: hbVals r
theorem hbVals_length : ∀ l : List (Nat × Int), (hbVals l).length = l.length * 2
  | [] => rfl
  | (k, f) :: r => by simp [hbVals, hbVals_length r]; omega
theorem hbVals_append : ∀ (a b : List (Nat × Int)), hbVals (a ++ b) = hbVals a ++ hbVals b
  | [], b => rfl
  | (k, f) :: r, b => by simp [hbVals, hbVals_append r b]
theorem hbVals_get : ∀ (l : List (Nat × Int)) (i k : Nat) (f : Int), l[i]? = some (k, f) → (hbVals l)[i * 2]? = some (.int .i64 (k : Int)) ∧ (hbVals l)[i * 2 + 1]? = some (.int .i64 f)
  | [], i, k, f, h => by simp at h
  | (a, b) :: r, 0, k, f, h => by
    simp at h
    obtain ⟨rfl, rfl⟩ := h
    simp [hbVals]
  | (a, b) :: r, i + 1, k, f, h => by
    have := hbVals_get r i k f (by simpa using h)
    rw [show (i + 1) * 2 = i * 2 + 1 + 1 by omega, hbVals]
    simpa using this
end Pu

/-- A list of hubs that lies in memory: nothing, or a row of its own. -/
def HubRow (w : World) (v : Value) (l : List (Nat × Int)) : Prop := ∃ (a : Option Addr) (c : Nat), v = .slice a l.length c ∧ ∀ (i k : Nat) (f : Int), l[i]? = some (k, f) → ∃ g, a = some ⟨g, 0, none⟩ ∧ w.cell? ⟨g, i * 2, none⟩ = some (.int .i64 (k : Int)) ∧ w.cell? ⟨g, i * 2 + 1, none⟩ = some (.int .i64 f)
theorem HubRow.of_own {w : World} {B : Nat} {v : Value} {l : List (Nat × Int)} (h : w.ownsRow B 100 2 v l.length (Pu.hbVals l)) : HubRow w v l := by
  rcases h.2 with ⟨h1, h2⟩ | ⟨g, cap, cur, h1, _⟩
  · exact ⟨none, 0, by rw [h1, h2], fun i k f hi => by have := (List.getElem?_eq_some_iff.1 hi).1; omega⟩
  · subst h1
    refine ⟨_, _, rfl, fun i k f hi => ⟨g, rfl, ?_⟩⟩
    have hl := (List.getElem?_eq_some_iff.1 hi).1
    obtain ⟨r1, r2⟩ := Pu.hbVals_get l i k f hi
    exact ⟨by rw [World.ownsRow.cellAt h _ (by omega)]; exact r1, by rw [World.ownsRow.cellAt h _ (by omega)]; exact r2⟩
theorem HubRow.turns {p : Nat → Prop} {w w' : World} {v : Value} {l : List (Nat × Int)} (h : HubRow w v l) (t : Turns p w w') (hp : ∀ q, v.ownBlock = some q → ¬ p q) : HubRow w' v l := by
  obtain ⟨a, c, h1, h2⟩ := h
  refine ⟨a, c, h1, fun i k f hi => ?_⟩
  obtain ⟨g, e, c1, c2⟩ := h2 i k f hi
  have hpg := hp g (by rw [h1, e]; rfl)
  exact ⟨g, e, (t.cell (World.block_lt_of_cell? _ _ c1) hpg).trans c1, (t.cell (World.block_lt_of_cell? _ _ c2) hpg).trans c2⟩
/-- The row v holds the lists of hubs of the first places. -/
structure HubRows (w : World) (B : Nat) (v : Value) (hs : List Value) (L : Nat → List (Nat × Int)) : Prop where
  own : w.ownsRow B 98 1 v hs.length hs
  row : ∀ (i : Nat) (x : Value), hs[i]? = some x → HubRow w x (L i) ∧ x.oneCell' = true ∧ ∀ q, x.ownBlock = some q → q < w.heap.size ∧ v.ownBlock ≠ some q
theorem HubRows.nil (w : World) (B : Nat) (L : Nat → List (Nat × Int)) : HubRows w B (.slice none 0 0) [] L := ⟨World.ownsRow_nil _ _ _ _, fun i x h => by simp at h⟩
theorem HubRows.turns {w w' : World} {B : Nat} {v : Value} {hs : List Value} {L : Nat → List (Nat × Int)} (h : HubRows w B v hs L) (t : Turns (fun _ => False) w w') : HubRows w' B v hs L :=
  ⟨owns_turns h.own t, fun i x hx => ⟨(h.row i x hx).1.turns t (fun _ _ f => f), (h.row i x hx).2.1, fun q hq => ⟨Nat.lt_of_lt_of_le ((h.row i x hx).2.2 q hq).1 t.size, ((h.row i x hx).2.2 q hq).2⟩⟩⟩
/-- One list more. -/
theorem HubRows.snoc {w w4 : World} {B g cap : Nat} {v x : Value} {hs : List Value} {L : Nat → List (Nat × Int)} (h : HubRows w B v hs L) (hx : HubRow w x (L hs.length)) (hx1 : x.oneCell' = true) (hxb : ∀ q, x.ownBlock = some q → q < w.heap.size ∧ v.ownBlock ≠ some q)
    (hown : w4.ownsRow B 98 1 (.slice (some ⟨g, 0, none⟩) (hs.length + 1) cap) (hs.length + 1) (hs ++ [x])) (hT : Turns (fun k => v.ownBlock = some k) w w4) (hat : v.ownBlock = some g ∨ w.heap.size ≤ g) :
    HubRows w4 B (.slice (some ⟨g, 0, none⟩) (hs.length + 1) cap) (hs ++ [x]) L := by
  have one : ∀ (i : Nat) (y : Value), HubRow w y (L i) ∧ y.oneCell' = true ∧ (∀ q, y.ownBlock = some q → q < w.heap.size ∧ v.ownBlock ≠ some q) → HubRow w4 y (L i) ∧ y.oneCell' = true ∧ ∀ q, y.ownBlock = some q → q < w4.heap.size ∧ (Value.slice (some ⟨g, 0, none⟩) (hs.length + 1) cap).ownBlock ≠ some q := by
    rintro i y ⟨h1, h2, h3⟩
    refine ⟨h1.turns hT (fun q hq => (h3 q hq).2), h2, fun q hq => ⟨Nat.lt_of_lt_of_le (h3 q hq).1 hT.size, fun c => ?_⟩⟩
    simp only [Value.ownBlock, Option.some.injEq] at c
    subst c
    have := h3 _ hq
    rcases hat with hat | hat
    · exact this.2 hat
    · omega
  refine ⟨by simpa using hown, fun i y hy => ?_⟩
  by_cases e : i < hs.length
  · rw [List.getElem?_append_left e] at hy
    exact one i y (h.row i y hy)
  · rw [List.getElem?_append_right (by omega)] at hy
    have hi0 : i = hs.length := by
      have := (List.getElem?_eq_some_iff.1 hy).1
      simp at this; omega
    subst hi0
    simp at hy
    subst hy
    exact one _ _ ⟨hx, hx1, hxb⟩

set_option maxRecDepth 100000 in
set_option maxHeartbeats 2000000 in
theorem rlab_any (w : World) (b n fg fcap ob ocap : Nat) (R : Int) (lv : Value) (len D : Nat → Nat → Int) (O : List Nat) (C : Pu.Cov n len D O) (hB : RB w b n R lv (.slice (some ⟨fg, 0, none⟩) n fcap)) (hT : Tab w fg n (Pu.far9 D)) (hO : Ord w ob n O) (hn1 : 1 ≤ n) (hn : n ≤ 40) :
    Calls Tryz.prog 68 #[.pointer (some ⟨b, 0, none⟩), .slice (some ⟨ob, 0, none⟩) n ocap] w fun e w' => Turns (fun _ => False) w w' ∧ ∃ (og oc : Nat) (hs : List Value), e = .returned (.slice (some ⟨og, 0, none⟩) n oc) ∧ hs.length = n ∧ HubRows w' w.heap.size (.slice (some ⟨og, 0, none⟩) n oc) hs (fun v => Pu.hubK D O v n) := by
  obtain ⟨i0, hi, hz0, hz1, hz2⟩ := info_parts infoR117
  obtain ⟨i1, hj, hy0, hy1, hy2⟩ := info_parts infoR115
  have HALL : Hid (∀ wx, Turns (fun _ => False) w wx → RB wx b n R lv (.slice (some ⟨fg, 0, none⟩) n fcap) ∧ Tab wx fg n (Pu.far9 D) ∧ Ord wx ob n O) := fun wx hx => ⟨hB.turns hx (fun x => x), hT.turns hx, hO.turns hx⟩
  have HC : Hid (Pu.Cov n len D O) := C
  clear hB hT hO C
  go_enter Tryz.func68, Tryz.ntmps68
  go_wp2
  go_loopw [5, 6] (fun ov vv wr => ∃ (o : Value) (hs : List Value), o = ov ∧ vv = .int .i64 hs.length ∧ hs.length ≤ n ∧ HubRows wr w.heap.size o hs (fun v => Pu.hubK D O v n) ∧ Turns (fun _ => False) w wr) (fun _ vv _ => n - (intOf vv).toNat)
  case atStart => exact ⟨_, [], rfl, rfl, Nat.zero_le _, HubRows.nil _ _ _, Turns.refl _ _⟩
  case round =>
    obtain ⟨o, hs, ho, rfl, hvl, hH, hTr⟩ := hrel
    subst ho
    have c0 := (HALL.out _ hTr).1.c0
    obtain ⟨v, hvx⟩ : ∃ v, hs.length = v := ⟨_, rfl⟩
    have HV : Hid (hs.length = v) := hvx
    have HH : Hid (HubRows wr w.heap.size o hs (fun v => Pu.hubK D O v n) ∧ Turns (fun _ => False) w wr) := ⟨hH, hTr⟩
    have hsz := hTr.size
    rw [hvx] at hvl ⊢
    clear hH hTr hvx
    by_cases hvn : v < n
    · obtain ⟨wi, hwi⟩ : ∃ wi, wi = wr := ⟨_, rfl⟩
      subst hwi
      have hvi : (v : Int) < (n : Int) := by omega
      go_wp2
      go_loopw [7, 8] (fun lv' iv wr => ∃ (l : Value) (i : Nat), l = lv' ∧ iv = .int .i64 i ∧ i ≤ n ∧ wr.ownsRow wi.heap.size 100 2 l (Pu.hubK D O v i).length (Pu.hbVals (Pu.hubK D O v i)) ∧ Turns (fun _ => False) wi wr) (fun _ iv _ => n - (intOf iv).toNat)
      case atStart => exact ⟨_, 0, rfl, rfl, Nat.zero_le _, World.ownsRow_nil _ _ _ _, Turns.refl _ _⟩
      case round =>
        obtain ⟨l, i, hl, rfl, hin, hown, hTi⟩ := hrel
        subst hl
        have hTw := HH.out.2.trans hTi
        obtain ⟨k1, k2, k3⟩ := HALL.out _ hTw
        by_cases hii : i < n
        · have hiii : (i : Int) < (n : Int) := by omega
          obtain ⟨h, hh⟩ : ∃ h, O[i]? = some h := ⟨_, List.getElem?_eq_getElem (by have := k3.1; omega)⟩
          obtain ⟨hhn, hch⟩ := k3.2 i h hh
          have cr := rhub_any wr b n fg fcap ob ocap v i h R lv len D O HC.out k1 k2 k3 hn hvn hh
          obtain ⟨rv, t1', t2'⟩ := (HALL.out _ HH.out.2).2.1 v hvn
          have l1 : fg < wi.heap.size := World.block_lt_of_cell? _ _ t1'
          have l2 : rv < wi.heap.size := World.block_lt_of_cell? _ _ (t2' h hhn)
          have l3 : b < wi.heap.size := (HALL.out _ HH.out.2).1.lt
          have l4 : ob < wi.heap.size := World.block_lt_of_cell? _ _ ((HALL.out _ HH.out.2).2.2.2 i h hh).2
          have t1 := (hTi.cell (a := ⟨fg, v, none⟩) l1 (fun x => x)).trans t1'
          have t3 := (hTi.cell (a := ⟨rv, h, none⟩) l2 (fun x => x)).trans (t2' h hhn)
          have c3 := k1.c3
          have hhi : (h : Int) < (n : Int) := by omega
          have hll := Pu.hubK_len D O v i
          cases hb : Pu.isHub D v h (O.take i) with
          | false =>
            rw [hb] at cr
            have HX : Hid (∀ q, ∃ (l' : Value) (i' : Nat), l' = l ∧ (Value.int .i64 ((i : Int) + 1)) = .int .i64 i' ∧ i' ≤ n ∧ (wr.drewN q).ownsRow wi.heap.size 100 2 l' (Pu.hubK D O v i').length (Pu.hbVals (Pu.hubK D O v i')) ∧ Turns (fun _ => False) wi (wr.drewN q)) :=
              fun q => ⟨l, i + 1, rfl, by go_num, by omega, by rw [Pu.hubK_miss hh hb]; exact hown, hTi.drewN q⟩
            clear hown hTi hTw k1 k2 k3 hb t1' t2'
            go_wp2_with fail
            refine cr.mono ?_
            rintro e w3 ⟨rfl, q, hw3⟩
            subst hw3
            clear cr
            go_wp2
            go_roundw
            case measure => simp [intOf]; omega
            case rel => exact HX.out _
          | true =>
            rw [hb] at cr
            have hd : D v h ≠ -1 := (Pu.isHub_iff.1 hb).1
            have ef : Pu.far9 D v h = D v h := by unfold Pu.far9; rw [if_neg hd]
            rw [ef] at t3
            have HV1 : Hid (Pu.hbVals (Pu.hubK D O v i) ++ [.int .i64 (i : Int), .int .i64 (D v h)] = Pu.hbVals (Pu.hubK D O v (i + 1)) ∧ (Pu.hubK D O v (i + 1)).length = (Pu.hubK D O v i).length + 1) := by
              rw [Pu.hubK_hit hh hb, Pu.hbVals_append]
              exact ⟨rfl, by simp⟩
            generalize hLL : Pu.hubK D O v i = LL at *
            generalize hxx : D v h = x at *
            clear hb hd ef t1' t2' hTw k1 k2 k3 hLL hxx
            go_wp2_with fail
            refine cr.mono ?_
            rintro e w3 ⟨rfl, q, hw3⟩
            have e1 : w3.cell? ⟨fg, v, none⟩ = some (.slice (some ⟨rv, 0, none⟩) n n) := by rw [hw3]; exact t1
            have e2 : w3.cell? ⟨rv, h, none⟩ = some (.int .i64 x) := by rw [hw3]; exact t3
            have e3 : w3.cell? ⟨b, 3, none⟩ = some (.slice (some ⟨fg, 0, none⟩) n fcap) := by rw [hw3]; exact c3
            have e4 : w3.cell? ⟨ob, i, none⟩ = some (.int .i64 (h : Int)) := by rw [hw3]; exact hch
            have hown3 : w3.ownsRow wi.heap.size 100 2 l LL.length (Pu.hbVals LL) := by rw [hw3]; exact hown
            have hT3 : Turns (fun _ => False) wi w3 := by rw [hw3]; exact hTi.drewN q
            have hs3 := hT3.size
            clear cr hw3 hown hTi t1 t3 c3 hch
            go_wp2_with fail
            go_region_held3 (fun w' => w'.cell? ⟨fg, v, none⟩ = some (.slice (some ⟨rv, 0, none⟩) n n) ∧ w'.cell? ⟨rv, h, none⟩ = some (.int .i64 x) ∧ w'.cell? ⟨b, 3, none⟩ = some (.slice (some ⟨fg, 0, none⟩) n fcap) ∧ w'.cell? ⟨ob, i, none⟩ = some (.int .i64 (h : Int))) (go_keep)
              ((refine step_append_lies _ (by rfl) _ _ _ (by rfl) wi.heap.size 100 i0 _ 2 16 Tryz.underlying98 hi hz0 hz1 hz2 rfl (by omega) l LL.length (Pu.hbVals LL) (by rfl) ((hown3.alloc _).drew)
                  ⟨w3.heap.size, 0, none⟩ 1 1 [.int .i64 (i : Int), .int .i64 x] (by rfl) (by rfl) (World.news_of_block (cs := #[.int .i64 (i : Int), .int .i64 x]) (t := 100) (fr := (0, 0)) (heap_alloc_new w3 _)) (by simp [Value.oneCell'])
                  (by omega) (by unfold maxLen; omega) (by omega) (by simp; omega) (w3.heap.size + 1) (by simp) ?_; intro g' cap' w4 hown4 hgrow hat hlt4; have hT4 : Turns (fun k => l.ownBlock = some k) w3 w4 := (((Turns.refl _ w3).alloc _).drew).grown hgrow (fun _ hk => Or.inr hk); have hlb : ∀ q, l.ownBlock = some q → wi.heap.size ≤ q := fun q hq => (hown3.lt q hq).1; have f1 : w4.cell? ⟨fg, v, none⟩ = some (.slice (some ⟨rv, 0, none⟩) n n) := (hT4.cell (a := ⟨fg, v, none⟩) (by show fg < _; omega) (fun c => by have h9 : wi.heap.size ≤ fg := hlb _ c; omega)).trans e1; have f2 : w4.cell? ⟨rv, h, none⟩ = some (.int .i64 x) := (hT4.cell (a := ⟨rv, h, none⟩) (by show rv < _; omega) (fun c => by have h9 : wi.heap.size ≤ rv := hlb _ c; omega)).trans e2; have f3 : w4.cell? ⟨b, 3, none⟩ = some (.slice (some ⟨fg, 0, none⟩) n fcap) := (hT4.cell (a := ⟨b, 3, none⟩) (by show b < _; omega) (fun c => by have h9 : wi.heap.size ≤ b := hlb _ c; omega)).trans e3; have f4 : w4.cell? ⟨ob, i, none⟩ = some (.int .i64 (h : Int)) := (hT4.cell (a := ⟨ob, i, none⟩) (by show ob < _; omega) (fun c => by have h9 : wi.heap.size ≤ ob := hlb _ c; omega)).trans e4))
            all_goals
              have HX : Hid (∃ (l' : Value) (i' : Nat), l' = .slice (some ⟨g', 0, none⟩) (LL.length + 1) cap' ∧ (Value.int .i64 ((i : Int) + 1)) = .int .i64 i' ∧ i' ≤ n ∧ w4.ownsRow wi.heap.size 100 2 l' (Pu.hubK D O v i').length (Pu.hbVals (Pu.hubK D O v i')) ∧ Turns (fun _ => False) wi w4) :=
                ⟨_, i + 1, rfl, by go_num, by omega, by rw [HV1.out.2, ← HV1.out.1]; exact hown4, hT3.join hT4 (fun q hq _ c => by have := hlb _ c; omega)⟩
              clear hown4 hgrow hat hT4 hlb f1 f2 f3 f4 HV1 hown3 hT3 e1 e2 e3 e4
              go_wp2
              go_roundw
              case measure => simp [intOf]; omega
              case rel => exact HX.out
        · have hie : i = n := by omega
          obtain ⟨ga, gl, gc, hlf⟩ : ∃ ga gl gc, l = .slice ga gl gc := by
            rcases hown.2 with ⟨h1, _⟩ | ⟨_, _, _, h1, _⟩
            · exact ⟨_, _, _, h1⟩
            · exact ⟨_, _, _, h1⟩
          subst hlf
          have hH' := HH.out.1.turns hTi
          have hone : (Value.slice ga gl gc).oneCell' = true := rfl
          have hsz2 := hTi.size
          have hrow : HubRow wr (.slice ga gl gc) (Pu.hubK D O v n) := by rw [← hie]; exact HubRow.of_own hown
          have hlb : ∀ q, (Value.slice ga gl gc).ownBlock = some q → wi.heap.size ≤ q ∧ q < wr.heap.size := fun q hq => hown.lt q hq
          have hob : ∀ q, o.ownBlock = some q → w.heap.size ≤ q ∧ q < wi.heap.size := fun q hq => HH.out.1.own.lt q hq
          have hown' := hH'.own
          have HP : Hid (HubRows wr w.heap.size o hs (fun v => Pu.hubK D O v n) ∧ HubRow wr (.slice ga gl gc) (Pu.hubK D O v n) ∧ Turns (fun _ => False) w wr) := ⟨hH', hrow, hTw⟩
          rw [HV.out] at hown'
          have hiii : ¬ (i : Int) < (n : Int) := by omega
          clear hH' hrow hown hTw hTi k1 k2 k3 hie
          go_wp2_with (at_builtin; refine wpList_append_own_at _ rfl _ _ 95 rfl w.heap.size 98 i1 _ 1 24 Tryz.underlying95 hj hy0 hy1 hy2 rfl (by decide) _ _ _ rfl (hown'.alloc _) ⟨wr.heap.size, 0, none⟩ 1 1 [.slice ga gl gc] rfl rfl ?c1 ?c2 ?c3 ?c4 ?c5 ?_)
          case c3 => unfold maxLen; omega
          case c4 => omega
          case c5 => first | omega | (simp; omega)
          intro v' w4 hown4 hgrow _ hat
          obtain ⟨g', cap', hv'⟩ := owns_form hown4
          subst hv'
          have hT4 : Turns (fun k => o.ownBlock = some k) wr w4 := ((Turns.refl _ wr).alloc _).grown hgrow (fun q hq => Or.inr hq)
          have hat' : o.ownBlock = some g' ∨ wr.heap.size ≤ g' := by
            rcases hat with h' | h'
            · left; rw [← h']; rfl
            · right; simp [Value.ownBlock] at h'; omega
          have HX : Hid (∃ (o' : Value) (hs' : List Value), o' = .slice (some ⟨g', 0, none⟩) (v + 1) cap' ∧ (Value.int .i64 ((v : Int) + 1)) = .int .i64 hs'.length ∧ hs'.length ≤ n ∧ HubRows w4 w.heap.size o' hs' (fun v => Pu.hubK D O v n) ∧ Turns (fun _ => False) w w4) := by
            have hv := HV.out
            have hsn := HP.out.1.snoc (x := .slice ga gl gc) (g := g') (cap := cap') (by rw [hv]; exact HP.out.2.1) hone (fun q hq => ⟨(hlb q hq).2, fun c => by have := hlb q hq; have := hob q c; omega⟩) (by rw [hv]; exact hown4) hT4 hat'
            rw [hv] at hsn
            exact ⟨_, hs ++ [.slice ga gl gc], rfl, by simp [hv], by simp; omega, hsn, HP.out.2.2.join hT4 (fun q hq _ c => by have := hob q c; omega)⟩
          clear hown4 hgrow hat hat' hT4 HP hown' hlb hob
          go_wp2
          go_roundw
          case measure => simp [intOf]; omega
          case rel => exact HX.out
    · have hve : v = n := by omega
      have HX : Hid (∃ (og oc : Nat), o = .slice (some ⟨og, 0, none⟩) n oc ∧ hs.length = n ∧ HubRows wr w.heap.size (.slice (some ⟨og, 0, none⟩) n oc) hs (fun v => Pu.hubK D O v n) ∧ Turns (fun _ => False) w wr) := by
        have hv := HV.out
        obtain ⟨og, oc, ho, _, _⟩ := World.ownsRow.form HH.out.1.own (by omega)
        rw [hv, hve] at ho
        exact ⟨og, oc, ho, by omega, by rw [← ho]; exact HH.out.1, HH.out.2⟩
      have hvi : ¬ (v : Int) < (n : Int) := by omega
      clear HH hve
      go_wp2
      go_ret
      obtain ⟨og, oc, h1, h2, h3, h4⟩ := HX.out
      subst h1
      exact ⟨h4, og, oc, rfl, hs, h2, h3⟩
#print axioms rlab_any
end Go.Proofs.YtdogncjcainhlaaGreatDoor
