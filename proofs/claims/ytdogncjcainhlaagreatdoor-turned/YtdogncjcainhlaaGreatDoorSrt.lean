/- The places, sorted by their roads: slices.SortFunc with byRoads' closure. -/
import Derived.Test.YtdogncjcainhlaaGreatDoorPack39
namespace Go.Proofs.YtdogncjcainhlaaGreatDoor
open Go.RowKit Go.Deep
open Mem

theorem grow_turns (w : World) (os : Array Obj) : Turns (fun _ => False) w (Sort.grow w os) :=
  ⟨rfl, rfl, rfl, by simp [Sort.grow], fun k hk _ => by
    show (w.heap ++ os)[k]? = w.heap[k]?
    rw [Array.getElem?_append_left hk]⟩
theorem putRow_turns {α : Type} [Inhabited α] (enc : α → Value) (w : World) (blk off : Nat) (d : Array α) : Turns (fun k => k = blk) w (Sort.putRow enc w blk off d) :=
  ⟨rfl, rfl, rfl, by simp, fun k _ hp => by
    show (w.heap.modify blk _)[k]? = w.heap[k]?
    rw [Array.getElem?_modify, if_neg (fun c => hp c.symm)]⟩
theorem sortWorld_turns {α : Type} [Inhabited α] (enc : α → Value) (w : World) (blk off m : Nat) (d : Array α) (os : Array Obj) : Turns (fun k => k = blk) w (sortWorld enc w blk off m d os) := by
  have h0 : Turns (fun k => k = blk) w (Sort.ahead w m) := ⟨rfl, rfl, rfl, Nat.le_refl _, fun _ _ _ => rfl⟩
  exact (h0.trans (putRow_turns enc _ blk off d)).trans ((grow_turns _ os).mono (fun _ _ h => h.elim))

namespace Pu
/-- The closure's order, on the places. -/
def finCmp (d : Nat → Nat) (n : Nat) (a b : Fin n) : Int := byCmp d a.val b.val
theorem finCmp_lt (d : Nat → Nat) (n : Nat) (a b : Fin n) : ltOf (finCmp d n) a b = true ↔ Above d a.val b.val := by
  unfold ltOf finCmp
  rw [decide_eq_true_iff]
  exact byCmp_lt d a.val b.val
theorem finCmp_no (d : Nat → Nat) (n : Nat) (a b : Fin n) : ltOf (finCmp d n) a b = false ↔ ¬ Above d a.val b.val := by
  rw [← finCmp_lt, Bool.not_eq_true]
theorem finCmp_swo (d : Nat → Nat) (n : Nat) : Sort.SWO (ltOf (finCmp d n)) := {
  irrefl := fun x => by rw [finCmp_no]; unfold Above; omega
  trans := fun x y z h1 h2 => by rw [finCmp_lt] at *; unfold Above at *; omega
  ntrans := fun x y z h1 h2 => by rw [finCmp_no] at *; unfold Above at *; omega }
/-- A permutation of the places, none later above an earlier: the order by roads. -/
theorem sorted_ranked {n : Nat} [Inhabited (Fin n)] {d : Nat → Nat} (hd : ∀ x, x < n → d x ≤ n) {D' : Array (Fin n)} (hp : Sort.PermIn 0 n (Array.ofFn (n := n) id) D') (hs : Sort.SortedIn (ltOf (finCmp d n)) 0 n D') : D'.size = n ∧ D'.toList.map Fin.val = ranked d n := by
  obtain ⟨h1, _, h3⟩ := hp
  have hsz : D'.size = n := by rw [h1]; simp
  have e1 : D'.extract 0 n = D' := by
    have := Array.extract_size (xs := D')
    rwa [hsz] at this
  have e2 : (Array.ofFn (n := n) id).extract 0 n = Array.ofFn (n := n) id := by
    simp
  rw [e1, e2] at h3
  have hnd : D'.toList.Nodup := h3.symm.nodup (List.pairwise_iff_getElem.2 (fun i j hi hj hij c => by simp at c; omega))
  refine ⟨hsz, ranked_one hd ?_ ?_⟩
  · rw [List.pairwise_map, List.pairwise_iff_getElem]
    intro i j hi hj hij
    have hi' : i < D'.size := by simpa using hi
    have hj' : j < D'.size := by simpa using hj
    have := hs i j (Nat.zero_le _) hij (by omega)
    rw [finCmp_no, getElem!_pos D' i hi', getElem!_pos D' j hj'] at this
    have hne : D'.toList[i] ≠ D'.toList[j] := List.pairwise_iff_getElem.1 hnd i j hi hj hij
    have hne' : (D'.toList[i]).val ≠ (D'.toList[j]).val := fun c => hne (Fin.ext c)
    simp only [Above, Array.getElem_toList] at this hne' ⊢
    omega
  · intro x
    constructor
    · intro hx
      obtain ⟨y, _, rfl⟩ := List.mem_map.1 hx
      exact y.2
    · intro hx
      refine List.mem_map.2 ⟨⟨x, hx⟩, h3.symm.mem_iff.1 ?_, rfl⟩
      simp
end Pu

theorem sort_any (w : World) (ob cap rb rg n : Nat) (d : Nat → Nat) (hn1 : 1 ≤ n) (hn : n ≤ 40) (hd : ∀ x, x < n → d x ≤ n) (hO : ∀ j, j < n → w.cell? ⟨ob, j, none⟩ = some (.int .i64 (j : Int)) ∧ w.frozen? ⟨ob, j, none⟩ = false)
    (hrb : w.cell? ⟨rb, 0, none⟩ = some (.slice (some ⟨rg, 0, none⟩) n n)) (hR : ∀ j, j < n → w.cell? ⟨rg, j, none⟩ = some (.int .i64 (d j : Nat))) (h1 : rb ≠ ob) (h2 : rg ≠ ob) :
    Calls Tryz.prog 141 #[.slice (some ⟨ob, 0, none⟩) n cap, .func (.func 142) #[] #[.pointer (some ⟨rb, 0, none⟩)]] w fun e w' => e = .returned (.tuple #[]) ∧ Turns (fun k => k = ob) w w' ∧ Ord w' ob n (Pu.ranked d n) := by
  haveI : Inhabited (Fin n) := ⟨⟨0, hn1⟩⟩
  obtain ⟨A, hA⟩ : ∃ A : Array (Fin n), A = Array.ofFn (n := n) id := ⟨_, rfl⟩
  have hAs : A.size = n := by rw [hA]; simp
  have hAg : ∀ j (hj : j < n), A[j]! = ⟨j, hj⟩ := fun j hj => by
    rw [getElem!_pos A j (by omega)]; simp [hA]
  have eg : ∀ args w, (callFunc 142 args).run Tryz.prog w = .ok (.enter 142 args) w := enters_of Tryz.func142 (by kernel_rfl) rfl
  have hbl : ob < w.heap.size := World.block_lt_of_cell? _ _ (hO 0 (by omega)).1
  have hrl : rg < w.heap.size := World.block_lt_of_cell? _ _ (hR 0 (by omega))
  have hcmp : CmpLays1 Tryz.prog 142 #[.pointer (some ⟨rb, 0, none⟩)] (fun i : Fin n => Value.int .i64 (i.val : Int)) (Pu.finCmp d n) ob 0 A.size w := by
    intro m os dk _ x y
    have t := sortWorld_turns (fun i : Fin n => Value.int .i64 (i.val : Int)) w ob 0 m dk os
    refine closure_any _ rb rg n x.val y.val (d x.val) (d y.val) x.2 y.2 ?_ ?_ ?_
    · exact (t.cell (a := ⟨rb, 0, none⟩) (World.block_lt_of_cell? _ _ hrb) h1).trans hrb
    · exact (t.cell (a := ⟨rg, x.val, none⟩) hrl h2).trans (hR _ x.2)
    · exact (t.cell (a := ⟨rg, y.val, none⟩) hrl h2).trans (hR _ y.2)
  have hH : Sort.Holds (fun i : Fin n => Value.int .i64 (i.val : Int)) w ob 0 A := by
    intro j hj
    have hj' : j < n := by omega
    rw [hAg j hj']
    simpa using hO j hj'
  have k := slices_SortFunc_int (fun i : Fin n => Value.int .i64 (i.val : Int)) (fun _ => rfl) (Pu.finCmp d n) (Pu.finCmp_swo d n) 142 #[.pointer (some ⟨rb, 0, none⟩)] ob 0 cap A w eg hcmp hH hbl (by omega)
  rw [hAs] at k
  refine k.mono ?_
  rintro e w' ⟨rfl, D', m, os, hp, hs, rfl⟩
  rw [hA] at hp
  obtain ⟨hsz, hl⟩ := Pu.sorted_ranked hd hp hs
  refine ⟨rfl, sortWorld_turns _ _ _ _ _ _ _, ?_, fun j x hx => ?_⟩
  · rw [← hl]; simp [hsz]
  · rw [← hl] at hx
    have hjl : j < D'.size := by have := (List.getElem?_eq_some_iff.1 hx).1; simpa using this
    have hxv : (D'[j]).val = x := by simpa [hjl] using hx
    refine ⟨by rw [← hxv]; exact (D'[j]).2, ?_⟩
    have hH' : Sort.Holds (fun i : Fin n => Value.int .i64 (i.val : Int)) (Sort.ahead w m) ob 0 A := hH
    have c := Sort.cell?_putRow (fun i : Fin n => Value.int .i64 (i.val : Int)) (Sort.ahead w m) ob 0 A D' hH' (by omega) j hjl
    rw [getElem!_pos D' j hjl, hxv, Nat.zero_add] at c
    exact ((grow_turns _ os).cell (World.block_lt_of_cell? _ _ c) (fun x => x)).trans c
#print axioms sort_any
end Go.Proofs.YtdogncjcainhlaaGreatDoor
