/- Pack6: texts of one proof, one behind the other. -/
import Derived.Test.YtdogncjcainhlaaGreatDoorPack5
import Derived.Deep.AppendLies
import Derived.Test.YtdogncjcainhlaaGreatDoorPack3
import Derived.Shelf.Strings.BuilderK
import Derived.Test.YtdogncjcainhlaaGreatDoorPlain
import Derived.WalkSpells
import Derived.WalkLawsBesides
import Derived.Deep.QuietTactic
import Derived.BigQuiet
import Derived.Test.YtdogncjcainhlaaGreatDoorPack2
import Derived.Deep.RegionHeld3
/- The walk of the shelf's pick. -/
namespace Go.Proofs.YtdogncjcainhlaaGreatDoor
open Go.RowKit Go.Deep
open Mem

section
variable {w : World} {b : Nat} {m : Int} {ov sv : Value} {S : ByteArray} {c : Int} {kv : Value}
set_option maxRecDepth 100000 in
set_option maxHeartbeats 1000000 in
theorem shPick_none {r : Int} {p : Nat} {K : List Nat} (h : SBox w b m ov sv S c kv r) (hk : w.ownsRow 0 261 2 kv K.length (pgV S K)) (hK8 : K.length ≤ 8) (hp : p ∉ K) :
    Calls Tryz.prog 161 #[.pointer (some ⟨b, 4, none⟩), .int .i64 (p : Int)] w fun e w' => e = .returned (.tuple #[.agg #[.int .i64 0, .string ⟨#[]⟩], .bool false]) ∧ Turns (fun _ => False) w w' := by
  have e6 := h.c6
  have hbl := h.lt
  have HC : Hid (∀ w1, Turns (fun _ => False) w w1 → w1.cell? ⟨w.heap.size, 0, none⟩ = some (.int .i64 (p : Int)) → Calls Tryz.prog 183 #[kv, .func (.func 184) #[] #[.pointer (some ⟨w.heap.size, 0, none⟩)]] w1 fun e w' => e = .returned (.int .i64 (-1)) ∧ Turns (fun _ => False) w1 w') := fun w1 t hz => by
    have := idxFunc_any p w.heap.size K w1 (owns_turns hk t) hz hK8
    rw [Pu.idxI, if_neg hp] at this
    exact this
  obtain ⟨w1, hw1⟩ : ∃ w1, w1 = (w.alloc (.cells #[.int .i64 (p : Int)] 3)).alloc (.cells #[.int .i64 0, .string ⟨#[]⟩] 261) := ⟨_, rfl⟩
  have HT1 : Hid (Turns (fun _ => False) w w1) := by show Turns _ _ _; rw [hw1]; exact ((Turns.refl _ _).alloc _).alloc _
  have HW1 : Hid ((w.alloc (.cells #[.int .i64 (p : Int)] 3)).alloc (.cells #[.int .i64 0, .string ⟨#[]⟩] 261) = w1) := hw1.symm
  have HB1 : Hid (w1.cell? ⟨w.heap.size, 0, none⟩ = some (.int .i64 (p : Int)) ∧ w1.cell? ⟨w.heap.size + 1, 0, none⟩ = some (.int .i64 0) ∧ w1.cell? ⟨w.heap.size + 1, 1, none⟩ = some (.string ⟨#[]⟩) ∧ w1.frozen? ⟨w.heap.size + 1, 0, none⟩ = false ∧ w1.frozen? ⟨w.heap.size + 1, 1, none⟩ = false ∧ w.heap.size + 1 < w1.heap.size) := by
    show _ ∧ _
    rw [hw1]
    exact ⟨by simp, by simp, by simp, by simp, by simp, by simp⟩
  clear h hk hK8 hp hw1
  go_enter Tryz.func161, Tryz.ntmps161
  go_wp2_with fail
  rw [HW1.out]
  refine (HC.out w1 HT1.out HB1.out.1).mono ?_
  rintro e w2 ⟨rfl, hT2⟩
  obtain ⟨_, b1, b2, b3, b4, b5⟩ := HB1.out
  have d1 := (hT2.cell (a := ⟨w.heap.size + 1, 0, none⟩) b5 (fun x => x)).trans b1
  have d2 := (hT2.cell (a := ⟨w.heap.size + 1, 1, none⟩) b5 (fun x => x)).trans b2
  have d3 := (hT2.frozen (a := ⟨w.heap.size + 1, 0, none⟩) b5 (fun x => x)).trans b3
  have d4 := (hT2.frozen (a := ⟨w.heap.size + 1, 1, none⟩) b5 (fun x => x)).trans b4
  have HTF : Hid (∀ u v, Turns (fun _ => False) w ((w2.setCell ⟨w.heap.size + 1, 0, none⟩ u).setCell ⟨w.heap.size + 1, 1, none⟩ v)) := fun u v => ((HT1.out.trans hT2).setCell (Or.inl (Nat.le_succ _)) u).setCell (Or.inl (Nat.le_succ _)) v
  clear hT2 b1 b2 b3 b4 b5 HB1 HC HW1 e6
  go_wp2
  exact bodyPost_ret (v := .tuple #[.agg #[.int .i64 0, .string ⟨#[]⟩], .bool false]) (by simp [results, Tryz.results161, go_sem, d1, d2]) rfl ⟨rfl, HTF.out _ _⟩
theorem erase_idx {K : List Nat} {p : Nat} : K.eraseIdx (K.idxOf p) = K.erase p := (List.erase_eq_eraseIdx_of_idxOf rfl).symm
set_option maxRecDepth 100000 in
set_option maxHeartbeats 1000000 in
theorem shPick_some {r : Int} {p : Nat} {K : List Nat} (h : SBox w b m ov sv S c kv r) (hk : w.ownsRow 0 261 2 kv K.length (pgV S K)) (hne : ∀ q, kv.ownBlock = some q → q ≠ b) (hK8 : K.length ≤ 8) (hp : p ∈ K) :
    Calls Tryz.prog 161 #[.pointer (some ⟨b, 4, none⟩), .int .i64 (p : Int)] w fun e w' => e = .returned (.tuple #[.agg #[.int .i64 (p : Int), .string (pgOf S p)], .bool true]) ∧ ∃ kv', SBox w' b m ov sv S c kv' r ∧ w'.ownsRow 0 261 2 kv' (K.erase p).length (pgV S (K.erase p)) ∧ (∀ q, kv'.ownBlock = some q → kv.ownBlock = some q) ∧ Turns (fun q => q = b ∨ kv.ownBlock = some q) w w' := by
  have hbl := h.lt
  have hil : K.idxOf p < K.length := List.idxOf_lt_length_iff.2 hp
  obtain ⟨n, hn⟩ : ∃ n, K.length = n + 1 := ⟨K.length - 1, by omega⟩
  have hkn := hk
  rw [hn] at hkn
  obtain ⟨g, cap, rfl⟩ := owns_form hkn
  have e6 := h.c6
  have hgb : g ≠ b := hne g rfl
  obtain ⟨i, hi⟩ : ∃ i, i = K.idxOf p := ⟨_, rfl⟩
  rw [← hi] at hil
  have hKi : K[i]? = some p := by rw [List.getElem?_eq_getElem hil]; congr 1; subst hi; exact List.getElem_idxOf hil
  have HC : Hid (∀ w1, Turns (fun _ => False) w w1 → w1.cell? ⟨w.heap.size, 0, none⟩ = some (.int .i64 (p : Int)) → Calls Tryz.prog 183 #[.slice (some ⟨g, 0, none⟩) (n + 1) cap, .func (.func 184) #[] #[.pointer (some ⟨w.heap.size, 0, none⟩)]] w1 fun e w' => e = .returned (.int .i64 (i : Int)) ∧ Turns (fun _ => False) w1 w') := fun w1 t hz => by
    have := idxFunc_any p w.heap.size K w1 (owns_turns hk t) hz hK8
    rw [Pu.idxI, if_pos hp, ← hi] at this
    exact this
  have hg0 := World.ownsRow.cellAt hkn (i * 2) (by omega)
  have hg1 := World.ownsRow.cellAt hkn (i * 2 + 1) (by omega)
  rw [(pgV_get S K i p hKi).1] at hg0
  rw [(pgV_get S K i p hKi).2] at hg1
  have hgl : g < w.heap.size := World.block_lt_of_cell? _ _ hg0
  have HCD : Hid (∀ wd, Turns (fun _ => False) w wd → Calls Tryz.prog 185 #[.slice (some ⟨g, 0, none⟩) (n + 1) cap, .int .i64 (i : Int), .int .i64 ((i : Int) + 1)] wd fun e w2 => e = .returned (.slice (some ⟨g, 0, none⟩) n cap) ∧ (w2.ownsRow 0 261 2 (.slice (some ⟨g, 0, none⟩) n cap) n (pgV S (K.erase p)) ∧ Turns (fun q => q = g) wd w2)) := fun wd t => by
    have := delete_any S K 0 g cap i (i + 1) n wd (owns_turns hkn t) hn rfl (by omega) (by omega)
    rw [show K.eraseIdx i = K.erase p by rw [hi]; exact erase_idx] at this
    exact this
  have HEL : Hid ((K.erase p).length = n) := by show _ = _; rw [List.length_erase_of_mem hp, hn]; rfl
  have HBX : Hid (SBox w b m ov sv S c (.slice (some ⟨g, 0, none⟩) (n + 1) cap) r) := h
  have hin : (i : Int) < (n : Int) + 1 := by omega
  have hiw : IntKind.i64.wrap ((i : Int) + 1) = (i : Int) + 1 := by rw [IntKind.wrap_i64]; omega
  have hi0 : ¬ (i : Int) < 0 := by omega
  obtain ⟨w1, hw1⟩ : ∃ w1, w1 = (w.alloc (.cells #[.int .i64 (p : Int)] 3)).alloc (.cells #[.int .i64 0, .string ⟨#[]⟩] 261) := ⟨_, rfl⟩
  have HT1 : Hid (Turns (fun _ => False) w w1) := by show Turns _ _ _; rw [hw1]; exact ((Turns.refl _ _).alloc _).alloc _
  have HW1 : Hid ((w.alloc (.cells #[.int .i64 (p : Int)] 3)).alloc (.cells #[.int .i64 0, .string ⟨#[]⟩] 261) = w1) := hw1.symm
  have HB1 : Hid (w1.cell? ⟨w.heap.size, 0, none⟩ = some (.int .i64 (p : Int)) ∧ w1.cell? ⟨w.heap.size + 1, 0, none⟩ = some (.int .i64 0) ∧ w1.cell? ⟨w.heap.size + 1, 1, none⟩ = some (.string ⟨#[]⟩) ∧ w1.frozen? ⟨w.heap.size + 1, 0, none⟩ = false ∧ w1.frozen? ⟨w.heap.size + 1, 1, none⟩ = false ∧ w.heap.size + 1 < w1.heap.size) := by
    show _ ∧ _
    rw [hw1]
    exact ⟨by simp, by simp, by simp, by simp, by simp, by simp⟩
  clear h hk hK8 hp hw1 hkn hne hi hKi
  go_enter Tryz.func161, Tryz.ntmps161
  go_wp2_with fail
  rw [HW1.out]
  refine (HC.out w1 HT1.out HB1.out.1).mono ?_
  rintro e w2 ⟨rfl, hT2⟩
  have HT2 : Hid (Turns (fun _ => False) w w2) := HT1.out.trans hT2
  obtain ⟨_, b1, b2, b3, b4, b5⟩ := HB1.out
  have d1 := (hT2.cell (a := ⟨w.heap.size + 1, 0, none⟩) b5 (fun x => x)).trans b1
  have d2 := (hT2.cell (a := ⟨w.heap.size + 1, 1, none⟩) b5 (fun x => x)).trans b2
  have d3 := (hT2.frozen (a := ⟨w.heap.size + 1, 0, none⟩) b5 (fun x => x)).trans b3
  have d4 := (hT2.frozen (a := ⟨w.heap.size + 1, 1, none⟩) b5 (fun x => x)).trans b4
  have hs2 : w.heap.size + 1 < w2.heap.size := World.block_lt_of_cell? _ _ d1
  have HB2 := HBX.out.turns HT2.out (fun x => x)
  have hb2 := HB2.lt
  have k6 := HB2.c6
  have kf := HB2.free 6
  have kg0 := (HT2.out.cell (a := ⟨g, i * 2, none⟩) hgl (fun x => x)).trans hg0
  have kg1 := (HT2.out.cell (a := ⟨g, i * 2 + 1, none⟩) hgl (fun x => x)).trans hg1
  clear hT2 b1 b2 b3 b4 b5 HB1 HC HW1 e6 hg0 hg1 HB2
  go_wp2_with fail
  refine (HCD.out _ (HT2.out.alloc _)).mono ?_
  rintro e w3 ⟨rfl, hO3, hT3⟩
  have t23 : Turns (fun q => q = g) w2 w3 := ((Turns.refl _ w2).alloc _).trans hT3
  have d1' := (t23.cell (a := ⟨w.heap.size + 1, 0, none⟩) hs2 (by show ¬ w.heap.size + 1 = g; omega)).trans d1
  have d2' := (t23.cell (a := ⟨w.heap.size + 1, 1, none⟩) hs2 (by show ¬ w.heap.size + 1 = g; omega)).trans d2
  have d3' := (t23.frozen (a := ⟨w.heap.size + 1, 0, none⟩) hs2 (by show ¬ w.heap.size + 1 = g; omega)).trans d3
  have d4' := (t23.frozen (a := ⟨w.heap.size + 1, 1, none⟩) hs2 (by show ¬ w.heap.size + 1 = g; omega)).trans d4
  have p1 : w3.cell? ⟨w2.heap.size, 0, none⟩ = some (.int .i64 (p : Int)) := (hT3.cell (a := ⟨w2.heap.size, 0, none⟩) (by simp) (by show ¬ w2.heap.size = g; omega)).trans (by simp)
  have p2 : w3.cell? ⟨w2.heap.size, 1, none⟩ = some (.string (pgOf S p)) := (hT3.cell (a := ⟨w2.heap.size, 1, none⟩) (by simp) (by show ¬ w2.heap.size = g; omega)).trans (by simp)
  have HB3 := (HBX.out.turns HT2.out (fun x => x)).turns t23 (fun c => hgb c.symm)
  have k6' := HB3.c6
  have kf' := HB3.free 6
  have hb3 := HB3.lt
  have hs3 : w.heap.size + 1 < w3.heap.size := World.block_lt_of_cell? _ _ d1'
  have HX : Hid (∀ u v, ∃ kv', SBox (((w3.setCell ⟨b, 6, none⟩ (.slice (some ⟨g, 0, none⟩) n cap)).setCell ⟨w.heap.size + 1, 0, none⟩ u).setCell ⟨w.heap.size + 1, 1, none⟩ v) b m ov sv S c kv' r ∧ (((w3.setCell ⟨b, 6, none⟩ (.slice (some ⟨g, 0, none⟩) n cap)).setCell ⟨w.heap.size + 1, 0, none⟩ u).setCell ⟨w.heap.size + 1, 1, none⟩ v).ownsRow 0 261 2 kv' (K.erase p).length (pgV S (K.erase p)) ∧ (∀ q, kv'.ownBlock = some q → (Value.slice (some ⟨g, 0, none⟩) (n + 1) cap).ownBlock = some q) ∧ Turns (fun q => q = b ∨ (Value.slice (some ⟨g, 0, none⟩) (n + 1) cap).ownBlock = some q) w (((w3.setCell ⟨b, 6, none⟩ (.slice (some ⟨g, 0, none⟩) n cap)).setCell ⟨w.heap.size + 1, 0, none⟩ u).setCell ⟨w.heap.size + 1, 1, none⟩ v)) := by
    intro u v
    have t1 : Turns (fun q => q = b ∨ q = w.heap.size + 1) w3 (((w3.setCell ⟨b, 6, none⟩ (.slice (some ⟨g, 0, none⟩) n cap)).setCell ⟨w.heap.size + 1, 0, none⟩ u).setCell ⟨w.heap.size + 1, 1, none⟩ v) := (((Turns.refl (fun q => q = b ∨ q = w.heap.size + 1) w3).setCell (x := ⟨b, 6, none⟩) (Or.inr (Or.inl rfl)) _).setCell (x := ⟨w.heap.size + 1, 0, none⟩) (Or.inr (Or.inr rfl)) u).setCell (x := ⟨w.heap.size + 1, 1, none⟩) (Or.inr (Or.inr rfl)) v
    have t2 : Turns (fun q => q = w.heap.size + 1) (w3.setCell ⟨b, 6, none⟩ (.slice (some ⟨g, 0, none⟩) n cap)) (((w3.setCell ⟨b, 6, none⟩ (.slice (some ⟨g, 0, none⟩) n cap)).setCell ⟨w.heap.size + 1, 0, none⟩ u).setCell ⟨w.heap.size + 1, 1, none⟩ v) := ((Turns.refl (fun q => q = w.heap.size + 1) _).setCell (x := ⟨w.heap.size + 1, 0, none⟩) (Or.inr rfl) u).setCell (x := ⟨w.heap.size + 1, 1, none⟩) (Or.inr rfl) v
    refine ⟨_, (HB3.set6 _).turns t2 (by omega), ?_, fun q hq => hq, ?_⟩
    · rw [HEL.out]
      exact owns_turns_p hO3 t1 (fun q hq c => by
        have hq : some g = some q := hq
        injection hq with hq
        rcases c with c | c <;> omega)
    · have h0 : Turns (fun q => q = b ∨ (Value.slice (some ⟨g, 0, none⟩) (n + 1) cap).ownBlock = some q) w w3 := (HT2.out.mono (fun _ _ x => x.elim)).trans (t23.mono (fun q _ c => Or.inr (by subst c; rfl)))
      exact ((h0.setCell (x := ⟨b, 6, none⟩) (Or.inr (Or.inl rfl)) _).setCell (x := ⟨w.heap.size + 1, 0, none⟩) (Or.inl (Nat.le_succ _)) u).setCell (x := ⟨w.heap.size + 1, 1, none⟩) (Or.inl (Nat.le_succ _)) v
  have hbs : ¬ b = w.heap.size + 1 := by omega
  have hbs2 : ¬ b = w2.heap.size := by omega
  have hss : ¬ w.heap.size + 1 = w2.heap.size := by omega
  clear hO3 hT3 t23 HB3 HCD HBX HEL d1 d2 d3 d4 k6 kf kg0 kg1 hn hil
  go_wp2
  exact bodyPost_ret (v := .tuple #[.agg #[.int .i64 (p : Int), .string (pgOf S p)], .bool true]) (by simp [results, Tryz.results161, go_sem, d1', d2']) rfl ⟨rfl, HX.out _ _⟩
end
end Go.Proofs.YtdogncjcainhlaaGreatDoor
/- The walk of the shelf's look. -/
namespace Go.Proofs.YtdogncjcainhlaaGreatDoor
open Go.RowKit Go.Deep
open Mem

theorem heap_al2 (w : World) (o1 o2 : Obj) : ((w.alloc o1).alloc o2).heap[w.heap.size + 1]? = some o2 := by
  have h : ((w.alloc o1).alloc o2).heap[(w.alloc o1).heap.size]? = some o2 := Array.getElem?_push_size
  rw [World.size_alloc] at h
  exact h
theorem sh_grown {w w4 : World} {v : Value} {o1 o2 : Obj} (hgrow : ((w.alloc o1).alloc o2).drew.grownBy w4 v.ownBlock) : Turns (fun k => v.ownBlock = some k) (w.alloc o1) w4 :=
  (((Turns.refl _ (w.alloc o1)).alloc _).drew).grown hgrow (fun _ hk => Or.inr hk)
theorem sh_grown1 {w w4 : World} {v : Value} {o1 : Obj} (hgrow : (w.alloc o1).drew.grownBy w4 v.ownBlock) : Turns (fun k => v.ownBlock = some k) w w4 :=
  (((Turns.refl _ w).alloc _).drew).grown hgrow (fun _ hk => Or.inr hk)
/-- A shelf: the pages that are kept, how many were read. -/
structure ShAt (w : World) (b : Nat) (m : Int) (ov sv : Value) (S : ByteArray) (n : Nat) (kv : Value) (K : List Nat) (r : Nat) : Prop where
  box : SBox w b m ov sv S (n : Int) kv (r : Int)
  kept : w.ownsRow 0 261 2 kv K.length (pgV S K)
  ne : ∀ q, kv.ownBlock = some q → q ≠ b
theorem ShAt.turns {p : Nat → Prop} {w w' : World} {b : Nat} {m : Int} {ov sv : Value} {S : ByteArray} {n : Nat} {kv : Value} {K : List Nat} {r : Nat} (h : ShAt w b m ov sv S n kv K r) (t : Turns p w w') (hb : ¬ p b) (hq : ∀ q, kv.ownBlock = some q → ¬ p q) : ShAt w' b m ov sv S n kv K r :=
  ⟨h.box.turns t hb, owns_turns_p h.kept t hq, h.ne⟩
section
variable {w : World} {b : Nat} {m : Int} {ov sv : Value} {S : ByteArray} {kv : Value}
set_option maxRecDepth 100000 in
set_option maxHeartbeats 1000000 in
theorem shLook_any {n r p : Nat} {K : List Nat} (h : ShAt w b m ov sv S n kv K r) (hn : 1 ≤ n) (hn8 : n ≤ 8) (hKn : K.length ≤ n) (hr : r ≤ 100000000000000000) (hp : p ≤ 100000) (hS : 28 * p + 28 ≤ S.size) :
    Calls Tryz.prog 129 #[.pointer (some ⟨b, 4, none⟩), .int .i64 (p : Int)] w fun e w' => e = .returned (.string (pgOf S p)) ∧ ∃ kv', ShAt w' b m ov sv S n kv' (Pu.lookK n K p) (r + Pu.lookR K p) ∧ (∀ q, kv'.ownBlock = some q → kv.ownBlock = some q ∨ w.heap.size ≤ q) ∧ Turns (fun q => q = b ∨ kv.ownBlock = some q) w w' := by
  obtain ⟨i0, hi0, hz0, hz1, hz2⟩ := info_parts info261
  by_cases hm : p ∈ K
  · have cp := shPick_some h.box h.kept h.ne (by omega) hm
    obtain ⟨K1, hK1⟩ : ∃ K1, K1 = K.erase p := ⟨_, rfl⟩
    have hK1b : K1.length ≤ 8 := by rw [hK1, List.length_erase_of_mem hm]; omega
    rw [← hK1] at cp
    have HE : Hid (Pu.lookK n K p = K1 ++ [p] ∧ Pu.lookR K p = 0) := ⟨by rw [Pu.lookK, if_pos hm, hK1], by rw [Pu.lookR, if_pos hm]⟩
    have hbl := h.box.lt
    clear hK1 hm
    go_enter Tryz.func129, Tryz.ntmps129
    go_wp2_with fail
    refine cp.mono ?_
    rintro e w1 ⟨rfl, kv1, hb1, hk1, hq1, hT1⟩
    have e6 := hb1.c6
    have hbl1 := hb1.lt
    have f6 := hb1.free 6
    clear cp
    have hkq : ∀ q, kv1.ownBlock = some q → q ≠ b := fun q hq => h.ne q (hq1 q hq)
    have hvn : kv1.ownBlock ≠ some b := fun c => hkq b c rfl
    have hvs : kv1.ownBlock ≠ some w1.heap.size := fun c => by have := (World.ownsRow.lt hk1 _ c).2; omega
    have d6 : ∀ o, (w1.alloc o).cell? ⟨b, 6, none⟩ = some kv1 := fun o => (World.cell?_alloc_lt _ _ _ hbl1).trans e6
    have d6' : ∀ o o', ((w1.alloc o).alloc o').cell? ⟨b, 6, none⟩ = some kv1 := fun o o' => (World.cell?_alloc_lt _ _ _ (by simp; omega)).trans (d6 o)
    have HB1 : Hid (SBox w1 b m ov sv S (n : Int) kv1 (r : Int)) := hb1
    have HQ : Hid (∀ q, kv1.ownBlock = some q → kv.ownBlock = some q) := hq1
    have HT : Hid (Turns (fun q => q = b ∨ kv.ownBlock = some q) w w1) := hT1
    clear hb1 hq1 hT1
    go_wp2_with fail
    go_region_law
      ((refine step_append_lies _ (by rfl) _ _ _ (by rfl) 0 261 i0 _ 2 24 Tryz.underlying82 hi0 hz0 hz1 hz2 rfl (by omega) kv1 K1.length (pgV S K1) (by rfl) (((hk1.alloc _).alloc _).drew)
            ⟨w1.heap.size + 1, 0, none⟩ 1 1 [.int .i64 (p : Int), .string (pgOf S p)] (by rfl) (by rfl) (World.news_of_block (cs := #[.int .i64 (p : Int), .string (pgOf S p)]) (t := 261) (fr := (0, 0)) (heap_al2 w1 _ _)) (by simp [Value.oneCell'])
            (by omega) (by unfold maxLen; omega) (by omega) (by simp) (w1.heap.size + 2) (by simp) ?_; intro g cap' w4 hown4 hgrow hat hlt4; have hT4 := sh_grown hgrow; have hB4 := (HB1.out.turns ((Turns.refl (fun k => kv1.ownBlock = some k) w1).alloc _) hvn).turns hT4 hvn; have c64 := hB4.c6; have f64 := hB4.free 6; have p4 : w4.cell? ⟨w1.heap.size, 1, none⟩ = some (.string (pgOf S p)) := (hT4.cell (a := ⟨w1.heap.size, 1, none⟩) (by simp) hvs).trans (by simp)))
    all_goals
      have hgb : g ≠ b := by
        rcases hat with c | c
        · exact hkq g c
        · omega
      have HX : Hid (∃ kv', ShAt (w4.setCell ⟨b, 6, none⟩ (.slice (some ⟨g, 0, none⟩) (K1.length + 1) cap')) b m ov sv S n kv' (Pu.lookK n K p) (r + Pu.lookR K p) ∧ (∀ q, kv'.ownBlock = some q → kv.ownBlock = some q ∨ w.heap.size ≤ q) ∧ Turns (fun q => q = b ∨ kv.ownBlock = some q) w (w4.setCell ⟨b, 6, none⟩ (.slice (some ⟨g, 0, none⟩) (K1.length + 1) cap'))) := by
        rw [HE.out.1, HE.out.2]
        refine ⟨_, ⟨hB4.set6 _, ?_, fun q hq => ?_⟩, fun q hq => ?_, ?_⟩
        · rw [pgV_append, List.length_append, List.length_singleton]
          exact owns_turns_p hown4 ((Turns.refl (fun q => q = b) w4).setCell (x := ⟨b, 6, none⟩) (Or.inr rfl) _) (fun q hq c => by
            have hq : some g = some q := hq
            injection hq with hq
            omega)
        · have hq : some g = some q := hq
          injection hq with hq
          omega
        · have hq : some g = some q := hq
          injection hq with hq
          subst hq
          have z1 := HT.out.size
          rcases hat with c | c
          · exact Or.inl (HQ.out g c)
          · exact Or.inr (by omega)
        · have t1 : Turns (fun q => kv1.ownBlock = some q) w1 w4 := ((Turns.refl _ w1).alloc _).trans hT4
          exact (HT.out.trans (t1.mono (fun q _ c => Or.inr (HQ.out q c)))).setCell (x := ⟨b, 6, none⟩) (Or.inr (Or.inl rfl)) _
      have hbl4 := hB4.lt
      have hwb : ¬ b = w1.heap.size := by omega
      have hwb2 : ¬ w1.heap.size = b := by omega
      clear hown4 hgrow hat hT4 hB4 HB1 HQ HT d6 d6' hk1 e6 f6 HE
      go_wp2
      go_ret
      exact ⟨rfl, HX.out⟩
  · have cp := shPick_none h.box h.kept (by omega) hm
    obtain ⟨K1, hK1⟩ : ∃ K1, K1 = if K.length = n then K.tail else K := ⟨_, rfl⟩
    have hK1b : K1.length ≤ 8 := by
      rw [hK1]
      split
      · rw [List.length_tail]; omega
      · omega
    have HE : Hid (Pu.lookK n K p = K1 ++ [p] ∧ Pu.lookR K p = 1) := ⟨by rw [Pu.lookK, if_neg hm, hK1], by rw [Pu.lookR, if_neg hm]⟩
    have HCM : Hid (∀ wB, Turns (fun _ => False) w wB → Calls Tryz.prog 162 #[.pointer (some ⟨b, 4, none⟩)] wB fun e w' => e = .returned (.tuple #[]) ∧ ∃ kv', SBox w' b m ov sv S (n : Int) kv' (r : Int) ∧ w'.ownsRow 0 261 2 kv' K1.length (pgV S K1) ∧ (∀ q, kv'.ownBlock = some q → kv.ownBlock = some q) ∧ Turns (fun q => q = b ∨ kv.ownBlock = some q) wB w') := fun wB t => by
      rw [hK1]
      exact shMakeRoom_any (h.box.turns t (fun x => x)) (owns_turns h.kept t) h.ne hn hn8 hKn
    have HNE : Hid (∀ q, kv.ownBlock = some q → q ≠ b ∧ q < w.heap.size) := fun q hq => ⟨h.ne q hq, (World.ownsRow.lt h.kept q hq).2⟩
    have hbl := h.box.lt
    clear hK1 hm h
    go_enter Tryz.func129, Tryz.ntmps129
    go_wp2_with fail
    refine cp.mono ?_
    rintro e w1 ⟨rfl, hT1⟩
    have HT1 : Hid (Turns (fun _ => False) w w1) := hT1
    have hbl1 : b < w1.heap.size := Nat.lt_of_lt_of_le hbl hT1.size
    clear cp hT1
    go_wp2_with fail
    refine (HCM.out _ (HT1.out.alloc _)).mono ?_
    rintro e w2 ⟨rfl, kv1, hb2, hk2, hq2, hT2⟩
    have cr := shRead_any hb2 hr hp hS
    have hw1s := HT1.out.size
    have hpn : ¬ (w1.heap.size = b ∨ kv.ownBlock = some w1.heap.size) := by
      rintro (c | c)
      · omega
      · have := (HNE.out _ c).2; omega
    have a1 : w2.cell? ⟨w1.heap.size, 0, none⟩ = some (.int .i64 0) := (hT2.cell (a := ⟨w1.heap.size, 0, none⟩) (by simp) hpn).trans (by simp)
    have a2 : w2.cell? ⟨w1.heap.size, 1, none⟩ = some (.string ⟨#[]⟩) := (hT2.cell (a := ⟨w1.heap.size, 1, none⟩) (by simp) hpn).trans (by simp)
    have a3 : w2.frozen? ⟨w1.heap.size, 0, none⟩ = false := (hT2.frozen (a := ⟨w1.heap.size, 0, none⟩) (by simp) hpn).trans (by simp)
    have a4 : w2.frozen? ⟨w1.heap.size, 1, none⟩ = false := (hT2.frozen (a := ⟨w1.heap.size, 1, none⟩) (by simp) hpn).trans (by simp)
    have HT2 : Hid (Turns (fun q => q = b ∨ kv.ownBlock = some q) w w2) := ((HT1.out.alloc _).mono (fun _ _ x => x.elim)).trans hT2
    have HK2 : Hid (w2.ownsRow 0 261 2 kv1 K1.length (pgV S K1) ∧ ∀ q, kv1.ownBlock = some q → kv.ownBlock = some q) := ⟨hk2, hq2⟩
    clear hb2 hk2 hq2 hT2 HCM
    go_wp2_with fail
    refine cr.mono ?_
    rintro e w3 ⟨rfl, hb3, hT3⟩
    have hl2 : w1.heap.size < w2.heap.size := World.block_lt_of_cell? _ _ a1
    have hpb : ¬ w1.heap.size = b := by omega
    have b1 := (hT3.cell (a := ⟨w1.heap.size, 0, none⟩) hl2 hpb).trans a1
    have b2 := (hT3.cell (a := ⟨w1.heap.size, 1, none⟩) hl2 hpb).trans a2
    have b3 := (hT3.frozen (a := ⟨w1.heap.size, 0, none⟩) hl2 hpb).trans a3
    have b4 := (hT3.frozen (a := ⟨w1.heap.size, 1, none⟩) hl2 hpb).trans a4
    have hkq : ∀ q, kv1.ownBlock = some q → q ≠ b ∧ q < w.heap.size := fun q hq => HNE.out q (HK2.out.2 q hq)
    have hvn : kv1.ownBlock ≠ some b := fun c => (hkq b c).1 rfl
    have hvs : kv1.ownBlock ≠ some w1.heap.size := fun c => by have := (hkq _ c).2; omega
    have tS : Turns (fun q => q = w1.heap.size) w3 ((w3.setCell ⟨w1.heap.size, 0, none⟩ (.int .i64 (p : Int))).setCell ⟨w1.heap.size, 1, none⟩ (.string (pgOf S p))) := ((Turns.refl (fun q => q = w1.heap.size) w3).setCell (x := ⟨w1.heap.size, 0, none⟩) (Or.inr rfl) _).setCell (x := ⟨w1.heap.size, 1, none⟩) (Or.inr rfl) _
    have hbS := hb3.turns tS (by omega)
    have hk3 : ((w3.setCell ⟨w1.heap.size, 0, none⟩ (.int .i64 (p : Int))).setCell ⟨w1.heap.size, 1, none⟩ (.string (pgOf S p))).ownsRow 0 261 2 kv1 K1.length (pgV S K1) := owns_turns_p (owns_turns_p HK2.out.1 hT3 (fun q hq c => (hkq q hq).1 c)) tS (fun q hq c => by have := (hkq q hq).2; omega)
    have HTS : Hid (Turns (fun q => q = b ∨ kv.ownBlock = some q) w ((w3.setCell ⟨w1.heap.size, 0, none⟩ (.int .i64 (p : Int))).setCell ⟨w1.heap.size, 1, none⟩ (.string (pgOf S p)))) := ((HT2.out.trans (hT3.mono (fun q _ c => Or.inl c))).setCell (x := ⟨w1.heap.size, 0, none⟩) (Or.inl hw1s) _).setCell (x := ⟨w1.heap.size, 1, none⟩) (Or.inl hw1s) _
    have hl3 : w1.heap.size < w3.heap.size := World.block_lt_of_cell? _ _ b1
    have e6 := hb3.c6
    have hb3l := hb3.lt
    obtain ⟨wS, hwS⟩ : ∃ wS, wS = (w3.setCell ⟨w1.heap.size, 0, none⟩ (.int .i64 (p : Int))).setCell ⟨w1.heap.size, 1, none⟩ (.string (pgOf S p)) := ⟨_, rfl⟩
    have HWS : Hid ((w3.setCell ⟨w1.heap.size, 0, none⟩ (.int .i64 (p : Int))).setCell ⟨w1.heap.size, 1, none⟩ (.string (pgOf S p)) = wS) := hwS.symm
    have q1 : wS.cell? ⟨w1.heap.size, 0, none⟩ = some (.int .i64 (p : Int)) := by rw [hwS]; simp [go_sem, b1]
    have q2 : wS.cell? ⟨w1.heap.size, 1, none⟩ = some (.string (pgOf S p)) := by rw [hwS]; simp [go_sem, b2]
    rw [← hwS] at hbS hk3 HTS
    have hls : w1.heap.size < wS.heap.size := World.block_lt_of_cell? _ _ q1
    have hbls := hbS.lt
    have d0 := hbS.c6
    have d6 : ∀ o, (wS.alloc o).cell? ⟨b, 6, none⟩ = some kv1 := fun o => (World.cell?_alloc_lt _ _ _ hbS.lt).trans d0
    have HBS : Hid (SBox wS b m ov sv S (n : Int) kv1 ((r : Int) + 1)) := hbS
    have HQ : Hid (∀ q, kv1.ownBlock = some q → kv.ownBlock = some q) := HK2.out.2
    clear cr hT3 hb3 a1 a2 a3 a4 tS hbS HT2 hwS HK2
    go_wp2_with fail
    rw [HWS.out]
    clear b1 b2 b3 b4 HWS e6
    go_region_law
      ((refine step_append_lies _ (by rfl) _ _ _ (by rfl) 0 261 i0 _ 2 24 Tryz.underlying82 hi0 hz0 hz1 hz2 rfl (by omega) kv1 K1.length (pgV S K1) (by rfl) ((hk3.alloc _).drew)
            ⟨wS.heap.size, 0, none⟩ 1 1 [.int .i64 (p : Int), .string (pgOf S p)] (by rfl) (by rfl) (World.news_of_block (cs := #[.int .i64 (p : Int), .string (pgOf S p)]) (t := 261) (fr := (0, 0)) (w := (wS.alloc (.cells #[.int .i64 (p : Int), .string (pgOf S p)] 261)).drew) Array.getElem?_push_size) (by simp [Value.oneCell'])
            (by omega) (by unfold maxLen; omega) (by omega) (by simp) (wS.heap.size + 1) (by simp) ?_; intro g cap' w4 hown4 hgrow hat hlt4; have hT4 := sh_grown1 hgrow; have hB4 := HBS.out.turns hT4 hvn; have c64 := hB4.c6; have f64 := hB4.free 6; have p4 : w4.cell? ⟨w1.heap.size, 1, none⟩ = some (.string (pgOf S p)) := (hT4.cell (a := ⟨w1.heap.size, 1, none⟩) hls hvs).trans q2))
    all_goals
      have hgb : g ≠ b := by
        rcases hat with c | c
        · exact (hkq g c).1
        · omega
      have HX : Hid (∃ kv', ShAt (w4.setCell ⟨b, 6, none⟩ (.slice (some ⟨g, 0, none⟩) (K1.length + 1) cap')) b m ov sv S n kv' (Pu.lookK n K p) (r + Pu.lookR K p) ∧ (∀ q, kv'.ownBlock = some q → kv.ownBlock = some q ∨ w.heap.size ≤ q) ∧ Turns (fun q => q = b ∨ kv.ownBlock = some q) w (w4.setCell ⟨b, 6, none⟩ (.slice (some ⟨g, 0, none⟩) (K1.length + 1) cap'))) := by
        rw [HE.out.1, HE.out.2]
        refine ⟨_, ⟨hB4.set6 _, ?_, fun q hq => ?_⟩, fun q hq => ?_, ?_⟩
        · rw [pgV_append, List.length_append, List.length_singleton]
          exact owns_turns_p hown4 ((Turns.refl (fun q => q = b) w4).setCell (x := ⟨b, 6, none⟩) (Or.inr rfl) _) (fun q hq c => by
            have hq : some g = some q := hq
            injection hq with hq
            omega)
        · have hq : some g = some q := hq
          injection hq with hq
          omega
        · have hq : some g = some q := hq
          injection hq with hq
          subst hq
          have z1 := HTS.out.size
          rcases hat with c | c
          · exact Or.inl (HQ.out g c)
          · exact Or.inr (by omega)
        · exact (HTS.out.trans (hT4.mono (fun q _ c => Or.inr (HQ.out q c)))).setCell (x := ⟨b, 6, none⟩) (Or.inr (Or.inl rfl)) _
      have hbl4 := hB4.lt
      have hwb : ¬ b = w1.heap.size := by omega
      clear hown4 hgrow hat hT4 hB4 HBS HQ HTS d6 hk3 HE d0 q1 q2
      go_wp2
      go_ret
      exact ⟨rfl, HX.out⟩
end
end Go.Proofs.YtdogncjcainhlaaGreatDoor
/- The builder, with what else is kept. -/
namespace Go.Proofs.YtdogncjcainhlaaGreatDoor
open Go.RowKit Go.Deep Go.Lib
open Mem

theorem builder_writeK (B b : Nat) (bs : List Value) (s : ByteArray) (w : World) (h : Lib.IsBuilderF 145 5 B b bs w) (hlen : bs.length + s.size ≤ 140737488355328) (hBw : B ≤ w.heap.size) :
    Calls Tryz.prog 57 #[.pointer (some ⟨b, 0, none⟩), .string s] w fun e w' => e = .returned (.tuple #[.int .i64 s.size, .nilIface]) ∧ (Lib.BuilderAtF 145 5 B b (.pointer (some ⟨b, 0, none⟩)) (bs ++ Lib.strCells s) w' ∧ Below B w w' ∧ Lib.OthersKept 5 (some b) w w') := Any.Builder_WriteString_k lays166 bX166 B b bs s w h hlen hBw
theorem builder_stringK (B b : Nat) (l : List UInt8) (w : World) (h : Lib.IsBuilderF 145 5 B b (Lib.byteCells l) w) (h0 : l ≠ []) :
    Calls Tryz.prog 60 #[.pointer (some ⟨b, 0, none⟩)] w fun e w' => e = .returned (.string ⟨l.toArray⟩) ∧ (Lib.IsBuilderF 145 5 B b (Lib.byteCells l) w' ∧ Below B w w' ∧ Lib.OthersKept 5 (some b) w w') := Any.Builder_String_k lays169 bX169 B b l w h h0
theorem builderF_turns {p : Nat → Prop} {B b : Nat} {bs : List Value} {w w' : World} (h : Lib.IsBuilderF 145 5 B b bs w) (t : Turns p w w') (hb : ¬ p b) (hr : ∀ g cur fz, w.heap[g]? = some (.cells cur 5 fz) → ¬ p g) : Lib.IsBuilderF 145 5 B b bs w' := by
  have one : ∀ x, Lib.BuilderAtF 145 5 B b x bs w → Lib.BuilderAtF 145 5 B b x bs w' := by
    rintro x ⟨h1, v, h2, h3, h4⟩
    refine ⟨h1, v, (t.block b (lt_of_block h2) hb).trans h2, ⟨h3.1, ?_⟩, h4⟩
    rcases h3.2 with c | ⟨g, cap, cur, fz, hv, hg, hc, r⟩
    · exact Or.inl c
    · exact Or.inr ⟨g, cap, cur, fz, hv, hg, (t.block g (lt_of_block hc) (hr g cur fz hc)).trans hc, r⟩
  rcases h with h | h
  · exact Or.inl (one _ h)
  · exact Or.inr (one _ h)
theorem then_below_p {p : Nat → Prop} {w wr w2 : World} (h : Turns p w wr) (hB : Below w.heap.size wr w2) : Turns p w w2 :=
  ⟨hB.os.trans h.os, hB.tape.trans h.tape, hB.output.trans h.output, Nat.le_trans h.size hB.size, fun k hk hp => (hB.block k hk).trans (h.block k hk hp)⟩
theorem ShAt.others {w w' : World} {b x : Nat} {m : Int} {ov sv : Value} {S : ByteArray} {n : Nat} {kv : Value} {K : List Nat} {r : Nat} (h : ShAt w b m ov sv S n kv K r) (hk : Lib.OthersKept 5 (some x) w w') (hbx : b ≠ x) (hqx : ∀ q, kv.ownBlock = some q → q ≠ x) : ShAt w' b m ov sv S n kv K r := by
  refine ⟨hk b _ h.box (fun c => hbx (by injection c)) (fun c fz e => by injection e with _ e; cases e), ⟨h.kept.1, ?_⟩, h.ne⟩
  rcases h.kept.2 with c | ⟨g, cap, cur, hv, hg, hc, q⟩
  · exact Or.inl c
  · exact Or.inr ⟨g, cap, cur, hv, hg, hk g _ hc (fun c => hqx g (by rw [hv]; rfl) (by injection c)) (fun c fz e => by injection e with _ e; cases e), q⟩
/-- No row of bytes is a shelf's. -/
theorem ShAt.noBytes {w : World} {b : Nat} {m : Int} {ov sv : Value} {S : ByteArray} {n : Nat} {kv : Value} {K : List Nat} {r : Nat} (h : ShAt w b m ov sv S n kv K r) (g : Nat) (cur : Array Value) (fz : Nat × Nat) (hg : w.heap[g]? = some (.cells cur 5 fz)) : ¬ (g = b ∨ kv.ownBlock = some g) := by
  rintro (c | c)
  · subst c
    have := h.box
    unfold SBox at this
    rw [this] at hg
    injection hg with hg
    injection hg with _ hg
    cases hg
  · rcases h.kept.2 with ⟨c2, _⟩ | ⟨g', cap, cur', hv, _, hc, _⟩
    · rw [c2] at c; cases c
    · rw [hv] at c
      have c : some g' = some g := c
      injection c with c
      subst c
      rw [hc] at hg
      injection hg with hg
      injection hg with _ hg
      cases hg
theorem ShAt.noBuilder {w : World} {b x : Nat} {m : Int} {ov sv : Value} {S : ByteArray} {n : Nat} {kv : Value} {K : List Nat} {r B : Nat} {bs : List Value} (h : ShAt w b m ov sv S n kv K r) (hx : Lib.IsBuilderF 145 5 B x bs w) : ¬ (x = b ∨ kv.ownBlock = some x) := by
  obtain ⟨pv, v, hv⟩ : ∃ pv v, w.heap[x]? = some (.cells #[pv, v] 145 (0, 0)) := by
    rcases hx with ⟨_, v, h2, _⟩ | ⟨_, v, h2, _⟩
    · exact ⟨_, v, h2⟩
    · exact ⟨_, v, h2⟩
  rintro (c | c)
  · subst c
    have := h.box
    unfold SBox at this
    rw [this] at hv
    injection hv with hv
    injection hv with _ hv
    cases hv
  · rcases h.kept.2 with ⟨c2, _⟩ | ⟨g', cap, cur', hv', _, hc, _⟩
    · rw [c2] at c; cases c
    · rw [hv'] at c
      have c : some g' = some x := c
      injection c with c
      subst c
      rw [hc] at hv
      injection hv with hv
      injection hv with _ hv
      cases hv
namespace Pu
theorem looks_snoc (c : Nat) : ∀ (k : Nat) (s : List Nat × Nat) (p : Nat), looks c s p (k + 1) = (lookK c (looks c s p k).1 (p + k), (looks c s p k).2 + lookR (looks c s p k).1 (p + k))
  | 0, (K, r), p => rfl
  | k + 1, (K, r), p => by
    have h := looks_snoc c k (lookK c K p, r + lookR K p) (p + 1)
    rw [show p + 1 + k = p + (k + 1) by omega] at h
    exact h
end Pu
end Go.Proofs.YtdogncjcainhlaaGreatDoor
/- The walk of the shelf's Take. -/
namespace Go.Proofs.YtdogncjcainhlaaGreatDoor
open Go.RowKit Go.Deep
open Mem

namespace Pu
theorem piece {α : Type} (l : List α) (a x y : Nat) (hy : y ≤ 28) : (((l.take (a + 28)).drop a).take y).drop x = (l.take (a + y)).drop (a + x) := by
  have e1 : (l.take (a + 28)).drop a = (l.drop a).take 28 := by rw [List.drop_take, show a + 28 - a = 28 by omega]
  have e2 : (l.take (a + y)).drop a = (l.drop a).take y := by rw [List.drop_take, show a + y - a = y by omega]
  rw [← List.drop_drop, e1, e2, List.take_take, show min y 28 = y by omega]
theorem cuts2 {α : Type} (l : List α) {s j u : Nat} (h1 : s ≤ j) (h2 : j ≤ u) (h3 : u ≤ l.length) : (l.take j).drop s ++ (l.take u).drop j = (l.take u).drop s := by
  have e : l.take u = l.take j ++ (l.take u).drop j := by
    have := (List.take_append_drop j (l.take u)).symm
    rw [List.take_take, show min j u = j by omega] at this
    exact this
  conv => rhs; rw [e]
  rw [List.drop_append_of_le_length (by rw [List.length_take]; omega)]
theorem lookR_le (K : List Nat) (p : Nat) : lookR K p ≤ 1 := by unfold lookR; split <;> omega
end Pu
section
variable {w : World} {b : Nat} {m : Int} {ov sv : Value} {S : ByteArray} {kv : Value}
set_option maxRecDepth 100000 in
set_option maxHeartbeats 1000000 in
theorem shTake_any {n r st en : Nat} {K : List Nat} (h : ShAt w b m ov sv S n kv K r) (hn : 1 ≤ n) (hn8 : n ≤ 8) (hK : Pu.Keeps n K) (hr : r ≤ 10000000000000000) (hse : st < en) (hen : en ≤ S.size) (hS : S.size ≤ 60000) (hS28 : S.size % 28 = 0) :
    Calls Tryz.prog 83 #[.pointer (some ⟨b, 4, none⟩), .int .i64 (st : Int), .int .i64 (en : Int)] w fun e w' => e = .returned (.string (S.extract st en)) ∧ ∃ kv', ShAt w' b m ov sv S n kv' (Pu.looks n (K, r) (st / 28) ((en + 27) / 28 - st / 28)).1 (Pu.looks n (K, r) (st / 28) ((en + 27) / 28 - st / 28)).2 ∧ (∀ q, kv'.ownBlock = some q → kv.ownBlock = some q ∨ w.heap.size ≤ q) ∧ Turns (fun q => q = b ∨ kv.ownBlock = some q) w w' := by
  have hbl := h.box.lt
  obtain ⟨p0, hp0⟩ : ∃ p0, p0 = st / 28 := ⟨_, rfl⟩
  rw [← hp0]
  have H0 : Hid (∃ (j : Nat) (wy : World), Value.int .i64 (st : Int) = .int .i64 (j : Int) ∧ j ≤ en ∧ wy = w.alloc (.cells #[.pointer none, .slice none 0 0] 145) ∧ Hid (∃ (k : Nat) (kv' : Value), ShAt wy b m ov sv S n kv' (Pu.looks n (K, r) p0 k).1 (Pu.looks n (K, r) p0 k).2 ∧ Lib.IsBuilderF 145 5 w.heap.size w.heap.size (bv ((S.data.toList.take j).drop st)) wy ∧ (∀ q, kv'.ownBlock = some q → kv.ownBlock = some q ∨ w.heap.size ≤ q) ∧ Turns (fun q => q = b ∨ kv.ownBlock = some q) w wy ∧ st ≤ j ∧ (Pu.looks n (K, r) p0 k).2 ≤ r + k ∧ ((k = 0 ∧ j = st) ∨ (1 ≤ k ∧ (j = en ∨ j = 28 * (p0 + k)) ∧ j ≤ 28 * (p0 + k) ∧ 28 * (p0 + k - 1) < en)))) := by
    refine ⟨st, _, rfl, by omega, rfl, 0, kv, h.turns ((Turns.refl (fun _ => False) _).alloc _) (fun x => x) (fun _ _ x => x), ?_, fun q hq => Or.inl hq, (Turns.refl _ _).alloc _, Nat.le_refl _, Nat.le_refl _, Or.inl ⟨rfl, rfl⟩⟩
    rw [List.drop_take, Nat.sub_self, List.take_zero]
    exact Lib.IsBuilderF.of (Or.inl ⟨Nat.le_refl _, .slice none 0 0, Array.getElem?_push_size, World.ownsRow_nil _ _ _ _, by intro c; cases c⟩)
  have HP0 : Hid (p0 = st / 28) := hp0
  have HKP : Hid (∀ k, Pu.Keeps n (Pu.looks n (K, r) p0 k).1) := fun k => Pu.Keeps.looks hn k p0 hK
  have HSS : Hid (S.size = S.data.toList.length) := size_list S
  clear h hK hp0
  go_enter Tryz.func83, Tryz.ntmps83
  go_wp2
  go_loopw [8] (fun jv wr => ∃ (j : Nat) (wy : World), jv = .int .i64 (j : Int) ∧ j ≤ en ∧ wy = wr ∧ Hid (∃ (k : Nat) (kv' : Value), ShAt wy b m ov sv S n kv' (Pu.looks n (K, r) p0 k).1 (Pu.looks n (K, r) p0 k).2 ∧ Lib.IsBuilderF 145 5 w.heap.size w.heap.size (bv ((S.data.toList.take j).drop st)) wy ∧ (∀ q, kv'.ownBlock = some q → kv.ownBlock = some q ∨ w.heap.size ≤ q) ∧ Turns (fun q => q = b ∨ kv.ownBlock = some q) w wy ∧ st ≤ j ∧ (Pu.looks n (K, r) p0 k).2 ≤ r + k ∧ ((k = 0 ∧ j = st) ∨ (1 ≤ k ∧ (j = en ∨ j = 28 * (p0 + k)) ∧ j ≤ 28 * (p0 + k) ∧ 28 * (p0 + k - 1) < en)))) (fun jv _ => en - (intOf jv).toNat)
  case atStart => exact H0.out
  case round =>
    clear H0
    obtain ⟨j, wr, rfl, hj, hwy, HI⟩ := hrel
    subst hwy
    obtain ⟨k, kv', i1, i2, i3, i4, i5, i6, i7⟩ := HI.out
    by_cases hz : j < en
    · have hzi : (j : Int) < (en : Int) := by omega
      obtain ⟨p, hp⟩ : ∃ p, p = p0 + k := ⟨_, rfl⟩
      have hpj : p = j / 28 := by have := HP0.out; omega
      obtain ⟨p28, hp28⟩ : ∃ x, x = 28 * p := ⟨_, rfl⟩
      obtain ⟨u, hu⟩ : ∃ u, u = min en (p28 + 28) := ⟨_, rfl⟩
      obtain ⟨x, hx⟩ : ∃ x, x = j - p28 := ⟨_, rfl⟩
      obtain ⟨y, hy⟩ : ∃ y, y = u - p28 := ⟨_, rfl⟩
      have hq : (j : Int) / 28 = (p : Int) := by omega
      have hw1 : IntKind.i64.wrap ((p : Int) * 28) = (p28 : Int) := by rw [IntKind.wrap_i64]; omega
      have hw2 : IntKind.i64.wrap ((p28 : Int) + 28) = (p28 : Int) + 28 := by rw [IntKind.wrap_i64]; omega
      have hmin : min (en : Int) ((p28 : Int) + 28) = (u : Int) := by omega
      have hw3 : IntKind.i64.wrap ((j : Int) - (p28 : Int)) = (x : Int) := by rw [IntKind.wrap_i64]; omega
      have hw4 : IntKind.i64.wrap ((u : Int) - (p28 : Int)) = (y : Int) := by rw [IntKind.wrap_i64]; omega
      have hxy : (x : Int) ≤ (y : Int) := by omega
      have hpgs : (pgOf S p).size = 28 := by rw [pgOf, ByteArray.size_extract]; omega
      have hy28 : (y : Int) ≤ 28 := by omega
      have hyp : (y : Int) ≤ ((pgOf S p).size : Int) := by omega
      obtain ⟨T, hT⟩ : ∃ T, T = (pgOf S p).extract x y := ⟨_, rfl⟩
      have hTx := hT.symm
      have hTl : T.data.toList = (S.data.toList.take u).drop j := by
        rw [hT, extract_list, pgOf, extract_list, Pu.piece _ _ _ _ (by omega), show 28 * p + y = u by omega, show 28 * p + x = j by omega]
      have hTs : T.size ≤ 28 := by rw [hT, ByteArray.size_extract]; omega
      have HBV : Hid (bv ((S.data.toList.take j).drop st) ++ Lib.strCells T = bv ((S.data.toList.take u).drop st)) := by
        show _ = _
        rw [← Pu.cuts2 S.data.toList i5 (show j ≤ u by omega) (by rw [← HSS.out]; omega), bv_append, ← hTl]
        rfl
      have HBL : Hid ((bv ((S.data.toList.take j).drop st)).length ≤ 100000) := by
        show _ ≤ _
        rw [bv_len, List.length_drop, List.length_take, ← HSS.out]; omega
      have cl := shLook_any (p := p) i1 hn hn8 (HKP.out k).le (by omega) (by omega) (by omega)
      have HU : Hid (u ≤ en ∧ st ≤ u ∧ j < u ∧ (u = en ∨ u = 28 * (p0 + (k + 1))) ∧ u ≤ 28 * (p0 + (k + 1)) ∧ 28 * (p0 + (k + 1) - 1) < en) := by
        show _ ∧ _; omega
      have HII : Hid (ShAt wr b m ov sv S n kv' (Pu.looks n (K, r) p0 k).1 (Pu.looks n (K, r) p0 k).2 ∧ Lib.IsBuilderF 145 5 w.heap.size w.heap.size (bv ((S.data.toList.take j).drop st)) wr ∧ (∀ q, kv'.ownBlock = some q → kv.ownBlock = some q ∨ w.heap.size ≤ q) ∧ Turns (fun q => q = b ∨ kv.ownBlock = some q) w wr ∧ (Pu.looks n (K, r) p0 k).2 ≤ r + k) := ⟨i1, i2, i3, i4, i6⟩
      have HPK : Hid (p = p0 + k) := hp
      clear i1 i2 i3 i4 i5 i6 i7 HI hp hpj hp28 hu hx hy hT hTl
      go_wp2_with fail
      refine cl.mono ?_
      rintro e w2 ⟨rfl, kv2, hS2, hq2, hT2⟩
      have HS2 : Hid (ShAt w2 b m ov sv S n kv2 (Pu.looks n (K, r) p0 (k + 1)).1 (Pu.looks n (K, r) p0 (k + 1)).2) := by
        rw [Pu.looks_snoc, ← HPK.out]; exact hS2
      have HB2 : Hid (Lib.IsBuilderF 145 5 w.heap.size w.heap.size (bv ((S.data.toList.take j).drop st)) w2) := builderF_turns HII.out.2.1 hT2 (HII.out.1.noBuilder HII.out.2.1) (fun g cur fz hg => HII.out.1.noBytes g cur fz hg)
      have HT2 : Hid (Turns (fun q => q = b ∨ kv.ownBlock = some q) w w2) := HII.out.2.2.2.1.join hT2 (fun q hq hp => by
        rintro (c | c)
        · exact hp (Or.inl c)
        · rcases HII.out.2.2.1 q c with c | c
          · exact hp (Or.inr c)
          · omega)
      have HQ2 : Hid (∀ q, kv2.ownBlock = some q → kv.ownBlock = some q ∨ w.heap.size ≤ q) := fun q hq => by
        rcases hq2 q hq with c | c
        · exact HII.out.2.2.1 q c
        · exact Or.inr (Nat.le_trans HII.out.2.2.2.1.size c)
      have HR2 : Hid ((Pu.looks n (K, r) p0 (k + 1)).2 ≤ r + (k + 1)) := by
        show _ ≤ _
        have h1 := HII.out.2.2.2.2
        have h2 := Pu.lookR_le (Pu.looks n (K, r) p0 k).1 (p0 + k)
        rw [Pu.looks_snoc]
        show _ + _ ≤ _
        omega
      clear cl hS2 hq2 hT2 HII
      go_wp2_with fail
      refine (builder_writeK w.heap.size w.heap.size _ T _ HB2.out (by have := HBL.out; omega) HT2.out.size).mono ?_
      rintro e w3 ⟨rfl, hb3, hB3, hO3⟩
      have HN : Hid (∃ (k : Nat) (kv' : Value), ShAt w3 b m ov sv S n kv' (Pu.looks n (K, r) p0 k).1 (Pu.looks n (K, r) p0 k).2 ∧ Lib.IsBuilderF 145 5 w.heap.size w.heap.size (bv ((S.data.toList.take u).drop st)) w3 ∧ (∀ q, kv'.ownBlock = some q → kv.ownBlock = some q ∨ w.heap.size ≤ q) ∧ Turns (fun q => q = b ∨ kv.ownBlock = some q) w w3 ∧ st ≤ u ∧ (Pu.looks n (K, r) p0 k).2 ≤ r + k ∧ ((k = 0 ∧ u = st) ∨ (1 ≤ k ∧ (u = en ∨ u = 28 * (p0 + k)) ∧ u ≤ 28 * (p0 + k) ∧ 28 * (p0 + k - 1) < en))) := by
        have hnb := HS2.out.noBuilder HB2.out
        refine ⟨k + 1, kv2, HS2.out.others hO3 (fun c => hnb (Or.inl c.symm)) (fun q hq c => hnb (Or.inr (by rw [← c]; exact hq))), ?_, HQ2.out, then_below_p HT2.out hB3, HU.out.2.1, HR2.out, Or.inr ⟨by omega, HU.out.2.2.2⟩⟩
        rw [← HBV.out]; exact Or.inr hb3
      have hue := HU.out
      clear hb3 hB3 hO3 HS2 HB2 HT2 HQ2 HR2 HBV HBL
      go_wp2
      go_roundw
      case rel => exact ⟨u, w3, rfl, HU.out.1, rfl, HN.out⟩
      case measure => simp [intOf]; omega
    · have hzi : ¬ (j : Int) < (en : Int) := by omega
      have hje : j = en := by omega
      subst hje
      have hk : k = (j + 27) / 28 - p0 := by have := HP0.out; omega
      have cs := builder_stringK w.heap.size w.heap.size ((S.data.toList.take j).drop st) wr i2 (fun c => by
        have := congrArg List.length c
        rw [List.length_drop, List.length_take, ← HSS.out] at this
        simp at this
        omega)
      obtain ⟨PG, hPG⟩ : ∃ PG, PG = (S.data.toList.take j).drop st := ⟨_, rfl⟩
      have hEx : (⟨PG.toArray⟩ : ByteArray) = S.extract st j := by
        apply ByteArray.ext
        apply Array.ext'
        rw [hPG]
        show (S.data.toList.take j).drop st = _
        rw [extract_list]
      rw [← hPG, hEx] at cs
      have HX : Hid (∀ w2, Below w.heap.size wr w2 → Lib.OthersKept 5 (some w.heap.size) wr w2 → ∃ kv', ShAt w2 b m ov sv S n kv' (Pu.looks n (K, r) p0 ((j + 27) / 28 - p0)).1 (Pu.looks n (K, r) p0 ((j + 27) / 28 - p0)).2 ∧ (∀ q, kv'.ownBlock = some q → kv.ownBlock = some q ∨ w.heap.size ≤ q) ∧ Turns (fun q => q = b ∨ kv.ownBlock = some q) w w2) := by
        intro w2 hB hO
        have hnb := i1.noBuilder i2
        rw [← hk]
        exact ⟨kv', i1.others hO (fun c => hnb (Or.inl c.symm)) (fun q hq c => hnb (Or.inr (by rw [← c]; exact hq))), i3, then_below_p i4 hB⟩
      clear i1 i2 i3 i4 i5 i6 i7 HI hk hPG hEx
      go_wp2_with fail
      refine cs.mono ?_
      rintro e w2 ⟨rfl, _, hB, hO⟩
      have HY := HX.out w2 hB hO
      clear cs hB hO HX
      go_wp2
      exact bodyPost_ret (v := .string (S.extract st j)) (by simp [results, Tryz.results83, go_sem]) rfl ⟨rfl, HY⟩
end
end Go.Proofs.YtdogncjcainhlaaGreatDoor
/- The walk of pages.FirstWrong. -/
namespace Go.Proofs.YtdogncjcainhlaaGreatDoor
open Go.RowKit Go.Deep
open Mem

theorem bytes_ne {a b : ByteArray} (h : ¬ a = b) : (a.toList == b.toList) = false := by
  rw [beq_eq_false_iff_ne]
  intro c
  rw [ByteArray.toList_eq, ByteArray.toList_eq] at c
  exact h (of_list c)

set_option maxRecDepth 100000 in
set_option maxHeartbeats 2000000 in
/-- pages.FirstWrong. -/
theorem fw_any (d : ByteArray) (w : World) (hd : d.size ≤ 60000) (hm : d.size % 32 = 0) :
    Calls Tryz.prog 26 #[.string d] w fun e w' => (∃ r : Int, e = .returned (.int .i64 r) ∧ Pu.FW d.data.toList r) ∧ Turns (fun _ => False) w w' := by
  obtain ⟨K, hK⟩ : ∃ K, d.size = 32 * K := ⟨d.size / 32, by omega⟩
  have hq : ((d.size : Int) / 32) = (K : Int) := by omega
  have HK : Hid (d.size = 32 * K ∧ d.data.toList.length = 32 * K) := ⟨hK, by rw [← size_list, hK]⟩
  have hKb : K ≤ 1875 := by omega
  clear hK hm hd
  go_enter Tryz.func26, Tryz.ntmps26
  go_wp2
  go_loopw [10] (fun iv wr => ∃ (k : Nat) (wy : World), iv = .int .i64 (k : Int) ∧ k ≤ K ∧ wy = wr ∧ Hid ((∀ q, q < k → Pu.okPg q (Pu.pgAt d.data.toList q)) ∧ Turns (fun _ => False) w wy)) (fun iv _ => K - (intOf iv).toNat)
  case atStart => exact ⟨0, w, rfl, Nat.zero_le _, rfl, fun q hq => by omega, Turns.refl _ _⟩
  case round =>
    obtain ⟨k, wr, rfl, hk, hwy, HI⟩ := hrel
    subst hwy
    by_cases hlt : k < K
    · have hki : (k : Int) < (K : Int) := by omega
      obtain ⟨st, hst⟩ : ∃ st : Nat, st = 32 * k := ⟨_, rfl⟩
      have hst2 : (k : Int) * 32 = (st : Int) := by omega
      have hs1 : st + 32 ≤ d.size := by have := HK.out; omega
      have hs2 : (st : Int) + 28 ≤ (d.size : Int) := by omega
      have hs3 : (st : Int) + 32 ≤ (d.size : Int) := by omega
      obtain ⟨A, hA⟩ : ∃ A, A = d.extract st (st + 28) := ⟨_, rfl⟩
      obtain ⟨B, hB⟩ : ∃ B, B = d.extract (st + 28) (st + 32) := ⟨_, rfl⟩
      have hA2 : d.extract st (st + 28) = A := hA.symm
      have hB2 : d.extract (st + 28) (st + 32) = B := hB.symm
      have hAs : A.size = 28 := by rw [hA, ByteArray.size_extract]; omega
      have hAl : A.data.toList = (Pu.pgAt d.data.toList k).take 28 := by
        rw [hA, extract_list, Pu.pgAt, List.take_take, ← hst, List.drop_take]; congr 1; omega
      have hBl : B.data.toList = (Pu.pgAt d.data.toList k).drop 28 := by
        rw [hB, extract_list, Pu.pgAt, ← hst, List.drop_take, List.drop_take, List.drop_drop]; congr 1; omega
      have cq := fun w => sumOf_any k A w (by omega) (by omega)
      obtain ⟨N, hN⟩ : ∃ N, N = Pu.sumN (UInt8.ofNat (k / 256) :: UInt8.ofNat (k % 256) :: A.data.toList) := ⟨_, rfl⟩
      have hNl : N < 4294967296 := by rw [hN]; exact Pu.sumN_lt _
      rw [← hN] at cq
      have ct := fun w => sumText_any N w hNl
      obtain ⟨S4, hS4⟩ : ∃ S4 : ByteArray, S4 = ⟨(Pu.sumB N).toArray⟩ := ⟨_, rfl⟩
      rw [← hS4] at ct
      have HOK : Hid (B = S4 ↔ Pu.okPg k (Pu.pgAt d.data.toList k)) := by
        show _ ↔ _
        unfold Pu.okPg
        rw [← hAl, ← hBl, ← hN]
        constructor
        · intro e; rw [e, hS4]
        · intro e; rw [hS4]; exact of_list e
      clear hA hB hAl hBl hN hS4 hst
      have hn1 : ¬ (st : Int) < 0 := by omega
      go_wp2
      have hn2 : ¬ (st : Int) < 0 := by omega
      have hn3 : ¬ (st : Int) + 28 < 0 := by omega
      have hn4 : ¬ (d.size : Int) < (st : Int) + 28 := by omega
      have hn5 : ¬ (d.size : Int) < (st : Int) + 32 := by omega
      have hn6 : ¬ (st : Int) + 28 < (st : Int) := by omega
      have hn7 : ¬ (st : Int) + 32 < (st : Int) + 28 := by omega
      go_quiet (fail)
      go_wp2_with fail
      refine (cq _).mono ?_
      rintro e w2 ⟨rfl, hT2⟩
      go_wp2_with fail
      refine (ct _).mono ?_
      rintro e w3 ⟨rfl, hT3⟩
      have HT3 : Hid (Turns (fun _ => False) w w3) := ((HI.out.2.drewN _).trans hT2).trans hT3
      have HI3 : Hid (∀ q, q < k → Pu.okPg q (Pu.pgAt d.data.toList q)) := HI.out.1
      clear hT2 hT3 HI
      by_cases hBS : B = S4
      · subst hBS
        have HN : Hid (∀ q, q < k + 1 → Pu.okPg q (Pu.pgAt d.data.toList q)) := by
          intro q hq
          by_cases e : q = k
          · subst e; exact HOK.out.1 rfl
          · exact HI3.out q (by omega)
        clear HI3 HOK
        go_wp2
        go_roundw
        case rel => exact ⟨k + 1, w3, by go_num, by omega, rfl, HN.out, HT3.out⟩
        case measure => simp [intOf]; omega
      · have hbs := bytes_ne hBS
        have HX : Hid (Pu.FW d.data.toList (k : Int)) := Or.inr ⟨k, rfl, by have := HK.out; omega, fun c => hBS (HOK.out.2 c), HI3.out⟩
        clear HI3 HOK
        go_wp2
        exact bodyPost_ret (v := .int .i64 (k : Int)) (by simp [results, Tryz.results26, go_sem]) rfl ⟨⟨k, rfl, HX.out⟩, HT3.out⟩
    · have hki : ¬ (k : Int) < (K : Int) := by omega
      have HX : Hid (Pu.FW d.data.toList (-1) ∧ Turns (fun _ => False) w wr) := by
        refine ⟨Or.inl ⟨rfl, fun q hq => HI.out.1 q ?_⟩, HI.out.2⟩
        have := HK.out
        omega
      clear HI
      go_wp2
      exact bodyPost_ret (v := .int .i64 (-1)) (by simp [results, Tryz.results26, go_sem]) rfl ⟨⟨-1, rfl, HX.out.1⟩, HX.out.2⟩
#print axioms fw_any
end Go.Proofs.YtdogncjcainhlaaGreatDoor
/- The walk of byway.Open, where it refuses before what the pages hold is read. -/
namespace Go.Proofs.YtdogncjcainhlaaGreatDoor
open Go.RowKit Go.Deep
open Mem

theorem not_empty {s : ByteArray} (h : s.size ≠ 0) : s.toList.isEmpty = false := by
  rw [ByteArray.toList_eq]
  cases e : s.data.toList with
  | nil => exact absurd (by rw [size_list, e]; rfl) h
  | cons a l => rfl
set_option maxRecDepth 100000 in
set_option maxHeartbeats 1000000 in
/-- Numbers that may not be. -/
theorem open_conf (d : ByteArray) (c : Int) (w : World) (hc : c < 1 ∨ 8 < c) :
    Calls Tryz.prog 11 #[.string d, .int .i64 c] w fun e w' => e = .returned (.tuple #[.pointer none, .int .i64 7, .int .i64 0]) ∧ w' = w := by
  by_cases h : c < 1
  · go_enter Tryz.func11, Tryz.ntmps11
    go_wp2
    exact bodyPost_ret (v := .tuple #[.pointer none, .int .i64 7, .int .i64 0]) (by simp [results, Tryz.results11, go_sem]) rfl ⟨rfl, rfl⟩
  · have h2 : c > 8 := by omega
    have h3 : (8 : Int) < c := by omega
    go_enter Tryz.func11, Tryz.ntmps11
    go_wp2
    exact bodyPost_ret (v := .tuple #[.pointer none, .int .i64 7, .int .i64 0]) (by simp [results, Tryz.results11, go_sem]) rfl ⟨rfl, rfl⟩
set_option maxRecDepth 100000 in
set_option maxHeartbeats 1000000 in
/-- Too long. -/
theorem open_long (d : ByteArray) (c : Int) (w : World) (h1 : 1 ≤ c) (h2 : c ≤ 8) (hd : 60000 < d.size) :
    Calls Tryz.prog 11 #[.string d, .int .i64 c] w fun e w' => e = .returned (.tuple #[.pointer none, .int .i64 1, .int .i64 0]) ∧ w' = w := by
  have h3 : ¬ c < 1 := by omega
  have h4 : ¬ c > 8 := by omega
  have h5 : ¬ (8 : Int) < c := by omega
  have h6 : (d.size : Int) > 60000 := by omega
  have h7 : (60000 : Int) < (d.size : Int) := by omega
  go_enter Tryz.func11, Tryz.ntmps11
  go_wp2
  exact bodyPost_ret (v := .tuple #[.pointer none, .int .i64 1, .int .i64 0]) (by simp [results, Tryz.results11, go_sem]) rfl ⟨rfl, rfl⟩
set_option maxRecDepth 100000 in
set_option maxHeartbeats 1000000 in
/-- Not of whole pages. -/
theorem open_part (d : ByteArray) (c : Int) (w : World) (h1 : 1 ≤ c) (h2 : c ≤ 8) (hd : d.size ≤ 60000) (hp : d.size = 0 ∨ d.size % 32 ≠ 0) :
    Calls Tryz.prog 11 #[.string d, .int .i64 c] w fun e w' => e = .returned (.tuple #[.pointer none, .int .i64 9, .int .i64 0]) ∧ w' = w := by
  have h3 : ¬ c < 1 := by omega
  have h4 : ¬ c > 8 := by omega
  have h5 : ¬ (8 : Int) < c := by omega
  have h6 : ¬ (d.size : Int) > 60000 := by omega
  have h7 : ¬ (60000 : Int) < (d.size : Int) := by omega
  by_cases hz : d.size = 0
  · have he := empty_of hz
    go_enter Tryz.func11, Tryz.ntmps11
    go_wp2
    exact bodyPost_ret (v := .tuple #[.pointer none, .int .i64 9, .int .i64 0]) (by simp [results, Tryz.results11, go_sem]) rfl ⟨rfl, rfl⟩
  · have hne2 := not_empty hz
    have hr : ((d.size : Int) % 32 != 0) = true := by simp; omega
    go_enter Tryz.func11, Tryz.ntmps11
    go_wp2
    exact bodyPost_ret (v := .tuple #[.pointer none, .int .i64 9, .int .i64 0]) (by simp [results, Tryz.results11, go_sem]) rfl ⟨rfl, rfl⟩
set_option maxRecDepth 100000 in
set_option maxHeartbeats 1000000 in
/-- A page whose sum is wrong. -/
theorem open_sum (d : ByteArray) (c : Int) (w : World) (p : Nat) (h1 : 1 ≤ c) (h2 : c ≤ 8) (hd : d.size ≤ 60000) (hz : d.size ≠ 0) (hm : d.size % 32 = 0) (hp : Pu.FW d.data.toList (p : Int)) :
    Calls Tryz.prog 11 #[.string d, .int .i64 c] w fun e w' => e = .returned (.tuple #[.pointer none, .int .i64 8, .int .i64 (p : Int)]) ∧ Turns (fun _ => False) w w' := by
  have h3 : ¬ c < 1 := by omega
  have h4 : ¬ c > 8 := by omega
  have h5 : ¬ (8 : Int) < c := by omega
  have h6 : ¬ (d.size : Int) > 60000 := by omega
  have h7 : ¬ (60000 : Int) < (d.size : Int) := by omega
  have hne2 := not_empty hz
  have hr : ((d.size : Int) % 32 != 0) = false := by simp; omega
  have cf : Calls Tryz.prog 26 #[.string d] w fun e w' => e = .returned (.int .i64 (p : Int)) ∧ Turns (fun _ => False) w w' := by
    refine (fw_any d w hd hm).mono ?_
    rintro e w' ⟨⟨r, rfl, hr⟩, hT⟩
    exact ⟨by rw [hr.one hp], hT⟩
  have hp1 : ((p : Int) != -1) = true := by simp
  clear hp hm
  go_enter Tryz.func11, Tryz.ntmps11
  go_wp2_with fail
  refine cf.mono ?_
  rintro e w1 ⟨rfl, hT⟩
  have HT : Hid (Turns (fun _ => False) w w1) := hT
  clear cf hT
  go_wp2
  exact bodyPost_ret (v := .tuple #[.pointer none, .int .i64 8, .int .i64 (p : Int)]) (by simp [results, Tryz.results11, go_sem]) rfl ⟨rfl, HT.out⟩
#print axioms open_sum
end Go.Proofs.YtdogncjcainhlaaGreatDoor
/- The walk of pages.Held. -/
namespace Go.Proofs.YtdogncjcainhlaaGreatDoor
open Go.RowKit Go.Deep
open Mem

namespace Pu
/-- What the first pages hold. -/
def heldK (d : List UInt8) : Nat → List UInt8
  | 0 => []
  | k + 1 => heldK d k ++ (d.drop (32 * k)).take 28
theorem heldK_len (d : List UInt8) : ∀ k, 32 * k ≤ d.length → (heldK d k).length = 28 * k
  | 0, _ => rfl
  | k + 1, h => by
    rw [heldK, List.length_append, heldK_len d k (by omega), List.length_take, List.length_drop]; omega
end Pu
set_option maxRecDepth 100000 in
set_option maxHeartbeats 2000000 in
/-- pages.Held. -/
theorem pgheld_any (d : ByteArray) (w : World) (p : Nat) (hd : d.size = 32 * p) (hp : p ≤ 1875) :
    Calls Tryz.prog 27 #[.string d] w fun e w' => e = .returned (.string ⟨(Pu.heldK d.data.toList p).toArray⟩) ∧ Turns (fun _ => False) w w' := by
  have HDL : Hid (d.size = 32 * p ∧ d.size = d.data.toList.length) := ⟨hd, size_list d⟩
  have hds : d.size ≤ 60000 := by omega
  have H0 : Hid (∃ (k j : Nat) (wy : World), Value.int .i64 0 = .int .i64 (j : Int) ∧ j ≤ d.size ∧ wy = w.alloc (.cells #[.pointer none, .slice none 0 0] 145) ∧ Hid (j = 32 * k ∧ k ≤ p ∧ Lib.IsBuilder 145 5 w.heap.size w.heap.size (bv (Pu.heldK d.data.toList k)) wy ∧ Turns (fun _ => False) w wy)) :=
    ⟨0, 0, _, rfl, Nat.zero_le _, rfl, rfl, Nat.zero_le _, Or.inl ⟨Nat.le_refl _, .slice none 0 0, Array.getElem?_push_size, World.ownsRow_nil _ _ _ _, by intro c; cases c⟩, (Turns.refl _ _).alloc _⟩
  clear hd
  go_enter Tryz.func27, Tryz.ntmps27
  go_wp2
  go_loopw [4] (fun pv wr => ∃ (k j : Nat) (wy : World), pv = .int .i64 (j : Int) ∧ j ≤ d.size ∧ wy = wr ∧ Hid (j = 32 * k ∧ k ≤ p ∧ Lib.IsBuilder 145 5 w.heap.size w.heap.size (bv (Pu.heldK d.data.toList k)) wy ∧ Turns (fun _ => False) w wy)) (fun pv _ => d.size - (intOf pv).toNat)
  case atStart => exact H0.out
  case round =>
    clear H0
    obtain ⟨k, j, wr, rfl, hj, hwy, HR⟩ := hrel
    subst hwy
    obtain ⟨r1, r2, r3, r4⟩ := HR.out
    by_cases hz : j < d.size
    · have hzi : (j : Int) < (d.size : Int) := by omega
      have hk1 : k + 1 ≤ p := by have := HDL.out; omega
      have hj28 : j + 32 ≤ d.size := by have := HDL.out; omega
      have hji : (j : Int) + 28 ≤ (d.size : Int) := by omega
      have hw1 : IntKind.i64.wrap ((j : Int) + 28) = (j : Int) + 28 := by rw [IntKind.wrap_i64]; omega
      have hw2 : IntKind.i64.wrap ((j : Int) + 32) = (j : Int) + 32 := by rw [IntKind.wrap_i64]; omega
      have hjj : (j : Int) ≤ (j : Int) + 28 := by omega
      obtain ⟨C, hC⟩ : ∃ C : ByteArray, C = d.extract j (j + 28) := ⟨_, rfl⟩
      have hCx := hC.symm
      have hCs : C.size = 28 := by rw [hC, ByteArray.size_extract]; omega
      have hCl : C.data.toList = (d.data.toList.drop (32 * k)).take 28 := by
        rw [hC, extract_list, r1, List.drop_take]
        congr 1; omega
      have HP : Hid (bv (Pu.heldK d.data.toList k) ++ Lib.strCells C = bv (Pu.heldK d.data.toList (k + 1))) := by
        show _ = _
        rw [Pu.heldK, bv_append, ← hCl]
        rfl
      have hpl : Hid ((bv (Pu.heldK d.data.toList k)).length ≤ 100000) := by
        show _ ≤ _
        have := HDL.out
        rw [bv_len, Pu.heldK_len _ _ (by omega)]
        omega
      have HB0 : Hid (Lib.IsBuilder 145 5 w.heap.size w.heap.size (bv (Pu.heldK d.data.toList k)) wr ∧ Turns (fun _ => False) w wr) := ⟨r3, r4⟩
      have HJ : Hid (j = 32 * k) := r1
      generalize bv (Pu.heldK d.data.toList k) = BS at *
      clear hC r1 r2 r3 r4 HR hCl
      go_wp2_with fail
      refine (builder_write w.heap.size w.heap.size BS C _ HB0.out.1 (by have := hpl.out; omega) HB0.out.2.size).mono ?_
      rintro e w3 ⟨rfl, hb3, hB3⟩
      have HB6 : Hid (Lib.IsBuilder 145 5 w.heap.size w.heap.size (bv (Pu.heldK d.data.toList (k + 1))) w3 ∧ Turns (fun _ => False) w w3) := by
        refine ⟨?_, then_below HB0.out.2 hB3⟩
        rw [← HP.out]; exact Or.inr hb3
      clear hb3 hB3 HB0
      go_wp2
      go_roundw
      case rel => exact ⟨k + 1, j + 32, w3, by go_num, hj28, rfl, by have := HJ.out; omega, hk1, HB6.out.1, HB6.out.2⟩
      case measure => simp [intOf]; omega
    · have hzi : ¬ (j : Int) < (d.size : Int) := by omega
      have hkp : k = p := by have := HDL.out; omega
      subst hkp
      have cs := builder_string w.heap.size w.heap.size (Pu.heldK d.data.toList k) wr r3 r4.size
      have HT : Hid (Turns (fun _ => False) w wr) := r4
      obtain ⟨PG, hPG⟩ : ∃ PG, PG = Pu.heldK d.data.toList k := ⟨_, rfl⟩
      rw [← hPG] at cs
      have HPG : Hid (PG = Pu.heldK d.data.toList k) := hPG
      clear hPG HR r1 r2 r3 r4
      go_wp2_with fail
      refine cs.mono ?_
      rintro e w2 ⟨rfl, hB⟩
      have HT2 : Hid (Turns (fun _ => False) w w2) := then_below HT.out hB
      clear cs hB
      go_wp2
      exact bodyPost_ret (v := .string ⟨PG.toArray⟩) (by simp [results, Tryz.results27, go_sem]) rfl ⟨by rw [HPG.out], HT2.out⟩
end Go.Proofs.YtdogncjcainhlaaGreatDoor
/- The walk of byway.Open, where what the pages hold is read. -/
namespace Go.Proofs.YtdogncjcainhlaaGreatDoor
open Go.RowKit Go.Deep
open Mem

theorem Pu.rdOf_hd {l : List UInt8} {x : List Nat × List Nat × Nat} (h : Pu.rdOf l = some x) : Pu.hdOf l = some x := by
  unfold Pu.rdOf at h
  split at h
  · cases h
  · rename_i O S a hh
    split at h
    · rw [hh]; exact h
    · cases h
set_option maxRecDepth 100000 in
set_option maxHeartbeats 1000000 in
/-- What the pages hold is no store's. -/
theorem open_bad (d : ByteArray) (c : Int) (w : World) (p : Nat) (h1 : 1 ≤ c) (h2 : c ≤ 8) (hd : d.size = 32 * p) (hp1 : 1 ≤ p) (hp : p ≤ 1875) (hf : Pu.FW d.data.toList (-1)) (hr : Pu.rdOf (Pu.heldK d.data.toList p) = none) :
    Calls Tryz.prog 11 #[.string d, .int .i64 c] w fun e w' => e = .returned (.tuple #[.pointer none, .int .i64 9, .int .i64 0]) ∧ Turns (fun _ => False) w w' := by
  have h3 : ¬ c < 1 := by omega
  have h4 : ¬ c > 8 := by omega
  have h5 : ¬ (8 : Int) < c := by omega
  have h6 : ¬ (d.size : Int) > 60000 := by omega
  have h7 : ¬ (60000 : Int) < (d.size : Int) := by omega
  have hne2 := not_empty (s := d) (by omega)
  have hrm : ((d.size : Int) % 32 != 0) = false := by simp; omega
  have cf : Calls Tryz.prog 26 #[.string d] w fun e w' => e = .returned (.int .i64 (-1)) ∧ Turns (fun _ => False) w w' := by
    refine (fw_any d w (by omega) (by omega)).mono ?_
    rintro e w' ⟨⟨r, rfl, hr⟩, hT⟩
    exact ⟨by rw [hr.one hf], hT⟩
  have ch := fun w => pgheld_any d w p hd hp
  obtain ⟨S, hS⟩ : ∃ S : ByteArray, S = ⟨(Pu.heldK d.data.toList p).toArray⟩ := ⟨_, rfl⟩
  rw [← hS] at ch
  have hSl : S.data.toList = Pu.heldK d.data.toList p := by rw [hS]
  have cr := fun w => recRead_any S w (by rw [size_list, hSl, Pu.heldK_len _ _ (by rw [← size_list]; omega)]; omega)
  rw [hSl, hr] at cr
  clear hS hSl hr hf hd
  go_enter Tryz.func11, Tryz.ntmps11
  go_wp2_with fail
  refine cf.mono ?_
  rintro e w1 ⟨rfl, hT⟩
  have HT : Hid (Turns (fun _ => False) w w1) := hT
  clear cf hT
  go_wp2_with fail
  refine (ch _).mono ?_
  rintro e w2 ⟨rfl, hT⟩
  have HT2 : Hid (Turns (fun _ => False) w w2) := HT.out.trans hT
  clear ch hT
  go_wp2_with fail
  refine (cr _).mono ?_
  rintro e w3 ⟨rfl, hT⟩
  have HT3 : Hid (Turns (fun _ => False) w w3) := HT2.out.trans hT
  have HT4 : Hid (∀ o, Turns (fun _ => False) w (w3.alloc o)) := fun o => HT3.out.alloc o
  clear cr hT
  go_wp2
  exact bodyPost_ret (v := .tuple #[.pointer none, .int .i64 9, .int .i64 0]) (by simp [results, Tryz.results11, go_sem]) rfl ⟨rfl, HT4.out _⟩
/-- What shelf.New gives. -/
theorem shelfNew_any (s : ByteArray) (c : Int) (w : World) : Calls Tryz.prog 29 #[.string s, .int .i64 c] w fun e w' => e = .returned (.agg #[.string s, .int .i64 c, .slice none 0 0, .int .i64 0]) ∧ Turns (fun _ => False) w w' := by
  go_enter Tryz.func29, Tryz.ntmps29
  have HT : Hid (∀ o, Turns (fun _ => False) w (w.alloc o)) := fun o => (Turns.refl _ _).alloc o
  go_wp2
  exact bodyPost_ret (v := .agg #[.string s, .int .i64 c, .slice none 0 0, .int .i64 0]) (by simp [results, Tryz.results29, go_sem]) rfl ⟨rfl, HT.out _⟩
set_option maxRecDepth 100000 in
set_option maxHeartbeats 1000000 in
/-- What the pages hold is a store's. -/
theorem open_ok (d : ByteArray) (c : Nat) (w : World) (p : Nat) (O Z : List Nat) (a : Nat) (h1 : 1 ≤ c) (h2 : c ≤ 8) (hd : d.size = 32 * p) (hp1 : 1 ≤ p) (hp : p ≤ 1875) (hf : Pu.FW d.data.toList (-1)) (hr : Pu.rdOf (Pu.heldK d.data.toList p) = some (O, Z, a)) :
    Calls Tryz.prog 11 #[.string d, .int .i64 (c : Int)] w fun e w' => ∃ b og oc sg sc, e = .returned (.tuple #[.pointer (some ⟨b, 0, none⟩), .int .i64 0, .int .i64 0]) ∧ StoreAt w' b og oc sg sc O (Pu.stF a Z) ⟨(Pu.heldK d.data.toList p).toArray⟩ c 0 (.slice none 0 0) [] 0 ∧ w.heap.size ≤ b ∧ w.heap.size ≤ og ∧ w.heap.size ≤ sg ∧ b < w'.heap.size ∧ og < w'.heap.size ∧ sg < w'.heap.size ∧ Turns (fun _ => False) w w' := by
  have h3 : ¬ (c : Int) < 1 := by omega
  have h4 : ¬ (c : Int) > 8 := by omega
  have h5 : ¬ (8 : Int) < (c : Int) := by omega
  have h6 : ¬ (d.size : Int) > 60000 := by omega
  have h7 : ¬ (60000 : Int) < (d.size : Int) := by omega
  have hne2 := not_empty (s := d) (by omega)
  have hrm : ((d.size : Int) % 32 != 0) = false := by simp; omega
  have cf : Calls Tryz.prog 26 #[.string d] w fun e w' => e = .returned (.int .i64 (-1)) ∧ Turns (fun _ => False) w w' := by
    refine (fw_any d w (by omega) (by omega)).mono ?_
    rintro e w' ⟨⟨r, rfl, hr⟩, hT⟩
    exact ⟨by rw [hr.one hf], hT⟩
  have ch := fun w => pgheld_any d w p hd hp
  obtain ⟨S, hS⟩ : ∃ S : ByteArray, S = ⟨(Pu.heldK d.data.toList p).toArray⟩ := ⟨_, rfl⟩
  rw [← hS] at ch
  have hSl : S.data.toList = Pu.heldK d.data.toList p := by rw [hS]
  have cr := fun w => recRead_any S w (by rw [size_list, hSl, Pu.heldK_len _ _ (by rw [← size_list]; omega)]; omega)
  rw [hSl, hr] at cr
  have cn := fun w => shelfNew_any S (c : Int) w
  obtain ⟨_, O1, O2, O3, O4, O5, _⟩ := Pu.hdOf_some (Pu.rdOf_hd hr)
  have HS : Hid (S = ⟨(Pu.heldK d.data.toList p).toArray⟩) := hS
  clear hS hSl hr hf hd
  go_enter Tryz.func11, Tryz.ntmps11
  go_wp2_with fail
  refine cf.mono ?_
  rintro e w1 ⟨rfl, hT⟩
  have HT : Hid (Turns (fun _ => False) w w1) := hT
  clear cf hT
  go_wp2_with fail
  refine (ch _).mono ?_
  rintro e w2 ⟨rfl, hT⟩
  have HT2 : Hid (Turns (fun _ => False) w w2) := HT.out.trans hT
  clear ch hT
  go_wp2_with fail
  refine (cr _).mono ?_
  rintro e w3 ⟨ov, sv, rfl, ho, hs, hT⟩
  have HT3 : Hid (Turns (fun _ => False) w w3) := HT2.out.trans hT
  rw [O5] at hs
  obtain ⟨og, oc, e1, _⟩ := own_some ho O1
  obtain ⟨sg, sc, e2, _⟩ := own_some hs (by omega)
  subst e1 e2
  have HOW : Hid (Ord w3 og O.length O ∧ (∀ j, j ≤ O.length → w3.cell? ⟨sg, j, none⟩ = some (.int .i64 (Pu.stF a Z j : Nat))) ∧ w2.heap.size ≤ og ∧ w2.heap.size ≤ sg) := by
    refine ⟨ord_own ho rfl O4, fun j hj => ?_, ?_, ?_⟩
    · have hx : j < (O.length + 1) * 1 := by omega
      have e3 := World.ownsRow.cellAt hs j hx
      rw [natV, List.getElem?_map, Pu.starts_get Z a j (by omega)] at e3
      exact e3
    · rcases ho.2 with ⟨h1, _⟩ | ⟨g, cap, cur, hv, hg, _⟩
      · cases h1
      · injection hv with hv; injection hv with hv; injection hv with hv; omega
    · rcases hs.2 with ⟨h1, _⟩ | ⟨g, cap, cur, hv, hg, _⟩
      · cases h1
      · injection hv with hv; injection hv with hv; injection hv with hv; omega
  clear ho hs
  clear cr hT
  have HCN : Hid (∀ w5, Turns (fun _ => False) (w3.alloc (.cells #[.slice (some ⟨og, 0, none⟩) O.length oc, .slice (some ⟨sg, 0, none⟩) (O.length + 1) sc] 79)) w5 → Calls Tryz.prog 29 #[.string S, .int .i64 (c : Int)] w5 fun e w' => e = .returned (.agg #[.string S, .int .i64 (c : Int), .slice none 0 0, .int .i64 0]) ∧ Turns (fun _ => False) (w3.alloc (.cells #[.slice (some ⟨og, 0, none⟩) O.length oc, .slice (some ⟨sg, 0, none⟩) (O.length + 1) sc] 79)) w') := fun w5 t => (cn w5).mono fun e w' h => ⟨h.1, t.trans h.2⟩
  clear cn
  go_wp2_with fail
  go_region_held3 (fun w' => w'.cell? ⟨w3.heap.size, 0, none⟩ = some (.slice (some ⟨og, 0, none⟩) O.length oc) ∧ w'.cell? ⟨w3.heap.size, 1, none⟩ = some (.slice (some ⟨sg, 0, none⟩) (O.length + 1) sc)) (go_keep)
    (first | (go_at_call 29; refine (HCN.out _ (by first | exact Turns.refl _ _ | exact (Turns.refl _ _).drew)).mono ?_; rintro e w4 ⟨rfl, hT4⟩; have k0 := (box_two hT4).1; have k1 := (box_two hT4).2.1))
  all_goals
    have HX : Hid (∀ r, r = w4.alloc (.cells #[.int .i32 0, .int .u32 0, .slice (some ⟨og, 0, none⟩) O.length oc, .slice (some ⟨sg, 0, none⟩) (O.length + 1) sc, .string S, .int .i64 (c : Int), .slice none 0 0, .int .i64 0] 94) → ∃ b og oc sg sc, (.returned (.tuple #[.pointer (some ⟨w4.heap.size, 0, none⟩), .int .i64 0, .int .i64 0]) : Ending) = .returned (.tuple #[.pointer (some ⟨b, 0, none⟩), .int .i64 0, .int .i64 0]) ∧ StoreAt r b og oc sg sc O (Pu.stF a Z) ⟨(Pu.heldK d.data.toList p).toArray⟩ c 0 (.slice none 0 0) [] 0 ∧ w.heap.size ≤ b ∧ w.heap.size ≤ og ∧ w.heap.size ≤ sg ∧ b < r.heap.size ∧ og < r.heap.size ∧ sg < r.heap.size ∧ Turns (fun _ => False) w r) := by
      rintro r rfl
      have t1 : Turns (fun _ => False) w3 w4 := ((Turns.refl _ _).alloc _).trans hT4
      have t2 := t1.alloc (.cells #[.int .i32 0, .int .u32 0, .slice (some ⟨og, 0, none⟩) O.length oc, .slice (some ⟨sg, 0, none⟩) (O.length + 1) sc, .string S, .int .i64 (c : Int), .slice none 0 0, .int .i64 0] 94)
      have hst := HOW.out.2.1 0 (Nat.zero_le _)
      have hsl := World.block_lt_of_cell? _ _ hst
      obtain ⟨m0, hm0⟩ : ∃ m, O[0]? = some m := ⟨_, List.getElem?_eq_getElem (by omega)⟩
      have hol := World.block_lt_of_cell? _ _ (HOW.out.1.2 0 m0 hm0).2
      simp only at hsl hol
      have z1 := HT2.out.size
      have z2 := HT3.out.size
      have z3 := t1.size
      have z4 := HOW.out.2.2
      refine ⟨w4.heap.size, og, oc, sg, sc, rfl, ⟨?_, HOW.out.1.turns t2, fun j hj => (t2.cell (a := ⟨sg, j, none⟩) hsl (fun x => x)).trans (HOW.out.2.1 j hj), World.ownsRow_nil _ _ _ _, fun q hq => by (cases hq), by omega, by omega⟩, by omega, by omega, by omega, by simp, by simp; omega, by simp; omega, HT3.out.trans t2⟩
      rw [← HS.out]
      exact SBox.new _ _ _ _ _ _ _ _
    clear HCN HOW hT4 k0 k1
    go_wp2
    exact bodyPost_ret (v := .tuple #[.pointer (some ⟨w4.heap.size, 0, none⟩), .int .i64 0, .int .i64 0]) (by simp [results, Tryz.results11, go_sem]) rfl (HX.out _ rfl)
end Go.Proofs.YtdogncjcainhlaaGreatDoor
/- The walk of a store's label. -/
namespace Go.Proofs.YtdogncjcainhlaaGreatDoor
open Go.RowKit Go.Deep
open Mem

theorem StoreAt.shelf {w : World} {b og oc sg sc : Nat} {O : List Nat} {st : Nat → Nat} {S : ByteArray} {c : Nat} {m : Int} {kv : Value} {K : List Nat} {r : Nat} (h : StoreAt w b og oc sg sc O st S c m kv K r) : ShAt w b m (.slice (some ⟨og, 0, none⟩) O.length oc) (.slice (some ⟨sg, 0, none⟩) (O.length + 1) sc) S c kv K r :=
  ⟨h.box, h.kept, fun q hq => (h.ne q hq).1⟩
theorem StoreAt.then {w w' : World} {b og oc sg sc : Nat} {O : List Nat} {st : Nat → Nat} {S : ByteArray} {c : Nat} {m : Int} {kv kv' : Value} {K K' : List Nat} {r r' : Nat} (h : StoreAt w b og oc sg sc O st S c m kv K r) (hn : 1 ≤ O.length) (s : ShAt w' b m (.slice (some ⟨og, 0, none⟩) O.length oc) (.slice (some ⟨sg, 0, none⟩) (O.length + 1) sc) S c kv' K' r') (hq : ∀ q, kv'.ownBlock = some q → kv.ownBlock = some q ∨ w.heap.size ≤ q) (t : Turns (fun q => q = b ∨ kv.ownBlock = some q) w w') : StoreAt w' b og oc sg sc O st S c m kv' K' r' := by
  have hp1 : ¬ (og = b ∨ kv.ownBlock = some og) := by
    rintro (c | c)
    · exact h.og c
    · exact (h.ne og c).2.1 rfl
  have hp2 : ¬ (sg = b ∨ kv.ownBlock = some sg) := by
    rintro (c | c)
    · exact h.sg c
    · exact (h.ne sg c).2.2 rfl
  have hsl : sg < w.heap.size := World.block_lt_of_cell? _ _ (h.sts 0 (Nat.zero_le _))
  have hol : og < w.heap.size := by
    obtain ⟨m0, hm0⟩ : ∃ m, O[0]? = some m := ⟨_, List.getElem?_eq_getElem (by omega)⟩
    exact World.block_lt_of_cell? _ _ (h.ord.2 0 m0 hm0).2
  refine ⟨s.box, h.ord.turns_p t hp1, fun j hj => (t.cell (a := ⟨sg, j, none⟩) hsl hp2).trans (h.sts j hj), s.kept, fun q hq' => ⟨s.ne q hq', ?_, ?_⟩, h.og, h.sg⟩
  · rcases hq q hq' with c | c
    · exact (h.ne q c).2.1
    · omega
  · rcases hq q hq' with c | c
    · exact (h.ne q c).2.2
    · omega
set_option maxRecDepth 100000 in
set_option maxHeartbeats 1000000 in
theorem bounds_any (w : World) (og oc sg sc n v : Nat) (st : Nat → Nat) (hv : v < n) (hn : n ≤ 40) (h1 : w.cell? ⟨sg, v, none⟩ = some (.int .i64 (st v : Int))) (h2 : w.cell? ⟨sg, v + 1, none⟩ = some (.int .i64 (st (v + 1) : Int))) :
    Calls Tryz.prog 84 #[.agg #[.slice (some ⟨og, 0, none⟩) n oc, .slice (some ⟨sg, 0, none⟩) (n + 1) sc], .int .i64 (v : Int)] w fun e w' => e = .returned (.tuple #[.int .i64 (st v : Int), .int .i64 (st (v + 1) : Int)]) ∧ Turns (fun _ => False) w w' := by
  obtain ⟨v1, hv1⟩ : ∃ v1, v1 = v + 1 := ⟨_, rfl⟩
  rw [← hv1] at h2 ⊢
  have hw : IntKind.i64.wrap ((v : Int) + 1) = (v1 : Int) := by rw [IntKind.wrap_i64]; omega
  have hi1 : (v : Int) < (n : Int) + 1 := by omega
  have hi2 : (v1 : Int) < (n : Int) + 1 := by omega
  have hsl : sg < w.heap.size := World.block_lt_of_cell? _ _ h1
  have HT : Hid (∀ o q, Turns (fun _ => False) w ((w.alloc o).drewN q)) := fun o q => ((Turns.refl _ _).alloc o).drewN q
  clear hv1
  go_enter Tryz.func84, Tryz.ntmps84
  go_wp2_with fail
  go_quiet (fail)
  go_wp2
  exact bodyPost_ret (v := .tuple #[.int .i64 (st v : Int), .int .i64 (st v1 : Int)]) (by simp [results, Tryz.results84, go_sem]) rfl ⟨rfl, HT.out _ _⟩
set_option maxRecDepth 100000 in
set_option maxHeartbeats 1000000 in
theorem label_any {w : World} {b og oc sg sc : Nat} {O : List Nat} {st : Nat → Nat} {S : ByteArray} {c : Nat} {m : Int} {kv : Value} {K : List Nat} {r v : Nat} {H : List (Nat × Int)} (h : StoreAt w b og oc sg sc O st S c m kv K r) (hn1 : 1 ≤ O.length) (hn40 : O.length ≤ 40) (hv : v < O.length) (hc1 : 1 ≤ c) (hc8 : c ≤ 8) (hK : Pu.Keeps c K) (hr : r ≤ 10000000000000000) (hse : st v < st (v + 1)) (hen : st (v + 1) ≤ S.size) (hS : S.size ≤ 60000) (hS28 : S.size % 28 = 0) (hlo : Pu.labOf ((S.data.toList.take (st (v + 1))).drop (st v)) = some H) :
    Calls Tryz.prog 45 #[.pointer (some ⟨b, 0, none⟩), .int .i64 (v : Int)] w fun e w' => ∃ a hc kv', e = .returned (.slice a H.length hc) ∧ HubAt w' a H ∧ H.length ≤ hc ∧ (∀ q, (Value.slice a H.length hc).ownBlock = some q → w.heap.size ≤ q ∧ kv'.ownBlock ≠ some q) ∧ StoreAt w' b og oc sg sc O st S c m kv' (Pu.looks c (K, r) (st v / 28) ((st (v + 1) + 27) / 28 - st v / 28)).1 (Pu.looks c (K, r) (st v / 28) ((st (v + 1) + 27) / 28 - st v / 28)).2 ∧ (∀ q, kv'.ownBlock = some q → kv.ownBlock = some q ∨ w.heap.size ≤ q) ∧ Turns (fun q => q = b ∨ kv.ownBlock = some q) w w' := by
  have e2 := h.box.c2
  have e3 := h.box.c3
  have hbl := h.box.lt
  obtain ⟨T, hT⟩ : ∃ T, T = S.extract (st v) (st (v + 1)) := ⟨_, rfl⟩
  have hTl : T.data.toList = (S.data.toList.take (st (v + 1))).drop (st v) := by rw [hT, extract_list]
  have HC1 : Hid (∀ w', Turns (fun _ => False) w w' → Calls Tryz.prog 84 #[.agg #[.slice (some ⟨og, 0, none⟩) O.length oc, .slice (some ⟨sg, 0, none⟩) (O.length + 1) sc], .int .i64 (v : Int)] w' fun e w1 => e = .returned (.tuple #[.int .i64 (st v : Int), .int .i64 (st (v + 1) : Int)]) ∧ Turns (fun _ => False) w w1) := fun w' t => by
    have hs := (h.turns0 t).sts
    exact (bounds_any w' og oc sg sc O.length v st hv hn40 (hs v (by omega)) (hs (v + 1) (by omega))).mono fun e w1 hh => ⟨hh.1, t.trans hh.2⟩
  have HC2 : Hid (∀ w', Turns (fun _ => False) w w' → Calls Tryz.prog 83 #[.pointer (some ⟨b, 4, none⟩), .int .i64 (st v : Int), .int .i64 (st (v + 1) : Int)] w' fun e w2 => e = .returned (.string T) ∧ ∃ kv', StoreAt w2 b og oc sg sc O st S c m kv' (Pu.looks c (K, r) (st v / 28) ((st (v + 1) + 27) / 28 - st v / 28)).1 (Pu.looks c (K, r) (st v / 28) ((st (v + 1) + 27) / 28 - st v / 28)).2 ∧ (∀ q, kv'.ownBlock = some q → kv.ownBlock = some q ∨ w.heap.size ≤ q) ∧ Turns (fun q => q = b ∨ kv.ownBlock = some q) w w2) := fun w' t => by
    have h' := h.turns0 t
    rw [hT]
    refine (shTake_any h'.shelf hc1 hc8 hK hr hse hen hS hS28).mono ?_
    rintro e w2 ⟨rfl, kv', s1, s2, s3⟩
    refine ⟨rfl, kv', h'.then hn1 s1 s2 s3, fun q hq => ?_, (t.mono (fun _ _ x => x.elim)).trans s3⟩
    rcases s2 q hq with c | c
    · exact Or.inl c
    · exact Or.inr (Nat.le_trans t.size c)
  have HC3 : Hid (∀ w', Calls Tryz.prog 82 #[.string T] w' fun e w3 => ∃ a hc, e = .returned (.tuple #[.slice a H.length hc, .bool true]) ∧ HubAt w3 a H ∧ H.length ≤ hc ∧ (∀ q, (Value.slice a H.length hc).ownBlock = some q → w'.heap.size ≤ q) ∧ Turns (fun _ => False) w' w3) := fun w' => by
    have hTs : T.size ≤ 60000 := by rw [hT, ByteArray.size_extract]; omega
    have := readLabel_any T w' (by omega)
    rw [hTl, hlo] at this
    refine this.mono ?_
    rintro e w3 ⟨x, rfl, hO⟩
    obtain ⟨a, hc, hx, hA⟩ := hubAt_own hO.own
    subst hx
    have hHc : H.length ≤ hc := by
      rcases hO.own.2 with ⟨h1, h2⟩ | ⟨g, cap, cur, h1, h2, h3, h4, _⟩
      · omega
      · injection h1 with h1 h5 h6; omega
    exact ⟨a, hc, rfl, hA, hHc, hO.fresh, hO.turns0⟩
  generalize Pu.looks c (K, r) (st v / 28) ((st (v + 1) + 27) / 28 - st v / 28) = LK at *
  obtain ⟨L, hL⟩ : ∃ L, L = H.length := ⟨_, rfl⟩
  rw [← hL] at HC3 ⊢
  generalize st (v + 1) = s1 at *
  generalize st v = s0 at *
  clear h hT hTl hlo hL hK hse hen hS28 hr hS
  go_enter Tryz.func45, Tryz.ntmps45
  go_wp2_with fail
  go_region_held3 (fun w' => w'.cell? ⟨b, 2, none⟩ = some (.slice (some ⟨og, 0, none⟩) O.length oc) ∧ w'.cell? ⟨b, 3, none⟩ = some (.slice (some ⟨sg, 0, none⟩) (O.length + 1) sc)) (go_keep)
    (first
      | (go_at_call 84; refine (HC1.out _ (by first | exact Turns.refl _ _ | exact (Turns.refl _ _).drew)).mono ?_; rintro e w1 ⟨rfl, hT1⟩; have k2 := (hT1.cell (a := ⟨b, 2, none⟩) hbl (fun x => x)).trans e2; have k3 := (hT1.cell (a := ⟨b, 3, none⟩) hbl (fun x => x)).trans e3)
      | (go_at_call 83; refine (HC2.out _ (by first | exact hT1 | exact hT1.drew)).mono ?_; rintro e w2 ⟨rfl, kv2, hS2, hq2, hT2⟩; have k4 := hS2.box.c2; have k5 := hS2.box.c3)
      | (go_at_call 82; refine (HC3.out _).mono ?_; rintro e w3 ⟨a, hc, rfl, hA3, hc3, ho3, hT3⟩; have k6 := ((hS2.turns0 hT3).box).c2; have k7 := ((hS2.turns0 hT3).box).c3))
  all_goals
    have HX : Hid (∃ a' hc' kv', (Ending.returned (.slice a L hc)) = .returned (.slice a' L hc') ∧ HubAt w3 a' H ∧ L ≤ hc' ∧ (∀ q, (Value.slice a' L hc').ownBlock = some q → w.heap.size ≤ q ∧ kv'.ownBlock ≠ some q) ∧ StoreAt w3 b og oc sg sc O st S c m kv' LK.1 LK.2 ∧ (∀ q, kv'.ownBlock = some q → kv.ownBlock = some q ∨ w.heap.size ≤ q) ∧ Turns (fun q => q = b ∨ kv.ownBlock = some q) w w3) := ⟨a, hc, kv2, rfl, hA3, hc3, fun q hq => ⟨Nat.le_trans hT2.size (ho3 q hq), fun c => by have h1 := (World.ownsRow.lt hS2.kept q c).2; have h2 := ho3 q hq; omega⟩, hS2.turns0 hT3, hq2, hT2.trans (hT3.mono (fun _ _ x => x.elim))⟩
    clear HC1 HC2 HC3 hS2 hq2 hT2 hA3 ho3 hT3 k2 k3 k4 k5 k6 k7 hT1 e2 e3
    go_wp2
    go_ret
    exact HX.out
end Go.Proofs.YtdogncjcainhlaaGreatDoor
