/- The walks of package hubs: liesBetween, isHub. -/
import Derived.Test.YtdogncjcainhlaaGreatDoorProg
import Derived.Test.YtdogncjcainhlaaGreatDoorPlain
import Derived.Test.YtdogncjcainhlaaGreatDoorPack9
import Derived.Deep.QuietTactic
import Derived.BigQuiet
namespace Go.Proofs.YtdogncjcainhlaaGreatDoor
open Go.RowKit Go.Deep
open Mem

/-- The slice at block fb has n rows, which tell D. -/
def Tab (w : World) (fb n : Nat) (D : Nat → Nat → Int) : Prop := ∀ i, i < n → ∃ r, w.cell? ⟨fb, i, none⟩ = some (.slice (some ⟨r, 0, none⟩) n n) ∧ ∀ j, j < n → w.cell? ⟨r, j, none⟩ = some (.int .i64 (D i j))
theorem Tab.turns {w w' : World} {fb n : Nat} {D : Nat → Nat → Int} (h : Tab w fb n D) (t : Turns (fun _ => False) w w') : Tab w' fb n D := by
  intro i hi
  obtain ⟨r, h1, h2⟩ := h i hi
  exact ⟨r, (t.cell (World.block_lt_of_cell? _ _ h1) (fun x => x)).trans h1, fun j hj => (t.cell (World.block_lt_of_cell? _ _ (h2 j hj)) (fun x => x)).trans (h2 j hj)⟩
/-- The numbers of the table are no greater than they can be. -/
def Small (n : Nat) (D : Nat → Nat → Int) : Prop := ∀ i j, i < n → j < n → D i j = -1 ∨ (0 ≤ D i j ∧ D i j ≤ 40000)

set_option maxHeartbeats 1000000 in
theorem lies_any (w : World) (fb n cap a m b : Nat) (D : Nat → Nat → Int) (hT : Tab w fb n D) (hS : Small n D) (ha : a < n) (hm : m < n) (hb : b < n) :
    Calls Tryz.prog 144 #[.slice (some ⟨fb, 0, none⟩) n cap, .int .i64 a, .int .i64 m, .int .i64 b] w fun e w' => e = .returned (.bool (Pu.lies D a m b)) ∧ ∃ q, w' = w.drewN q := by
  obtain ⟨ra, h1, h2⟩ := hT a ha
  obtain ⟨rm, h3, h4⟩ := hT m hm
  have c1 := h2 m hm
  have c2 := h4 b hb
  have c3 := h2 b hb
  have s1 := hS a m ha hm
  have s2 := hS m b hm hb
  have s3 := hS a b ha hb
  have hai : (a : Int) < (n : Int) := by omega
  have hmi : (m : Int) < (n : Int) := by omega
  have hbi : (b : Int) < (n : Int) := by omega
  have HL : Hid (Pu.lies D a m b = decide (D a m ≠ -1 ∧ D m b ≠ -1 ∧ D a m + D m b = D a b)) := rfl
  generalize Pu.lies D a m b = res at *
  generalize D a m = x at *
  generalize D m b = y at *
  generalize D a b = z at *
  clear h2 h4 hT hS
  by_cases e1 : x = -1
  · have e1' : (x == -1) = true := by simp [e1]
    have HR : Hid (res = false) := by show res = false; rw [HL.out]; simp [e1]
    clear e1 HL
    go_enter Tryz.func144, Tryz.ntmps144
    go_wp2
    go_ret
    exact ⟨by rw [HR.out]; rfl, 0, rfl⟩
  · have e1' : (x == -1) = false := by simp [e1]
    by_cases e2 : y = -1
    · have e2' : (y == -1) = true := by simp [e2]
      have HR : Hid (res = false) := by show res = false; rw [HL.out]; simp [e2]
      clear e1 e2 HL
      go_enter Tryz.func144, Tryz.ntmps144
      go_wp2
      go_ret
      exact ⟨by rw [HR.out]; rfl, 0, rfl⟩
    · have e2' : (y == -1) = false := by simp [e2]
      have HR : Hid (res = (x + y == z)) := by show res = _; rw [HL.out]; by_cases g : x + y = z <;> simp [e1, e2, g]
      have hx0 : 0 ≤ x := by omega
      have hy0 : 0 ≤ y := by omega
      clear e1 e2 HL
      go_enter Tryz.func144, Tryz.ntmps144
      go_wp2
      go_quiet (fail)
      go_wp2
      go_ret
      exact ⟨by rw [HR.out]; rfl, _, rfl⟩

set_option maxHeartbeats 1000000 in
theorem isHub_any (w : World) (fb n cap v h ob k ocap : Nat) (D : Nat → Nat → Int) (pre : List Nat) (hT : Tab w fb n D) (hS : Small n D) (hv : v < n) (hh : h < n) (hk : pre.length = k) (hkn : k ≤ 40)
    (hp : ∀ (j m : Nat), pre[j]? = some m → m < n ∧ w.cell? ⟨ob, j, none⟩ = some (.int .i64 (m : Int))) :
    Calls Tryz.prog 91 #[.slice (some ⟨fb, 0, none⟩) n cap, .int .i64 v, .int .i64 h, .slice (some ⟨ob, 0, none⟩) k ocap] w fun e w' => e = .returned (.bool (Pu.isHub D v h pre)) ∧ ∃ q, w' = w.drewN q := by
  obtain ⟨rv, h1, h2⟩ := hT v hv
  have c1 := h2 h hh
  have s1 := hS v h hv hh
  have hvi : (v : Int) < (n : Int) := by omega
  have hhi : (h : Int) < (n : Int) := by omega
  by_cases e1 : D v h = -1
  · have HR : Hid (Pu.isHub D v h pre = false) := by show Pu.isHub D v h pre = false; unfold Pu.isHub; simp [e1]
    have e1' : (D v h == -1) = true := by simp [e1]
    generalize Pu.isHub D v h pre = res at *
    generalize D v h = x at *
    clear h2 hT hS hp e1
    go_enter Tryz.func91, Tryz.ntmps91
    go_wp2
    go_ret
    exact ⟨by rw [HR.out]; rfl, 0, rfl⟩
  · have e1' : (D v h == -1) = false := by simp [e1]
    have HI : Hid (∀ (j m : Nat), pre[j]? = some m → Pu.lies D v m h = true → Pu.isHub D v h pre = false) := by
      intro j m hj hl
      by_cases c : Pu.isHub D v h pre = true
      · have := (Pu.isHub_iff.1 c).2 m (List.mem_of_getElem? hj); rw [hl] at this; cases this
      · simpa using c
    have HE : Hid ((∀ (j m : Nat), pre[j]? = some m → Pu.lies D v m h = false) → Pu.isHub D v h pre = true) := by
      intro hall
      refine Pu.isHub_iff.2 ⟨e1, fun m hm => ?_⟩
      obtain ⟨j, hj⟩ := List.mem_iff_getElem?.1 hm
      exact hall j m hj
    have HL : Hid (∀ m, m < n → ∀ q, Calls Tryz.prog 144 #[.slice (some ⟨fb, 0, none⟩) n cap, .int .i64 v, .int .i64 m, .int .i64 h] (w.drewN q) fun e w' => e = .returned (.bool (Pu.lies D v m h)) ∧ ∃ q', w' = (w.drewN q).drewN q') :=
      fun m hm q => lies_any (w.drewN q) fb n cap v m h D (hT.turns ((Turns.refl _ w).drewN q)) hS hv hm hh
    generalize Pu.isHub D v h pre = res at *
    generalize D v h = x at *
    clear h2 hT hS e1
    go_enter Tryz.func91, Tryz.ntmps91
    go_wp2
    go_loopw [21] (fun jv wx => ∃ j q : Nat, jv = .int .i64 j ∧ j ≤ k ∧ (∀ (i m : Nat), i < j → pre[i]? = some m → Pu.lies D v m h = false) ∧ wx = w.drewN q) (fun jv _ => k - (intOf jv).toNat)
    case atStart => exact ⟨0, 0, rfl, Nat.zero_le _, fun i m hi => by omega, rfl⟩
    case round =>
      obtain ⟨j, q, rfl, hj, hno, hwr⟩ := hrel
      have HWR : Hid (wr = w.drewN q) := hwr
      by_cases hjk : j < k
      · obtain ⟨m, hm⟩ : ∃ m, pre[j]? = some m := ⟨_, List.getElem?_eq_getElem (by omega)⟩
        obtain ⟨hmn, hc⟩ := hp j m hm
        have hc' : wr.cell? ⟨ob, j, none⟩ = some (.int .i64 (m : Int)) := by rw [hwr]; exact hc
        have hji : (j : Int) < (k : Int) := by omega
        have c4 := HL.out m hmn q
        rw [← hwr] at c4
        have HM : Hid (pre[j]? = some m) := hm
        cases hl : Pu.lies D v m h with
        | true =>
          rw [hl] at c4
          have HR : Hid (res = false) := HI.out j m hm hl
          clear hm hno hp hc HI HE hl HL hwr
          go_wp2_with fail
          refine c4.mono ?_
          rintro e w2 ⟨rfl, q', hw2⟩
          clear c4
          go_wp2
          go_ret
          exact ⟨by rw [HR.out]; rfl, q + q', by rw [HWR.out, World.drewN_drewN]⟩
        | false =>
          rw [hl] at c4
          have HX : Hid (∀ q', ∃ j' q'' : Nat, (Value.int .i64 ((j : Int) + 1)) = .int .i64 j' ∧ j' ≤ k ∧ (∀ (i m : Nat), i < j' → pre[i]? = some m → Pu.lies D v m h = false) ∧ wr.drewN q' = w.drewN q'') := by
            intro q'
            refine ⟨j + 1, q + q', by go_num, by omega, fun i m' hi hm' => ?_, by rw [hwr, World.drewN_drewN]⟩
            by_cases c : i = j
            · subst c; rw [HM.out] at hm'; cases hm'; exact hl
            · exact hno i m' (by omega) hm'
          clear hm hno hp hc HI HE hl HL HM hwr
          go_wp2_with fail
          refine c4.mono ?_
          rintro e w2 ⟨rfl, q', hw2⟩
          subst hw2
          clear c4
          go_wp2
          go_roundw
          case measure => simp [intOf]; omega
          case rel => exact HX.out _
      · have hjk' : ¬ (j : Int) < (k : Int) := by omega
        have HR : Hid (res = true) := HE.out (fun i m hm => hno i m (by have := (List.getElem?_eq_some_iff.1 hm).1; omega) hm)
        clear hno hp HI HE HL hwr
        go_wp2
        go_ret
        exact ⟨by rw [HR.out]; rfl, q, HWR.out⟩
#print axioms isHub_any
end Go.Proofs.YtdogncjcainhlaaGreatDoor
