/- The walks of bywaykeep.least and bywaykeep.label. -/
import Derived.Test.YtdogncjcainhlaaDoorProg
import Derived.Test.YtdogncjcainhlaaDoorPlain
import Derived.WalkKit
import Derived.WalkSpells
import Derived.WalkLawsBesides
import Derived.Deep.OwnRows
import Derived.Deep.QuietTactic
import Derived.BigQuiet
namespace Go.Proofs.YtdogncjcainhlaaDoor
open Go.RowKit Go.Deep
open Mem
namespace Pu

/-- By the labels number i and j it is s far from u to v; the label number o is left out. -/
def Pr (L : List Rd) (o : Int) (u v i j : Nat) (s : Int) : Prop := ∃ h f f', L[i]? = some (u, h, f) ∧ L[j]? = some (v, h, f') ∧ (i : Int) ≠ o ∧ (j : Int) ≠ o ∧ s = f + f'
/-- The least of some numbers, or -1. -/
def Best (S : Int → Prop) (b : Int) : Prop := (b = -1 ∧ ∀ s, ¬ S s) ∨ (S b ∧ 0 ≤ b ∧ ∀ s, S s → b ≤ s)
/-- What the pairs ahead of (i, j) tell. -/
def Ahead (L : List Rd) (o : Int) (u v i j : Nat) (s : Int) : Prop := ∃ i' j', (i' < i ∨ (i' = i ∧ j' < j)) ∧ Pr L o u v i' j' s
theorem Best.none {S : Int → Prop} (h : ∀ s, ¬ S s) : Best S (-1) := Or.inl ⟨rfl, h⟩
theorem Best.congr {S S' : Int → Prop} {b : Int} (h : Best S b) (e : ∀ s, S s ↔ S' s) : Best S' b := by
  rcases h with ⟨h1, h2⟩ | ⟨h1, h0, h2⟩
  · exact Or.inl ⟨h1, fun s c => h2 s ((e s).2 c)⟩
  · exact Or.inr ⟨(e b).1 h1, h0, fun s c => h2 s ((e s).2 c)⟩
theorem Ahead.next {L : List Rd} {o : Int} {u v i j : Nat} (s : Int) : Ahead L o u v i (j + 1) s ↔ Ahead L o u v i j s ∨ Pr L o u v i j s := by
  constructor
  · rintro ⟨i', j', h1, h2⟩
    by_cases c : i' = i ∧ j' = j
    · obtain ⟨rfl, rfl⟩ := c; exact Or.inr h2
    · exact Or.inl ⟨i', j', by omega, h2⟩
  · rintro (⟨i', j', h1, h2⟩ | h)
    · exact ⟨i', j', by omega, h2⟩
    · exact ⟨i, j, by omega, h⟩
theorem Ahead.row {L : List Rd} {o : Int} {u v i : Nat} (s : Int) : Ahead L o u v i L.length s ↔ Ahead L o u v (i + 1) 0 s := by
  constructor
  · rintro ⟨i', j', h1, h2⟩; exact ⟨i', j', by omega, h2⟩
  · rintro ⟨i', j', h1, h2⟩
    obtain ⟨_, _, _, _, h3, _⟩ := id h2
    have := (List.getElem?_eq_some_iff.1 h3).1
    exact ⟨i', j', by omega, h2⟩
theorem Best.miss {L : List Rd} {o : Int} {u v i j : Nat} {b : Int} (h : Best (Ahead L o u v i j) b) (hn : ∀ s, ¬ Pr L o u v i j s) : Best (Ahead L o u v i (j + 1)) b :=
  h.congr (fun s => ⟨fun c => (Ahead.next s).2 (Or.inl c), fun c => ((Ahead.next s).1 c).elim id (fun c => absurd c (hn s))⟩)
theorem Pr.one {L : List Rd} {o : Int} {u v i j : Nat} {s s' : Int} (h : Pr L o u v i j s) (h' : Pr L o u v i j s') : s = s' := by
  obtain ⟨a, b, c, h1, h2, _, _, h3⟩ := h
  obtain ⟨a', b', c', h1', h2', _, _, h3'⟩ := h'
  rw [h1] at h1'
  rw [h2] at h2'
  simp only [Option.some.injEq, Prod.mk.injEq] at h1' h2'
  omega
theorem Best.take {L : List Rd} {o : Int} {u v i j : Nat} {b s : Int} (h : Best (Ahead L o u v i j) b) (hp : Pr L o u v i j s) (h0 : 0 ≤ s) (hl : b < 0 ∨ s < b) : Best (Ahead L o u v i (j + 1)) s := by
  refine Or.inr ⟨(Ahead.next s).2 (Or.inr hp), h0, fun s' c => ?_⟩
  rcases (Ahead.next s').1 c with c | c
  · rcases h with ⟨_, h2⟩ | ⟨_, _, h2⟩
    · exact absurd c (h2 s')
    · have := h2 s' c; omega
  · have := Pr.one hp c; omega
theorem Best.keep {L : List Rd} {o : Int} {u v i j : Nat} {b s : Int} (h : Best (Ahead L o u v i j) b) (hp : Pr L o u v i j s) (hl : ¬ (b < 0 ∨ s < b)) : Best (Ahead L o u v i (j + 1)) b := by
  rcases h with ⟨h1, _⟩ | ⟨h1, h0, h2⟩
  · omega
  · refine Or.inr ⟨(Ahead.next b).2 (Or.inl h1), h0, fun s' c => ?_⟩
    rcases (Ahead.next s').1 c with c | c
    · exact h2 s' c
    · have := Pr.one hp c; omega
/-- All labels. -/
def Through (L : List Rd) (o : Int) (u v : Nat) (s : Int) : Prop := ∃ i j, Pr L o u v i j s
theorem Ahead.all {L : List Rd} {o : Int} {u v : Nat} (s : Int) : Ahead L o u v L.length 0 s ↔ Through L o u v s := by
  constructor
  · rintro ⟨i, j, _, h⟩; exact ⟨i, j, h⟩
  · rintro ⟨i, j, h⟩
    obtain ⟨_, _, _, h1, _⟩ := id h
    have := (List.getElem?_eq_some_iff.1 h1).1
    exact ⟨i, j, by omega, h⟩
end Pu

/-- The labels L lie at block g. -/
def LabAt (w : World) (g : Nat) (L : List Pu.Rd) : Prop := ∀ (i p h : Nat) (f : Int), L[i]? = some (p, h, f) → w.cell? ⟨g, i * 3, none⟩ = some (.int .i64 (p : Int)) ∧ w.cell? ⟨g, i * 3 + 1, none⟩ = some (.int .i64 (h : Int)) ∧ w.cell? ⟨g, i * 3 + 2, none⟩ = some (.int .i64 f)
theorem LabAt.turns {w w' : World} {g : Nat} {L : List Pu.Rd} (h : LabAt w g L) (t : Turns (fun _ => False) w w') : LabAt w' g L := by
  intro i p a f hi
  obtain ⟨h1, h2, h3⟩ := h i p a f hi
  exact ⟨(t.cell (World.block_lt_of_cell? _ _ h1) (fun x => x)).trans h1, (t.cell (World.block_lt_of_cell? _ _ h2) (fun x => x)).trans h2, (t.cell (World.block_lt_of_cell? _ _ h3) (fun x => x)).trans h3⟩

/-- What holds ahead of each round of least's loops. -/
def LeastInv (w : World) (L : List Pu.Rd) (o : Int) (u v : Nat) (i j : Nat) (bv : Value) (wr : World) : Prop := ∃ (b : Int) (q : Nat), bv = .int .i64 b ∧ Pu.Best (Pu.Ahead L o u v i j) b ∧ -1 ≤ b ∧ b ≤ 100000 ∧ wr = w.drewN q

set_option maxRecDepth 100000 in
set_option maxHeartbeats 2000000 in
theorem least_any (w : World) (g cap N : Nat) (L : List Pu.Rd) (o : Int) (u v : Nat) (hN : L.length = N) (hNb : N ≤ 2000) (hL : LabAt w g L) (hf : ∀ x ∈ L, 0 ≤ x.2.2 ∧ x.2.2 ≤ 40000) (hu : u ≤ 100) (hv : v ≤ 100) :
    Calls Tryd.prog 20 #[.slice (some ⟨g, 0, none⟩) N cap, .int .i64 o, .int .i64 u, .int .i64 v] w fun e w' => (∃ b, e = .returned (.int .i64 b) ∧ Pu.Best (Pu.Through L o u v) b) ∧ ∃ q, w' = w.drewN q := by
  have HL : Hid (LabAt w g L) := hL
  have HF : Hid (∀ x ∈ L, 0 ≤ x.2.2 ∧ x.2.2 ≤ 40000) := hf
  have HN : Hid (L.length = N) := hN
  clear hL hf hN
  go_enter Tryd.func20, Tryd.ntmps20
  go_wp2
  go_loopw [9, 10] (fun bv iv wr => ∃ i : Nat, iv = .int .i64 i ∧ i ≤ N ∧ LeastInv w L o u v i 0 bv wr) (fun _ iv _ => N - (intOf iv).toNat)
  case atStart => exact ⟨0, rfl, Nat.zero_le _, -1, 0, rfl, Pu.Best.none (fun s => by rintro ⟨i', j', h, _⟩; omega), by omega, by omega, rfl⟩
  case round =>
    obtain ⟨i, rfl, hi, hinv⟩ := hrel
    by_cases hiN : i < N
    · have hii : (i : Int) < (N : Int) := by omega
      obtain ⟨b0, q0, hb0, hinv'⟩ := hinv
      subst hb0
      have HI : Hid (LeastInv w L o u v i 0 (.int .i64 b0) wr) := ⟨b0, q0, rfl, hinv'⟩
      clear hinv'
      go_wp2
      go_loopw [9, 11] (fun bv jv wr => ∃ j : Nat, jv = .int .i64 j ∧ j ≤ N ∧ LeastInv w L o u v i j bv wr) (fun _ jv _ => N - (intOf jv).toNat)
      case atStart => exact ⟨0, rfl, Nat.zero_le _, HI.out⟩
      case round =>
        clear HI
        obtain ⟨j, rfl, hj, b, q, rfl, hB, hb1, hb2, hwr⟩ := hrel
        by_cases hjN : j < N
        · have hji : (j : Int) < (N : Int) := by omega
          obtain ⟨p1, h1, f1, e1⟩ : ∃ p h f, L[i]? = some (p, h, f) := ⟨L[i]'(by have := HN.out; omega) |>.1, L[i]'(by have := HN.out; omega) |>.2.1, L[i]'(by have := HN.out; omega) |>.2.2, List.getElem?_eq_getElem _⟩
          obtain ⟨p2, h2, f2, e2⟩ : ∃ p h f, L[j]? = some (p, h, f) := ⟨L[j]'(by have := HN.out; omega) |>.1, L[j]'(by have := HN.out; omega) |>.2.1, L[j]'(by have := HN.out; omega) |>.2.2, List.getElem?_eq_getElem _⟩
          have hLr : LabAt wr g L := by rw [hwr]; exact HL.out.turns ((Turns.refl _ w).drewN q)
          obtain ⟨c1, c2, c3⟩ := hLr i p1 h1 f1 e1
          obtain ⟨d1, d2, d3⟩ := hLr j p2 h2 f2 e2
          have bf1 := HF.out _ (List.mem_of_getElem? e1)
          have bf2 := HF.out _ (List.mem_of_getElem? e2)
          simp only at bf1 bf2
          have HMISS : Hid ((∀ s, ¬ Pu.Pr L o u v i j s) → ∀ nq, ∃ j' : Nat, (Value.int .i64 ((j : Int) + 1)) = .int .i64 j' ∧ j' ≤ N ∧ LeastInv w L o u v i j' (.int .i64 b) (wr.drewN nq)) :=
            fun hm nq => ⟨j + 1, by go_num, by omega, b, q + nq, rfl, hB.miss hm, hb1, hb2, by rw [hwr, World.drewN_drewN]⟩
          have HHIT : Hid (Pu.Pr L o u v i j (f1 + f2) → ∀ nq b', (b' = f1 + f2 ∧ (b < 0 ∨ f1 + f2 < b)) ∨ (b' = b ∧ ¬ (b < 0 ∨ f1 + f2 < b)) → ∃ j' : Nat, (Value.int .i64 ((j : Int) + 1)) = .int .i64 j' ∧ j' ≤ N ∧ LeastInv w L o u v i j' (.int .i64 b') (wr.drewN nq)) := by
            rintro hp nq b' (⟨rfl, hb⟩ | ⟨rfl, hb⟩)
            · exact ⟨j + 1, by go_num, by omega, _, q + nq, rfl, hB.take hp (by omega) hb, by omega, by omega, by rw [hwr, World.drewN_drewN]⟩
            · exact ⟨j + 1, by go_num, by omega, _, q + nq, rfl, hB.keep hp hb, hb1, hb2, by rw [hwr, World.drewN_drewN]⟩
          have HP : Hid (Pu.Pr L o u v i j (f1 + f2) ↔ (i : Int) ≠ o ∧ (j : Int) ≠ o ∧ p1 = u ∧ p2 = v ∧ h1 = h2) := by
            constructor
            · rintro ⟨a, x, y, k1, k2, k3, k4, _⟩
              rw [e1] at k1; rw [e2] at k2
              simp only [Option.some.injEq, Prod.mk.injEq] at k1 k2
              exact ⟨k3, k4, k1.1, k2.1, by omega⟩
            · rintro ⟨k3, k4, rfl, rfl, rfl⟩
              exact ⟨h1, f1, f2, e1, e2, k3, k4, rfl⟩
          have HPN : Hid (¬ ((i : Int) ≠ o ∧ (j : Int) ≠ o ∧ p1 = u ∧ p2 = v ∧ h1 = h2) → ∀ s, ¬ Pu.Pr L o u v i j s) := by
            intro hn s hs
            obtain ⟨a, x, y, k1, k2, k3, k4, k5⟩ := id hs
            rw [e1] at k1; rw [e2] at k2
            simp only [Option.some.injEq, Prod.mk.injEq] at k1 k2
            exact hn ⟨k3, k4, k1.1, k2.1, by omega⟩
          clear hB hwr hLr e1 e2
          by_cases k1 : (i : Int) = o
          · have m1 : ((i : Int) == o) = true := by simp [k1]
            have HZ : Hid (∀ nq, ∃ j' : Nat, (Value.int .i64 ((j : Int) + 1)) = .int .i64 j' ∧ j' ≤ N ∧ LeastInv w L o u v i j' (.int .i64 b) (wr.drewN nq)) := HMISS.out (HPN.out (fun c => c.1 k1))
            clear HMISS HHIT HP HPN k1
            go_wp2
            go_quiet (fail)
            go_wp2
            go_roundw
            case measure => simp [intOf]; omega
            case rel => exact HZ.out _
          · have m1 : ((i : Int) == o) = false := by simp [k1]
            by_cases k2 : (j : Int) = o
            · have m2 : ((j : Int) == o) = true := by simp [k2]
              have HZ : Hid (∀ nq, ∃ j' : Nat, (Value.int .i64 ((j : Int) + 1)) = .int .i64 j' ∧ j' ≤ N ∧ LeastInv w L o u v i j' (.int .i64 b) (wr.drewN nq)) := HMISS.out (HPN.out (fun c => c.2.1 k2))
              clear HMISS HHIT HP HPN k1 k2
              go_wp2
              go_quiet (fail)
              go_wp2
              go_roundw
              case measure => simp [intOf]; omega
              case rel => exact HZ.out _
            · have m2 : ((j : Int) == o) = false := by simp [k2]
              by_cases k3 : p1 = u
              · have m3 : ((p1 : Int) != (u : Int)) = false := by simp; omega
                by_cases k4 : p2 = v
                · have m4 : ((p2 : Int) != (v : Int)) = false := by simp; omega
                  by_cases k5 : h1 = h2
                  · have m5 : ((h1 : Int) != (h2 : Int)) = false := by simp; omega
                    have HZ := HHIT.out (HP.out.2 ⟨k1, k2, k3, k4, k5⟩)
                    have HY : Hid (∀ nq b', (b' = f1 + f2 ∧ (b < 0 ∨ f1 + f2 < b)) ∨ (b' = b ∧ ¬ (b < 0 ∨ f1 + f2 < b)) → ∃ j' : Nat, (Value.int .i64 ((j : Int) + 1)) = .int .i64 j' ∧ j' ≤ N ∧ LeastInv w L o u v i j' (.int .i64 b') (wr.drewN nq)) := HZ
                    clear HZ HMISS HHIT HP HPN k1 k2 k3 k4 k5
                    by_cases t1 : b < 0
                    · have n1 : decide (b < 0) = true := by simpa using t1
                      have HW : Hid (∀ nq, ∃ j' : Nat, (Value.int .i64 ((j : Int) + 1)) = .int .i64 j' ∧ j' ≤ N ∧ LeastInv w L o u v i j' (.int .i64 (f1 + f2)) (wr.drewN nq)) := fun nq => HY.out nq _ (Or.inl ⟨rfl, Or.inl t1⟩)
                      clear HY
                      go_wp2
                      go_quiet (fail)
                      go_wp2
                      go_quiet (fail)
                      go_wp2
                      go_quiet (fail)
                      go_wp2
                      go_roundw
                      case measure => simp [intOf]; omega
                      case rel => first | exact HW.out _ | (rw [World.drewN_drewN]; exact HW.out _) | (rw [World.drewN_drewN, World.drewN_drewN]; exact HW.out _)
                    · have n1 : decide (b < 0) = false := by simpa using t1
                      by_cases t2 : f1 + f2 < b
                      · have HW : Hid (∀ nq, ∃ j' : Nat, (Value.int .i64 ((j : Int) + 1)) = .int .i64 j' ∧ j' ≤ N ∧ LeastInv w L o u v i j' (.int .i64 (f1 + f2)) (wr.drewN nq)) := fun nq => HY.out nq _ (Or.inl ⟨rfl, Or.inr t2⟩)
                        clear HY
                        go_wp2
                        go_quiet (fail)
                        go_wp2
                        go_quiet (fail)
                        go_wp2
                        go_quiet (fail)
                        go_wp2
                        go_roundw
                        case measure => simp [intOf]; omega
                        case rel => first | exact HW.out _ | (rw [World.drewN_drewN]; exact HW.out _) | (rw [World.drewN_drewN, World.drewN_drewN]; exact HW.out _)
                      · have HW : Hid (∀ nq, ∃ j' : Nat, (Value.int .i64 ((j : Int) + 1)) = .int .i64 j' ∧ j' ≤ N ∧ LeastInv w L o u v i j' (.int .i64 b) (wr.drewN nq)) := fun nq => HY.out nq _ (Or.inr ⟨rfl, fun c => c.elim t1 t2⟩)
                        have n2 : decide (f1 + f2 < b) = false := by simpa using t2
                        clear HY
                        go_wp2
                        go_quiet (fail)
                        go_wp2
                        go_quiet (fail)
                        go_wp2
                        go_roundw
                        case measure => simp [intOf]; omega
                        case rel => first | exact HW.out _ | (rw [World.drewN_drewN]; exact HW.out _) | (rw [World.drewN_drewN, World.drewN_drewN]; exact HW.out _)
                  · have m5 : ((h1 : Int) != (h2 : Int)) = true := by simp; omega
                    have HZ : Hid (∀ nq, ∃ j' : Nat, (Value.int .i64 ((j : Int) + 1)) = .int .i64 j' ∧ j' ≤ N ∧ LeastInv w L o u v i j' (.int .i64 b) (wr.drewN nq)) := HMISS.out (HPN.out (fun c => k5 c.2.2.2.2))
                    clear HMISS HHIT HP HPN k1 k2 k3 k4 k5
                    go_wp2
                    go_quiet (fail)
                    go_wp2
                    go_roundw
                    case measure => simp [intOf]; omega
                    case rel => exact HZ.out _
                · have m4 : ((p2 : Int) != (v : Int)) = true := by simp; omega
                  have HZ : Hid (∀ nq, ∃ j' : Nat, (Value.int .i64 ((j : Int) + 1)) = .int .i64 j' ∧ j' ≤ N ∧ LeastInv w L o u v i j' (.int .i64 b) (wr.drewN nq)) := HMISS.out (HPN.out (fun c => k4 c.2.2.2.1))
                  clear HMISS HHIT HP HPN k1 k2 k3 k4
                  go_wp2
                  go_quiet (fail)
                  go_wp2
                  go_roundw
                  case measure => simp [intOf]; omega
                  case rel => exact HZ.out _
              · have m3 : ((p1 : Int) != (u : Int)) = true := by simp; omega
                have HZ : Hid (∀ nq, ∃ j' : Nat, (Value.int .i64 ((j : Int) + 1)) = .int .i64 j' ∧ j' ≤ N ∧ LeastInv w L o u v i j' (.int .i64 b) (wr.drewN nq)) := HMISS.out (HPN.out (fun c => k3 c.2.2.1))
                clear HMISS HHIT HP HPN k1 k2 k3
                go_wp2
                go_quiet (fail)
                go_wp2
                go_roundw
                case measure => simp [intOf]; omega
                case rel => exact HZ.out _
        · have hji : ¬ (j : Int) < (N : Int) := by omega
          have HZ : Hid (∃ i' : Nat, (Value.int .i64 ((i : Int) + 1)) = .int .i64 i' ∧ i' ≤ N ∧ LeastInv w L o u v i' 0 (.int .i64 b) wr) :=
            ⟨i + 1, by go_num, by omega, b, q, rfl, hB.congr (fun s => by rw [show j = L.length by have := HN.out; omega]; exact Pu.Ahead.row s), hb1, hb2, hwr⟩
          clear hB hwr
          go_wp2
          go_roundw
          case measure => simp [intOf]; omega
          case rel => exact HZ.out
    · have hii : ¬ (i : Int) < (N : Int) := by omega
      obtain ⟨b, q, rfl, hB, hb1, hb2, hwr⟩ := hinv
      have HZ : Hid (Pu.Best (Pu.Through L o u v) b ∧ wr = w.drewN q) := ⟨hB.congr (fun s => by rw [show i = L.length by have := HN.out; omega]; exact Pu.Ahead.all s), hwr⟩
      clear hB hwr
      go_wp2
      go_ret
      exact ⟨⟨b, rfl, HZ.out.1⟩, q, HZ.out.2⟩
#print axioms least_any

set_option maxRecDepth 100000 in
set_option maxHeartbeats 1000000 in
theorem label_any (w : World) (g cap N : Nat) (L : List Pu.Rd) (u k : Nat) (f : Int) (hN : L.length = N) (hNb : N ≤ 2000) (hL : LabAt w g L) (hu : u ≤ 100) (hk : L[k]? = some (u, u, f)) (hone : ∀ (j : Nat) (f' : Int), L[j]? = some (u, u, f') → f' = f) :
    Calls Tryd.prog 21 #[.slice (some ⟨g, 0, none⟩) N cap, .int .i64 u, .int .i64 u] w fun e w' => e = .returned (.int .i64 f) ∧ ∃ q, w' = w.drewN q := by
  have HL : Hid (LabAt w g L) := hL
  have HN : Hid (L.length = N) := hN
  have HK : Hid (L[k]? = some (u, u, f)) := hk
  have HO : Hid (∀ (j : Nat) (f' : Int), L[j]? = some (u, u, f') → f' = f) := hone
  clear hL hN hk hone
  go_enter Tryd.func21, Tryd.ntmps21
  go_wp2
  go_loopw [7] (fun iv wr => ∃ i q : Nat, iv = .int .i64 i ∧ i ≤ N ∧ (∀ j, j < i → j ≠ k) ∧ wr = w.drewN q) (fun iv _ => N - (intOf iv).toNat)
  case atStart => exact ⟨0, 0, rfl, Nat.zero_le _, fun j hj => by omega, rfl⟩
  case round =>
    obtain ⟨i, q, rfl, hi, hno, hwr⟩ := hrel
    have hkN : k < N := by have := (List.getElem?_eq_some_iff.1 HK.out).1; have := HN.out; omega
    have hik : i ≤ k := by
      by_cases c : k < i
      · exact absurd rfl (hno k c)
      · omega
    have hii : (i : Int) < (N : Int) := by omega
    obtain ⟨p1, h1, f1, e1⟩ : ∃ p h f, L[i]? = some (p, h, f) := ⟨L[i]'(by have := HN.out; omega) |>.1, L[i]'(by have := HN.out; omega) |>.2.1, L[i]'(by have := HN.out; omega) |>.2.2, List.getElem?_eq_getElem _⟩
    have hLr : LabAt wr g L := by rw [hwr]; exact HL.out.turns ((Turns.refl _ w).drewN q)
    obtain ⟨c1, c2, c3⟩ := hLr i p1 h1 f1 e1
    have HWR : Hid (wr = w.drewN q) := hwr
    have HM : Hid (¬ (p1 = u ∧ h1 = u) → ∃ i' q' : Nat, (Value.int .i64 ((i : Int) + 1)) = .int .i64 i' ∧ i' ≤ N ∧ (∀ j, j < i' → j ≠ k) ∧ wr = w.drewN q') := by
      intro hn
      refine ⟨i + 1, q, by go_num, by omega, fun j hj c => ?_, hwr⟩
      by_cases g' : j = i
      · subst g'
        rw [c, HK.out] at e1
        simp only [Option.some.injEq, Prod.mk.injEq] at e1
        exact hn ⟨e1.1.symm, e1.2.1.symm⟩
      · exact hno j (by omega) c
    have HF : Hid (p1 = u ∧ h1 = u → f1 = f) := by
      rintro ⟨rfl, rfl⟩
      exact HO.out i f1 e1
    clear hwr hLr e1 hno
    by_cases k1 : p1 = u
    · have m1 : ((p1 : Int) == (u : Int)) = true := by simp; omega
      by_cases k2 : h1 = u
      · have m2 : ((h1 : Int) == (u : Int)) = true := by simp; omega
        have HFF : Hid (f1 = f) := HF.out ⟨k1, k2⟩
        clear HF HM k1 k2
        go_wp2
        go_ret
        exact ⟨by rw [← HFF.out]; rfl, q, HWR.out⟩
      · have m2 : ((h1 : Int) == (u : Int)) = false := by simp; omega
        have HZ : Hid (∃ i' q' : Nat, (Value.int .i64 ((i : Int) + 1)) = .int .i64 i' ∧ i' ≤ N ∧ (∀ j, j < i' → j ≠ k) ∧ wr = w.drewN q') := HM.out (fun c => k2 c.2)
        clear HF HM k1 k2
        go_wp2
        go_roundw
        case measure => simp [intOf]; omega
        case rel => exact HZ.out
    · have m1 : ((p1 : Int) == (u : Int)) = false := by simp; omega
      have HZ : Hid (∃ i' q' : Nat, (Value.int .i64 ((i : Int) + 1)) = .int .i64 i' ∧ i' ≤ N ∧ (∀ j, j < i' → j ≠ k) ∧ wr = w.drewN q') := HM.out (fun c => k1 c.1)
      clear HF HM k1
      go_wp2
      go_roundw
      case measure => simp [intOf]; omega
      case rel => exact HZ.out
#print axioms label_any
end Go.Proofs.YtdogncjcainhlaaDoor
