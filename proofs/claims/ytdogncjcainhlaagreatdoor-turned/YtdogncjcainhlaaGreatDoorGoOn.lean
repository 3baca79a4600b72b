/- The walk of ways.goOn. -/
import Derived.Test.YtdogncjcainhlaaGreatDoorProg
import Derived.Test.YtdogncjcainhlaaGreatDoorPlain
import Derived.WalkKit
import Derived.WalkSpells
import Derived.WalkLawsBesides
namespace Go.Proofs.YtdogncjcainhlaaGreatDoor
open Go.RowKit
open Mem

theorem goOn_no {L X A : Int} (h : (L == 0) = true) : ¬ (L ≠ 0 ∧ (X = -1 ∨ A + L < X)) := fun c => c.1 (by simpa using h)
theorem goOn_yes {L X A : Int} (h : (L == 0) = false) (g : X = -1 ∨ A + L < X) : L ≠ 0 ∧ (X = -1 ∨ A + L < X) := ⟨by simpa using h, g⟩
theorem goOn_no2 {L X A : Int} (g : (X == -1) = false ∧ X ≤ A + L) : ¬ (L ≠ 0 ∧ (X = -1 ∨ A + L < X)) := by
  rintro ⟨_, c | c⟩
  · rw [c] at g; simp at g
  · omega

set_option maxHeartbeats 1000000 in
theorem goOn_any (w : World) (b f n at' : Nat) (N R : Int) (len : Nat → Nat → Int) (far : Nat → Int) (hn : n ≤ 40) (hat : at' < n) (hm : MapAt w b N R len) (hf : Ints w f n far) (hbf : b ≠ f)
    (hlen : ∀ j, 0 ≤ len at' j ∧ len at' j ≤ 1000) (hself : len at' at' = 0) (ha0 : 0 ≤ far at') (ha1 : far at' ≤ 1000000000) :
    Calls Tryz.prog 127 #[.pointer (some ⟨b, 0, none⟩), .slice (some ⟨f, 0, none⟩) n n, .int .i64 at'] w fun e w' => e = .returned (.tuple #[]) ∧ Ints w' f n (Pu.rel1 (len at') (far at') far) ∧ Turns (· = f) w w' ∧ w'.heap.size = w.heap.size := by
  go_enter Tryz.func127, Tryz.ntmps127
  go_wp2
  go_loopw [11] (fun i wr => ∃ k : Nat, k ≤ n ∧ i = .int .i64 k ∧ Ints wr f n (Pu.relK (len at') (far at') far k) ∧ Turns (· = f) w wr ∧ wr.heap.size = w.heap.size) (fun i _ => n - (intOf i).toNat)
  case atStart => exact ⟨0, Nat.zero_le _, rfl, by rw [Pu.relK_zero]; exact hf, Turns.refl _ _, rfl⟩
  case round =>
    obtain ⟨k, hk, rfl, hI, hT, hS⟩ := hrel
    by_cases hlt : k < n
    · have hM := hm.turns hT hbf
      have hl := hM.cell at' k (by omega) (by omega)
      have hck := hI.cell k hlt
      have hca := hI.cell at' hat
      have hfk := hI.free k hlt
      have hbl := hlen k
      rw [Pu.relK_self] at hck
      rw [Pu.relK_at hself] at hca
      have HK : Hid (¬ (len at' k ≠ 0 ∧ (far k = -1 ∨ far at' + len at' k < far k)) → Pu.relK (len at') (far at') far (k + 1) = Pu.relK (len at') (far at') far k) := Pu.relK_keep
      have HT : Hid ((len at' k ≠ 0 ∧ (far k = -1 ∨ far at' + len at' k < far k)) → Pu.relK (len at') (far at') far (k + 1) = upd (Pu.relK (len at') (far at') far k) k (far at' + len at' k)) := Pu.relK_take
      generalize hX : far k = X at *
      generalize hA : far at' = A at *
      generalize hL : len at' k = L at *
      clear hX hA hL hf hm hM
      go_wp2
      all_goals
        go_roundw
        case measure => simp [intOf]; omega
        case rel =>
          first
            | (have h : (L == 0) = true := by assumption
               exact ⟨k + 1, by omega, by go_num, by rw [HK.out (goOn_no h)]; exact hI, hT, hS⟩)
            | (have h : (L == 0) = false := by assumption
               first
                | (have h2 : X = -1 := by assumption
                   exact ⟨k + 1, by omega, by go_num, by rw [HT.out (goOn_yes h (Or.inl h2))]; exact hI.set hlt _, hT.setCell (Or.inr rfl) _, by simpa using hS⟩)
                | (have h2 : (X == -1) = true ∨ A + L < X := by assumption
                   exact ⟨k + 1, by omega, by go_num, by rw [HT.out (goOn_yes h (by simpa using h2))]; exact hI.set hlt _, hT.setCell (Or.inr rfl) _, by simpa using hS⟩)
                | (have h2 : (X == -1) = false ∧ X ≤ A + L := by assumption
                   exact ⟨k + 1, by omega, by go_num, by rw [HK.out (goOn_no2 h2)]; exact hI, hT, hS⟩))
    · have e : k = n := by omega
      subst e
      have hI' : Ints wr f k (Pu.rel1 (len at') (far at') far) := ⟨hI.lt, fun j hj => by have := hI.cell j hj; simpa [Pu.relK, hj] using this, hI.free⟩
      clear hm hf hI
      go_wp2
      go_end0
      exact ⟨rfl, hI', hT, hS⟩
end Go.Proofs.YtdogncjcainhlaaGreatDoor
