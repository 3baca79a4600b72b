/- Pack8: texts of one proof, one behind the other. -/
import Derived.Test.YtdogncjcainhlaaGreatDoorProg
import Derived.Test.YtdogncjcainhlaaGreatDoorPlain
import Derived.WalkKit
import Derived.WalkSpells
import Derived.WalkLawsBesides
/- The walk of ways.nearest. -/
namespace Go.Proofs.YtdogncjcainhlaaGreatDoor
open Go.RowKit
open Mem

theorem near_no {X : Int} {Y : Bool} (h1 : ¬ Y = true) (h2 : (X == -1) = false) : ¬ (Y = true ∨ X = -1) := by
  rintro (h | h)
  · exact h1 h
  · rw [h] at h2; simp at h2
theorem near_no2 {B X Z : Int} (h : (B == -1) = false ∧ Z ≤ X) : ¬ (B = -1 ∨ X < Z) := by
  rintro (e | e)
  · rw [e] at h; simp at h
  · omega

set_option maxHeartbeats 1000000 in
theorem nearest_any (w : World) (f d n : Nat) (far : Nat → Int) (done : Nat → Bool) (hn : n ≤ 40) (hf : Ints w f n far) (hd : Bools w d n done) :
    Calls Tryz.prog 126 #[.slice (some ⟨f, 0, none⟩) n n, .slice (some ⟨d, 0, none⟩) n n] w fun e w' => e = .returned (.int .i64 (Pu.near far done n)) ∧ w' = w := by
  go_enter Tryz.func126, Tryz.ntmps126
  go_wp2
  go_loop [5, 10] (fun v i => ∃ k : Nat, k ≤ n ∧ i = .int .i64 k ∧ v = .int .i64 (Pu.near far done k)) (fun _ i => n - (intOf i).toNat)
  case atStart => exact ⟨0, Nat.zero_le _, rfl, rfl⟩
  case round =>
    obtain ⟨k, hk, rfl, rfl⟩ := hrel
    by_cases hlt : k < n
    · have hck := hf.cell k hlt
      have hdk := hd.cell k hlt
      have hb := Pu.near_bd far done k
      have hcb : 0 ≤ Pu.near far done k → w.cell? ⟨f, (Pu.near far done k).toNat, none⟩ = some (.int .i64 (far (Pu.near far done k).toNat)) := fun h => hf.cell _ (by omega)
      have HS : Hid (done k = true ∨ far k = -1 → Pu.near far done (k + 1) = Pu.near far done k) := Pu.near_skip
      have HT : Hid (¬ (done k = true ∨ far k = -1) → Pu.near far done k = -1 ∨ far k < far (Pu.near far done k).toNat → Pu.near far done (k + 1) = k) := Pu.near_take
      have HK : Hid (¬ (done k = true ∨ far k = -1) → ¬ (Pu.near far done k = -1 ∨ far k < far (Pu.near far done k).toNat) → Pu.near far done (k + 1) = Pu.near far done k) := Pu.near_keep
      generalize hB : Pu.near far done k = B at *
      generalize hX : far k = X at *
      generalize hY : done k = Y at *
      generalize hZ : far B.toNat = Z at *
      clear hB hX hY hZ hf hd
      go_wp2
      all_goals
        go_round
        case measure => simp [intOf]; omega
        case rel =>
          refine ⟨k + 1, by omega, by go_num, ?_⟩
          first
            | (have h : Y = true := by assumption
               rw [HS.out (Or.inl h)])
            | (have h : (X == -1) = true := by assumption
               rw [HS.out (Or.inr (by simpa using h))])
            | (have h1 : ¬ Y = true := by assumption
               have h2 : (X == -1) = false := by assumption
               have h3 := near_no h1 h2
               first
                 | (have h4 : B = -1 := by assumption
                    rw [HT.out h3 (Or.inl h4)])
                 | (have h4 : (B == -1) = true ∨ X < Z := by assumption
                    rw [HT.out h3 (by simpa using h4)])
                 | (have h4 : (B == -1) = false ∧ Z ≤ X := by assumption
                    rw [HK.out h3 (near_no2 h4)]))
    · have e : k = n := by omega
      subst e
      go_wp2
      go_ret
      exact ⟨rfl, rfl⟩
end Go.Proofs.YtdogncjcainhlaaGreatDoor
/- The walk of ways.goOn. -/
namespace Go.Proofs.YtdogncjcainhlaaGreatDoor
open Go.RowKit
open Mem

theorem goOn_no {L X A : Int} (h : (L == 0) = true) : ¬ (L ≠ 0 ∧ (X = -1 ∨ A + L < X)) := fun c => c.1 (by simpa using h)
theorem goOn_yes {L X A : Int} (h : (L == 0) = false) (g : X = -1 ∨ A + L < X) : L ≠ 0 ∧ (X = -1 ∨ A + L < X) := ⟨by simpa using h, g⟩
theorem goOn_no2 {L X A : Int} (g : (X == -1) = false ∧ X ≤ A + L) : ¬ (L ≠ 0 ∧ (X = -1 ∨ A + L < X)) := by
  rintro ⟨_, c | c⟩
  · rw [c] at g; simp at g
  · omega

set_option maxHeartbeats 1000000 in
theorem goOn_any (w : World) (b f n at' : Nat) (N R : Int) (len : Nat → Nat → Int) (far : Nat → Int) (hn : n ≤ 40) (hat : at' < n) (hm : MapAt w b N R len) (hf : Ints w f n far) (hbf : b ≠ f)
    (hlen : ∀ j, 0 ≤ len at' j ∧ len at' j ≤ 1000) (hself : len at' at' = 0) (ha0 : 0 ≤ far at') (ha1 : far at' ≤ 1000000000) :
    Calls Tryz.prog 127 #[.pointer (some ⟨b, 0, none⟩), .slice (some ⟨f, 0, none⟩) n n, .int .i64 at'] w fun e w' => e = .returned (.tuple #[]) ∧ Ints w' f n (Pu.rel1 (len at') (far at') far) ∧ Turns (· = f) w w' ∧ w'.heap.size = w.heap.size := by
  go_enter Tryz.func127, Tryz.ntmps127
  go_wp2
  go_loopw [11] (fun i wr => ∃ k : Nat, k ≤ n ∧ i = .int .i64 k ∧ Ints wr f n (Pu.relK (len at') (far at') far k) ∧ Turns (· = f) w wr ∧ wr.heap.size = w.heap.size) (fun i _ => n - (intOf i).toNat)
  case atStart => exact ⟨0, Nat.zero_le _, rfl, by rw [Pu.relK_zero]; exact hf, Turns.refl _ _, rfl⟩
  case round =>
    obtain ⟨k, hk, rfl, hI, hT, hS⟩ := hrel
    by_cases hlt : k < n
    · have hM := hm.turns hT hbf
      have hl := hM.cell at' k (by omega) (by omega)
      have hck := hI.cell k hlt
      have hca := hI.cell at' hat
      have hfk := hI.free k hlt
      have hbl := hlen k
      rw [Pu.relK_self] at hck
      rw [Pu.relK_at hself] at hca
      have HK : Hid (¬ (len at' k ≠ 0 ∧ (far k = -1 ∨ far at' + len at' k < far k)) → Pu.relK (len at') (far at') far (k + 1) = Pu.relK (len at') (far at') far k) := Pu.relK_keep
      have HT : Hid ((len at' k ≠ 0 ∧ (far k = -1 ∨ far at' + len at' k < far k)) → Pu.relK (len at') (far at') far (k + 1) = upd (Pu.relK (len at') (far at') far k) k (far at' + len at' k)) := Pu.relK_take
      generalize hX : far k = X at *
      generalize hA : far at' = A at *
      generalize hL : len at' k = L at *
      clear hX hA hL hf hm hM
      go_wp2
      all_goals
        go_roundw
        case measure => simp [intOf]; omega
        case rel =>
          first
            | (have h : (L == 0) = true := by assumption
               exact ⟨k + 1, by omega, by go_num, by rw [HK.out (goOn_no h)]; exact hI, hT, hS⟩)
            | (have h : (L == 0) = false := by assumption
               first
                | (have h2 : X = -1 := by assumption
                   exact ⟨k + 1, by omega, by go_num, by rw [HT.out (goOn_yes h (Or.inl h2))]; exact hI.set hlt _, hT.setCell (Or.inr rfl) _, by simpa using hS⟩)
                | (have h2 : (X == -1) = true ∨ A + L < X := by assumption
                   exact ⟨k + 1, by omega, by go_num, by rw [HT.out (goOn_yes h (by simpa using h2))]; exact hI.set hlt _, hT.setCell (Or.inr rfl) _, by simpa using hS⟩)
                | (have h2 : (X == -1) = false ∧ X ≤ A + L := by assumption
                   exact ⟨k + 1, by omega, by go_num, by rw [HK.out (goOn_no2 h2)]; exact hI, hT, hS⟩))
    · have e : k = n := by omega
      subst e
      have hI' : Ints wr f k (Pu.rel1 (len at') (far at') far) := ⟨hI.lt, fun j hj => by have := hI.cell j hj; simpa [Pu.relK, hj] using this, hI.free⟩
      clear hm hf hI
      go_wp2
      go_end0
      exact ⟨rfl, hI', hT, hS⟩
end Go.Proofs.YtdogncjcainhlaaGreatDoor
