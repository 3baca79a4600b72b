/- The walks of bywaykeep.pick and bywaykeep.decimal. -/
import Derived.Test.YtdogncjcainhlaaGreatDoorProg
import Derived.Test.YtdogncjcainhlaaGreatDoorPlain
import Derived.WalkKit
import Derived.WalkSpells
import Derived.WalkLawsBesides
import Derived.Deep.RegionWith
namespace Go.Proofs.YtdogncjcainhlaaGreatDoor
open Go.RowKit
open Mem

theorem ret_int {k : IntKind} {a b : Int} (h : a = b) : Ending.returned (.int k a) = .returned (.int k b) := by rw [h]
set_option maxHeartbeats 400000 in
theorem pick_any (c : Int) (n : Nat) (w : World) (h0 : -9223372036854775808 ≤ c) (h1 : c ≤ 9223372036854775807) (hn : 0 < n) (hn2 : n ≤ 1000) :
    Calls Tryz.prog 10 #[.int .i64 c, .int .i64 n] w fun e w' => e = .returned (.int .i64 (Pu.pick c n)) ∧ w' = w := by
  by_cases hc : c < 0
  · have hz : ((n : Int) == 0) = false := by simp; omega
    have H : Hid (((Pu.pick c n : Nat) : Int) = -((c + 1).tmod (n : Int))) := by
      show _ = _
      unfold Pu.pick; rw [if_pos hc, Int.natCast_emod, Int.toNat_of_nonneg (by omega), ← Int.neg_tmod, Int.tmod_eq_emod_of_nonneg (by omega)]
    go_enter Tryz.func10, Tryz.ntmps10
    go_wp2
    go_ret
    exact ⟨ret_int H.out.symm, rfl⟩
  · have hz : ((n : Int) == 0) = false := by simp; omega
    have H : Hid (((Pu.pick c n : Nat) : Int) = c % (n : Int)) := by
      show _ = _
      unfold Pu.pick; rw [if_neg hc, Int.natCast_emod, Int.toNat_of_nonneg (by omega)]
    go_enter Tryz.func10, Tryz.ntmps10
    go_wp2
    go_ret
    exact ⟨ret_int H.out.symm, rfl⟩
/-- 'string([]byte{c})', c a digit. -/
theorem conv_dig (m : Nat) (hm : m < 10) (x : Int) (hx : x = 48 + (m : Int)) (W : World) (b : Nat) (hc : W.cell? ⟨b, 0, none⟩ = some (.int .u8 x)) :
    (convert 31 9 (.slice (some ⟨b, 0, none⟩) 1 1)).run Tryz.prog W = .ok (.string ⟨[(48 + m).toUInt8].toArray⟩) W := by
  refine run_convert_bytes_back W 31 9 5 ⟨b, 0, none⟩ 1 [(48 + m).toUInt8] Tryz.underlying31 Tryz.underlying5 Tryz.underlying9 ?_
  intro j hj
  obtain rfl : j = 0 := by simpa using hj
  have e : ((48 + m).toUInt8.toNat : Int) = x := by
    have : (48 + m).toUInt8.toNat = 48 + m := by simp; omega
    omega
  simp only [List.getElem_cons_zero, e]
  exact hc
theorem wrap_dig (n : Nat) : IntKind.u8.wrap (IntKind.i64.wrap (48 + (n : Int).tmod 10)) = 48 + ((n % 10 : Nat) : Int) := by
  have e : (n : Int).tmod 10 = ((n % 10 : Nat) : Int) := by rw [Int.tmod_eq_emod_of_nonneg (by omega)]; omega
  have h : n % 10 < 10 := by omega
  rw [e]
  generalize n % 10 = m at *
  have e1 : IntKind.i64.wrap (48 + (m : Int)) = 48 + (m : Int) := by rw [IntKind.wrap_i64]; omega
  rw [e1, IntKind.wrap_u8]
  omega
theorem ret_str {M L : List UInt8} : Ending.returned (.string ({ data := M.toArray } ++ { data := L.toArray })) = .returned (.string ⟨(M ++ L).toArray⟩) := by
  have e : ({ data := M.toArray } ++ { data := L.toArray } : ByteArray) = ⟨(M ++ L).toArray⟩ := by
    apply ByteArray.ext
    simp
  rw [e]
theorem bcell {W w' : World} (h : Turns (fun _ => False) W w') : ∀ b o, b < W.heap.size → w'.cell? ⟨b, o, none⟩ = W.cell? ⟨b, o, none⟩ := fun b o hb => h.cell (a := ⟨b, o, none⟩) hb (fun x => x)
theorem bfree {W w' : World} (h : Turns (fun _ => False) W w') : ∀ b o, b < W.heap.size → w'.frozen? ⟨b, o, none⟩ = W.frozen? ⟨b, o, none⟩ := fun b o hb => h.frozen (a := ⟨b, o, none⟩) hb (fun x => x)

set_option maxRecDepth 100000 in
set_option maxHeartbeats 400000 in
theorem dec_lo (n : Nat) (w : World) (h : n < 10) :
    Calls Tryz.prog 22 #[.int .i64 n] w fun e w' => e = .returned (.string ⟨(Pu.dec n).toArray⟩) ∧ Turns (fun _ => False) w w' := by
  rw [Pu.dec_low h]
  have hcv := conv_dig n h (48 + n) rfl
  generalize [(48 + n).toUInt8].toArray = L at *
  go_enter Tryz.func22, Tryz.ntmps22
  go_wp2
  go_ret
  exact ⟨rfl, (Turns.refl _ _).alloc _⟩
set_option maxRecDepth 100000 in
set_option maxHeartbeats 1000000 in
theorem dec_hi (n : Nat) (w : World) (h : ¬ n < 10) (hn : n ≤ 100000)
    (ih : ∀ w, Calls Tryz.prog 22 #[.int .i64 ((n : Int) / 10)] w fun e w' => e = .returned (.string ⟨(Pu.dec (n / 10)).toArray⟩) ∧ Turns (fun _ => False) w w') (hl : (Pu.dec (n / 10)).length ≤ 1000000) :
    Calls Tryz.prog 22 #[.int .i64 n] w fun e w' => e = .returned (.string ⟨(Pu.dec n).toArray⟩) ∧ Turns (fun _ => False) w w' := by
  rw [Pu.dec_high h]
  have hcv := conv_dig (n % 10) (by omega) (IntKind.u8.wrap (IntKind.i64.wrap (48 + (n : Int).tmod 10))) (wrap_dig n)
  have hge : 10 ≤ n := by omega
  generalize hL : [(48 + n % 10).toUInt8] = L at *
  generalize Pu.dec (n / 10) = M at *
  have ew : IntKind.i64.wrap ((n : Int) / 10) = (n : Int) / 10 := by rw [IntKind.wrap_i64]; omega
  rw [← ew] at ih
  have IH : Hid (∀ w, Calls Tryz.prog 22 #[.int .i64 (IntKind.i64.wrap ((n : Int) / 10))] w fun e w' => e = .returned (.string ⟨M.toArray⟩) ∧ Turns (fun _ => False) w w') := ih
  have hLl : L.length = 1 := by rw [← hL]; rfl
  clear ih h hL ew
  go_enter Tryz.func22, Tryz.ntmps22
  go_wp2
  go_region_with (go_at_call 22; refine (IH.out _).mono ?_; rintro e w' ⟨rfl, hT⟩; have hcl := bcell hT; have hsz := hT.size)
  all_goals go_wp2
  all_goals go_ret
  all_goals refine ⟨ret_str, ?_⟩
  all_goals first
    | exact ((Turns.refl _ w).drew.trans hT).alloc _
    | exact ((Turns.refl _ w).drew.alloc _).trans hT
/-- decimal gives a number's text. -/
theorem dec_any (n : Nat) : n ≤ 100000 → ∀ w, Calls Tryz.prog 22 #[.int .i64 n] w fun e w' => e = .returned (.string ⟨(Pu.dec n).toArray⟩) ∧ Turns (fun _ => False) w w' := by
  induction n using Nat.strongRecOn with
  | ind n ih =>
    intro hn w
    by_cases h : n < 10
    · exact dec_lo n w h
    · have hl := Pu.dec_len (n / 10)
      exact dec_hi n w h hn (fun w => by have := ih (n / 10) (by omega) (by omega) w; simpa using this) (by omega)
#print axioms dec_any
end Go.Proofs.YtdogncjcainhlaaGreatDoor
