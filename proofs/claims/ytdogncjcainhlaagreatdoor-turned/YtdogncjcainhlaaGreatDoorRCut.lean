/- The walk of the reference's cut: a text cut at a byte. -/
import Derived.Test.YtdogncjcainhlaaGreatDoorProg
import Derived.Test.YtdogncjcainhlaaGreatDoorPlain
import Derived.WalkKit
import Derived.WalkSpells
import Derived.WalkLawsBesides
namespace Go.Proofs.YtdogncjcainhlaaGreatDoor
open Go.RowKit
open Mem
namespace Pu

/-- The pieces that end ahead of place k, as the reference cuts them; and where the next one begins. -/
def cutTo (c : UInt8) (l : List UInt8) : Nat → List (List UInt8) × Nat
  | 0 => ([], 0)
  | k + 1 => if l[k]? = some c then ((cutTo c l k).1 ++ [(l.take k).drop (cutTo c l k).2], k + 1) else cutTo c l k
theorem cutTo_le (c : UInt8) (l : List UInt8) : ∀ k, (cutTo c l k).2 ≤ k
  | 0 => Nat.le_refl _
  | k + 1 => by have := cutTo_le c l k; rw [cutTo]; split <;> simp <;> omega
theorem cutTo_len (c : UInt8) (l : List UInt8) : ∀ k, (cutTo c l k).1.length ≤ k
  | 0 => Nat.le_refl _
  | k + 1 => by have := cutTo_len c l k; rw [cutTo]; split <;> simp <;> omega
theorem drop_split {l : List UInt8} {c : UInt8} {k f : Nat} (hkl : k < l.length) (e : l[k] = c) (hle : f ≤ k) : l.drop f = (l.take k).drop f ++ c :: l.drop (k + 1) := by
  have h5 : l = l.take k ++ c :: l.drop (k + 1) := by
    rw [← e, ← List.drop_eq_getElem_cons hkl]; exact (List.take_append_drop k l).symm
  have h6 : (l.take k ++ c :: l.drop (k + 1)).drop f = (l.take k).drop f ++ c :: l.drop (k + 1) := List.drop_append_of_le_length (by simp; omega)
  rw [← h5] at h6
  exact h6
/-- All pieces. -/
theorem cutTo_all (c : UInt8) (l : List UInt8) : ∀ k, k ≤ l.length → cuts c l = (cutTo c l k).1 ++ cuts c (l.drop (cutTo c l k).2) ∧ ∀ i, (cutTo c l k).2 ≤ i → i < k → l[i]? ≠ some c
  | 0, _ => ⟨by simp [cutTo], fun i h1 h2 => by omega⟩
  | k + 1, hk => by
    obtain ⟨h1, h2⟩ := cutTo_all c l k (by omega)
    have hle := cutTo_le c l k
    rw [cutTo]
    by_cases e : l[k]? = some c
    · rw [if_pos e]
      refine ⟨?_, fun i h3 h4 => by simp at h3; omega⟩
      rw [h1, List.append_assoc]
      congr 1
      generalize (cutTo c l k).2 = f at *
      have hkl : k < l.length := by omega
      have hd : l.drop f = (l.take k).drop f ++ c :: l.drop (k + 1) := drop_split hkl (by rw [List.getElem?_eq_getElem hkl] at e; exact Option.some.inj e) hle
      rw [hd, cuts_step]
      · rfl
      · intro x hx hxc
        subst hxc
        obtain ⟨i, hi⟩ := List.mem_iff_getElem?.1 hx
        rw [List.getElem?_drop] at hi
        have hlt := (List.getElem?_eq_some_iff.1 hi).1
        simp at hlt
        rw [List.getElem?_take_of_lt (by omega)] at hi
        exact h2 (f + i) (by omega) (by omega) hi
    · rw [if_neg e]
      exact ⟨h1, fun i h3 h4 => by
        by_cases g : i = k
        · subst g; exact e
        · exact h2 i h3 (by omega)⟩
theorem cutTo_last (c : UInt8) (l : List UInt8) : cuts c l = (cutTo c l l.length).1 ++ [l.drop (cutTo c l l.length).2] := by
  obtain ⟨h1, h2⟩ := cutTo_all c l l.length (Nat.le_refl _)
  rw [h1]
  congr 1
  refine cuts_free _ ?_
  intro x hx hxc
  subst hxc
  obtain ⟨i, hi⟩ := List.mem_iff_getElem?.1 hx
  rw [List.getElem?_drop] at hi
  have hlt := (List.getElem?_eq_some_iff.1 hi).1
  exact h2 _ (by omega) hlt hi
end Pu

theorem info9 : (Tryz.prog.info? 9).map (fun i => (i.zero, i.size, i.bytes)) = some (some (.string ⟨#[]⟩), 1, 16) := by kernel_rfl
theorem extract_list (s : ByteArray) (a b : Nat) : (s.extract a b).data.toList = (s.data.toList.take b).drop a := by
  rw [Lib.extract_data]
  by_cases h : a ≤ b
  · simp [List.take_drop, show a + (b - a) = b by omega]
  · have e : b - a = 0 := by omega
    rw [e, List.take_zero, List.drop_eq_nil_of_le (by simp; omega)]
/-- What holds ahead of each round: the pieces that end ahead of place k lie in the row v. -/
def CutInv (w : World) (s : ByteArray) (c : UInt8) (v fr i : Value) (wr : World) : Prop :=
  ∃ (k f : Nat) (ps : List ByteArray), i = .int .i64 k ∧ fr = .int .i64 f ∧ wr.ownsRow w.heap.size 9 1 v ps.length (ps.map Value.string) ∧ Turns (fun _ => False) w wr ∧
    ((k ≤ s.size ∧ ps.map (·.data.toList) = (Pu.cutTo c s.data.toList k).1 ∧ f = (Pu.cutTo c s.data.toList k).2) ∨ (k = s.size + 1 ∧ f = s.size + 1 ∧ ps.map (·.data.toList) = Pu.cuts c s.data.toList))

set_option maxRecDepth 100000 in
set_option maxHeartbeats 1000000 in
theorem cut_any (s : ByteArray) (c : UInt8) (w : World) (hs : s.size ≤ 2000000) :
    Calls Tryz.prog 105 #[.string s, .int .u8 (c.toNat : Int)] w fun e w' => Turns (fun _ => False) w w' ∧ ∃ (g cap : Nat) (ps : List ByteArray), e = .returned (.slice (some ⟨g, 0, none⟩) ps.length cap) ∧ ps.map (·.data.toList) = Pu.cuts c s.data.toList ∧ w'.ownsRow w.heap.size 9 1 (.slice (some ⟨g, 0, none⟩) ps.length cap) ps.length (ps.map Value.string) := by
  obtain ⟨i0, hi, hz0, hz1, hz2⟩ := info_parts info9
  go_enter Tryz.func105, Tryz.ntmps105
  go_wp2
  go_loopw [5, 6, 7] (fun v fr i wr => CutInv w s c v fr i wr) (fun _ _ i _ => s.size + 1 - (intOf i).toNat)
  case atStart => exact ⟨0, 0, [], rfl, rfl, World.ownsRow_nil _ _ _ _, Turns.refl _ _, Or.inl ⟨Nat.zero_le _, rfl, rfl⟩⟩
  case round =>
    obtain ⟨k, f, ps, rfl, rfl, hown, hT, hcase⟩ := hrel
    have hTs := hT.size
    rcases hcase with ⟨hk, hps, hf⟩ | ⟨hk, hf, hps⟩
    · have hfl := Pu.cutTo_le c s.data.toList k
      have hpl := Pu.cutTo_len c s.data.toList k
      rw [← hf] at hfl
      rw [← hps] at hpl
      simp only [List.length_map] at hpl
      by_cases hlast : k = s.size
      · have hki : (k : Int) ≤ (s.size : Int) := by omega
        have hke : ((k : Int) == (s.size : Int)) = true := by simp; omega
        have hfi : (f : Int) ≤ (k : Int) := by omega
        have HL : Hid ((ps ++ [s.extract f k]).map (·.data.toList) = Pu.cuts c s.data.toList) := by
          show (ps ++ [s.extract f k]).map (·.data.toList) = _
          have hsz : s.data.toList.length = s.size := by simp
          rw [List.map_append, hps, Pu.cutTo_last, hsz, ← hlast, ← hf]
          congr 1
          simp only [List.map_cons, List.map_nil]
          rw [extract_list, List.take_of_length_le (by omega)]
        have HLast : Hid (k = s.size) := hlast
        clear hlast hps hf
        go_wp2_with (at_builtin; refine wpList_append_own _ rfl _ _ 172 rfl w.heap.size 9 i0 _ 1 16 Tryz.underlying172 hi hz0 hz1 hz2 rfl (by decide) _ _ _ rfl (hown.alloc _) ⟨wr.heap.size, 0, none⟩ 1 1 [.string (s.extract f k)] rfl rfl ?c1A ?c2A ?c3A ?c4A ?c5A ?_)
        case c1A => exact cell_one_new _ _ _
        case c2A => intro u hu; simp at hu; subst hu; rfl
        case c3A => unfold maxLen; omega
        case c4A => omega
        case c5A => simp; omega
        intro v' w3 hown3 hgrow _
        have hT3 : Turns (fun _ => False) w w3 := (hT.alloc _).grown hgrow (fun k hk => Or.inl (hown.lt k hk).1)
        have hown4 : w3.ownsRow w.heap.size 9 1 v' (ps ++ [s.extract f k]).length ((ps ++ [s.extract f k]).map Value.string) := by simpa using hown3
        have HR : Hid (CutInv w s c v' (.int .i64 ((k : Int) + 1)) (.int .i64 ((k : Int) + 1)) w3) := ⟨k + 1, k + 1, ps ++ [s.extract f k], by go_num, by go_num, hown4, hT3, Or.inr ⟨by rw [HLast.out], by rw [HLast.out], HL.out⟩⟩
        obtain ⟨g', cap', hv'⟩ := owns_form hown3
        rw [hv'] at HR ⊢
        clear hown3 hgrow hT3 hown4 hv' hown
        go_wp2
        go_roundw
        case measure => simp [intOf]; omega
        case rel => exact HR.out
      · have hkl : k < s.size := by omega
        have hki : (k : Int) ≤ (s.size : Int) := by omega
        have hki2 : (k : Int) < (s.size : Int) := by omega
        have hke : ((k : Int) == (s.size : Int)) = false := by simp; omega
        have hfi : (f : Int) ≤ (k : Int) := by omega
        have hg : s.data.toList[k]? = some s[k] := by rw [List.getElem?_eq_getElem (by simpa using hkl)]; rfl
        by_cases hb : s[k] = c
        · have hbb : ((s[k].toNat : Int) == (c.toNat : Int)) = true := by rw [hb]; simp
          have HL : Hid ((ps ++ [s.extract f k]).map (·.data.toList) = (Pu.cutTo c s.data.toList (k + 1)).1 ∧ k + 1 = (Pu.cutTo c s.data.toList (k + 1)).2) := by
            rw [Pu.cutTo, if_pos (by rw [hg, hb])]
            refine ⟨?_, rfl⟩
            rw [List.map_append, hps, hf]
            congr 1
            simp only [List.map_cons, List.map_nil]
            rw [extract_list]
          clear hlast hps hf hb hg
          go_wp2_with (at_builtin; refine wpList_append_own _ rfl _ _ 172 rfl w.heap.size 9 i0 _ 1 16 Tryz.underlying172 hi hz0 hz1 hz2 rfl (by decide) _ _ _ rfl (hown.alloc _) ⟨wr.heap.size, 0, none⟩ 1 1 [.string (s.extract f k)] rfl rfl ?c1B ?c2B ?c3B ?c4B ?c5B ?_)
          case c1B => exact cell_one_new _ _ _
          case c2B => intro u hu; simp at hu; subst hu; rfl
          case c3B => unfold maxLen; omega
          case c4B => omega
          case c5B => simp; omega
          intro v' w3 hown3 hgrow _
          have hT3 : Turns (fun _ => False) w w3 := (hT.alloc _).grown hgrow (fun k hk => Or.inl (hown.lt k hk).1)
          have hown4 : w3.ownsRow w.heap.size 9 1 v' (ps ++ [s.extract f k]).length ((ps ++ [s.extract f k]).map Value.string) := by simpa using hown3
          have HR : Hid (CutInv w s c v' (.int .i64 ((k : Int) + 1)) (.int .i64 ((k : Int) + 1)) w3) := ⟨k + 1, k + 1, ps ++ [s.extract f k], by go_num, by go_num, hown4, hT3, Or.inl ⟨by omega, HL.out.1, HL.out.2⟩⟩
          obtain ⟨g', cap', hv'⟩ := owns_form hown3
          rw [hv'] at HR ⊢
          clear hown3 hgrow hT3 hown4 hv' hown
          go_wp2
          go_roundw
          case measure => simp [intOf]; omega
          case rel => exact HR.out
        · have hbb : ((s[k].toNat : Int) == (c.toNat : Int)) = false := by
            simp only [beq_eq_false_iff_ne, ne_eq]
            intro e
            exact hb (UInt8.toNat_inj.1 (by omega))
          have HR : Hid (∀ v, wr.ownsRow w.heap.size 9 1 v ps.length (ps.map Value.string) → CutInv w s c v (.int .i64 f) (.int .i64 ((k : Int) + 1)) wr) := by
            intro v hv
            refine ⟨k + 1, f, ps, by go_num, rfl, hv, hT, Or.inl ⟨by omega, ?_, ?_⟩⟩
            · rw [Pu.cutTo, if_neg (by rw [hg]; simpa using hb)]; exact hps
            · rw [Pu.cutTo, if_neg (by rw [hg]; simpa using hb)]; exact hf
          clear hlast hps hf hb hg
          go_wp2
          go_roundw
          case measure => simp [intOf]; omega
          case rel => exact HR.out _ hown
    · have hki : ¬ (k : Int) ≤ (s.size : Int) := by omega
      obtain ⟨q, hq⟩ : ∃ q, ps.length = q + 1 := by
        have := congrArg List.length hps
        rw [Pu.cuts_length] at this
        simp at this
        exact ⟨ps.length - 1, by omega⟩
      have hown' := hown
      rw [hq] at hown'
      obtain ⟨g', cap', rfl⟩ := owns_form hown'
      have HE : Hid (ps.map (·.data.toList) = Pu.cuts c s.data.toList) := hps
      have HQ : Hid (ps.length = q + 1) := hq
      have HO : Hid (wr.ownsRow w.heap.size 9 1 (.slice (some ⟨g', 0, none⟩) (q + 1) cap') ps.length (ps.map Value.string)) := hown
      clear hown hown' hps hq hk hf
      go_wp2
      go_ret
      exact ⟨hT, g', cap', ps, by rw [HQ.out]; rfl, HE.out, by have := HO.out; rw [HQ.out] at this ⊢; exact this⟩
#print axioms cut_any
end Go.Proofs.YtdogncjcainhlaaGreatDoor
