/- Pack3: texts of one proof, one behind the other. -/
import Derived.Test.YtdogncjcainhlaaDoorProg
import Derived.Test.YtdogncjcainhlaaDoorPlain
import Derived.WalkKit
import Derived.WalkSpells
import Derived.WalkLawsBesides
import Derived.Test.YtdogncjcainhlaaDoorPack2
import Derived.Deep.RegionHeld3
import Derived.Deep.OwnRows
import Derived.Deep.LoopGhost
import Derived.Deep.QuietTactic
import Derived.BigQuiet
/- The walk of the reference's cut: a text cut at a byte. -/
namespace Go.Proofs.YtdogncjcainhlaaDoor
open Go.RowKit
open Mem
namespace Pu

/-- The pieces that end ahead of place k, as the reference cuts them; and where the next one begins. -/
def cutTo (c : UInt8) (l : List UInt8) : Nat → List (List UInt8) × Nat
  | 0 => ([], 0)
  | k + 1 => if l[k]? = some c then ((cutTo c l k).1 ++ [(l.take k).drop (cutTo c l k).2], k + 1) else cutTo c l k
theorem cutTo_le (c : UInt8) (l : List UInt8) : ∀ k, (cutTo c l k).2 ≤ k
  | 0 => Nat.le_refl _
  | k + 1 => by have := cutTo_le c l k; rw [cutTo]; split <;> simp <;> omega
theorem cutTo_len (c : UInt8) (l : List UInt8) : ∀ k, (cutTo c l k).1.length ≤ k
  | 0 => Nat.le_refl _
  | k + 1 => by have := cutTo_len c l k; rw [cutTo]; split <;> simp <;> omega
theorem drop_split {l : List UInt8} {c : UInt8} {k f : Nat} (hkl : k < l.length) (e : l[k] = c) (hle : f ≤ k) : l.drop f = (l.take k).drop f ++ c :: l.drop (k + 1) := by
  have h5 : l = l.take k ++ c :: l.drop (k + 1) := by
    rw [← e, ← List.drop_eq_getElem_cons hkl]; exact (List.take_append_drop k l).symm
  have h6 : (l.take k ++ c :: l.drop (k + 1)).drop f = (l.take k).drop f ++ c :: l.drop (k + 1) := List.drop_append_of_le_length (by simp; omega)
  rw [← h5] at h6
  exact h6
/-- All pieces. -/
theorem cutTo_all (c : UInt8) (l : List UInt8) : ∀ k, k ≤ l.length → cuts c l = (cutTo c l k).1 ++ cuts c (l.drop (cutTo c l k).2) ∧ ∀ i, (cutTo c l k).2 ≤ i → i < k → l[i]? ≠ some c
  | 0, _ => ⟨by simp [cutTo], fun i h1 h2 => by omega⟩
  | k + 1, hk => by
    obtain ⟨h1, h2⟩ := cutTo_all c l k (by omega)
    have hle := cutTo_le c l k
    rw [cutTo]
    by_cases e : l[k]? = some c
    · rw [if_pos e]
      refine ⟨?_, fun i h3 h4 => by simp at h3; omega⟩
      rw [h1, List.append_assoc]
      congr 1
      generalize (cutTo c l k).2 = f at *
      have hkl : k < l.length := by omega
      have hd : l.drop f = (l.take k).drop f ++ c :: l.drop (k + 1) := drop_split hkl (by rw [List.getElem?_eq_getElem hkl] at e; exact Option.some.inj e) hle
      rw [hd, cuts_step]
      · rfl
      · intro x hx hxc
        subst hxc
        obtain ⟨i, hi⟩ := List.mem_iff_getElem?.1 hx
        rw [List.getElem?_drop] at hi
        have hlt := (List.getElem?_eq_some_iff.1 hi).1
        simp at hlt
        rw [List.getElem?_take_of_lt (by omega)] at hi
        exact h2 (f + i) (by omega) (by omega) hi
    · rw [if_neg e]
      exact ⟨h1, fun i h3 h4 => by
        by_cases g : i = k
        · subst g; exact e
        · exact h2 i h3 (by omega)⟩
theorem cutTo_last (c : UInt8) (l : List UInt8) : cuts c l = (cutTo c l l.length).1 ++ [l.drop (cutTo c l l.length).2] := by
  obtain ⟨h1, h2⟩ := cutTo_all c l l.length (Nat.le_refl _)
  rw [h1]
  congr 1
  refine cuts_free _ ?_
  intro x hx hxc
  subst hxc
  obtain ⟨i, hi⟩ := List.mem_iff_getElem?.1 hx
  rw [List.getElem?_drop] at hi
  have hlt := (List.getElem?_eq_some_iff.1 hi).1
  exact h2 _ (by omega) hlt hi
end Pu

theorem info9 : (Tryd.prog.info? 9).map (fun i => (i.zero, i.size, i.bytes)) = some (some (.string ⟨#[]⟩), 1, 16) := by kernel_rfl
theorem extract_list (s : ByteArray) (a b : Nat) : (s.extract a b).data.toList = (s.data.toList.take b).drop a := by
  rw [Lib.extract_data]
  by_cases h : a ≤ b
  · simp [List.take_drop, show a + (b - a) = b by omega]
  · have e : b - a = 0 := by omega
    rw [e, List.take_zero, List.drop_eq_nil_of_le (by simp; omega)]
/-- What holds ahead of each round: the pieces that end ahead of place k lie in the row v. -/
def CutInv (w : World) (s : ByteArray) (c : UInt8) (v fr i : Value) (wr : World) : Prop :=
  ∃ (k f : Nat) (ps : List ByteArray), i = .int .i64 k ∧ fr = .int .i64 f ∧ wr.ownsRow w.heap.size 9 1 v ps.length (ps.map Value.string) ∧ Turns (fun _ => False) w wr ∧
    ((k ≤ s.size ∧ ps.map (·.data.toList) = (Pu.cutTo c s.data.toList k).1 ∧ f = (Pu.cutTo c s.data.toList k).2) ∨ (k = s.size + 1 ∧ f = s.size + 1 ∧ ps.map (·.data.toList) = Pu.cuts c s.data.toList))

set_option maxRecDepth 100000 in
set_option maxHeartbeats 1000000 in
theorem cut_any (s : ByteArray) (c : UInt8) (w : World) (hs : s.size ≤ 2000000) :
    Calls Tryd.prog 36 #[.string s, .int .u8 (c.toNat : Int)] w fun e w' => Turns (fun _ => False) w w' ∧ ∃ (g cap : Nat) (ps : List ByteArray), e = .returned (.slice (some ⟨g, 0, none⟩) ps.length cap) ∧ ps.map (·.data.toList) = Pu.cuts c s.data.toList ∧ w'.ownsRow w.heap.size 9 1 (.slice (some ⟨g, 0, none⟩) ps.length cap) ps.length (ps.map Value.string) := by
  obtain ⟨i0, hi, hz0, hz1, hz2⟩ := info_parts info9
  go_enter Tryd.func36, Tryd.ntmps36
  go_wp2
  go_loopw [5, 6, 7] (fun v fr i wr => CutInv w s c v fr i wr) (fun _ _ i _ => s.size + 1 - (intOf i).toNat)
  case atStart => exact ⟨0, 0, [], rfl, rfl, World.ownsRow_nil _ _ _ _, Turns.refl _ _, Or.inl ⟨Nat.zero_le _, rfl, rfl⟩⟩
  case round =>
    obtain ⟨k, f, ps, rfl, rfl, hown, hT, hcase⟩ := hrel
    have hTs := hT.size
    rcases hcase with ⟨hk, hps, hf⟩ | ⟨hk, hf, hps⟩
    · have hfl := Pu.cutTo_le c s.data.toList k
      have hpl := Pu.cutTo_len c s.data.toList k
      rw [← hf] at hfl
      rw [← hps] at hpl
      simp only [List.length_map] at hpl
      by_cases hlast : k = s.size
      · have hki : (k : Int) ≤ (s.size : Int) := by omega
        have hke : ((k : Int) == (s.size : Int)) = true := by simp; omega
        have hfi : (f : Int) ≤ (k : Int) := by omega
        have HL : Hid ((ps ++ [s.extract f k]).map (·.data.toList) = Pu.cuts c s.data.toList) := by
          show (ps ++ [s.extract f k]).map (·.data.toList) = _
          have hsz : s.data.toList.length = s.size := by simp
          rw [List.map_append, hps, Pu.cutTo_last, hsz, ← hlast, ← hf]
          congr 1
          simp only [List.map_cons, List.map_nil]
          rw [extract_list, List.take_of_length_le (by omega)]
        have HLast : Hid (k = s.size) := hlast
        clear hlast hps hf
        go_wp2_with (at_builtin; refine wpList_append_own _ rfl _ _ 99 rfl w.heap.size 9 i0 _ 1 16 Tryd.underlying99 hi hz0 hz1 hz2 rfl (by decide) _ _ _ rfl (hown.alloc _) ⟨wr.heap.size, 0, none⟩ 1 1 [.string (s.extract f k)] rfl rfl ?c1A ?c2A ?c3A ?c4A ?c5A ?_)
        case c1A => exact cell_one_new _ _ _
        case c2A => intro u hu; simp at hu; subst hu; rfl
        case c3A => unfold maxLen; omega
        case c4A => omega
        case c5A => simp; omega
        intro v' w3 hown3 hgrow _
        have hT3 : Turns (fun _ => False) w w3 := (hT.alloc _).grown hgrow (fun k hk => Or.inl (hown.lt k hk).1)
        have hown4 : w3.ownsRow w.heap.size 9 1 v' (ps ++ [s.extract f k]).length ((ps ++ [s.extract f k]).map Value.string) := by simpa using hown3
        have HR : Hid (CutInv w s c v' (.int .i64 ((k : Int) + 1)) (.int .i64 ((k : Int) + 1)) w3) := ⟨k + 1, k + 1, ps ++ [s.extract f k], by go_num, by go_num, hown4, hT3, Or.inr ⟨by rw [HLast.out], by rw [HLast.out], HL.out⟩⟩
        obtain ⟨g', cap', hv'⟩ := owns_form hown3
        rw [hv'] at HR ⊢
        clear hown3 hgrow hT3 hown4 hv' hown
        go_wp2
        go_roundw
        case measure => simp [intOf]; omega
        case rel => exact HR.out
      · have hkl : k < s.size := by omega
        have hki : (k : Int) ≤ (s.size : Int) := by omega
        have hki2 : (k : Int) < (s.size : Int) := by omega
        have hke : ((k : Int) == (s.size : Int)) = false := by simp; omega
        have hfi : (f : Int) ≤ (k : Int) := by omega
        have hg : s.data.toList[k]? = some s[k] := by rw [List.getElem?_eq_getElem (by simpa using hkl)]; rfl
        by_cases hb : s[k] = c
        · have hbb : ((s[k].toNat : Int) == (c.toNat : Int)) = true := by rw [hb]; simp
          have HL : Hid ((ps ++ [s.extract f k]).map (·.data.toList) = (Pu.cutTo c s.data.toList (k + 1)).1 ∧ k + 1 = (Pu.cutTo c s.data.toList (k + 1)).2) := by
            rw [Pu.cutTo, if_pos (by rw [hg, hb])]
            refine ⟨?_, rfl⟩
            rw [List.map_append, hps, hf]
            congr 1
            simp only [List.map_cons, List.map_nil]
            rw [extract_list]
          clear hlast hps hf hb hg
          go_wp2_with (at_builtin; refine wpList_append_own _ rfl _ _ 99 rfl w.heap.size 9 i0 _ 1 16 Tryd.underlying99 hi hz0 hz1 hz2 rfl (by decide) _ _ _ rfl (hown.alloc _) ⟨wr.heap.size, 0, none⟩ 1 1 [.string (s.extract f k)] rfl rfl ?c1B ?c2B ?c3B ?c4B ?c5B ?_)
          case c1B => exact cell_one_new _ _ _
          case c2B => intro u hu; simp at hu; subst hu; rfl
          case c3B => unfold maxLen; omega
          case c4B => omega
          case c5B => simp; omega
          intro v' w3 hown3 hgrow _
          have hT3 : Turns (fun _ => False) w w3 := (hT.alloc _).grown hgrow (fun k hk => Or.inl (hown.lt k hk).1)
          have hown4 : w3.ownsRow w.heap.size 9 1 v' (ps ++ [s.extract f k]).length ((ps ++ [s.extract f k]).map Value.string) := by simpa using hown3
          have HR : Hid (CutInv w s c v' (.int .i64 ((k : Int) + 1)) (.int .i64 ((k : Int) + 1)) w3) := ⟨k + 1, k + 1, ps ++ [s.extract f k], by go_num, by go_num, hown4, hT3, Or.inl ⟨by omega, HL.out.1, HL.out.2⟩⟩
          obtain ⟨g', cap', hv'⟩ := owns_form hown3
          rw [hv'] at HR ⊢
          clear hown3 hgrow hT3 hown4 hv' hown
          go_wp2
          go_roundw
          case measure => simp [intOf]; omega
          case rel => exact HR.out
        · have hbb : ((s[k].toNat : Int) == (c.toNat : Int)) = false := by
            simp only [beq_eq_false_iff_ne, ne_eq]
            intro e
            exact hb (UInt8.toNat_inj.1 (by omega))
          have HR : Hid (∀ v, wr.ownsRow w.heap.size 9 1 v ps.length (ps.map Value.string) → CutInv w s c v (.int .i64 f) (.int .i64 ((k : Int) + 1)) wr) := by
            intro v hv
            refine ⟨k + 1, f, ps, by go_num, rfl, hv, hT, Or.inl ⟨by omega, ?_, ?_⟩⟩
            · rw [Pu.cutTo, if_neg (by rw [hg]; simpa using hb)]; exact hps
            · rw [Pu.cutTo, if_neg (by rw [hg]; simpa using hb)]; exact hf
          clear hlast hps hf hb hg
          go_wp2
          go_roundw
          case measure => simp [intOf]; omega
          case rel => exact HR.out _ hown
    · have hki : ¬ (k : Int) ≤ (s.size : Int) := by omega
      obtain ⟨q, hq⟩ : ∃ q, ps.length = q + 1 := by
        have := congrArg List.length hps
        rw [Pu.cuts_length] at this
        simp at this
        exact ⟨ps.length - 1, by omega⟩
      have hown' := hown
      rw [hq] at hown'
      obtain ⟨g', cap', rfl⟩ := owns_form hown'
      have HE : Hid (ps.map (·.data.toList) = Pu.cuts c s.data.toList) := hps
      have HQ : Hid (ps.length = q + 1) := hq
      have HO : Hid (wr.ownsRow w.heap.size 9 1 (.slice (some ⟨g', 0, none⟩) (q + 1) cap') ps.length (ps.map Value.string)) := hown
      clear hown hown' hps hq hk hf
      go_wp2
      go_ret
      exact ⟨hT, g', cap', ps, by rw [HQ.out]; rfl, HE.out, by have := HO.out; rw [HQ.out] at this ⊢; exact this⟩
#print axioms cut_any
end Go.Proofs.YtdogncjcainhlaaDoor
/- The walks of the reference's Sealed and Paged. -/
namespace Go.Proofs.YtdogncjcainhlaaDoor
open Go.RowKit Go.Deep
open Mem

theorem cat_list (a b : ByteArray) : (a ++ b).data.toList = a.data.toList ++ b.data.toList := by simp
theorem of_list {a : ByteArray} {l : List UInt8} (h : a.data.toList = l) : a = ⟨l.toArray⟩ := by
  apply ByteArray.ext
  rw [← h]
theorem size_list (a : ByteArray) : a.size = a.data.toList.length := by simp

set_option maxRecDepth 100000 in
set_option maxHeartbeats 1000000 in
/-- The reference's Sealed. -/
theorem rseal_any (p : Nat) (h : ByteArray) (w : World) (hp : p < 65536) (hh : h.size ≤ 1000) :
    Calls Tryd.prog 73 #[.int .i64 p, .string h] w fun e w' => e = .returned (.string ⟨(Pu.sealB p h.data.toList).toArray⟩) ∧ Turns (fun _ => False) w w' := by
  have hcv := conv2 ((p : Int) / 256) ((p : Int) % 256) (UInt8.ofNat (p / 256)) (UInt8.ofNat (p % 256)) (by have := ofNat_int (n := p / 256) (by omega); omega) (by have := ofNat_int (n := p % 256) (by omega); omega)
  obtain ⟨A, hA⟩ : ∃ A : ByteArray, A = ⟨[UInt8.ofNat (p / 256), UInt8.ofNat (p % 256)].toArray⟩ := ⟨_, rfl⟩
  rw [← hA] at hcv
  have hAs : A.size = 2 := by rw [hA]; rfl
  have hAl : (A ++ h).data.toList = UInt8.ofNat (p / 256) :: UInt8.ofNat (p % 256) :: h.data.toList := by rw [cat_list, hA]; rfl
  have cs := fun w => rsum_any (A ++ h) w (by rw [ByteArray.size_append]; omega)
  rw [hAl] at cs
  have hN := Pu.sumN_lt (UInt8.ofNat (p / 256) :: UInt8.ofNat (p % 256) :: h.data.toList)
  have HE : Hid (h.data.toList ++ Pu.sumB (Pu.sumN (UInt8.ofNat (p / 256) :: UInt8.ofNat (p % 256) :: h.data.toList)) = Pu.sealB p h.data.toList) := rfl
  generalize Pu.sumN (UInt8.ofNat (p / 256) :: UInt8.ofNat (p % 256) :: h.data.toList) = N at *
  have hcw := conv4 ((N : Int) / 16777216) ((N : Int) / 65536 % 256) ((N : Int) / 256 % 256) ((N : Int) % 256) (UInt8.ofNat (N / 16777216)) (UInt8.ofNat (N / 65536 % 256)) (UInt8.ofNat (N / 256 % 256)) (UInt8.ofNat (N % 256))
    (by have := ofNat_int (n := N / 16777216) (by omega); omega) (by have := ofNat_int (n := N / 65536 % 256) (by omega); omega) (by have := ofNat_int (n := N / 256 % 256) (by omega); omega) (by have := ofNat_int (n := N % 256) (by omega); omega)
  obtain ⟨B, hB⟩ : ∃ B : ByteArray, B = ⟨[UInt8.ofNat (N / 16777216), UInt8.ofNat (N / 65536 % 256), UInt8.ofNat (N / 256 % 256), UInt8.ofNat (N % 256)].toArray⟩ := ⟨_, rfl⟩
  rw [← hB] at hcw
  have hBs : B.size = 4 := by rw [hB]; rfl
  have HB : Hid (h ++ B = ⟨(Pu.sealB p h.data.toList).toArray⟩) := by
    refine of_list ?_
    rw [cat_list, ← HE.out, hB]; rfl
  clear hA hB hAl HE
  go_enter Tryd.func73, Tryd.ntmps73
  go_wp2_with (go_at_call 91; refine (cs _).mono ?_; rintro e w1 ⟨rfl, hw1⟩; subst hw1)
  go_ret
  refine ⟨by rw [← HB.out]; rfl, ?_⟩
  exact ((Turns.refl _ _).alloc _).alloc _
#print axioms rseal_any

/-- How many bytes a text has. -/
def strLen : Value → Nat
  | .string b => b.size
  | _ => 0
namespace Pu
theorem padded {x : List UInt8} {j : Nat} (h : (x.length + j) % 28 = 0) (hj : j ≤ (28 - x.length % 28) % 28) : x ++ List.replicate j 0 = pad x := by
  unfold pad
  rw [show j = (28 - x.length % 28) % 28 by omega]
theorem pageP_next {s : List UInt8} {k : Nat} : pageP s (k + 1) = pageP s k ++ sealB k ((s.take (28 * k + 28)).drop (28 * k)) := by
  rw [pageP, chunk]
  congr 2
  rw [List.drop_take, show 28 * k + 28 - 28 * k = 28 by omega]
end Pu

set_option maxRecDepth 100000 in
set_option maxHeartbeats 2000000 in
/-- The reference's Paged. -/
theorem rpaged_any (x : ByteArray) (w : World) (hx : x.size ≤ 20000) :
    Calls Tryd.prog 52 #[.string x] w fun e w' => e = .returned (.string ⟨(Pu.paged x.data.toList).toArray⟩) ∧ Turns (fun _ => False) w w' := by
  have HXL : Hid (x.size = x.data.toList.length) := size_list x
  go_enter Tryd.func52, Tryd.ntmps52
  go_wp2
  go_loop [0] (fun sv => ∃ (S : ByteArray) (j : Nat), sv = .string S ∧ S.size ≤ 20100 ∧ Hid (S.size = x.size + j ∧ j ≤ (28 - x.size % 28) % 28 ∧ S.data.toList = x.data.toList ++ List.replicate j 0)) (fun sv => x.size + (28 - x.size % 28) % 28 - strLen sv)
  case atStart => exact ⟨x, 0, rfl, by omega, rfl, Nat.zero_le _, by simp⟩
  case round =>
    obtain ⟨S, j, rfl, hSb, HS⟩ := hrel
    by_cases hm : S.size % 28 = 0
    · have hmi : ((S.size : Int) % 28 != 0) = false := by simp; omega
      have HP : Hid (S.data.toList = Pu.pad x.data.toList) := by
        obtain ⟨h1, h2, h3⟩ := HS.out
        have hxl := HXL.out
        show _ = _
        rw [h3]; exact Pu.padded (by rw [← hxl]; omega) (by rw [← hxl]; exact h2)
      obtain ⟨K, hK⟩ : ∃ K, S.size = 28 * K := ⟨S.size / 28, by omega⟩
      have HK : Hid (S.size = 28 * K) := hK
      clear HS hK hm
      go_wp2
      go_loopw [3, 4] (fun ov iv wr => ∃ (o : ByteArray) (k i : Nat), ov = .string o ∧ iv = .int .i64 i ∧ i ≤ 30000 ∧ o.size ≤ 40000 ∧ Hid (i = 28 * k ∧ k ≤ K ∧ o.size = 32 * k ∧ o.data.toList = Pu.pageP S.data.toList k) ∧ Turns (fun _ => False) w wr) (fun _ iv _ => S.size - (intOf iv).toNat)
      case atStart => exact ⟨⟨#[]⟩, 0, 0, rfl, rfl, by omega, by decide, ⟨rfl, Nat.zero_le _, rfl, rfl⟩, Turns.refl _ _⟩
      case round =>
        obtain ⟨o, k, i, rfl, rfl, hib, hob, HO, hT⟩ := hrel
        obtain ⟨hik, hkK, ho, hol⟩ := HO.out
        have hK := HK.out
        by_cases hlt : k < K
        · have hii : (i : Int) < (S.size : Int) := by omega
          have hq : (i : Int) / 28 = (k : Int) := by omega
          have c := rseal_any k (S.extract i (i + 28)) wr (by omega) (by rw [ByteArray.size_extract]; omega)
          have hel : (S.extract i (i + 28)).data.toList = (S.data.toList.take (28 * k + 28)).drop (28 * k) := by rw [extract_list, hik]
          obtain ⟨Z, hZ⟩ : ∃ Z : ByteArray, Z = ⟨(Pu.sealB k (S.extract i (i + 28)).data.toList).toArray⟩ := ⟨_, rfl⟩
          have hZs : Z.size = 32 := by
            rw [hZ, size_list]
            show (Pu.sealB k _).length = 32
            rw [Pu.sealB_len, hel, List.length_drop, List.length_take, ← size_list]; omega
          have HN : Hid ((o ++ Z).data.toList = Pu.pageP S.data.toList (k + 1)) := by
            show _ = _
            rw [cat_list, hol, Pu.pageP_next, hZ, hel]
          rw [← hZ] at c
          have hle : ((i : Int) ≤ (i : Int) + 28) := by omega
          have hle2 : ((i : Int) + 28 ≤ (S.size : Int)) := by omega
          have hle3 : i + 28 ≤ S.size := by omega
          have hbig : (9223372036854775807 < o.size + Z.size) = False := by simp; omega
          have HX : Hid (∀ w2, Turns (fun _ => False) wr w2 → ∃ (o' : ByteArray) (k' i' : Nat), Value.string (o ++ Z) = .string o' ∧ Value.int .i64 ((i : Int) + 28) = .int .i64 i' ∧ i' ≤ 30000 ∧ o'.size ≤ 40000 ∧ Hid (i' = 28 * k' ∧ k' ≤ K ∧ o'.size = 32 * k' ∧ o'.data.toList = Pu.pageP S.data.toList k') ∧ Turns (fun _ => False) w w2) :=
            fun w2 h2 => ⟨o ++ Z, k + 1, i + 28, rfl, by go_num, by omega, by rw [ByteArray.size_append]; omega, ⟨by omega, by omega, by rw [ByteArray.size_append]; omega, HN.out⟩, hT.trans h2⟩
          have HM : Hid (i < S.size) := by show _ < _; omega
          have hZb : Z.size ≤ 32 := by omega
          clear HO hZ hel hT hik hkK ho hol hK hZs HK hlt
          go_wp2_with (go_at_call 73; refine c.mono ?_; rintro e w2 ⟨rfl, hT2⟩)
          go_roundw
          case rel => exact HX.out _ hT2
          case measure => have := HM.out; simp [intOf]; omega
        · have hii : ¬ (i : Int) < (S.size : Int) := by omega
          have HE : Hid (o = ⟨(Pu.paged x.data.toList).toArray⟩) := by
            refine of_list ?_
            have h1 := HP.out
            have h2 : (Pu.pad x.data.toList).length / 28 = k := by rw [← h1, ← size_list]; omega
            rw [hol, h1, Pu.paged, h2]
          clear HO hik hkK ho hol hK
          go_wp2
          go_ret
          exact ⟨by rw [← HE.out]; rfl, hT⟩
    · have hmi : ((S.size : Int) % 28 != 0) = true := by simp; omega
      have hbig : (9223372036854775807 < S.size + 1) = False := by simp; omega
      have HX : Hid (∃ (S' : ByteArray) (j' : Nat), Value.string (S ++ ⟨#[0]⟩) = .string S' ∧ S'.size ≤ 20100 ∧ Hid (S'.size = x.size + j' ∧ j' ≤ (28 - x.size % 28) % 28 ∧ S'.data.toList = x.data.toList ++ List.replicate j' 0)) := by
        obtain ⟨h1, h2, h3⟩ := HS.out
        have h4 : (S ++ ⟨#[0]⟩ : ByteArray).size = S.size + 1 := by rw [ByteArray.size_append]; rfl
        refine ⟨_, j + 1, rfl, by omega, by omega, by omega, ?_⟩
        rw [cat_list, h3, List.replicate_succ', List.append_assoc]
      have HM : Hid (S.size + 1 ≤ x.size + (28 - x.size % 28) % 28) := by
        obtain ⟨h1, h2, h3⟩ := HS.out
        show _ ≤ _
        omega
      clear HS hm
      go_wp2
      go_round
      case rel => exact HX.out
      case measure =>
        have h4 : (S ++ ⟨#[0]⟩ : ByteArray).size = S.size + 1 := by rw [ByteArray.size_append]; rfl
        have := HM.out
        show _ - (S ++ ⟨#[0]⟩ : ByteArray).size < _ - S.size
        omega
#print axioms rpaged_any
end Go.Proofs.YtdogncjcainhlaaDoor
/- The walk of counts.Append. -/
namespace Go.Proofs.YtdogncjcainhlaaDoor
open Go.RowKit Go.Deep
open Mem

/-- The cells of bytes. -/
def bv (l : List UInt8) : List Value := l.map fun b => Value.int .u8 (b.toNat : Int)
theorem bv_append (a b : List UInt8) : bv (a ++ b) = bv a ++ bv b := List.map_append
theorem bv_len (l : List UInt8) : (bv l).length = l.length := List.length_map _
theorem bv_one (l : List UInt8) : ∀ u ∈ bv l, u.oneCell' = true := by
  intro u hu
  obtain ⟨b, _, rfl⟩ := List.mem_map.1 hu
  rfl
theorem info5 : (Tryd.prog.info? 5).map (fun i => (i.zero, i.size, i.bytes)) = some (some (.int .u8 0), 1, 1) := by kernel_rfl
/-- A row of bytes of one's own, that came out of another by putting bytes behind it: of what was there only that one's block may have turned. -/
structure OwnB (w0 : World) (v0 : Value) (base : Nat) (v : Value) (l : List UInt8) (w : World) : Prop where
  own : w.ownsRow base 5 1 v l.length (bv l)
  turns : Turns (fun b => v0.ownBlock = some b) w0 w
  block : ∀ b, v.ownBlock = some b → v0.ownBlock = some b ∨ w0.heap.size ≤ b
theorem OwnB.refl {w : World} {base : Nat} {v : Value} {l : List UInt8} (h : w.ownsRow base 5 1 v l.length (bv l)) : OwnB w v base v l w := ⟨h, Turns.refl _ _, fun _ h => Or.inl h⟩
theorem OwnB.step {w0 w w3 : World} {v0 v v' : Value} {base : Nat} {l r : List UInt8} {o : Obj} (h : OwnB w0 v0 base v l w) (hown : w3.ownsRow base 5 1 v' (l.length + r.length) (bv l ++ bv r)) (hg : (w.alloc o).grownBy w3 v.ownBlock) (hat : v'.ownBlock = v.ownBlock ∨ v'.ownBlock = some (w.heap.size + 1)) : OwnB w0 v0 base v' (l ++ r) w3 := by
  refine ⟨by rw [List.length_append, bv_append]; exact hown, (h.turns.alloc o).grown hg ?_, ?_⟩
  · intro q hq
    rcases h.block q hq with h | h
    · exact Or.inr h
    · exact Or.inl h
  · intro b hb
    rcases hat with e | e
    · exact h.block b (by rw [← e]; exact hb)
    · rw [e] at hb
      injection hb with hb
      have := h.turns.size
      exact Or.inr (by omega)
theorem OwnB.more {w0 w w1 : World} {v0 v v' : Value} {base : Nat} {l r : List UInt8} (h : OwnB w0 v0 base v l w) (k : OwnB w v base v' r w1) : OwnB w0 v0 base v' r w1 := by
  refine ⟨k.own, ?_, ?_⟩
  · refine ⟨k.turns.os.trans h.turns.os, k.turns.tape.trans h.turns.tape, k.turns.output.trans h.turns.output, Nat.le_trans h.turns.size k.turns.size, fun b hb hp => ?_⟩
    refine (k.turns.block b (Nat.lt_of_lt_of_le hb h.turns.size) ?_).trans (h.turns.block b hb hp)
    intro hv
    rcases h.block b hv with h' | h'
    · exact hp h'
    · omega
  · intro b hb
    rcases k.block b hb with h' | h'
    · exact h.block b h'
    · have := h.turns.size
      exact Or.inr (by omega)
theorem OwnB.then {w0 w w' : World} {v0 v : Value} {base : Nat} {l : List UInt8} (h : OwnB w0 v0 base v l w) (t : Turns (fun _ => False) w w') : OwnB w0 v0 base v l w' :=
  ⟨owns_turns h.own t, h.turns.trans (t.mono (fun _ _ x => x.elim)), h.block⟩
theorem OwnB.nil (w : World) (base : Nat) : OwnB w (.slice none 0 0) base (.slice none 0 0) [] w := OwnB.refl (World.ownsRow_nil _ _ _ _)
theorem OwnB.turns0 {w0 w : World} {v : Value} {base : Nat} {l : List UInt8} (h : OwnB w0 (.slice none 0 0) base v l w) : Turns (fun _ => False) w0 w := h.turns.mono (fun _ _ c => by cases c)
namespace Pu
theorem countB_more {n : Nat} (h : ¬ n < 128) (hn : n < 2097152) : countB n = UInt8.ofNat (128 + n % 128) :: countB (n / 128) := by
  unfold countB
  rw [if_neg h]
  by_cases h2 : n < 16384
  · rw [if_pos h2, if_pos (by omega)]
  · rw [if_neg h2, if_neg (by omega), if_pos (by omega), Nat.div_div_eq_div_mul]
theorem countB_lo {n : Nat} (h : n < 128) : countB n = [UInt8.ofNat n] := by unfold countB; rw [if_pos h]
end Pu
theorem bv_one_ofNat {x : Nat} (h : x < 256) : bv [UInt8.ofNat x] = [Value.int .u8 (x : Int)] := by
  show [Value.int .u8 ((UInt8.ofNat x).toNat : Int)] = _
  rw [← ofNat_int h]

/-- append of one byte, at the operation. -/
theorem wpList_append_byte {ops : Array Oper} {rest : List Oper} {o : Oper} {a : Act} {Q : Exit → Act → World → Prop} (hgd : o.guard = none) (s x : Operand) (ho : o.op = .call { callee := .builtin .append, args := #[s, x], argTypes := #[102, 102] })
    (w0 w : World) (v0 v : Value) (base : Nat) (l l2 : List UInt8) (b : Int) (c : Nat) (hl2 : l2 = l ++ [UInt8.ofNat c]) (hbc : b = (c : Int)) (hc : c < 256) (h : OwnB w0 v0 base v l w) (hb : base ≤ w.heap.size) (hl : l.length ≤ 200000)
    (hs : a.eval s = v) (hx : a.eval x = .slice (some ⟨w.heap.size, 0, none⟩) 1 1)
    (hk : ∀ v' w3, OwnB w0 v0 base v' l2 w3 → wpList Tryd.prog ops Q rest (a.put o.dst v') w3) : wpList Tryd.prog ops Q (o :: rest) a (w.alloc (.cells #[.int .u8 b] 5)) := by
  subst hbc hl2
  obtain ⟨i0, hi, hz0, hz1, hz2⟩ := info_parts info5
  refine wpList_append_own_at (w := w.alloc (.cells #[.int .u8 (c : Int)] 5)) hgd s x 102 ho base 5 i0 (.int .u8 0) 1 1 Tryd.underlying102 hi hz0 hz1 hz2 rfl (by decide) v l.length (bv l) hs (h.own.alloc _) ⟨w.heap.size, 0, none⟩ 1 1 [.int .u8 (c : Int)] hx rfl (cell_one_new _ _ _) ?_ ?_ ?_ ?_ ?_
  · intro u hu; simp at hu; subst hu; rfl
  · unfold maxLen; omega
  · omega
  · simp; omega
  · intro v' w3 hown3 hgrow _ hat
    refine hk v' w3 (h.step (r := [UInt8.ofNat c]) ?_ hgrow ?_)
    · rw [bv_one_ofNat hc]; exact hown3
    · simpa using hat

/-- append of bytes that lie somewhere, at the operation. -/
theorem wpList_append_bytes {ops : Array Oper} {rest : List Oper} {o : Oper} {a : Act} {Q : Exit → Act → World → Prop} (hgd : o.guard = none) (s x : Operand) (ho : o.op = .call { callee := .builtin .append, args := #[s, x], argTypes := #[102, 102] })
    (w0 w : World) (v0 v : Value) (base : Nat) (l r l2 : List UInt8) (ad : Addr) (m c : Nat) (hl2 : l2 = l ++ r) (hr : r.length = m) (hnews : ∀ (j : Nat) (b : UInt8), r[j]? = some b → w.cell? (ad.add j) = some (.int .u8 (b.toNat : Int))) (h : OwnB w0 v0 base v l w) (hb : base ≤ w.heap.size) (hl : l.length + m ≤ 200000)
    (hs : a.eval s = v) (hx : a.eval x = .slice (some ad) m c)
    (hk : ∀ v' w3, OwnB w0 v0 base v' l2 w3 → wpList Tryd.prog ops Q rest (a.put o.dst v') w3) : wpList Tryd.prog ops Q (o :: rest) a w := by
  subst hl2 hr
  obtain ⟨i0, hi, hz0, hz1, hz2⟩ := info_parts info5
  refine wpList_append_own_at (w := w) hgd s x 102 ho base 5 i0 (.int .u8 0) 1 1 Tryd.underlying102 hi hz0 hz1 hz2 rfl (by decide) v l.length (bv l) hs h.own ad r.length c (bv r) hx (by rw [bv_len, Nat.mul_one]) ?_ (bv_one r) ?_ ?_ hb ?_
  · intro j u hj
    rw [bv, List.getElem?_map] at hj
    obtain ⟨b, hb', rfl⟩ := Option.map_eq_some_iff.1 hj
    exact hnews j b hb'
  · unfold maxLen; omega
  · omega
  · intro v' w3 hown3 hgrow _ hat
    refine hk v' w3 ⟨by rw [List.length_append, bv_append]; exact hown3, h.turns.grown hgrow ?_, ?_⟩
    · intro q hq
      rcases h.block q hq with h | h
      · exact Or.inr h
      · exact Or.inl h
    · intro b hb
      rcases hat with e | e
      · exact h.block b (by rw [← e]; exact hb)
      · rw [e] at hb
        injection hb with hb
        have := h.turns.size
        exact Or.inr (by omega)

set_option maxRecDepth 100000 in
set_option maxHeartbeats 1000000 in
/-- counts.Append, onto a row of one's own. -/
theorem cappend_any (v : Value) (n base : Nat) (bs : List UInt8) (w : World) (hown : w.ownsRow base 5 1 v bs.length (bv bs)) (hb : base ≤ w.heap.size) (hk : bs.length ≤ 100000) (hn : n < 2097152) :
    Calls Tryd.prog 72 #[v, .int .i64 n] w fun e w' => ∃ v', e = .returned v' ∧ OwnB w v base v' (bs ++ Pu.countB n) w' := by
  have H0 : Hid (OwnB w v base v (bs ++ []) w) := by rw [List.append_nil]; exact OwnB.refl hown
  have hnl := (Pu.countB_len n).2
  clear hown
  go_enter Tryd.func72, Tryd.ntmps72
  go_wp2
  go_loopw [0, 1] (fun tv nv wr => ∃ (m : Nat) (x : Value) (d : List UInt8) (wy : World), tv = x ∧ nv = .int .i64 m ∧ m < 2097152 ∧ wy = wr ∧ Hid (OwnB w v base x (bs ++ d) wy ∧ d ++ Pu.countB m = Pu.countB n)) (fun _ nv _ => (intOf nv).toNat)
  case atStart => exact ⟨n, v, [], w, rfl, rfl, hn, rfl, H0.out, rfl⟩
  case round =>
    clear H0
    obtain ⟨m, x, d, wr, hx, rfl, hm, hwy, HD⟩ := hrel
    subst hwy hx
    have hsz : Hid (base ≤ wr.heap.size) := Nat.le_trans hb HD.out.1.turns.size
    have hdl : Hid ((bs ++ d).length ≤ 200000) := by
      have := congrArg List.length HD.out.2
      rw [List.length_append] at this
      show _ ≤ _
      rw [List.length_append]
      omega
    by_cases h128 : m < 128
    · have hmi : ¬ (m : Int) ≥ 128 := by omega
      have hmu : ¬ (128 : Int) ≤ (m : Int) := by omega
      obtain ⟨l2, hl2⟩ : ∃ l2, l2 = bs ++ d ++ [UInt8.ofNat m] := ⟨_, rfl⟩
      have HL2 : Hid (l2 = bs ++ d ++ [UInt8.ofNat m]) := hl2
      clear hl2
      go_wp2_with (at_builtin; refine wpList_append_byte rfl _ _ rfl w wr v _ base (bs ++ d) l2 _ m HL2.out rfl (by omega) HD.out.1 hsz.out hdl.out rfl rfl ?_)
      intro v' w3 hB
      have HX : Hid (OwnB w v base v' (bs ++ Pu.countB n) w3) := by
        have e := HD.out.2
        rw [Pu.countB_lo h128] at e
        rwa [HL2.out, List.append_assoc, e] at hB
      clear HD hB
      go_wp2
      exact bodyPost_ret (v := v') (by simp [results, Tryd.results72, go_sem]) rfl ⟨v', rfl, HX.out⟩
    · have hmi : (m : Int) ≥ 128 := by omega
      have hmu : (128 : Int) ≤ (m : Int) := by omega
      obtain ⟨l2, hl2⟩ : ∃ l2, l2 = bs ++ d ++ [UInt8.ofNat (128 + m % 128)] := ⟨_, rfl⟩
      have HL2 : Hid (l2 = bs ++ d ++ [UInt8.ofNat (128 + m % 128)]) := hl2
      clear hl2
      go_wp2_with (at_builtin; refine wpList_append_byte rfl _ _ rfl w wr v _ base (bs ++ d) l2 _ (128 + m % 128) HL2.out (by omega) (by omega) HD.out.1 hsz.out hdl.out rfl rfl ?_)
      intro v' w3 hB
      have HX : Hid (OwnB w v base v' (bs ++ (d ++ [UInt8.ofNat (128 + m % 128)])) w3 ∧ (d ++ [UInt8.ofNat (128 + m % 128)]) ++ Pu.countB (m / 128) = Pu.countB n) := by
        have e := HD.out.2
        rw [Pu.countB_more h128 hm] at e
        rw [HL2.out, List.append_assoc] at hB
        exact ⟨hB, by rw [List.append_assoc]; exact e⟩
      clear HD hB
      go_wp2
      go_roundw
      case rel => exact ⟨m / 128, v', _, w3, rfl, by go_num, by omega, rfl, HX.out⟩
      case measure => simp [intOf]; omega
#print axioms cappend_any
end Go.Proofs.YtdogncjcainhlaaDoor
/- The walk of ways.nearest. -/
namespace Go.Proofs.YtdogncjcainhlaaDoor
open Go.RowKit
open Mem

theorem near_no {X : Int} {Y : Bool} (h1 : ¬ Y = true) (h2 : (X == -1) = false) : ¬ (Y = true ∨ X = -1) := by
  rintro (h | h)
  · exact h1 h
  · rw [h] at h2; simp at h2
theorem near_no2 {B X Z : Int} (h : (B == -1) = false ∧ Z ≤ X) : ¬ (B = -1 ∨ X < Z) := by
  rintro (e | e)
  · rw [e] at h; simp at h
  · omega

set_option maxHeartbeats 1000000 in
theorem nearest_any (w : World) (f d n : Nat) (far : Nat → Int) (done : Nat → Bool) (hn : n ≤ 40) (hf : Ints w f n far) (hd : Bools w d n done) :
    Calls Tryd.prog 58 #[.slice (some ⟨f, 0, none⟩) n n, .slice (some ⟨d, 0, none⟩) n n] w fun e w' => e = .returned (.int .i64 (Pu.near far done n)) ∧ w' = w := by
  go_enter Tryd.func58, Tryd.ntmps58
  go_wp2
  go_loop [5, 10] (fun v i => ∃ k : Nat, k ≤ n ∧ i = .int .i64 k ∧ v = .int .i64 (Pu.near far done k)) (fun _ i => n - (intOf i).toNat)
  case atStart => exact ⟨0, Nat.zero_le _, rfl, rfl⟩
  case round =>
    obtain ⟨k, hk, rfl, rfl⟩ := hrel
    by_cases hlt : k < n
    · have hck := hf.cell k hlt
      have hdk := hd.cell k hlt
      have hb := Pu.near_bd far done k
      have hcb : 0 ≤ Pu.near far done k → w.cell? ⟨f, (Pu.near far done k).toNat, none⟩ = some (.int .i64 (far (Pu.near far done k).toNat)) := fun h => hf.cell _ (by omega)
      have HS : Hid (done k = true ∨ far k = -1 → Pu.near far done (k + 1) = Pu.near far done k) := Pu.near_skip
      have HT : Hid (¬ (done k = true ∨ far k = -1) → Pu.near far done k = -1 ∨ far k < far (Pu.near far done k).toNat → Pu.near far done (k + 1) = k) := Pu.near_take
      have HK : Hid (¬ (done k = true ∨ far k = -1) → ¬ (Pu.near far done k = -1 ∨ far k < far (Pu.near far done k).toNat) → Pu.near far done (k + 1) = Pu.near far done k) := Pu.near_keep
      generalize hB : Pu.near far done k = B at *
      generalize hX : far k = X at *
      generalize hY : done k = Y at *
      generalize hZ : far B.toNat = Z at *
      clear hB hX hY hZ hf hd
      go_wp2
      all_goals
        go_round
        case measure => simp [intOf]; omega
        case rel =>
          refine ⟨k + 1, by omega, by go_num, ?_⟩
          first
            | (have h : Y = true := by assumption
               rw [HS.out (Or.inl h)])
            | (have h : (X == -1) = true := by assumption
               rw [HS.out (Or.inr (by simpa using h))])
            | (have h1 : ¬ Y = true := by assumption
               have h2 : (X == -1) = false := by assumption
               have h3 := near_no h1 h2
               first
                 | (have h4 : B = -1 := by assumption
                    rw [HT.out h3 (Or.inl h4)])
                 | (have h4 : (B == -1) = true ∨ X < Z := by assumption
                    rw [HT.out h3 (by simpa using h4)])
                 | (have h4 : (B == -1) = false ∧ Z ≤ X := by assumption
                    rw [HK.out h3 (near_no2 h4)]))
    · have e : k = n := by omega
      subst e
      go_wp2
      go_ret
      exact ⟨rfl, rfl⟩
end Go.Proofs.YtdogncjcainhlaaDoor
/- The walk of ways.goOn. -/
namespace Go.Proofs.YtdogncjcainhlaaDoor
open Go.RowKit
open Mem

theorem goOn_no {L X A : Int} (h : (L == 0) = true) : ¬ (L ≠ 0 ∧ (X = -1 ∨ A + L < X)) := fun c => c.1 (by simpa using h)
theorem goOn_yes {L X A : Int} (h : (L == 0) = false) (g : X = -1 ∨ A + L < X) : L ≠ 0 ∧ (X = -1 ∨ A + L < X) := ⟨by simpa using h, g⟩
theorem goOn_no2 {L X A : Int} (g : (X == -1) = false ∧ X ≤ A + L) : ¬ (L ≠ 0 ∧ (X = -1 ∨ A + L < X)) := by
  rintro ⟨_, c | c⟩
  · rw [c] at g; simp at g
  · omega

set_option maxHeartbeats 1000000 in
theorem goOn_any (w : World) (b f n at' : Nat) (N R : Int) (len : Nat → Nat → Int) (far : Nat → Int) (hn : n ≤ 40) (hat : at' < n) (hm : MapAt w b N R len) (hf : Ints w f n far) (hbf : b ≠ f)
    (hlen : ∀ j, 0 ≤ len at' j ∧ len at' j ≤ 1000) (hself : len at' at' = 0) (ha0 : 0 ≤ far at') (ha1 : far at' ≤ 1000000000) :
    Calls Tryd.prog 59 #[.pointer (some ⟨b, 0, none⟩), .slice (some ⟨f, 0, none⟩) n n, .int .i64 at'] w fun e w' => e = .returned (.tuple #[]) ∧ Ints w' f n (Pu.rel1 (len at') (far at') far) ∧ Turns (· = f) w w' ∧ w'.heap.size = w.heap.size := by
  go_enter Tryd.func59, Tryd.ntmps59
  go_wp2
  go_loopw [11] (fun i wr => ∃ k : Nat, k ≤ n ∧ i = .int .i64 k ∧ Ints wr f n (Pu.relK (len at') (far at') far k) ∧ Turns (· = f) w wr ∧ wr.heap.size = w.heap.size) (fun i _ => n - (intOf i).toNat)
  case atStart => exact ⟨0, Nat.zero_le _, rfl, by rw [Pu.relK_zero]; exact hf, Turns.refl _ _, rfl⟩
  case round =>
    obtain ⟨k, hk, rfl, hI, hT, hS⟩ := hrel
    by_cases hlt : k < n
    · have hM := hm.turns hT hbf
      have hl := hM.cell at' k (by omega) (by omega)
      have hck := hI.cell k hlt
      have hca := hI.cell at' hat
      have hfk := hI.free k hlt
      have hbl := hlen k
      rw [Pu.relK_self] at hck
      rw [Pu.relK_at hself] at hca
      have HK : Hid (¬ (len at' k ≠ 0 ∧ (far k = -1 ∨ far at' + len at' k < far k)) → Pu.relK (len at') (far at') far (k + 1) = Pu.relK (len at') (far at') far k) := Pu.relK_keep
      have HT : Hid ((len at' k ≠ 0 ∧ (far k = -1 ∨ far at' + len at' k < far k)) → Pu.relK (len at') (far at') far (k + 1) = upd (Pu.relK (len at') (far at') far k) k (far at' + len at' k)) := Pu.relK_take
      generalize hX : far k = X at *
      generalize hA : far at' = A at *
      generalize hL : len at' k = L at *
      clear hX hA hL hf hm hM
      go_wp2
      all_goals
        go_roundw
        case measure => simp [intOf]; omega
        case rel =>
          first
            | (have h : (L == 0) = true := by assumption
               exact ⟨k + 1, by omega, by go_num, by rw [HK.out (goOn_no h)]; exact hI, hT, hS⟩)
            | (have h : (L == 0) = false := by assumption
               first
                | (have h2 : X = -1 := by assumption
                   exact ⟨k + 1, by omega, by go_num, by rw [HT.out (goOn_yes h (Or.inl h2))]; exact hI.set hlt _, hT.setCell (Or.inr rfl) _, by simpa using hS⟩)
                | (have h2 : (X == -1) = true ∨ A + L < X := by assumption
                   exact ⟨k + 1, by omega, by go_num, by rw [HT.out (goOn_yes h (by simpa using h2))]; exact hI.set hlt _, hT.setCell (Or.inr rfl) _, by simpa using hS⟩)
                | (have h2 : (X == -1) = false ∧ X ≤ A + L := by assumption
                   exact ⟨k + 1, by omega, by go_num, by rw [HK.out (goOn_no2 h2)]; exact hI, hT, hS⟩))
    · have e : k = n := by omega
      subst e
      have hI' : Ints wr f k (Pu.rel1 (len at') (far at') far) := ⟨hI.lt, fun j hj => by have := hI.cell j hj; simpa [Pu.relK, hj] using this, hI.free⟩
      clear hm hf hI
      go_wp2
      go_end0
      exact ⟨rfl, hI', hT, hS⟩
end Go.Proofs.YtdogncjcainhlaaDoor
/- The walk of ways.FarFrom. -/
namespace Go.Proofs.YtdogncjcainhlaaDoor
open Go.RowKit Go.Deep
open Mem

theorem info3 : (Tryd.prog.info? 3).map (fun i => (i.zero, i.size, i.bytes)) = some (some (.int .i64 0), 1, 8) := by kernel_rfl
theorem info4 : (Tryd.prog.info? 4).map (fun i => (i.zero, i.size, i.bytes)) = some (some (.bool false), 1, 1) := by kernel_rfl

def fillK (k : Nat) (j : Nat) : Int := if j < k then -1 else 0
theorem fillK_self (k : Nat) : fillK k k = 0 := by simp [fillK]
theorem fillK_step (k j : Nat) : upd (fillK k) k (-1) j = fillK (k + 1) j := by
  unfold upd fillK
  by_cases e : j = k
  · rw [if_pos e, if_pos (by omega)]
  · rw [if_neg e]
    show (if j < k then _ else _) = _
    by_cases g : j < k
    · rw [if_pos g, if_pos (by omega)]
    · rw [if_neg g, if_neg (by omega)]
theorem fillK_end (k s j : Nat) (hj : j < k) : upd (fillK k) s 0 j = upd (fun _ => -1) s 0 j := by
  unfold upd fillK
  by_cases e : j = s
  · rw [if_pos e, if_pos e]
  · rw [if_neg e, if_neg e]; show (if j < k then _ else _) = _; rw [if_pos hj]

/-- What holds ahead of each round of the second loop: the place a to go on from, or -1. -/
def FarInv (w : World) (n s : Nat) (len : Nat → Nat → Int) (gk : Nat) (v : Value) (wr : World) : Prop :=
  ∃ (far : Nat → Int) (done : Nat → Bool) (D : Nat) (a : Int), v = .int .i64 a ∧ Ints wr w.heap.size n far ∧ Bools wr (w.heap.size + 1) n done ∧ Turns (fun _ => False) w wr ∧ wr.heap.size = w.heap.size + 2 ∧
    Pu.Dij n len s far done D ∧ D = Pu.cnt done n ∧ n ≤ gk + D ∧ ((a = -1 ∧ Pu.near far done n = -1) ∨ ∃ a' : Nat, a = a' ∧ Pu.Next n far done a')

set_option maxHeartbeats 1000000 in
theorem farFrom_any (w : World) (b n s : Nat) (R : Int) (len : Nat → Nat → Int) (hn : n ≤ 40) (hs : s < n) (hm : MapAt w b n R len) (L : Pu.Lens len) :
    Calls Tryd.prog 44 #[.pointer (some ⟨b, 0, none⟩), .int .i64 s] w fun e w' => ∃ far, e = .returned (.slice (some ⟨w.heap.size, 0, none⟩) n n) ∧ Ints w' w.heap.size n far ∧ Pu.Dist n len s far ∧ Turns (fun _ => False) w w' := by
  have hmk1 := run_make_row' (P := Tryd.prog) 41 3 (.int .i64 0) 8 Tryd.underlying41 info3 rfl .i64 .i64 n (by omega) (by omega)
  have hmk2 := run_make_row' (P := Tryd.prog) 131 4 (.bool false) 1 Tryd.underlying131 info4 rfl .i64 .i64 n (by omega) (by omega)
  have hp := hm.places
  go_enter Tryd.func44, Tryd.ntmps44
  go_wp2
  go_loopw [16] (fun i wr => ∃ k : Nat, k ≤ n ∧ i = .int .i64 k ∧ Ints wr w.heap.size n (fillK k) ∧ Turns (fun _ => False) w wr ∧ wr.heap.size = w.heap.size + 1) (fun i _ => n - (intOf i).toNat)
  case atStart => exact ⟨0, Nat.zero_le _, rfl, (Ints.made w n 3 0).congr (fun j _ => by simp [fillK]), (Turns.refl _ _).alloc _, by simp⟩
  case round =>
    obtain ⟨k, hk, rfl, hI, hT, hS⟩ := hrel
    by_cases hlt : k < n
    · have hc := hI.cell k hlt
      have hf := hI.free k hlt
      rw [fillK_self] at hc
      go_wp2
      go_roundw
      case measure => simp [intOf]; omega
      case rel => exact ⟨k + 1, by omega, by go_num, (hI.set hlt (-1)).congr (fun j _ => fillK_step k j), hT.setCell (Or.inl (Nat.le_refl _)) _, by simpa using hS⟩
    · have ek : k = n := by omega
      subst ek
      have hI3 : Ints (wr.setCell ⟨w.heap.size, s, none⟩ (.int .i64 0)) w.heap.size k (upd (fun _ => -1) s 0) := (hI.set hs 0).congr (fun j hj => fillK_end k s j hj)
      have hT3 : Turns (fun _ => False) w (wr.setCell ⟨w.heap.size, s, none⟩ (.int .i64 0)) := hT.setCell (Or.inl (Nat.le_refl _)) _
      have hB4 := Bools.made (wr.setCell ⟨w.heap.size, s, none⟩ (.int .i64 0)) k 4 false
      have hI4 := hI3.turns ((Turns.refl (fun _ => False) _).alloc (.cells (madeCells #[.bool false] k) 4)) (fun x => x)
      have hT4 := hT3.alloc (.cells (madeCells #[.bool false] k) 4)
      have hS4 : (wr.setCell ⟨w.heap.size, s, none⟩ (.int .i64 0)).heap.size = w.heap.size + 1 := by simpa using hS
      rw [hS4] at hB4
      have hc := hI.cell s hs
      have hf := hI.free s hs
      have hp2 : wr.cell? ⟨b, 0, none⟩ = some (.int .i64 k) := (hT.cell (a := ⟨b, 0, none⟩) hm.lt (fun x => x)).trans hm.places
      have hbl := hm.lt
      have hbn : b ≠ w.heap.size := by omega
      clear hI3 hT3 hI hT
      go_wp2
      go_loopg [8] k (fun gk v wx => FarInv w k s len gk v wx)
      case atStart => exact ⟨_, _, 0, s, rfl, hI4, hB4, hT4, by simp [hS], Pu.Dij.start k len s, (Pu.cnt_none k).symm, by omega, Or.inr ⟨s, rfl, Pu.Next.start hs⟩⟩
      case round =>
        clear hI4 hB4 hT4 hS4 hc hf hp2 hS
        obtain ⟨far, done, D, a, rfl, hI, hB, hT, hS, hD, hDc, hgk, hcase⟩ := hrel
        have hle := Pu.cnt_le done k
        rcases hcase with ⟨rfl, hnear⟩ | ⟨a', rfl, hnext⟩
        · have hdist := hD.stop (by omega) hnear
          have HX : Hid (∃ far, Ints wr w.heap.size k far ∧ Pu.Dist k len s far ∧ Turns (fun _ => False) w wr) := ⟨far, hI, hdist, hT⟩
          clear hD hDc hgk hle hnear hdist hI hB hT
          go_wp2
          go_ret
          obtain ⟨far, h1, h2, h3⟩ := HX.out
          exact ⟨far, rfl, h1, h2, h3⟩
        · have hlt := hnext.lt
          have hdc := hB.cell a' hlt
          have hdf := hB.free a' hlt
          have hB1 := hB.set hlt true
          have hT1 : Turns (fun _ => False) w (wr.setCell ⟨w.heap.size + 1, a', none⟩ (.bool true)) := hT.setCell (Or.inl (by simp)) _
          have hI1 : Ints (wr.setCell ⟨w.heap.size + 1, a', none⟩ (.bool true)) w.heap.size k far := hI.turns ((Turns.refl (· = w.heap.size + 1) wr).setCell (Or.inr rfl) _) (by omega)
          have hM1 : MapAt (wr.setCell ⟨w.heap.size + 1, a', none⟩ (.bool true)) b k R len := hm.turns hT1 (fun x => x)
          have hrg := hD.rng a' hlt
          have hf0 := hnext.far0
          have hcl := Pu.cnt_lt hnext.open' k hlt
          have hcu := Pu.cnt_upd hnext.open' k hlt
          have hstep := hD.step L hnext
          have hS1 : (wr.setCell ⟨w.heap.size + 1, a', none⟩ (.bool true)).heap.size = w.heap.size + 2 := by simpa using hS
          go_wp2_with fail
          refine (goOn_any _ b w.heap.size k a' k R len far hn hlt hM1 hI1 hbn (L.rng a') (L.self a') hf0 (by omega)).mono ?_
          rintro e w1 ⟨rfl, hI2, hT2, hS2⟩
          have hB2 : Bools w1 (w.heap.size + 1) k (upd done a' true) := hB1.turns hT2 (by omega)
          have hT3 : Turns (fun _ => False) w w1 := ⟨hT2.os.trans hT1.os, hT2.tape.trans hT1.tape, hT2.output.trans hT1.output, by omega, fun i hi _ => (hT2.block i (by omega) (by omega)).trans (hT1.block i hi (fun x => x))⟩
          clear hB1 hT1 hI1 hM1 hT2 hI hB hT hdc hdf
          go_wp2_with fail
          refine (nearest_any _ w.heap.size (w.heap.size + 1) k _ _ hn hI2 hB2).mono ?_
          rintro e w2 ⟨rfl, hw2⟩
          subst hw2
          have HR : Hid (FarInv w k s len (gk - 1) (.int .i64 (Pu.near (Pu.rel1 (len a') (far a') far) (upd done a' true) k)) w2) := by
            refine ⟨_, _, D + 1, _, rfl, hI2, hB2, hT3, by omega, hstep, by rw [hcu, hDc], by omega, ?_⟩
            by_cases hz : Pu.near (Pu.rel1 (len a') (far a') far) (upd done a' true) k = -1
            · exact Or.inl ⟨hz, hz⟩
            · obtain ⟨x, ex, hx⟩ := hstep.next hz
              exact Or.inr ⟨x, ex, hx⟩
          have hgk' : gk - 1 < gk := by omega
          clear hstep hI2 hB2 hT3 hD hnext
          go_wp2
          go_roundg (gk - 1)
          case measure => exact hgk'
          case rel => exact HR.out
end Go.Proofs.YtdogncjcainhlaaDoor
/- The walks of package hubs: liesBetween, isHub. -/
namespace Go.Proofs.YtdogncjcainhlaaDoor
open Go.RowKit Go.Deep
open Mem

/-- The slice at block fb has n rows, which tell D. -/
def Tab (w : World) (fb n : Nat) (D : Nat → Nat → Int) : Prop := ∀ i, i < n → ∃ r, w.cell? ⟨fb, i, none⟩ = some (.slice (some ⟨r, 0, none⟩) n n) ∧ ∀ j, j < n → w.cell? ⟨r, j, none⟩ = some (.int .i64 (D i j))
theorem Tab.turns {w w' : World} {fb n : Nat} {D : Nat → Nat → Int} (h : Tab w fb n D) (t : Turns (fun _ => False) w w') : Tab w' fb n D := by
  intro i hi
  obtain ⟨r, h1, h2⟩ := h i hi
  exact ⟨r, (t.cell (World.block_lt_of_cell? _ _ h1) (fun x => x)).trans h1, fun j hj => (t.cell (World.block_lt_of_cell? _ _ (h2 j hj)) (fun x => x)).trans (h2 j hj)⟩
/-- The numbers of the table are no greater than they can be. -/
def Small (n : Nat) (D : Nat → Nat → Int) : Prop := ∀ i j, i < n → j < n → D i j = -1 ∨ (0 ≤ D i j ∧ D i j ≤ 40000)

set_option maxHeartbeats 1000000 in
theorem lies_any (w : World) (fb n cap a m b : Nat) (D : Nat → Nat → Int) (hT : Tab w fb n D) (hS : Small n D) (ha : a < n) (hm : m < n) (hb : b < n) :
    Calls Tryd.prog 83 #[.slice (some ⟨fb, 0, none⟩) n cap, .int .i64 a, .int .i64 m, .int .i64 b] w fun e w' => e = .returned (.bool (Pu.lies D a m b)) ∧ ∃ q, w' = w.drewN q := by
  obtain ⟨ra, h1, h2⟩ := hT a ha
  obtain ⟨rm, h3, h4⟩ := hT m hm
  have c1 := h2 m hm
  have c2 := h4 b hb
  have c3 := h2 b hb
  have s1 := hS a m ha hm
  have s2 := hS m b hm hb
  have s3 := hS a b ha hb
  have hai : (a : Int) < (n : Int) := by omega
  have hmi : (m : Int) < (n : Int) := by omega
  have hbi : (b : Int) < (n : Int) := by omega
  have HL : Hid (Pu.lies D a m b = decide (D a m ≠ -1 ∧ D m b ≠ -1 ∧ D a m + D m b = D a b)) := rfl
  generalize Pu.lies D a m b = res at *
  generalize D a m = x at *
  generalize D m b = y at *
  generalize D a b = z at *
  clear h2 h4 hT hS
  by_cases e1 : x = -1
  · have e1' : (x == -1) = true := by simp [e1]
    have HR : Hid (res = false) := by show res = false; rw [HL.out]; simp [e1]
    clear e1 HL
    go_enter Tryd.func83, Tryd.ntmps83
    go_wp2
    go_ret
    exact ⟨by rw [HR.out]; rfl, 0, rfl⟩
  · have e1' : (x == -1) = false := by simp [e1]
    by_cases e2 : y = -1
    · have e2' : (y == -1) = true := by simp [e2]
      have HR : Hid (res = false) := by show res = false; rw [HL.out]; simp [e2]
      clear e1 e2 HL
      go_enter Tryd.func83, Tryd.ntmps83
      go_wp2
      go_ret
      exact ⟨by rw [HR.out]; rfl, 0, rfl⟩
    · have e2' : (y == -1) = false := by simp [e2]
      have HR : Hid (res = (x + y == z)) := by show res = _; rw [HL.out]; by_cases g : x + y = z <;> simp [e1, e2, g]
      have hx0 : 0 ≤ x := by omega
      have hy0 : 0 ≤ y := by omega
      clear e1 e2 HL
      go_enter Tryd.func83, Tryd.ntmps83
      go_wp2
      go_quiet (fail)
      go_wp2
      go_ret
      exact ⟨by rw [HR.out]; rfl, _, rfl⟩

set_option maxHeartbeats 1000000 in
theorem isHub_any (w : World) (fb n cap v h ob k ocap : Nat) (D : Nat → Nat → Int) (pre : List Nat) (hT : Tab w fb n D) (hS : Small n D) (hv : v < n) (hh : h < n) (hk : pre.length = k) (hkn : k ≤ 40)
    (hp : ∀ (j m : Nat), pre[j]? = some m → m < n ∧ w.cell? ⟨ob, j, none⟩ = some (.int .i64 (m : Int))) :
    Calls Tryd.prog 64 #[.slice (some ⟨fb, 0, none⟩) n cap, .int .i64 v, .int .i64 h, .slice (some ⟨ob, 0, none⟩) k ocap] w fun e w' => e = .returned (.bool (Pu.isHub D v h pre)) ∧ ∃ q, w' = w.drewN q := by
  obtain ⟨rv, h1, h2⟩ := hT v hv
  have c1 := h2 h hh
  have s1 := hS v h hv hh
  have hvi : (v : Int) < (n : Int) := by omega
  have hhi : (h : Int) < (n : Int) := by omega
  by_cases e1 : D v h = -1
  · have HR : Hid (Pu.isHub D v h pre = false) := by show Pu.isHub D v h pre = false; unfold Pu.isHub; simp [e1]
    have e1' : (D v h == -1) = true := by simp [e1]
    generalize Pu.isHub D v h pre = res at *
    generalize D v h = x at *
    clear h2 hT hS hp e1
    go_enter Tryd.func64, Tryd.ntmps64
    go_wp2
    go_ret
    exact ⟨by rw [HR.out]; rfl, 0, rfl⟩
  · have e1' : (D v h == -1) = false := by simp [e1]
    have HI : Hid (∀ (j m : Nat), pre[j]? = some m → Pu.lies D v m h = true → Pu.isHub D v h pre = false) := by
      intro j m hj hl
      by_cases c : Pu.isHub D v h pre = true
      · have := (Pu.isHub_iff.1 c).2 m (List.mem_of_getElem? hj); rw [hl] at this; cases this
      · simpa using c
    have HE : Hid ((∀ (j m : Nat), pre[j]? = some m → Pu.lies D v m h = false) → Pu.isHub D v h pre = true) := by
      intro hall
      refine Pu.isHub_iff.2 ⟨e1, fun m hm => ?_⟩
      obtain ⟨j, hj⟩ := List.mem_iff_getElem?.1 hm
      exact hall j m hj
    have HL : Hid (∀ m, m < n → ∀ q, Calls Tryd.prog 83 #[.slice (some ⟨fb, 0, none⟩) n cap, .int .i64 v, .int .i64 m, .int .i64 h] (w.drewN q) fun e w' => e = .returned (.bool (Pu.lies D v m h)) ∧ ∃ q', w' = (w.drewN q).drewN q') :=
      fun m hm q => lies_any (w.drewN q) fb n cap v m h D (hT.turns ((Turns.refl _ w).drewN q)) hS hv hm hh
    generalize Pu.isHub D v h pre = res at *
    generalize D v h = x at *
    clear h2 hT hS e1
    go_enter Tryd.func64, Tryd.ntmps64
    go_wp2
    go_loopw [21] (fun jv wx => ∃ j q : Nat, jv = .int .i64 j ∧ j ≤ k ∧ (∀ (i m : Nat), i < j → pre[i]? = some m → Pu.lies D v m h = false) ∧ wx = w.drewN q) (fun jv _ => k - (intOf jv).toNat)
    case atStart => exact ⟨0, 0, rfl, Nat.zero_le _, fun i m hi => by omega, rfl⟩
    case round =>
      obtain ⟨j, q, rfl, hj, hno, hwr⟩ := hrel
      have HWR : Hid (wr = w.drewN q) := hwr
      by_cases hjk : j < k
      · obtain ⟨m, hm⟩ : ∃ m, pre[j]? = some m := ⟨_, List.getElem?_eq_getElem (by omega)⟩
        obtain ⟨hmn, hc⟩ := hp j m hm
        have hc' : wr.cell? ⟨ob, j, none⟩ = some (.int .i64 (m : Int)) := by rw [hwr]; exact hc
        have hji : (j : Int) < (k : Int) := by omega
        have c4 := HL.out m hmn q
        rw [← hwr] at c4
        have HM : Hid (pre[j]? = some m) := hm
        cases hl : Pu.lies D v m h with
        | true =>
          rw [hl] at c4
          have HR : Hid (res = false) := HI.out j m hm hl
          clear hm hno hp hc HI HE hl HL hwr
          go_wp2_with fail
          refine c4.mono ?_
          rintro e w2 ⟨rfl, q', hw2⟩
          clear c4
          go_wp2
          go_ret
          exact ⟨by rw [HR.out]; rfl, q + q', by rw [HWR.out, World.drewN_drewN]⟩
        | false =>
          rw [hl] at c4
          have HX : Hid (∀ q', ∃ j' q'' : Nat, (Value.int .i64 ((j : Int) + 1)) = .int .i64 j' ∧ j' ≤ k ∧ (∀ (i m : Nat), i < j' → pre[i]? = some m → Pu.lies D v m h = false) ∧ wr.drewN q' = w.drewN q'') := by
            intro q'
            refine ⟨j + 1, q + q', by go_num, by omega, fun i m' hi hm' => ?_, by rw [hwr, World.drewN_drewN]⟩
            by_cases c : i = j
            · subst c; rw [HM.out] at hm'; cases hm'; exact hl
            · exact hno i m' (by omega) hm'
          clear hm hno hp hc HI HE hl HL HM hwr
          go_wp2_with fail
          refine c4.mono ?_
          rintro e w2 ⟨rfl, q', hw2⟩
          subst hw2
          clear c4
          go_wp2
          go_roundw
          case measure => simp [intOf]; omega
          case rel => exact HX.out _
      · have hjk' : ¬ (j : Int) < (k : Int) := by omega
        have HR : Hid (res = true) := HE.out (fun i m hm => hno i m (by have := (List.getElem?_eq_some_iff.1 hm).1; omega) hm)
        clear hno hp HI HE HL hwr
        go_wp2
        go_ret
        exact ⟨by rw [HR.out]; rfl, q, HWR.out⟩
#print axioms isHub_any
end Go.Proofs.YtdogncjcainhlaaDoor
/- The walk of hubs.Labels. -/
namespace Go.Proofs.YtdogncjcainhlaaDoor
open Go.RowKit Go.Deep
open Mem

theorem infoL41 : (Tryd.prog.info? 41).map (fun i => (i.zero, i.size, i.bytes)) = some (some (.slice none 0 0), 1, 24) := by kernel_rfl
theorem infoL54 : (Tryd.prog.info? 54).map (fun i => (i.zero, i.size, i.bytes)) = some (some (.agg #[.int .i64 0, .int .i64 0, .int .i64 0]), 3, 24) := by kernel_rfl

/-- The cells of an order. -/
def Ord (w : World) (ob n : Nat) (O : List Nat) : Prop := O.length = n ∧ ∀ (j m : Nat), O[j]? = some m → m < n ∧ w.cell? ⟨ob, j, none⟩ = some (.int .i64 (m : Int))
theorem Ord.turns {w w' : World} {ob n : Nat} {O : List Nat} (h : Ord w ob n O) (t : Turns (fun _ => False) w w') : Ord w' ob n O :=
  ⟨h.1, fun j m hm => ⟨(h.2 j m hm).1, (t.cell (World.block_lt_of_cell? _ _ (h.2 j m hm).2) (fun x => x)).trans (h.2 j m hm).2⟩⟩

/-- What holds ahead of each round of the first loop: the rows of the first k places stand. -/
def Lab1 (w : World) (n : Nat) (D : Nat → Nat → Int) (iv : Value) (wr : World) : Prop :=
  ∃ k : Nat, iv = .int .i64 k ∧ k ≤ n ∧ (∀ i, i < k → ∃ r, w.heap.size < r ∧ wr.cell? ⟨w.heap.size, i, none⟩ = some (.slice (some ⟨r, 0, none⟩) n n) ∧ ∀ j, j < n → wr.cell? ⟨r, j, none⟩ = some (.int .i64 (D i j))) ∧
    (∀ i, k ≤ i → i < n → wr.cell? ⟨w.heap.size, i, none⟩ = some (.slice none 0 0)) ∧ (∀ i, wr.frozen? ⟨w.heap.size, i, none⟩ = false) ∧ w.heap.size < wr.heap.size ∧ Turns (fun _ => False) w wr
/-- What holds ahead of each round of the second loop: the labels so far. -/
def Lab2 (w w2 : World) (L : List Pu.Rd) (v : Value) (wr : World) : Prop :=
  wr.ownsRow w2.heap.size 54 3 v L.length (Pu.rdVals L) ∧ Turns (fun _ => False) w2 wr ∧ Turns (fun _ => False) w wr

set_option maxRecDepth 100000 in
set_option maxHeartbeats 2000000 in
theorem hubs_any (w : World) (b n ob ocap : Nat) (R : Int) (len D : Nat → Nat → Int) (O : List Nat) (hn1 : 1 ≤ n) (hn : n ≤ 40) (hM : MapAt w b n R len) (L : Pu.Lens len) (hD : ∀ i, i < n → Pu.Dist n len i (D i)) (hO : Ord w ob n O) (hoc : n ≤ ocap) :
    Calls Tryd.prog 48 #[.pointer (some ⟨b, 0, none⟩), .slice (some ⟨ob, 0, none⟩) n ocap] w fun e w' => Turns (fun _ => False) w w' ∧ ∃ v, e = .returned v ∧ w'.ownsRow w.heap.size 54 3 v (Pu.labP D O n).length (Pu.rdVals (Pu.labP D O n)) := by
  have hmk := run_make_row' (P := Tryd.prog) 33 41 (.slice none 0 0) 24 Tryd.underlying33 infoL41 rfl .i64 .i64 n (by omega) (by omega)
  obtain ⟨i0, hi, hz0, hz1, hz2⟩ := info_parts infoL54
  have hp := hM.places
  have hS : Small n D := fun i j hi hj => (hD i hi).rng j hj
  have HM : Hid (MapAt w b n R len) := hM
  have h0 : Hid (Lab1 w n D (.int .i64 0) (w.alloc (.cells (madeCells #[.slice none 0 0] n) 41))) :=
    ⟨0, rfl, Nat.zero_le _, fun i hi => by omega, fun i _ hi => by rw [World.cell?_alloc_new]; exact made_get _ _ _ hi, fun i => World.frozen?_alloc_new _ _ _ _, by simp, (Turns.refl _ _).alloc _⟩
  have hbl := hM.lt
  go_enter Tryd.func48, Tryd.ntmps48
  go_wp2
  go_loopw [18] (fun iv wr => Lab1 w n D iv wr) (fun iv _ => n - (intOf iv).toNat)
  case atStart => exact h0.out
  case round =>
    clear h0
    obtain ⟨k, rfl, hk, hrow, hnil, hfr, hsz, hT⟩ := hrel
    by_cases hlt : k < n
    · have hki : (k : Int) < (n : Int) := by omega
      have hMr := HM.out.turns hT (fun x => x)
      have c3 := farFrom_any wr b n k R len hn hlt hMr L
      have HA : Hid (∀ (far : Nat → Int) (w3 : World), Ints w3 wr.heap.size n far → Pu.Dist n len k far → Turns (fun _ => False) wr w3 → w3.cell? ⟨w.heap.size, k, none⟩ = some (.slice none 0 0) ∧ w3.frozen? ⟨w.heap.size, k, none⟩ = false ∧
          Lab1 w n D (.int .i64 ((k : Int) + 1)) (w3.setCell ⟨w.heap.size, k, none⟩ (.slice (some ⟨wr.heap.size, 0, none⟩) n n))) := by
        intro far w3 hI hDf hT3
        have hc : w3.cell? ⟨w.heap.size, k, none⟩ = some (.slice none 0 0) := (hT3.cell (a := ⟨w.heap.size, k, none⟩) hsz (fun x => x)).trans (hnil k (Nat.le_refl _) hlt)
        refine ⟨hc, (hT3.frozen (a := ⟨w.heap.size, k, none⟩) hsz (fun x => x)).trans (hfr k), k + 1, by go_num, by omega, ?_, ?_, ?_, ?_, ?_⟩
        · intro i hi
          have oth : ∀ (r j : Nat), w.heap.size < r → (w3.setCell ⟨w.heap.size, k, none⟩ (.slice (some ⟨wr.heap.size, 0, none⟩) n n)).cell? ⟨r, j, none⟩ = w3.cell? ⟨r, j, none⟩ := fun r j hr => World.cell?_setCell_other _ _ _ _ (by intro c; injection c with c; omega)
          by_cases e : i = k
          · subst e
            refine ⟨wr.heap.size, hsz, World.cell?_setCell_same _ _ _ hc, fun j hj => ?_⟩
            rw [oth _ _ hsz, hI.cell j hj, Pu.Dist.unique L hDf (hD i hlt) j hj]
          · obtain ⟨r, h1, h2, h3⟩ := hrow i (by omega)
            refine ⟨r, h1, ?_, fun j hj => ?_⟩
            · rw [World.cell?_setCell_other _ _ _ _ (by intro c; injection c with _ c; omega)]
              exact (hT3.cell (a := ⟨w.heap.size, i, none⟩) hsz (fun x => x)).trans h2
            · rw [oth _ _ h1]
              exact (hT3.cell (World.block_lt_of_cell? _ _ (h3 j hj)) (fun x => x)).trans (h3 j hj)
        · intro i h1 h2
          rw [World.cell?_setCell_other _ _ _ _ (by intro c; injection c with _ c; omega)]
          exact (hT3.cell (a := ⟨w.heap.size, i, none⟩) hsz (fun x => x)).trans (hnil i (by omega) h2)
        · intro i
          rw [World.frozen?_setCell]
          exact (hT3.frozen (a := ⟨w.heap.size, i, none⟩) hsz (fun x => x)).trans (hfr i)
        · have := hT3.size; simp; omega
        · exact (hT.trans hT3).setCell (Or.inl (Nat.le_refl _)) _
      clear hMr hrow hnil hfr hT hM hD hO
      go_wp2_with fail
      refine c3.mono ?_
      rintro e w3 ⟨far, rfl, hI, hDf, hT3⟩
      obtain ⟨d1, d2, d3⟩ := HA.out far w3 hI hDf hT3
      have HX : Hid (Lab1 w n D (.int .i64 ((k : Int) + 1)) (w3.setCell ⟨w.heap.size, k, none⟩ (.slice (some ⟨wr.heap.size, 0, none⟩) n n))) := d3
      clear c3 HA hI hDf hT3 d3
      go_wp2
      go_roundw
      case measure => simp [intOf]; omega
      case rel => exact HX.out
    · have hkn : k = n := by omega
      subst hkn
      obtain ⟨w2, hw2⟩ : ∃ w2, w2 = wr := ⟨_, rfl⟩
      subst hw2
      have hTab : Tab w2 w.heap.size k D := fun i hi => by obtain ⟨r, _, h2, h3⟩ := hrow i hi; exact ⟨r, h2, h3⟩
      have hOr := hO.turns hT
      have c0 : w2.cell? ⟨b, 0, none⟩ = some (.int .i64 k) := (hT.cell (a := ⟨b, 0, none⟩) hbl (fun x => x)).trans hp
      have HT : Hid (Turns (fun _ => False) w w2) := hT
      have hsz2 := hT.size
      have HT2 : Hid (Tab w2 w.heap.size k D ∧ Ord w2 ob k O) := ⟨hTab, hOr⟩
      clear hrow hnil hfr hT hTab hOr hM hO hmk
      have hS0 : Hid (Lab2 w w2 [] (.slice none 0 0) w2) := ⟨World.ownsRow_nil _ _ _ _, Turns.refl _ _, HT.out⟩
      have hOl := HT2.out.2.1
      go_wp2
      go_loopw [7, 32] (fun v pv wr => ∃ (p : Nat) (vv : Value), vv = v ∧ pv = .int .i64 p ∧ p ≤ k ∧ Lab2 w w2 (Pu.labP D O p) vv wr) (fun _ pv _ => k - (intOf pv).toNat)
      case atStart => exact ⟨0, _, rfl, rfl, Nat.zero_le _, hS0.out⟩
      case round =>
        clear hS0
        obtain ⟨p, v, hv, rfl, hp', hLb⟩ := hrel
        subst hv
        by_cases hpk : p < k
        · have hpi : (p : Int) < (k : Int) := by omega
          have hL0 : Hid (Lab2 w w2 (Pu.labP D O p ++ Pu.labK D O p 0) v wr) := by rw [Pu.labK, List.append_nil]; exact hLb
          have hpl := Pu.labP_len D O p
          have hpm : (Pu.labP D O p).length ≤ 1600 := by
            have : p * O.length ≤ 40 * 40 := Nat.mul_le_mul (by omega) (by omega)
            omega
          clear hLb hpl
          go_wp2
          go_loopw [7, 37] (fun v jv wr => ∃ (j : Nat) (vv : Value), vv = v ∧ jv = .int .i64 j ∧ j ≤ k ∧ Lab2 w w2 (Pu.labP D O p ++ Pu.labK D O p j) vv wr) (fun _ jv _ => k - (intOf jv).toNat)
          case atStart => exact ⟨0, _, rfl, rfl, Nat.zero_le _, hL0.out⟩
          case round =>
            clear hL0
            obtain ⟨j, v', hv', rfl, hj, hown, hTr, hTw⟩ := hrel
            subst hv'
            by_cases hjk : j < k
            · have hji : (j : Int) < (k : Int) := by omega
              have hjc : (j : Int) ≤ (ocap : Int) := by omega
              obtain ⟨h, hh⟩ : ∃ h, O[j]? = some h := ⟨_, List.getElem?_eq_getElem (by omega)⟩
              have hTab := HT2.out.1.turns hTr
              have hOr := HT2.out.2.turns hTr
              obtain ⟨hhn, hch⟩ := hOr.2 j h hh
              obtain ⟨rp, t1, t2⟩ := hTab p hpk
              have t3 := t2 h hhn
              have c4 := isHub_any wr w.heap.size k k p h ob j ocap D (O.take j) hTab hS hpk hhn (by rw [List.length_take]; omega) (by omega)
                (fun i m hm => by
                  have hij : i < j := by
                    have := (List.getElem?_eq_some_iff.1 hm).1
                    rw [List.length_take] at this; omega
                  rw [List.getElem?_take_of_lt hij] at hm
                  exact hOr.2 i m hm)
              have hkl := Pu.labK_len D O p j
              have hhi : (h : Int) < (k : Int) := by omega
              have bD := hS p h hpk hhn
              have HO : Hid (wr.ownsRow w2.heap.size 54 3 v' (Pu.labP D O p ++ Pu.labK D O p j).length (Pu.rdVals (Pu.labP D O p ++ Pu.labK D O p j)) ∧ Turns (fun _ => False) w2 wr ∧ Turns (fun _ => False) w wr) := ⟨hown, hTr, hTw⟩
              cases hb : Pu.isHub D p h (O.take j) with
              | false =>
                rw [hb] at c4
                have HX : Hid (∀ q, ∃ (j' : Nat) (vv : Value), vv = v' ∧ (Value.int .i64 ((j : Int) + 1)) = .int .i64 j' ∧ j' ≤ k ∧ Lab2 w w2 (Pu.labP D O p ++ Pu.labK D O p j') vv (wr.drewN q)) := fun q => ⟨j + 1, v', rfl, by go_num, by omega, by rw [Pu.labK_miss hh hb]; exact ⟨HO.out.1, HO.out.2.1.drewN q, HO.out.2.2.drewN q⟩⟩
                clear hown hTr hTw hTab hOr t2 hb HO
                go_wp2_with fail
                refine c4.mono ?_
                rintro e w3 ⟨rfl, q, hw3⟩
                subst hw3
                clear c4
                go_wp2
                go_roundw
                case measure => simp [intOf]; omega
                case rel => exact HX.out _
              | true =>
                rw [hb] at c4
                have HV : Hid (Pu.rdVals (Pu.labP D O p ++ Pu.labK D O p j) ++ [.int .i64 p, .int .i64 h, .int .i64 (D p h)] = Pu.rdVals (Pu.labP D O p ++ Pu.labK D O p (j + 1))) := by
                  show _ = _
                  rw [Pu.labK_hit hh hb, ← List.append_assoc, Pu.rdVals_append (Pu.labP D O p ++ Pu.labK D O p j)]; rfl
                have HLn : Hid ((Pu.labP D O p ++ Pu.labK D O p (j + 1)).length = (Pu.labP D O p ++ Pu.labK D O p j).length + 1) := by
                  show _ = _
                  rw [Pu.labK_hit hh hb]; simp; try omega
                have hll : (Pu.labP D O p ++ Pu.labK D O p j).length ≤ 2000 := by rw [List.length_append]; omega
                obtain ⟨LL, hLL⟩ : ∃ LL, (Pu.labP D O p ++ Pu.labK D O p j) = LL := ⟨_, rfl⟩
                obtain ⟨x, hx⟩ : ∃ x, D p h = x := ⟨_, rfl⟩
                rw [hLL] at HV HLn hll HO
                rw [hx] at t3 HV
                clear hown hTr hTw hTab hOr t2 hb hLL hkl bD hx
                go_wp2_with fail
                refine c4.mono ?_
                rintro e w3 ⟨rfl, q, hw3⟩
                have e1 : w3.cell? ⟨w.heap.size, p, none⟩ = some (.slice (some ⟨rp, 0, none⟩) k k) := by rw [hw3]; exact t1
                have e2 : w3.cell? ⟨rp, h, none⟩ = some (.int .i64 x) := by rw [hw3]; exact t3
                have hown3 : w3.ownsRow w2.heap.size 54 3 v' LL.length (Pu.rdVals LL) := by rw [hw3]; exact HO.out.1
                have hT3 : Turns (fun _ => False) w2 w3 := by rw [hw3]; exact HO.out.2.1.drewN q
                have hTw3 : Turns (fun _ => False) w w3 := by rw [hw3]; exact HO.out.2.2.drewN q
                have hs3 := hT3.size
                clear c4 hw3 HO
                go_wp2_with (at_builtin; refine wpList_append_own _ rfl _ _ 48 rfl w2.heap.size 54 i0 _ 3 24 Tryd.underlying48 hi hz0 hz1 hz2 rfl (by decide) _ _ _ rfl (hown3.alloc _) ⟨w3.heap.size, 0, none⟩ 1 1 [.int .i64 p, .int .i64 h, .int .i64 x] rfl rfl ?c1 ?c2 ?c3 ?c4 ?c5 ?_)
                case c1 => exact World.news_of_block (cs := #[.int .i64 p, .int .i64 h, .int .i64 x]) (heap_alloc_new w3 _)
                case c2 => intro u hu; simp at hu; rcases hu with rfl | rfl | rfl <;> rfl
                case c3 => unfold maxLen; omega
                case c4 => omega
                case c5 => simp; omega
                intro v'' w4 hown4 hgrow _
                have hT4 : Turns (fun _ => False) w2 w4 := (hT3.alloc _).grown hgrow (fun q hq => Or.inl (hown3.lt q hq).1)
                have hTw4 : Turns (fun _ => False) w w4 := (hTw3.alloc _).grown hgrow (fun q hq => Or.inl (by have := (hown3.lt q hq).1; omega))
                rw [HV.out] at hown4
                rw [← HLn.out] at hown4
                have HX : Hid (∃ (j' : Nat) (vv : Value), vv = v'' ∧ (Value.int .i64 ((j : Int) + 1)) = .int .i64 j' ∧ j' ≤ k ∧ Lab2 w w2 (Pu.labP D O p ++ Pu.labK D O p j') vv w4) := ⟨j + 1, v'', rfl, by go_num, by omega, hown4, hT4, hTw4⟩
                clear hown4 hgrow hT4 hTw4 hT3 hTw3 hown3 HV HLn
                go_wp2
                go_roundw
                case measure => simp [intOf]; omega
                case rel => exact HX.out
            · have hjk' : j = k := by omega
              have HX : Hid (∃ (p' : Nat) (vv : Value), vv = v' ∧ (Value.int .i64 ((p : Int) + 1)) = .int .i64 p' ∧ p' ≤ k ∧ Lab2 w w2 (Pu.labP D O p') vv wr) := ⟨p + 1, v', rfl, by go_num, by omega, by rw [Pu.labP, hOl, ← hjk']; exact ⟨hown, hTr, hTw⟩⟩
              clear hown hTr hTw
              subst hjk'
              go_wp2
              go_roundw
              case measure => simp [intOf]; omega
              case rel => exact HX.out
        · have hpk' : p = k := by omega
          obtain ⟨h1, h2, h3⟩ := hLb
          have HX : Hid (Turns (fun _ => False) w wr ∧ wr.ownsRow w.heap.size 54 3 v (Pu.labP D O k).length (Pu.rdVals (Pu.labP D O k))) := ⟨h3, by rw [← hpk']; exact owns_mono h1 hsz2⟩
          clear h1 h2 h3
          subst hpk'
          go_wp2
          go_ret
          exact ⟨HX.out.1, v, rfl, HX.out.2⟩
#print axioms hubs_any
end Go.Proofs.YtdogncjcainhlaaDoor
/- The walks of bywaykeep.least and bywaykeep.label. -/
namespace Go.Proofs.YtdogncjcainhlaaDoor
open Go.RowKit Go.Deep
open Mem
namespace Pu

/-- By the labels number i and j it is s far from u to v; the label number o is left out. -/
def Pr (L : List Rd) (o : Int) (u v i j : Nat) (s : Int) : Prop := ∃ h f f', L[i]? = some (u, h, f) ∧ L[j]? = some (v, h, f') ∧ (i : Int) ≠ o ∧ (j : Int) ≠ o ∧ s = f + f'
/-- The least of some numbers, or -1. -/
def Best (S : Int → Prop) (b : Int) : Prop := (b = -1 ∧ ∀ s, ¬ S s) ∨ (S b ∧ 0 ≤ b ∧ ∀ s, S s → b ≤ s)
/-- What the pairs ahead of (i, j) tell. -/
def Ahead (L : List Rd) (o : Int) (u v i j : Nat) (s : Int) : Prop := ∃ i' j', (i' < i ∨ (i' = i ∧ j' < j)) ∧ Pr L o u v i' j' s
theorem Best.none {S : Int → Prop} (h : ∀ s, ¬ S s) : Best S (-1) := Or.inl ⟨rfl, h⟩
theorem Best.congr {S S' : Int → Prop} {b : Int} (h : Best S b) (e : ∀ s, S s ↔ S' s) : Best S' b := by
  rcases h with ⟨h1, h2⟩ | ⟨h1, h0, h2⟩
  · exact Or.inl ⟨h1, fun s c => h2 s ((e s).2 c)⟩
  · exact Or.inr ⟨(e b).1 h1, h0, fun s c => h2 s ((e s).2 c)⟩
theorem Ahead.next {L : List Rd} {o : Int} {u v i j : Nat} (s : Int) : Ahead L o u v i (j + 1) s ↔ Ahead L o u v i j s ∨ Pr L o u v i j s := by
  constructor
  · rintro ⟨i', j', h1, h2⟩
    by_cases c : i' = i ∧ j' = j
    · obtain ⟨rfl, rfl⟩ := c; exact Or.inr h2
    · exact Or.inl ⟨i', j', by omega, h2⟩
  · rintro (⟨i', j', h1, h2⟩ | h)
    · exact ⟨i', j', by omega, h2⟩
    · exact ⟨i, j, by omega, h⟩
theorem Ahead.row {L : List Rd} {o : Int} {u v i : Nat} (s : Int) : Ahead L o u v i L.length s ↔ Ahead L o u v (i + 1) 0 s := by
  constructor
  · rintro ⟨i', j', h1, h2⟩; exact ⟨i', j', by omega, h2⟩
  · rintro ⟨i', j', h1, h2⟩
    obtain ⟨_, _, _, _, h3, _⟩ := id h2
    have := (List.getElem?_eq_some_iff.1 h3).1
    exact ⟨i', j', by omega, h2⟩
theorem Best.miss {L : List Rd} {o : Int} {u v i j : Nat} {b : Int} (h : Best (Ahead L o u v i j) b) (hn : ∀ s, ¬ Pr L o u v i j s) : Best (Ahead L o u v i (j + 1)) b :=
  h.congr (fun s => ⟨fun c => (Ahead.next s).2 (Or.inl c), fun c => ((Ahead.next s).1 c).elim id (fun c => absurd c (hn s))⟩)
theorem Pr.one {L : List Rd} {o : Int} {u v i j : Nat} {s s' : Int} (h : Pr L o u v i j s) (h' : Pr L o u v i j s') : s = s' := by
  obtain ⟨a, b, c, h1, h2, _, _, h3⟩ := h
  obtain ⟨a', b', c', h1', h2', _, _, h3'⟩ := h'
  rw [h1] at h1'
  rw [h2] at h2'
  simp only [Option.some.injEq, Prod.mk.injEq] at h1' h2'
  omega
theorem Best.take {L : List Rd} {o : Int} {u v i j : Nat} {b s : Int} (h : Best (Ahead L o u v i j) b) (hp : Pr L o u v i j s) (h0 : 0 ≤ s) (hl : b < 0 ∨ s < b) : Best (Ahead L o u v i (j + 1)) s := by
  refine Or.inr ⟨(Ahead.next s).2 (Or.inr hp), h0, fun s' c => ?_⟩
  rcases (Ahead.next s').1 c with c | c
  · rcases h with ⟨_, h2⟩ | ⟨_, _, h2⟩
    · exact absurd c (h2 s')
    · have := h2 s' c; omega
  · have := Pr.one hp c; omega
theorem Best.keep {L : List Rd} {o : Int} {u v i j : Nat} {b s : Int} (h : Best (Ahead L o u v i j) b) (hp : Pr L o u v i j s) (hl : ¬ (b < 0 ∨ s < b)) : Best (Ahead L o u v i (j + 1)) b := by
  rcases h with ⟨h1, _⟩ | ⟨h1, h0, h2⟩
  · omega
  · refine Or.inr ⟨(Ahead.next b).2 (Or.inl h1), h0, fun s' c => ?_⟩
    rcases (Ahead.next s').1 c with c | c
    · exact h2 s' c
    · have := Pr.one hp c; omega
/-- All labels. -/
def Through (L : List Rd) (o : Int) (u v : Nat) (s : Int) : Prop := ∃ i j, Pr L o u v i j s
theorem Ahead.all {L : List Rd} {o : Int} {u v : Nat} (s : Int) : Ahead L o u v L.length 0 s ↔ Through L o u v s := by
  constructor
  · rintro ⟨i, j, _, h⟩; exact ⟨i, j, h⟩
  · rintro ⟨i, j, h⟩
    obtain ⟨_, _, _, h1, _⟩ := id h
    have := (List.getElem?_eq_some_iff.1 h1).1
    exact ⟨i, j, by omega, h⟩
end Pu

/-- The labels L lie at block g. -/
def LabAt (w : World) (g : Nat) (L : List Pu.Rd) : Prop := ∀ (i p h : Nat) (f : Int), L[i]? = some (p, h, f) → w.cell? ⟨g, i * 3, none⟩ = some (.int .i64 (p : Int)) ∧ w.cell? ⟨g, i * 3 + 1, none⟩ = some (.int .i64 (h : Int)) ∧ w.cell? ⟨g, i * 3 + 2, none⟩ = some (.int .i64 f)
theorem LabAt.turns {w w' : World} {g : Nat} {L : List Pu.Rd} (h : LabAt w g L) (t : Turns (fun _ => False) w w') : LabAt w' g L := by
  intro i p a f hi
  obtain ⟨h1, h2, h3⟩ := h i p a f hi
  exact ⟨(t.cell (World.block_lt_of_cell? _ _ h1) (fun x => x)).trans h1, (t.cell (World.block_lt_of_cell? _ _ h2) (fun x => x)).trans h2, (t.cell (World.block_lt_of_cell? _ _ h3) (fun x => x)).trans h3⟩

/-- What holds ahead of each round of least's loops. -/
def LeastInv (w : World) (L : List Pu.Rd) (o : Int) (u v : Nat) (i j : Nat) (bv : Value) (wr : World) : Prop := ∃ (b : Int) (q : Nat), bv = .int .i64 b ∧ Pu.Best (Pu.Ahead L o u v i j) b ∧ -1 ≤ b ∧ b ≤ 100000 ∧ wr = w.drewN q

set_option maxRecDepth 100000 in
set_option maxHeartbeats 2000000 in
theorem least_any (w : World) (g cap N : Nat) (L : List Pu.Rd) (o : Int) (u v : Nat) (hN : L.length = N) (hNb : N ≤ 2000) (hL : LabAt w g L) (hf : ∀ x ∈ L, 0 ≤ x.2.2 ∧ x.2.2 ≤ 40000) (hu : u ≤ 100) (hv : v ≤ 100) :
    Calls Tryd.prog 20 #[.slice (some ⟨g, 0, none⟩) N cap, .int .i64 o, .int .i64 u, .int .i64 v] w fun e w' => (∃ b, e = .returned (.int .i64 b) ∧ Pu.Best (Pu.Through L o u v) b) ∧ ∃ q, w' = w.drewN q := by
  have HL : Hid (LabAt w g L) := hL
  have HF : Hid (∀ x ∈ L, 0 ≤ x.2.2 ∧ x.2.2 ≤ 40000) := hf
  have HN : Hid (L.length = N) := hN
  clear hL hf hN
  go_enter Tryd.func20, Tryd.ntmps20
  go_wp2
  go_loopw [9, 10] (fun bv iv wr => ∃ i : Nat, iv = .int .i64 i ∧ i ≤ N ∧ LeastInv w L o u v i 0 bv wr) (fun _ iv _ => N - (intOf iv).toNat)
  case atStart => exact ⟨0, rfl, Nat.zero_le _, -1, 0, rfl, Pu.Best.none (fun s => by rintro ⟨i', j', h, _⟩; omega), by omega, by omega, rfl⟩
  case round =>
    obtain ⟨i, rfl, hi, hinv⟩ := hrel
    by_cases hiN : i < N
    · have hii : (i : Int) < (N : Int) := by omega
      obtain ⟨b0, q0, hb0, hinv'⟩ := hinv
      subst hb0
      have HI : Hid (LeastInv w L o u v i 0 (.int .i64 b0) wr) := ⟨b0, q0, rfl, hinv'⟩
      clear hinv'
      go_wp2
      go_loopw [9, 11] (fun bv jv wr => ∃ j : Nat, jv = .int .i64 j ∧ j ≤ N ∧ LeastInv w L o u v i j bv wr) (fun _ jv _ => N - (intOf jv).toNat)
      case atStart => exact ⟨0, rfl, Nat.zero_le _, HI.out⟩
      case round =>
        clear HI
        obtain ⟨j, rfl, hj, b, q, rfl, hB, hb1, hb2, hwr⟩ := hrel
        by_cases hjN : j < N
        · have hji : (j : Int) < (N : Int) := by omega
          obtain ⟨p1, h1, f1, e1⟩ : ∃ p h f, L[i]? = some (p, h, f) := ⟨L[i]'(by have := HN.out; omega) |>.1, L[i]'(by have := HN.out; omega) |>.2.1, L[i]'(by have := HN.out; omega) |>.2.2, List.getElem?_eq_getElem _⟩
          obtain ⟨p2, h2, f2, e2⟩ : ∃ p h f, L[j]? = some (p, h, f) := ⟨L[j]'(by have := HN.out; omega) |>.1, L[j]'(by have := HN.out; omega) |>.2.1, L[j]'(by have := HN.out; omega) |>.2.2, List.getElem?_eq_getElem _⟩
          have hLr : LabAt wr g L := by rw [hwr]; exact HL.out.turns ((Turns.refl _ w).drewN q)
          obtain ⟨c1, c2, c3⟩ := hLr i p1 h1 f1 e1
          obtain ⟨d1, d2, d3⟩ := hLr j p2 h2 f2 e2
          have bf1 := HF.out _ (List.mem_of_getElem? e1)
          have bf2 := HF.out _ (List.mem_of_getElem? e2)
          simp only at bf1 bf2
          have HMISS : Hid ((∀ s, ¬ Pu.Pr L o u v i j s) → ∀ nq, ∃ j' : Nat, (Value.int .i64 ((j : Int) + 1)) = .int .i64 j' ∧ j' ≤ N ∧ LeastInv w L o u v i j' (.int .i64 b) (wr.drewN nq)) :=
            fun hm nq => ⟨j + 1, by go_num, by omega, b, q + nq, rfl, hB.miss hm, hb1, hb2, by rw [hwr, World.drewN_drewN]⟩
          have HHIT : Hid (Pu.Pr L o u v i j (f1 + f2) → ∀ nq b', (b' = f1 + f2 ∧ (b < 0 ∨ f1 + f2 < b)) ∨ (b' = b ∧ ¬ (b < 0 ∨ f1 + f2 < b)) → ∃ j' : Nat, (Value.int .i64 ((j : Int) + 1)) = .int .i64 j' ∧ j' ≤ N ∧ LeastInv w L o u v i j' (.int .i64 b') (wr.drewN nq)) := by
            rintro hp nq b' (⟨rfl, hb⟩ | ⟨rfl, hb⟩)
            · exact ⟨j + 1, by go_num, by omega, _, q + nq, rfl, hB.take hp (by omega) hb, by omega, by omega, by rw [hwr, World.drewN_drewN]⟩
            · exact ⟨j + 1, by go_num, by omega, _, q + nq, rfl, hB.keep hp hb, hb1, hb2, by rw [hwr, World.drewN_drewN]⟩
          have HP : Hid (Pu.Pr L o u v i j (f1 + f2) ↔ (i : Int) ≠ o ∧ (j : Int) ≠ o ∧ p1 = u ∧ p2 = v ∧ h1 = h2) := by
            constructor
            · rintro ⟨a, x, y, k1, k2, k3, k4, _⟩
              rw [e1] at k1; rw [e2] at k2
              simp only [Option.some.injEq, Prod.mk.injEq] at k1 k2
              exact ⟨k3, k4, k1.1, k2.1, by omega⟩
            · rintro ⟨k3, k4, rfl, rfl, rfl⟩
              exact ⟨h1, f1, f2, e1, e2, k3, k4, rfl⟩
          have HPN : Hid (¬ ((i : Int) ≠ o ∧ (j : Int) ≠ o ∧ p1 = u ∧ p2 = v ∧ h1 = h2) → ∀ s, ¬ Pu.Pr L o u v i j s) := by
            intro hn s hs
            obtain ⟨a, x, y, k1, k2, k3, k4, k5⟩ := id hs
            rw [e1] at k1; rw [e2] at k2
            simp only [Option.some.injEq, Prod.mk.injEq] at k1 k2
            exact hn ⟨k3, k4, k1.1, k2.1, by omega⟩
          clear hB hwr hLr e1 e2
          by_cases k1 : (i : Int) = o
          · have m1 : ((i : Int) == o) = true := by simp [k1]
            have HZ : Hid (∀ nq, ∃ j' : Nat, (Value.int .i64 ((j : Int) + 1)) = .int .i64 j' ∧ j' ≤ N ∧ LeastInv w L o u v i j' (.int .i64 b) (wr.drewN nq)) := HMISS.out (HPN.out (fun c => c.1 k1))
            clear HMISS HHIT HP HPN k1
            go_wp2
            go_quiet (fail)
            go_wp2
            go_roundw
            case measure => simp [intOf]; omega
            case rel => exact HZ.out _
          · have m1 : ((i : Int) == o) = false := by simp [k1]
            by_cases k2 : (j : Int) = o
            · have m2 : ((j : Int) == o) = true := by simp [k2]
              have HZ : Hid (∀ nq, ∃ j' : Nat, (Value.int .i64 ((j : Int) + 1)) = .int .i64 j' ∧ j' ≤ N ∧ LeastInv w L o u v i j' (.int .i64 b) (wr.drewN nq)) := HMISS.out (HPN.out (fun c => c.2.1 k2))
              clear HMISS HHIT HP HPN k1 k2
              go_wp2
              go_quiet (fail)
              go_wp2
              go_roundw
              case measure => simp [intOf]; omega
              case rel => exact HZ.out _
            · have m2 : ((j : Int) == o) = false := by simp [k2]
              by_cases k3 : p1 = u
              · have m3 : ((p1 : Int) != (u : Int)) = false := by simp; omega
                by_cases k4 : p2 = v
                · have m4 : ((p2 : Int) != (v : Int)) = false := by simp; omega
                  by_cases k5 : h1 = h2
                  · have m5 : ((h1 : Int) != (h2 : Int)) = false := by simp; omega
                    have HZ := HHIT.out (HP.out.2 ⟨k1, k2, k3, k4, k5⟩)
                    have HY : Hid (∀ nq b', (b' = f1 + f2 ∧ (b < 0 ∨ f1 + f2 < b)) ∨ (b' = b ∧ ¬ (b < 0 ∨ f1 + f2 < b)) → ∃ j' : Nat, (Value.int .i64 ((j : Int) + 1)) = .int .i64 j' ∧ j' ≤ N ∧ LeastInv w L o u v i j' (.int .i64 b') (wr.drewN nq)) := HZ
                    clear HZ HMISS HHIT HP HPN k1 k2 k3 k4 k5
                    by_cases t1 : b < 0
                    · have n1 : decide (b < 0) = true := by simpa using t1
                      have HW : Hid (∀ nq, ∃ j' : Nat, (Value.int .i64 ((j : Int) + 1)) = .int .i64 j' ∧ j' ≤ N ∧ LeastInv w L o u v i j' (.int .i64 (f1 + f2)) (wr.drewN nq)) := fun nq => HY.out nq _ (Or.inl ⟨rfl, Or.inl t1⟩)
                      clear HY
                      go_wp2
                      go_quiet (fail)
                      go_wp2
                      go_quiet (fail)
                      go_wp2
                      go_quiet (fail)
                      go_wp2
                      go_roundw
                      case measure => simp [intOf]; omega
                      case rel => first | exact HW.out _ | (rw [World.drewN_drewN]; exact HW.out _) | (rw [World.drewN_drewN, World.drewN_drewN]; exact HW.out _)
                    · have n1 : decide (b < 0) = false := by simpa using t1
                      by_cases t2 : f1 + f2 < b
                      · have HW : Hid (∀ nq, ∃ j' : Nat, (Value.int .i64 ((j : Int) + 1)) = .int .i64 j' ∧ j' ≤ N ∧ LeastInv w L o u v i j' (.int .i64 (f1 + f2)) (wr.drewN nq)) := fun nq => HY.out nq _ (Or.inl ⟨rfl, Or.inr t2⟩)
                        clear HY
                        go_wp2
                        go_quiet (fail)
                        go_wp2
                        go_quiet (fail)
                        go_wp2
                        go_quiet (fail)
                        go_wp2
                        go_roundw
                        case measure => simp [intOf]; omega
                        case rel => first | exact HW.out _ | (rw [World.drewN_drewN]; exact HW.out _) | (rw [World.drewN_drewN, World.drewN_drewN]; exact HW.out _)
                      · have HW : Hid (∀ nq, ∃ j' : Nat, (Value.int .i64 ((j : Int) + 1)) = .int .i64 j' ∧ j' ≤ N ∧ LeastInv w L o u v i j' (.int .i64 b) (wr.drewN nq)) := fun nq => HY.out nq _ (Or.inr ⟨rfl, fun c => c.elim t1 t2⟩)
                        have n2 : decide (f1 + f2 < b) = false := by simpa using t2
                        clear HY
                        go_wp2
                        go_quiet (fail)
                        go_wp2
                        go_quiet (fail)
                        go_wp2
                        go_roundw
                        case measure => simp [intOf]; omega
                        case rel => first | exact HW.out _ | (rw [World.drewN_drewN]; exact HW.out _) | (rw [World.drewN_drewN, World.drewN_drewN]; exact HW.out _)
                  · have m5 : ((h1 : Int) != (h2 : Int)) = true := by simp; omega
                    have HZ : Hid (∀ nq, ∃ j' : Nat, (Value.int .i64 ((j : Int) + 1)) = .int .i64 j' ∧ j' ≤ N ∧ LeastInv w L o u v i j' (.int .i64 b) (wr.drewN nq)) := HMISS.out (HPN.out (fun c => k5 c.2.2.2.2))
                    clear HMISS HHIT HP HPN k1 k2 k3 k4 k5
                    go_wp2
                    go_quiet (fail)
                    go_wp2
                    go_roundw
                    case measure => simp [intOf]; omega
                    case rel => exact HZ.out _
                · have m4 : ((p2 : Int) != (v : Int)) = true := by simp; omega
                  have HZ : Hid (∀ nq, ∃ j' : Nat, (Value.int .i64 ((j : Int) + 1)) = .int .i64 j' ∧ j' ≤ N ∧ LeastInv w L o u v i j' (.int .i64 b) (wr.drewN nq)) := HMISS.out (HPN.out (fun c => k4 c.2.2.2.1))
                  clear HMISS HHIT HP HPN k1 k2 k3 k4
                  go_wp2
                  go_quiet (fail)
                  go_wp2
                  go_roundw
                  case measure => simp [intOf]; omega
                  case rel => exact HZ.out _
              · have m3 : ((p1 : Int) != (u : Int)) = true := by simp; omega
                have HZ : Hid (∀ nq, ∃ j' : Nat, (Value.int .i64 ((j : Int) + 1)) = .int .i64 j' ∧ j' ≤ N ∧ LeastInv w L o u v i j' (.int .i64 b) (wr.drewN nq)) := HMISS.out (HPN.out (fun c => k3 c.2.2.1))
                clear HMISS HHIT HP HPN k1 k2 k3
                go_wp2
                go_quiet (fail)
                go_wp2
                go_roundw
                case measure => simp [intOf]; omega
                case rel => exact HZ.out _
        · have hji : ¬ (j : Int) < (N : Int) := by omega
          have HZ : Hid (∃ i' : Nat, (Value.int .i64 ((i : Int) + 1)) = .int .i64 i' ∧ i' ≤ N ∧ LeastInv w L o u v i' 0 (.int .i64 b) wr) :=
            ⟨i + 1, by go_num, by omega, b, q, rfl, hB.congr (fun s => by rw [show j = L.length by have := HN.out; omega]; exact Pu.Ahead.row s), hb1, hb2, hwr⟩
          clear hB hwr
          go_wp2
          go_roundw
          case measure => simp [intOf]; omega
          case rel => exact HZ.out
    · have hii : ¬ (i : Int) < (N : Int) := by omega
      obtain ⟨b, q, rfl, hB, hb1, hb2, hwr⟩ := hinv
      have HZ : Hid (Pu.Best (Pu.Through L o u v) b ∧ wr = w.drewN q) := ⟨hB.congr (fun s => by rw [show i = L.length by have := HN.out; omega]; exact Pu.Ahead.all s), hwr⟩
      clear hB hwr
      go_wp2
      go_ret
      exact ⟨⟨b, rfl, HZ.out.1⟩, q, HZ.out.2⟩
#print axioms least_any

set_option maxRecDepth 100000 in
set_option maxHeartbeats 1000000 in
theorem label_any (w : World) (g cap N : Nat) (L : List Pu.Rd) (u k : Nat) (f : Int) (hN : L.length = N) (hNb : N ≤ 2000) (hL : LabAt w g L) (hu : u ≤ 100) (hk : L[k]? = some (u, u, f)) (hone : ∀ (j : Nat) (f' : Int), L[j]? = some (u, u, f') → f' = f) :
    Calls Tryd.prog 21 #[.slice (some ⟨g, 0, none⟩) N cap, .int .i64 u, .int .i64 u] w fun e w' => e = .returned (.int .i64 f) ∧ ∃ q, w' = w.drewN q := by
  have HL : Hid (LabAt w g L) := hL
  have HN : Hid (L.length = N) := hN
  have HK : Hid (L[k]? = some (u, u, f)) := hk
  have HO : Hid (∀ (j : Nat) (f' : Int), L[j]? = some (u, u, f') → f' = f) := hone
  clear hL hN hk hone
  go_enter Tryd.func21, Tryd.ntmps21
  go_wp2
  go_loopw [7] (fun iv wr => ∃ i q : Nat, iv = .int .i64 i ∧ i ≤ N ∧ (∀ j, j < i → j ≠ k) ∧ wr = w.drewN q) (fun iv _ => N - (intOf iv).toNat)
  case atStart => exact ⟨0, 0, rfl, Nat.zero_le _, fun j hj => by omega, rfl⟩
  case round =>
    obtain ⟨i, q, rfl, hi, hno, hwr⟩ := hrel
    have hkN : k < N := by have := (List.getElem?_eq_some_iff.1 HK.out).1; have := HN.out; omega
    have hik : i ≤ k := by
      by_cases c : k < i
      · exact absurd rfl (hno k c)
      · omega
    have hii : (i : Int) < (N : Int) := by omega
    obtain ⟨p1, h1, f1, e1⟩ : ∃ p h f, L[i]? = some (p, h, f) := ⟨L[i]'(by have := HN.out; omega) |>.1, L[i]'(by have := HN.out; omega) |>.2.1, L[i]'(by have := HN.out; omega) |>.2.2, List.getElem?_eq_getElem _⟩
    have hLr : LabAt wr g L := by rw [hwr]; exact HL.out.turns ((Turns.refl _ w).drewN q)
    obtain ⟨c1, c2, c3⟩ := hLr i p1 h1 f1 e1
    have HWR : Hid (wr = w.drewN q) := hwr
    have HM : Hid (¬ (p1 = u ∧ h1 = u) → ∃ i' q' : Nat, (Value.int .i64 ((i : Int) + 1)) = .int .i64 i' ∧ i' ≤ N ∧ (∀ j, j < i' → j ≠ k) ∧ wr = w.drewN q') := by
      intro hn
      refine ⟨i + 1, q, by go_num, by omega, fun j hj c => ?_, hwr⟩
      by_cases g' : j = i
      · subst g'
        rw [c, HK.out] at e1
        simp only [Option.some.injEq, Prod.mk.injEq] at e1
        exact hn ⟨e1.1.symm, e1.2.1.symm⟩
      · exact hno j (by omega) c
    have HF : Hid (p1 = u ∧ h1 = u → f1 = f) := by
      rintro ⟨rfl, rfl⟩
      exact HO.out i f1 e1
    clear hwr hLr e1 hno
    by_cases k1 : p1 = u
    · have m1 : ((p1 : Int) == (u : Int)) = true := by simp; omega
      by_cases k2 : h1 = u
      · have m2 : ((h1 : Int) == (u : Int)) = true := by simp; omega
        have HFF : Hid (f1 = f) := HF.out ⟨k1, k2⟩
        clear HF HM k1 k2
        go_wp2
        go_ret
        exact ⟨by rw [← HFF.out]; rfl, q, HWR.out⟩
      · have m2 : ((h1 : Int) == (u : Int)) = false := by simp; omega
        have HZ : Hid (∃ i' q' : Nat, (Value.int .i64 ((i : Int) + 1)) = .int .i64 i' ∧ i' ≤ N ∧ (∀ j, j < i' → j ≠ k) ∧ wr = w.drewN q') := HM.out (fun c => k2 c.2)
        clear HF HM k1 k2
        go_wp2
        go_roundw
        case measure => simp [intOf]; omega
        case rel => exact HZ.out
    · have m1 : ((p1 : Int) == (u : Int)) = false := by simp; omega
      have HZ : Hid (∃ i' q' : Nat, (Value.int .i64 ((i : Int) + 1)) = .int .i64 i' ∧ i' ≤ N ∧ (∀ j, j < i' → j ≠ k) ∧ wr = w.drewN q') := HM.out (fun c => k1 c.1)
      clear HF HM k1
      go_wp2
      go_roundw
      case measure => simp [intOf]; omega
      case rel => exact HZ.out
#print axioms label_any
end Go.Proofs.YtdogncjcainhlaaDoor
