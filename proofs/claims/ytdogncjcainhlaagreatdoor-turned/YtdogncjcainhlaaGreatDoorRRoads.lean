/- The walk of the reference's Order, where the text is empty: the order by roads. -/
import Derived.Test.YtdogncjcainhlaaGreatDoorROrd
import Derived.Test.YtdogncjcainhlaaGreatDoorPlain
namespace Go.Proofs.YtdogncjcainhlaaGreatDoor
open Go.RowKit Go.Deep
open Mem

/-- What holds of the list in hand: it is acc. -/
def RRInv (w : World) (n : Nat) (acc : List Nat) (v : Value) (wr : World) : Prop :=
  ∃ (la : Option Addr) (lc : Nat), v = .slice la acc.length lc ∧ wr.ownsRow w.heap.size 3 1 (.slice la acc.length lc) acc.length (vals acc) ∧ (∀ m ∈ acc, m < n) ∧ acc.length ≤ n ∧ Turns (fun _ => False) w wr
theorem Pu.lvl_le (d : Nat → Nat) (n k p : Nat) (hp : p ≤ n) (hk : k ≤ n) : (Pu.rankK d n k ++ Pu.lvl d (n - k) p).length ≤ n := by
  have h1 := Pu.rankK_sorted d n k (by omega)
  have h2 := Pu.lvl_sorted d (n - k) p
  have h3 : (Pu.rankK d n k ++ Pu.lvl d (n - k) p).Nodup := by
    rw [List.nodup_append]
    refine ⟨h1.imp (fun {a b} h c => by subst c; exact Pu.Above.anti d a a h h), h2.imp (fun {a b} h c => by subst c; exact Pu.Above.anti d a a h h), fun a ha b hb c => ?_⟩
    subst c
    have e1 := (Pu.rankK_mem k (by omega)).1 ha
    have e2 := Pu.lvl_mem.1 hb
    omega
  exact Pu.nodup_le n _ h3 (fun m hm => by
    rcases List.mem_append.1 hm with h | h
    · exact ((Pu.rankK_mem k (by omega)).1 h).1
    · have := (Pu.lvl_mem.1 h).1; omega)
theorem Pu.lvl_lt (d : Nat → Nat) (n k p : Nat) (hp : p ≤ n) (hk : k ≤ n) : ∀ m ∈ Pu.rankK d n k ++ Pu.lvl d (n - k) p, m < n := fun m hm => by
  rcases List.mem_append.1 hm with h | h
  · exact ((Pu.rankK_mem k (by omega)).1 h).1
  · have := (Pu.lvl_mem.1 h).1; omega

set_option maxRecDepth 100000 in
set_option maxHeartbeats 2000000 in
theorem rord_roads (s : ByteArray) (w : World) (b n lg lcap : Nat) (R : Int) (fv : Value) (len : Nat → Nat → Int) (hs : s.size = 0) (hn1 : 1 ≤ n) (hn : n ≤ 40) (hB : RB w b n R (.slice (some ⟨lg, 0, none⟩) n lcap) fv) (hL : Tab w lg n len) :
    Calls Tryz.prog 67 #[.pointer (some ⟨b, 0, none⟩), .string s] w (ROrdPost w n (some (Pu.ranked (fun v => Pu.rowCnt len v n) n))) := by
  have he := empty_of hs
  obtain ⟨i0, hi, hz0, hz1, hz2⟩ := info_parts info3
  obtain ⟨d, hd⟩ : ∃ d : Nat → Nat, (fun v => Pu.rowCnt len v n) = d := ⟨_, rfl⟩
  have HD : Hid (∀ v, Pu.rowCnt len v n = d v) := fun v => by rw [← hd]
  rw [hd]
  have HB : Hid (RB w b n R (.slice (some ⟨lg, 0, none⟩) n lcap) fv) := hB
  have HL : Hid (Tab w lg n len) := hL
  have c0 := hB.c0
  have HP : Hid (Pu.Perm n (Pu.ranked d n)) := Pu.ranked_perm (fun x _ => by rw [← HD.out x]; exact Pu.rowCnt_le' len x n)
  have HS : Hid (∃ k : Nat, k ≤ n + 1 ∧ (Value.int .i64 (n : Int)) = .int .i64 ((n : Int) - k) ∧ RRInv w n (Pu.rankK d n k) (.slice none 0 0) w) :=
    ⟨0, by omega, by simp, none, 0, rfl, World.ownsRow_nil _ _ _ _, fun m hm => (by cases hm), Nat.zero_le _, Turns.refl _ _⟩
  clear hB hd hL
  go_enter Tryz.func67, Tryz.ntmps67
  go_wp2
  clear c0
  go_loopw [6, 11] (fun v iv wr => ∃ k : Nat, k ≤ n + 1 ∧ iv = .int .i64 ((n : Int) - k) ∧ RRInv w n (Pu.rankK d n k) v wr) (fun _ iv _ => (intOf iv + 1).toNat)
  case atStart => exact HS.out
  case round =>
    clear HS
    obtain ⟨k, hk, rfl, la, lc, rfl, hown, hlt, hle, hT⟩ := hrel
    by_cases hkn : k ≤ n
    · have hki : (0 : Int) ≤ (n : Int) - k := by omega
      have HS2 : Hid (∃ p : Nat, p ≤ n ∧ (Value.int .i64 0) = .int .i64 p ∧ RRInv w n (Pu.rankK d n k ++ Pu.lvl d (n - k) p) (.slice la (Pu.rankK d n k).length lc) wr) := by
        have e : Pu.rankK d n k ++ Pu.lvl d (n - k) 0 = Pu.rankK d n k := by simp [Pu.lvl]
        refine ⟨0, Nat.zero_le _, rfl, ?_⟩
        rw [e]
        exact ⟨la, lc, rfl, hown, hlt, hle, hT⟩
      obtain ⟨ll, hll⟩ : ∃ ll, (Pu.rankK d n k).length = ll := ⟨_, rfl⟩
      rw [hll] at HS2 ⊢
      clear hown hlt hle hT hll
      go_wp2
      go_loopw [6, 12] (fun v iv wx => ∃ (p : Nat) (wz : World), p ≤ n ∧ iv = .int .i64 p ∧ RRInv w n (Pu.rankK d n k ++ Pu.lvl d (n - k) p) v wx ∧ wz = wx) (fun _ iv _ => n - (intOf iv).toNat)
      case atStart => obtain ⟨p, h1, h2, h3⟩ := HS2.out; exact ⟨p, _, h1, h2, h3, rfl⟩
      case round =>
        clear HS2
        obtain ⟨p, wz, hp, rfl, ⟨la, lc, rfl, hown, hlt, hle, hT⟩, hwz⟩ := hrel
        subst hwz
        have hB2 := HB.out.turns hT (fun x => x)
        have c0 := hB2.c0
        have c2 := hB2.c2
        have hL2 := HL.out.turns hT
        by_cases hpn : p < n
        · have hpi : (p : Int) < (n : Int) := by omega
          obtain ⟨rp, t1, t2⟩ := hL2 p hpn
          have HR : Hid (RRInv w n (Pu.rankK d n k ++ Pu.lvl d (n - k) p) (.slice la (Pu.rankK d n k ++ Pu.lvl d (n - k) p).length lc) wz) := ⟨la, lc, rfl, hown, hlt, hle, hT⟩
          obtain ⟨acc, hacc⟩ : ∃ acc, Pu.rankK d n k ++ Pu.lvl d (n - k) p = acc := ⟨_, rfl⟩
          have HA : Hid (Pu.rankK d n k ++ Pu.lvl d (n - k) p = acc) := hacc
          rw [hacc] at HR hown hle hlt ⊢
          obtain ⟨al, hal⟩ : ∃ al, acc.length = al := ⟨_, rfl⟩
          have HAL : Hid (acc.length = al) := hal
          rw [hal] at HR hown hle ⊢
          have HO : Hid (wz.ownsRow w.heap.size 3 1 (.slice la al lc) al (vals acc) ∧ (∀ m ∈ acc, m < n) ∧ Turns (fun _ => False) w wz) := ⟨hown, hlt, hT⟩
          have hsz := hT.size
          have H2 : Hid (∀ j, j < n → wz.cell? ⟨rp, j, none⟩ = some (.int .i64 (len p j))) := t2
          clear hown hlt hT hB2 hL2 hacc hal t2
          go_wp2
          go_loopw [13, 14] (fun cv jv wy => ∃ j : Nat, jv = .int .i64 j ∧ j ≤ n ∧ cv = .int .i64 (Pu.rowCnt len p j : Nat) ∧ wy = wz) (fun _ jv _ => n - (intOf jv).toNat)
          case atStart => exact ⟨0, rfl, Nat.zero_le _, rfl, rfl⟩
          case round =>
            obtain ⟨j, rfl, hj, rfl, hwy⟩ := hrel
            subst hwy
            have hcl := Pu.rowCnt_le' len p j
            by_cases hjn : j < n
            · have hji : (j : Int) < (n : Int) := by omega
              have hcj := H2.out j hjn
              by_cases hc : 0 < len p j
              · have HX : Hid ((Pu.rowCnt len p (j + 1)) = Pu.rowCnt len p j + 1) := by show _ = _; rw [Pu.rowCnt, if_pos hc]
                obtain ⟨c, hcc⟩ : ∃ c, Pu.rowCnt len p j = c := ⟨_, rfl⟩
                rw [hcc] at HX hcl ⊢
                clear hcc
                go_wp2
                go_roundw
                case measure => simp [intOf]; omega
                case rel => exact ⟨j + 1, by go_num, by omega, by rw [HX.out]; go_num, by first | rfl | trivial⟩
              · have HX : Hid ((Pu.rowCnt len p (j + 1)) = Pu.rowCnt len p j) := by show _ = _; rw [Pu.rowCnt, if_neg hc]; rfl
                obtain ⟨c, hcc⟩ : ∃ c, Pu.rowCnt len p j = c := ⟨_, rfl⟩
                rw [hcc] at HX hcl ⊢
                clear hcc
                go_wp2
                go_roundw
                case measure => simp [intOf]; omega
                case rel => exact ⟨j + 1, by go_num, by omega, by rw [HX.out], by first | rfl | trivial⟩
            · have hjn' : j = n := by omega
              subst hjn'
              have hji : ¬ (j : Int) < (j : Int) := by omega
              rw [HD.out p] at hcl ⊢
              by_cases hdp : d p = j - k
              · have hb : ((d p : Int) == (j : Int) - k) = true := by simp; omega
                have hal' : al + 1 ≤ j := by
                  have := Pu.lvl_le d j k (p + 1) (by omega) hkn
                  rw [Pu.lvl_hit hdp, ← List.append_assoc, HA.out] at this
                  simp [HAL.out] at this; omega
                have HX0 : Hid (Pu.rankK d j k ++ Pu.lvl d (j - k) (p + 1) = acc ++ [p]) := by
                  show _ = _
                  rw [Pu.lvl_hit hdp, ← List.append_assoc, HA.out]
                have hown := HO.out.1
                obtain ⟨dp, hdpe⟩ : ∃ dp, d p = dp := ⟨_, rfl⟩
                rw [hdpe] at hb ⊢
                clear hdp hdpe hcl
                go_wp2_with (at_builtin; refine wpList_append_own _ rfl _ _ 55 rfl w.heap.size 3 i0 (.int .i64 0) 1 8 Tryz.underlying55 hi hz0 hz1 hz2 rfl (by decide) _ _ _ rfl (hown.alloc _) ⟨wr.heap.size, 0, none⟩ 1 1 [.int .i64 (p : Int)] rfl rfl ?c1 ?c2 ?c3 ?c4 ?c5 ?_)
                case c2 => first | (intro u hu; simp at hu; subst hu; rfl) | rfl | trivial | simp [Value.oneCell']
                case c3 => unfold maxLen; omega
                case c4 => omega
                case c5 => first | omega | (simp; omega)
                intro v' w4 hown4 hgrow _
                obtain ⟨g', cap', hv'⟩ := owns_form hown4
                subst hv'
                rw [vals_snoc] at hown4
                have hT4 : Turns (fun _ => False) w w4 := (HO.out.2.2.alloc _).grown hgrow (fun q hq => Or.inl (hown.lt q hq).1)
                have HX : Hid (∃ p' : Nat, p' ≤ j ∧ (Value.int .i64 ((p : Int) + 1)) = .int .i64 p' ∧ RRInv w j (Pu.rankK d j k ++ Pu.lvl d (j - k) p') (.slice (some ⟨g', 0, none⟩) (al + 1) cap') w4) := by
                  refine ⟨p + 1, by omega, by go_num, ?_⟩
                  have hl := HAL.out
                  rw [HX0.out]
                  refine ⟨some ⟨g', 0, none⟩, cap', by simp [hl], by simpa [hl] using hown4, fun m hm => ?_, by simp; omega, hT4⟩
                  rcases List.mem_append.1 hm with h' | h'
                  · exact HO.out.2.1 m h'
                  · rw [List.mem_singleton] at h'; omega
                clear hown4 hgrow hT4 HO hown HX0
                go_wp2
                go_roundw
                case measure => simp [intOf]; omega
                case rel => obtain ⟨p, h1, h2, h3⟩ := HX.out; exact ⟨p, _, h1, h2, h3, rfl⟩
              · have hb : ((d p : Int) == (j : Int) - k) = false := by simp; omega
                have HX : Hid (∃ p' : Nat, p' ≤ j ∧ (Value.int .i64 ((p : Int) + 1)) = .int .i64 p' ∧ RRInv w j (Pu.rankK d j k ++ Pu.lvl d (j - k) p') (.slice la al lc) wr) := by
                  refine ⟨p + 1, by omega, by go_num, ?_⟩
                  rw [Pu.lvl_miss hdp, HA.out]
                  exact HR.out
                obtain ⟨dp, hdpe⟩ : ∃ dp, d p = dp := ⟨_, rfl⟩
                rw [hdpe] at hb ⊢
                clear hdp hdpe hcl
                go_wp2
                go_roundw
                case measure => simp [intOf]; omega
                case rel => obtain ⟨p, h1, h2, h3⟩ := HX.out; exact ⟨p, _, h1, h2, h3, rfl⟩
        · have hpn' : p = n := by omega
          subst hpn'
          have hpi : ¬ (p : Int) < (p : Int) := by omega
          have HX : Hid (∃ k' : Nat, k' ≤ p + 1 ∧ (Value.int .i64 ((p : Int) - k - 1)) = .int .i64 ((p : Int) - k') ∧ RRInv w p (Pu.rankK d p k') (.slice la (Pu.rankK d p k ++ Pu.lvl d (p - k) p).length lc) wz) := by
            refine ⟨k + 1, by omega, by go_num, ?_⟩
            rw [Pu.rankK]
            exact ⟨la, lc, rfl, hown, hlt, hle, hT⟩
          obtain ⟨al, hal⟩ : ∃ al, (Pu.rankK d p k ++ Pu.lvl d (p - k) p).length = al := ⟨_, rfl⟩
          rw [hal] at HX ⊢
          clear hown hlt hle hT hB2 hL2 hal c2
          go_wp2
          go_roundw
          case measure => simp [intOf]; omega
          case rel => exact HX.out
    · have hk' : k = n + 1 := by omega
      subst hk'
      have hki : ¬ (0 : Int) ≤ (n : Int) - ((n + 1 : Nat) : Int) := by omega
      have HX : Hid (ROrdPost w n (some (Pu.ranked d n)) (.returned (.tuple #[.slice la n lc, .bool true])) wr) := by
        have hl : (Pu.rankK d n (n + 1)).length = n := HP.out.1
        rw [hl] at hown
        obtain ⟨ga, gca, hga, _, _⟩ := World.ownsRow.form hown (by omega)
        injection hga with e1 _ e2
        subst e1 e2
        refine ⟨hT, ga, _, rfl, hl, fun j m hm => ⟨hlt m (List.mem_of_getElem? hm), ?_⟩⟩
        have hjl := (List.getElem?_eq_some_iff.1 hm).1
        have hm' : (Pu.rankK d n (n + 1))[j]? = some m := hm
        have hjl' : j < n := by rw [← hl]; exact hjl
        show wr.cell? _ = _
        rw [World.ownsRow.cellAt hown j (by omega)]; simp [vals, hm']
      have hl : (Pu.rankK d n (n + 1)).length = n := HP.out.1
      rw [hl]
      obtain ⟨z, hz⟩ : ∃ z, (n : Int) - ((n + 1 : Nat) : Int) = z := ⟨_, rfl⟩
      rw [hz] at hki ⊢
      clear hown hlt hle hT hl hz
      go_wp2
      exact bodyPost_ret (v := .tuple #[.slice la n lc, .bool true]) (by simp [results, Tryz.results67, go_sem]) rfl HX.out
#print axioms rord_roads
end Go.Proofs.YtdogncjcainhlaaGreatDoor
