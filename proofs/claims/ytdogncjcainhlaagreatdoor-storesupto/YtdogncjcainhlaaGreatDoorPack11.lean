/- Pack11: texts of one proof, one behind the other. -/
import Derived.Test.YtdogncjcainhlaaGreatDoorPack10
import Derived.Test.YtdogncjcainhlaaGreatDoorPack7
import Derived.Test.YtdogncjcainhlaaGreatDoorPack5
import Derived.Deep.QuietTactic
import Derived.BigQuiet
import Derived.Deep.RegionHeld3
import Derived.Test.YtdogncjcainhlaaGreatDoorPack2
import Derived.Shelf.SlSortCmp.NoneTotal
import Derived.Test.YtdogncjcainhlaaGreatDoorProg
/- The walk of the reference's look. -/
namespace Go.Proofs.YtdogncjcainhlaaGreatDoor
open Go.RowKit Go.Deep
open Mem

namespace Pu
theorem idx_erase {p : Nat} : ∀ {K : List Nat} {j : Nat}, K.Nodup → K[j]? = some p → K.eraseIdx j = K.erase p
  | [], j, _, h => by simp at h
  | x :: t, 0, _, h => by
    simp at h
    subst h
    simp
  | x :: t, j + 1, hn, h => by
    rw [List.getElem?_cons_succ] at h
    rw [List.nodup_cons] at hn
    have hx : x ≠ p := fun c => hn.1 (by rw [c]; exact List.mem_of_getElem? h)
    rw [List.eraseIdx_cons_succ, List.erase_cons_tail (by simpa using hx), idx_erase hn.2 h]
theorem skp_len (K : List Nat) (a : Int) : ∀ i, (skp K a i).length ≤ i
  | 0 => Nat.le_refl _
  | i + 1 => by
    have := skp_len K a i
    rw [skp, List.length_append]
    split
    · simp; omega
    · cases K[i]? <;> simp <;> omega
/-- Which page goes. -/
def goes (c : Nat) (K : List Nat) (p : Nat) : Int := if atN K p K.length < 0 then (if K.length ≥ c then 0 else -1) else atN K p K.length
theorem goes_look {c p : Nat} {K : List Nat} (h : Keeps c K) : skp K (goes c K p) K.length ++ [p] = lookK c K p ∧ (atN K p K.length < 0 ↔ p ∉ K) := by
  by_cases hp : p ∈ K
  · obtain ⟨j, hj⟩ := List.mem_iff_getElem?.1 hp
    have hjl := (List.getElem?_eq_some_iff.1 hj).1
    have ha := atN_yes h.nd hj K.length hjl (Nat.le_refl _)
    have hg : goes c K p = (j : Int) := by unfold goes; rw [ha, if_neg (by omega)]
    refine ⟨?_, ⟨fun c => by rw [ha] at c; omega, fun c => absurd hp c⟩⟩
    rw [hg, skp_idx _ (Nat.le_refl _), List.take_length, idx_erase h.nd hj]
    unfold lookK
    rw [if_pos hp]
  · have ha := atN_no hp K.length
    refine ⟨?_, ⟨fun _ => hp, fun _ => by rw [ha]; omega⟩⟩
    unfold lookK goes
    rw [if_neg hp, ha, if_pos (by omega)]
    by_cases hc : K.length = c
    · rw [if_pos hc, if_pos (by omega)]
      have := skp_idx (K := K) (j := 0) K.length (Nat.le_refl _)
      rw [List.take_length] at this
      rw [show (0 : Int) = ((0 : Nat) : Int) from rfl, this]
      simp
    · have := h.le
      rw [if_neg hc, if_neg (by omega), skp_none _ (Nat.le_refl _), List.take_length]
end Pu
/-- Numbers in a row, as cells. -/
def NatAt (w : World) (a : Option Addr) (L : List Nat) : Prop := ∀ (i x : Nat), L[i]? = some x → ∃ g, a = some ⟨g, 0, none⟩ ∧ w.cell? ⟨g, i, none⟩ = some (.int .i64 (x : Int))
theorem natAt_own {w : World} {base : Nat} {v : Value} {L : List Nat} (h : w.ownsRow base 3 1 v L.length (natV L)) : ∃ a c, v = .slice a L.length c ∧ NatAt w a L ∧ L.length ≤ c := by
  rcases h.2 with ⟨h1, h2⟩ | ⟨g, cap, cur, h1, _, _, h2, _⟩
  · refine ⟨none, 0, by rw [h1, h2], ?_, by omega⟩
    intro i x hi
    have := (List.getElem?_eq_some_iff.1 hi).1
    omega
  · subst h1
    refine ⟨_, cap, rfl, ?_, h2⟩
    intro i x hi
    have hl := (List.getElem?_eq_some_iff.1 hi).1
    exact ⟨g, rfl, (World.ownsRow.cellAt h i (by omega)).trans (by rw [natV, List.getElem?_map, hi]; rfl)⟩
set_option maxRecDepth 100000 in
set_option maxHeartbeats 4000000 in
theorem rlook_any {w : World} {s0 s1 b og oc lg lc fg fc hg hc : Nat} {O : List Nat} {lab : Nat → List (Nat × Int)} {st : Nat → Nat} {c : Nat} {kv : Value} {K : List Nat} {r v : Nat} (h : RSt w s0 s1 b og oc lg lc fg fc hg hc O lab st c kv K r) (hv : v < O.length) (hc1 : 1 ≤ c) (hc8 : c ≤ 8) (hK : Pu.Keeps c K) (hr : r ≤ 9000000000000000) (hst : st v < st (v + 1)) (hsn : st (v + 1) ≤ 60000) (hs1 : s1 ≤ w.heap.size) :
    Calls Tryz.prog 71 #[.pointer (some ⟨b, 0, none⟩), .int .i64 (v : Int)] w fun e w' => ∃ g cap kv', e = .returned (.slice (some ⟨g, 0, none⟩) (lab v).length cap) ∧ HubAt w' (some ⟨g, 0, none⟩) (lab v) ∧ g ≠ b ∧ RSt w' s0 s1 b og oc lg lc fg fc hg hc O lab st c kv' (Pu.lookP c st (K, r) v).1 (Pu.lookP c st (K, r) v).2 ∧ (∀ q, kv'.ownBlock = some q → kv.ownBlock = some q ∨ w.heap.size ≤ q) ∧ Turns (fun q => q = b) w w' := by
  have d0 := h.box.lt
  have d2 := h.box.c2
  have e2 := h.fst v hv
  obtain ⟨p0, hp0⟩ : ∃ p0, p0 = st v / 28 := ⟨_, rfl⟩
  obtain ⟨p1, hp1⟩ : ∃ p1, p1 = (st (v + 1) - 1) / 28 := ⟨_, rfl⟩
  rw [← hp0] at e2
  have hvi : (v : Int) < (O.length : Int) := by omega
  obtain ⟨m, hm⟩ : ∃ m, m = (st (v + 1) + 27) / 28 - st v / 28 := ⟨_, rfl⟩
  have hmp : p0 + m = p1 + 1 := by omega
  have hmb : m ≤ 3000 := by omega
  have hp0b : p0 ≤ 3000 := by omega
  obtain ⟨LR, hLR⟩ : ∃ LR, LR = Pu.lookP c st (K, r) v := ⟨_, rfl⟩
  rw [← hLR]
  have H0 : Hid (RSt w s0 s1 b og oc lg lc fg fc hg hc O lab st c kv K r ∧ Pu.Keeps c K ∧ r ≤ r + 0 ∧ LR = Pu.looks c (K, r) (p0 + 0) (m - 0) ∧ (∀ q, kv.ownBlock = some q → kv.ownBlock = some q ∨ w.heap.size ≤ q) ∧ Turns (fun q => q = b) w w) := ⟨h, hK, by omega, by rw [hLR, Pu.lookP, hp0, hm]; rfl, fun _ hq => Or.inl hq, Turns.refl _ _⟩
  have HP1 : Hid (p1 = (st (v + 1) - 1) / 28) := hp1
  clear h hLR hK hm hp0 hst hsn hp1
  go_enter Tryz.func71, Tryz.ntmps71
  go_wp2_with fail
  go_loopw [5] (fun pv wr => ∃ (j : Nat) (kv' : Value) (K' : List Nat) (r' : Nat) (wy : World), pv = .int .i64 ((p0 + j : Nat) : Int) ∧ j ≤ m ∧ wy = wr ∧ Hid (RSt wy s0 s1 b og oc lg lc fg fc hg hc O lab st c kv' K' r' ∧ Pu.Keeps c K' ∧ r' ≤ r + j ∧ LR = Pu.looks c (K', r') (p0 + j) (m - j) ∧ (∀ q, kv'.ownBlock = some q → kv.ownBlock = some q ∨ w.heap.size ≤ q) ∧ Turns (fun q => q = b) w wy)) (fun pv _ => p0 + m - (intOf pv).toNat)
  case atStart => exact ⟨0, kv, K, r, w, rfl, by omega, rfl, H0.out⟩
  case round =>
    clear H0 d0 d2 e2
    obtain ⟨j, kv1, K1, r1, wr, rfl, hj, hwy, HI⟩ := hrel
    subst hwy
    obtain ⟨pp, hpp⟩ : ∃ pp, pp = p0 + j := ⟨_, rfl⟩
    rw [← hpp]
    have d0 := HI.out.1.box.lt
    have d3 := HI.out.1.box.c3
    have e3 := HI.out.1.lst v hv
    rw [← HP1.out] at e3
    by_cases hlt : j < m
    · have hle : (pp : Int) ≤ (p1 : Int) := by omega
      have hppb : pp ≤ 6000 := by omega
      obtain ⟨ak, ck, hkv, hNA, hck⟩ := natAt_own HI.out.1.kept
      subst hkv
      have d5 := HI.out.1.box.c5
      obtain ⟨lk, hlk⟩ : ∃ lk, lk = K1.length := ⟨_, rfl⟩
      have hlkb : lk ≤ 8 := by have := HI.out.2.1.le; omega
      have HLK : Hid (lk = K1.length) := hlk
      rw [← hlk] at d5
      have HNA : Hid (NatAt wr ak K1) := hNA
      clear hlk hNA hck
      go_wp2_with fail
      go_loopw [6, 7] (fun av iv wr' => ∃ (i : Nat), av = .int .i64 (Pu.atN K1 pp i) ∧ iv = .int .i64 (i : Int) ∧ i ≤ lk ∧ wr' = wr) (fun _ iv _ => lk - (intOf iv).toNat)
      case atStart => exact ⟨0, rfl, rfl, by omega, rfl⟩
      case round =>
        obtain ⟨i, rfl, rfl, hil, hwr⟩ := hrel
        subst hwr
        by_cases hi : i < lk
        · have hii : (i : Int) < (lk : Int) := by omega
          obtain ⟨x, hx⟩ : ∃ x, K1[i]? = some x := ⟨_, List.getElem?_eq_getElem (by rw [← HLK.out]; exact hi)⟩
          obtain ⟨gk, hak, ek⟩ := HNA.out i x hx
          subst hak
          by_cases hxp : x = pp
          · have n1 : ((x : Int) == (pp : Int)) = true := by simp; omega
            have HA : Hid (Pu.atN K1 pp (i + 1) = (i : Int)) := by show _ = _; rw [Pu.atN, if_pos (by rw [hx, hxp])]
            go_wp2
            go_roundw
            case measure => simp [intOf]; omega
            case rel => exact ⟨i + 1, by rw [HA.out], by go_num, by omega, trivial⟩
          · have n1 : ((x : Int) == (pp : Int)) = false := by simp; omega
            have HA : Hid (Pu.atN K1 pp (i + 1) = Pu.atN K1 pp i) := by show _ = _; rw [Pu.atN, if_neg (by rw [hx]; intro c; injection c with c; exact hxp c)]
            go_wp2
            go_roundw
            case measure => simp [intOf]; omega
            case rel => exact ⟨i + 1, by rw [HA.out], by go_num, by omega, trivial⟩
        · have hii : ¬ (i : Int) < (lk : Int) := by omega
          have hie : i = lk := by omega
          subst hie
          have hat := (Pu.goes_look (p := pp) HI.out.2.1)
          rw [← HLK.out] at hat
          obtain ⟨at0, hat0⟩ : ∃ x, x = Pu.atN K1 pp i := ⟨_, rfl⟩
          rw [← hat0] at hat ⊢
          have hgo : Pu.goes c K1 pp = if at0 < 0 then (if i ≥ c then 0 else -1) else at0 := by unfold Pu.goes; rw [← HLK.out, ← hat0]
          have d4 := HI.out.1.box.c4
          have d6 := HI.out.1.box.c6
          have f6 := HI.out.1.box.free 6
          have hlook : LR = Pu.looks c (Pu.lookK c K1 pp, r1 + Pu.lookR K1 pp) (p0 + (j + 1)) (m - (j + 1)) := by
            rw [HI.out.2.2.2.1, show m - j = (m - (j + 1)) + 1 by omega, Pu.looks, hpp]; rfl
          have HPP : Hid (pp = p0 + j) := hpp
          have hrb := HI.out.2.2.1
          clear hat0 hpp
          by_cases h0 : at0 < 0
          · have b0 : decide (at0 < 0) = true := decide_eq_true h0
            have hnp : pp ∉ K1 := hat.2.1 h0
            have hlr : Pu.lookR K1 pp = 1 := by unfold Pu.lookR; rw [if_neg hnp]
            rw [hlr] at hlook
            rw [if_pos h0] at hgo
            obtain ⟨r2, hr2⟩ : ∃ r2, r2 = r1 + 1 := ⟨_, rfl⟩
            rw [← hr2] at hlook
            have HR2 : Hid (r2 ≤ r + (j + 1) ∧ LR = Pu.looks c (Pu.lookK c K1 pp, r2) (p0 + (j + 1)) (m - (j + 1))) := ⟨by omega, hlook⟩
            obtain ⟨wz0, hwz0⟩ : ∃ wz, wz = wr.setCell ⟨b, 6, none⟩ (.int .i64 ((r1 : Int) + 1)) := ⟨_, rfl⟩
            have HW0 : Hid (wr.setCell ⟨b, 6, none⟩ (.int .i64 ((r1 : Int) + 1)) = wz0) := hwz0.symm
            have hrc : ((r2 : Nat) : Int) = (r1 : Int) + 1 := by omega
            have HZ0 : Hid (∀ q, RSt (wz0.drewN q) s0 s1 b og oc lg lc fg fc hg hc O lab st c (.slice ak i ck) K1 r2 ∧ Turns (fun q => q = b) w (wz0.drewN q)) := fun q => by
              have hI := HI.out.1
              rw [← HLK.out] at hI
              have t1 : Turns (fun q => q = b) wr (wz0.drewN q) := by rw [hwz0]; exact ((Turns.refl (fun q => q = b) wr).setCell (x := ⟨b, 6, none⟩) (Or.inr rfl) _).drewN q
              refine ⟨hI.next (t1.mono (fun _ _ hq => Or.inl hq)) (by rw [hwz0, hrc]; exact RSB.set6 hI.box ((r1 : Int) + 1)) (owns_turns_p hI.kept t1 (fun q hq c => ?_)), HI.out.2.2.2.2.2.trans t1⟩
              have := (World.ownsRow.lt hI.kept q hq).1
              have := (hI.rng b (Or.inl rfl)).2
              omega
            have hr1b : r1 ≤ 10000000000000000 := by omega
            clear hr2 hrc
            by_cases hlc : i ≥ c
            · have b1 : decide ((c : Int) ≤ (i : Int)) = true := decide_eq_true (by omega)
              have b2 : (c : Int) ≤ (i : Int) := by omega
              rw [if_pos hlc] at hgo
              have HG : Hid (Pu.skp K1 0 i ++ [pp] = Pu.lookK c K1 pp) := by
                show _ = _
                rw [← hgo]; exact hat.1
              have z4 := (HZ0.out 0).1.box.c4
              have z5 := (HZ0.out 0).1.box.c5
              have zl := (HZ0.out 0).1.box.lt
              change wz0.cell? _ = _ at z4 z5
              clear hat hgo hlook hwz0
              go_wp2_with fail
              rw [HW0.out]
              go_big_quiet (fail)
              obtain ⟨wz, hwz⟩ : ∃ wz, wz = wz0.drewN nq := ⟨_, rfl⟩
              have HWZ : Hid (wz = wz0.drewN nq) := hwz
              have HZ : Hid (RSt wz s0 s1 b og oc lg lc fg fc hg hc O lab st c (.slice ak i ck) K1 r2 ∧ Turns (fun q => q = b) w wz) := by rw [hwz]; exact HZ0.out nq
              have HNZ : Hid (NatAt wz ak K1) := by
                obtain ⟨a', c', q1, q2, _⟩ := natAt_own HZ.out.1.kept
                injection q1 with q1
                subst q1
                exact q2
              have d0 := HZ.out.1.box.lt
              have d5 := HZ.out.1.box.c5
              rw [← hwz]
              clear hwz HZ0 z4 z5 zl
              go_wp2_with fail
              go_loopw [8, 9] (fun nv kv wr' => ∃ (k : Nat) (x : Value) (wy : World), x = nv ∧ kv = .int .i64 (k : Int) ∧ k ≤ i ∧ wy = wr' ∧ Hid (OwnG wz (.slice none 0 0) wz.heap.size 3 1 x (Pu.skp K1 0 k).length (natV (Pu.skp K1 0 k)) wy)) (fun _ kv _ => i - (intOf kv).toNat)
              case atStart => exact ⟨0, _, _, rfl, rfl, by omega, by first | rfl | exact HWZ.out, OwnG.nil _ _ _ _⟩
              case round =>
                clear d0 d5
                obtain ⟨k, x, wy, hx, rfl, hki, hwy, HO⟩ := hrel
                subst hwy hx
                have HBX := HZ.out.1.box.turns HO.out.turns0 (fun x => x)
                have d0 := HBX.lt
                have d5 := HBX.c5
                by_cases hk : k < i
                · have hkk : (k : Int) < (i : Int) := by omega
                  obtain ⟨y, hy⟩ : ∃ y, K1[k]? = some y := ⟨_, List.getElem?_eq_getElem (by rw [← HLK.out]; exact hk)⟩
                  obtain ⟨gk, hak, ek0⟩ := HNZ.out k y hy
                  subst hak
                  have ek := (HO.out.turns0.cell (a := ⟨gk, k, none⟩) (World.block_lt_of_cell? _ _ ek0) (fun x => x)).trans ek0
                  have hgl : gk < wy.heap.size := World.block_lt_of_cell? _ _ ek
                  by_cases hka : (k : Int) = 0
                  · have n1 : ((k : Int) != 0) = false := by rw [bne_eq_false_iff_eq]; exact hka
                    have HX : Hid (OwnG wz (.slice none 0 0) wz.heap.size 3 1 x (Pu.skp K1 0 (k + 1)).length (natV (Pu.skp K1 0 (k + 1))) wy) := by
                      have e : Pu.skp K1 0 (k + 1) = Pu.skp K1 0 k := by rw [Pu.skp, if_pos hka, List.append_nil]
                      rw [e]; exact HO.out
                    clear HBX hka
                    go_wp2
                    go_roundw
                    case measure => simp [intOf]; omega
                    case rel => exact ⟨k + 1, x, wy, rfl, by go_num, by omega, rfl, HX.out⟩
                  · have n1 : ((k : Int) != 0) = true := by rw [bne_iff_ne]; exact hka
                    obtain ⟨xs, hxs⟩ : ∃ xs, xs = natV (Pu.skp K1 0 k) := ⟨_, rfl⟩
                    obtain ⟨nn, hnn⟩ : ∃ nn, nn = (Pu.skp K1 0 k).length := ⟨_, rfl⟩
                    have hnnb : nn ≤ 100 := by rw [hnn]; have := Pu.skp_len K1 0 k; omega
                    have HO2 : Hid (OwnG wz (.slice none 0 0) wz.heap.size 3 1 x nn xs wy) := by rw [hxs, hnn]; exact HO.out
                    have hsz : wz.heap.size ≤ wy.heap.size := HO.out.turns0.size
                    have HY : Hid (∀ v' w3, OwnG wz (.slice none 0 0) wz.heap.size 3 1 v' (nn + 1) (xs ++ (#[Value.int .i64 (y : Int)] : Array Value).toList) w3 → OwnG wz (.slice none 0 0) wz.heap.size 3 1 v' (Pu.skp K1 0 (k + 1)).length (natV (Pu.skp K1 0 (k + 1))) w3) := by
                      intro v' w3 h3
                      rw [Pu.skp, if_neg hka, hy, Option.toList_some, natV_append, List.length_append, ← hxs, ← hnn]
                      exact h3
                    clear HBX hka hxs hnn HO
                    go_wp2_with (at_builtin; refine wpList_append_one rfl _ _ 55 rfl 3 1 8 _ Tryz.underlying55 info3n rfl (by decide) wz wy (.slice none 0 0) x wz.heap.size nn xs _ rfl (by intro u hu; simp at hu; subst hu; rfl) HO2.out hsz (by omega) (by omega) rfl _ rfl rfl ?_)
                    intro v' w3 hB
                    have HZ3 : Hid (OwnG wz (.slice none 0 0) wz.heap.size 3 1 v' (Pu.skp K1 0 (k + 1)).length (natV (Pu.skp K1 0 (k + 1))) w3) := HY.out v' w3 hB
                    clear HY hB HO2
                    go_wp2
                    go_roundw
                    case measure => simp [intOf]; omega
                    case rel => exact ⟨k + 1, v', w3, rfl, by go_num, by omega, rfl, HZ3.out⟩
                · have hkk : ¬ (k : Int) < (i : Int) := by omega
                  have hke : k = i := by omega
                  subst hke
                  obtain ⟨xs, hxs⟩ : ∃ xs, xs = natV (Pu.skp K1 0 k) := ⟨_, rfl⟩
                  obtain ⟨nn, hnn⟩ : ∃ nn, nn = (Pu.skp K1 0 k).length := ⟨_, rfl⟩
                  have hnnb : nn ≤ 100 := by rw [hnn]; have := Pu.skp_len K1 0 k; omega
                  have HO2 : Hid (OwnG wz (.slice none 0 0) wz.heap.size 3 1 x nn xs wy) := by rw [hxs, hnn]; exact HO.out
                  have hsz : wz.heap.size ≤ wy.heap.size := HO.out.turns0.size
                  have f5 := HBX.free 5
                  have HY : Hid (∀ v' w3, OwnG wz (.slice none 0 0) wz.heap.size 3 1 v' (nn + 1) (xs ++ (#[Value.int .i64 (pp : Int)] : Array Value).toList) w3 → w3.cell? ⟨b, 5, none⟩ = some (.slice ak k ck) ∧ w3.frozen? ⟨b, 5, none⟩ = false ∧ b < w3.heap.size ∧ RSt (w3.setCell ⟨b, 5, none⟩ v') s0 s1 b og oc lg lc fg fc hg hc O lab st c v' (Pu.lookK c K1 pp) r2 ∧ Pu.Keeps c (Pu.lookK c K1 pp) ∧ r2 ≤ r + (j + 1) ∧ LR = Pu.looks c (Pu.lookK c K1 pp, r2) (p0 + (j + 1)) (m - (j + 1)) ∧ (∀ q, v'.ownBlock = some q → kv.ownBlock = some q ∨ w.heap.size ≤ q) ∧ Turns (fun q => q = b) w (w3.setCell ⟨b, 5, none⟩ v')) := by
                    intro v' w3 h3
                    have t3 := h3.turns0
                    have hzs : w.heap.size ≤ wz.heap.size := HZ.out.2.size
                    have hb3 := HZ.out.1.box.turns t3 (fun x => x)
                    have hfr : ∀ q, v'.ownBlock = some q → wz.heap.size ≤ q := fun q hq => h3.fresh q hq
                    have c5 := hb3.c5
                    refine ⟨c5, hb3.free 5, hb3.lt, ?_, HI.out.2.1.look hc1 pp, HR2.out.1, HR2.out.2, fun q hq => Or.inr (Nat.le_trans hzs (hfr q hq)), ?_⟩
                    · refine HZ.out.1.next ((t3.mono (fun _ _ x => x.elim)).setCell (x := ⟨b, 5, none⟩) (Or.inr (Or.inl rfl)) _) (hb3.set5 v') ?_
                      have h7 : w3.ownsRow s1 3 1 v' (Pu.lookK c K1 pp).length (natV (Pu.lookK c K1 pp)) := by
                        rw [← HG.out, natV_append, List.length_append, ← hxs, ← hnn]
                        exact owns_low h3.own (Nat.le_trans hs1 hzs)
                      refine owns_turns_p h7 ((Turns.refl (fun q => q = b) w3).setCell (x := ⟨b, 5, none⟩) (Or.inr rfl) _) (fun q hq c => ?_)
                      have h8 := hfr q hq
                      have h9 := HZ.out.1.box.lt
                      rw [c] at h8
                      omega
                    · exact (HZ.out.2.trans (t3.mono (fun _ _ x => x.elim))).setCell (x := ⟨b, 5, none⟩) (Or.inr rfl) _
                  clear HBX hxs hnn HO
                  go_wp2_with (at_builtin; refine wpList_append_one rfl _ _ 55 rfl 3 1 8 _ Tryz.underlying55 info3n rfl (by decide) wz wy (.slice none 0 0) x wz.heap.size nn xs _ rfl (by intro u hu; simp at hu; subst hu; rfl) HO2.out hsz (by omega) (by omega) rfl _ rfl rfl ?_)
                  intro v' w3 hB
                  obtain ⟨j1, j2, j3, j4⟩ := HY.out v' w3 hB
                  obtain ⟨g9, c9, hv9, _⟩ := own_some hB.own (by omega)
                  subst hv9
                  have HZ3 := j4
                  have HF : Hid (RSt (w3.setCell ⟨b, 5, none⟩ (.slice (some ⟨g9, 0, none⟩) (nn + 1) c9)) s0 s1 b og oc lg lc fg fc hg hc O lab st c (.slice (some ⟨g9, 0, none⟩) (nn + 1) c9) (Pu.lookK c K1 pp) r2 ∧ Pu.Keeps c (Pu.lookK c K1 pp) ∧ r2 ≤ r + (j + 1) ∧ LR = Pu.looks c (Pu.lookK c K1 pp, r2) (p0 + (j + 1)) (m - (j + 1)) ∧ (∀ q, (Value.slice (some ⟨g9, 0, none⟩) (nn + 1) c9).ownBlock = some q → kv.ownBlock = some q ∨ w.heap.size ≤ q) ∧ Turns (fun q => q = b) w (w3.setCell ⟨b, 5, none⟩ (.slice (some ⟨g9, 0, none⟩) (nn + 1) c9))) := j4
                  clear HY hB HO2 j4 HZ3
                  go_wp2
                  go_roundw
                  case measure => simp [intOf]; omega
                  case rel => exact ⟨j + 1, _, Pu.lookK c K1 pp, r2, _, by rw [HPP.out]; go_num, by omega, rfl, HF.out⟩
            · have b1 : decide ((c : Int) ≤ (i : Int)) = false := decide_eq_false (by omega)
              rw [if_neg hlc] at hgo
              have HG : Hid (Pu.skp K1 (-1) i ++ [pp] = Pu.lookK c K1 pp) := by
                show _ = _
                rw [← hgo]; exact hat.1
              have z4 := (HZ0.out 0).1.box.c4
              have z5 := (HZ0.out 0).1.box.c5
              have zl := (HZ0.out 0).1.box.lt
              change wz0.cell? _ = _ at z4 z5
              clear hat hgo hlook hwz0
              go_wp2_with fail
              rw [HW0.out]
              go_big_quiet (fail)
              obtain ⟨wz, hwz⟩ : ∃ wz, wz = wz0.drewN nq := ⟨_, rfl⟩
              have HWZ : Hid (wz = wz0.drewN nq) := hwz
              have HZ : Hid (RSt wz s0 s1 b og oc lg lc fg fc hg hc O lab st c (.slice ak i ck) K1 r2 ∧ Turns (fun q => q = b) w wz) := by rw [hwz]; exact HZ0.out nq
              have HNZ : Hid (NatAt wz ak K1) := by
                obtain ⟨a', c', q1, q2, _⟩ := natAt_own HZ.out.1.kept
                injection q1 with q1
                subst q1
                exact q2
              have d0 := HZ.out.1.box.lt
              have d5 := HZ.out.1.box.c5
              rw [← hwz]
              clear hwz HZ0 z4 z5 zl
              go_wp2_with fail
              go_loopw [8, 9] (fun nv kv wr' => ∃ (k : Nat) (x : Value) (wy : World), x = nv ∧ kv = .int .i64 (k : Int) ∧ k ≤ i ∧ wy = wr' ∧ Hid (OwnG wz (.slice none 0 0) wz.heap.size 3 1 x (Pu.skp K1 (-1) k).length (natV (Pu.skp K1 (-1) k)) wy)) (fun _ kv _ => i - (intOf kv).toNat)
              case atStart => exact ⟨0, _, _, rfl, rfl, by omega, by first | rfl | exact HWZ.out, OwnG.nil _ _ _ _⟩
              case round =>
                clear d0 d5
                obtain ⟨k, x, wy, hx, rfl, hki, hwy, HO⟩ := hrel
                subst hwy hx
                have HBX := HZ.out.1.box.turns HO.out.turns0 (fun x => x)
                have d0 := HBX.lt
                have d5 := HBX.c5
                by_cases hk : k < i
                · have hkk : (k : Int) < (i : Int) := by omega
                  obtain ⟨y, hy⟩ : ∃ y, K1[k]? = some y := ⟨_, List.getElem?_eq_getElem (by rw [← HLK.out]; exact hk)⟩
                  obtain ⟨gk, hak, ek0⟩ := HNZ.out k y hy
                  subst hak
                  have ek := (HO.out.turns0.cell (a := ⟨gk, k, none⟩) (World.block_lt_of_cell? _ _ ek0) (fun x => x)).trans ek0
                  have hgl : gk < wy.heap.size := World.block_lt_of_cell? _ _ ek
                  by_cases hka : (k : Int) = (-1)
                  · exfalso; omega
                  · have n1 : ((k : Int) != (-1)) = true := by rw [bne_iff_ne]; exact hka
                    obtain ⟨xs, hxs⟩ : ∃ xs, xs = natV (Pu.skp K1 (-1) k) := ⟨_, rfl⟩
                    obtain ⟨nn, hnn⟩ : ∃ nn, nn = (Pu.skp K1 (-1) k).length := ⟨_, rfl⟩
                    have hnnb : nn ≤ 100 := by rw [hnn]; have := Pu.skp_len K1 (-1) k; omega
                    have HO2 : Hid (OwnG wz (.slice none 0 0) wz.heap.size 3 1 x nn xs wy) := by rw [hxs, hnn]; exact HO.out
                    have hsz : wz.heap.size ≤ wy.heap.size := HO.out.turns0.size
                    have HY : Hid (∀ v' w3, OwnG wz (.slice none 0 0) wz.heap.size 3 1 v' (nn + 1) (xs ++ (#[Value.int .i64 (y : Int)] : Array Value).toList) w3 → OwnG wz (.slice none 0 0) wz.heap.size 3 1 v' (Pu.skp K1 (-1) (k + 1)).length (natV (Pu.skp K1 (-1) (k + 1))) w3) := by
                      intro v' w3 h3
                      rw [Pu.skp, if_neg hka, hy, Option.toList_some, natV_append, List.length_append, ← hxs, ← hnn]
                      exact h3
                    clear HBX hka hxs hnn HO
                    go_wp2_with (at_builtin; refine wpList_append_one rfl _ _ 55 rfl 3 1 8 _ Tryz.underlying55 info3n rfl (by decide) wz wy (.slice none 0 0) x wz.heap.size nn xs _ rfl (by intro u hu; simp at hu; subst hu; rfl) HO2.out hsz (by omega) (by omega) rfl _ rfl rfl ?_)
                    intro v' w3 hB
                    have HZ3 : Hid (OwnG wz (.slice none 0 0) wz.heap.size 3 1 v' (Pu.skp K1 (-1) (k + 1)).length (natV (Pu.skp K1 (-1) (k + 1))) w3) := HY.out v' w3 hB
                    clear HY hB HO2
                    go_wp2
                    go_roundw
                    case measure => simp [intOf]; omega
                    case rel => exact ⟨k + 1, v', w3, rfl, by go_num, by omega, rfl, HZ3.out⟩
                · have hkk : ¬ (k : Int) < (i : Int) := by omega
                  have hke : k = i := by omega
                  subst hke
                  obtain ⟨xs, hxs⟩ : ∃ xs, xs = natV (Pu.skp K1 (-1) k) := ⟨_, rfl⟩
                  obtain ⟨nn, hnn⟩ : ∃ nn, nn = (Pu.skp K1 (-1) k).length := ⟨_, rfl⟩
                  have hnnb : nn ≤ 100 := by rw [hnn]; have := Pu.skp_len K1 (-1) k; omega
                  have HO2 : Hid (OwnG wz (.slice none 0 0) wz.heap.size 3 1 x nn xs wy) := by rw [hxs, hnn]; exact HO.out
                  have hsz : wz.heap.size ≤ wy.heap.size := HO.out.turns0.size
                  have f5 := HBX.free 5
                  have HY : Hid (∀ v' w3, OwnG wz (.slice none 0 0) wz.heap.size 3 1 v' (nn + 1) (xs ++ (#[Value.int .i64 (pp : Int)] : Array Value).toList) w3 → w3.cell? ⟨b, 5, none⟩ = some (.slice ak k ck) ∧ w3.frozen? ⟨b, 5, none⟩ = false ∧ b < w3.heap.size ∧ RSt (w3.setCell ⟨b, 5, none⟩ v') s0 s1 b og oc lg lc fg fc hg hc O lab st c v' (Pu.lookK c K1 pp) r2 ∧ Pu.Keeps c (Pu.lookK c K1 pp) ∧ r2 ≤ r + (j + 1) ∧ LR = Pu.looks c (Pu.lookK c K1 pp, r2) (p0 + (j + 1)) (m - (j + 1)) ∧ (∀ q, v'.ownBlock = some q → kv.ownBlock = some q ∨ w.heap.size ≤ q) ∧ Turns (fun q => q = b) w (w3.setCell ⟨b, 5, none⟩ v')) := by
                    intro v' w3 h3
                    have t3 := h3.turns0
                    have hzs : w.heap.size ≤ wz.heap.size := HZ.out.2.size
                    have hb3 := HZ.out.1.box.turns t3 (fun x => x)
                    have hfr : ∀ q, v'.ownBlock = some q → wz.heap.size ≤ q := fun q hq => h3.fresh q hq
                    have c5 := hb3.c5
                    refine ⟨c5, hb3.free 5, hb3.lt, ?_, HI.out.2.1.look hc1 pp, HR2.out.1, HR2.out.2, fun q hq => Or.inr (Nat.le_trans hzs (hfr q hq)), ?_⟩
                    · refine HZ.out.1.next ((t3.mono (fun _ _ x => x.elim)).setCell (x := ⟨b, 5, none⟩) (Or.inr (Or.inl rfl)) _) (hb3.set5 v') ?_
                      have h7 : w3.ownsRow s1 3 1 v' (Pu.lookK c K1 pp).length (natV (Pu.lookK c K1 pp)) := by
                        rw [← HG.out, natV_append, List.length_append, ← hxs, ← hnn]
                        exact owns_low h3.own (Nat.le_trans hs1 hzs)
                      refine owns_turns_p h7 ((Turns.refl (fun q => q = b) w3).setCell (x := ⟨b, 5, none⟩) (Or.inr rfl) _) (fun q hq c => ?_)
                      have h8 := hfr q hq
                      have h9 := HZ.out.1.box.lt
                      rw [c] at h8
                      omega
                    · exact (HZ.out.2.trans (t3.mono (fun _ _ x => x.elim))).setCell (x := ⟨b, 5, none⟩) (Or.inr rfl) _
                  clear HBX hxs hnn HO
                  go_wp2_with (at_builtin; refine wpList_append_one rfl _ _ 55 rfl 3 1 8 _ Tryz.underlying55 info3n rfl (by decide) wz wy (.slice none 0 0) x wz.heap.size nn xs _ rfl (by intro u hu; simp at hu; subst hu; rfl) HO2.out hsz (by omega) (by omega) rfl _ rfl rfl ?_)
                  intro v' w3 hB
                  obtain ⟨j1, j2, j3, j4⟩ := HY.out v' w3 hB
                  obtain ⟨g9, c9, hv9, _⟩ := own_some hB.own (by omega)
                  subst hv9
                  have HZ3 := j4
                  have HF : Hid (RSt (w3.setCell ⟨b, 5, none⟩ (.slice (some ⟨g9, 0, none⟩) (nn + 1) c9)) s0 s1 b og oc lg lc fg fc hg hc O lab st c (.slice (some ⟨g9, 0, none⟩) (nn + 1) c9) (Pu.lookK c K1 pp) r2 ∧ Pu.Keeps c (Pu.lookK c K1 pp) ∧ r2 ≤ r + (j + 1) ∧ LR = Pu.looks c (Pu.lookK c K1 pp, r2) (p0 + (j + 1)) (m - (j + 1)) ∧ (∀ q, (Value.slice (some ⟨g9, 0, none⟩) (nn + 1) c9).ownBlock = some q → kv.ownBlock = some q ∨ w.heap.size ≤ q) ∧ Turns (fun q => q = b) w (w3.setCell ⟨b, 5, none⟩ (.slice (some ⟨g9, 0, none⟩) (nn + 1) c9))) := j4
                  clear HY hB HO2 j4 HZ3
                  go_wp2
                  go_roundw
                  case measure => simp [intOf]; omega
                  case rel => exact ⟨j + 1, _, Pu.lookK c K1 pp, r2, _, by rw [HPP.out]; go_num, by omega, rfl, HF.out⟩
          · have b0 : decide (at0 < 0) = false := decide_eq_false h0
            have b3 : ¬ at0 < 0 := h0
            rw [if_neg h0] at hgo
            have hyp : pp ∈ K1 := Decidable.byContradiction (fun c => h0 (hat.2.2 c))
            have hlr : Pu.lookR K1 pp = 0 := by unfold Pu.lookR; rw [if_pos hyp]
            rw [hlr] at hlook
            obtain ⟨r2, hr2⟩ : ∃ r2, r2 = r1 := ⟨_, rfl⟩
            have HR2 : Hid (r2 ≤ r + (j + 1) ∧ LR = Pu.looks c (Pu.lookK c K1 pp, r2) (p0 + (j + 1)) (m - (j + 1))) := ⟨by omega, by rw [hr2]; exact hlook⟩
            obtain ⟨wz, hwz⟩ : ∃ wz, wz = wr := ⟨_, rfl⟩
            have HWZ : Hid (wz = wr) := hwz
            have HZ : Hid (RSt wz s0 s1 b og oc lg lc fg fc hg hc O lab st c (.slice ak i ck) K1 r2 ∧ Turns (fun q => q = b) w wz) := by
              have hI := HI.out.1
              rw [← HLK.out] at hI
              rw [hwz, hr2]; exact ⟨hI, HI.out.2.2.2.2.2⟩
            have HNZ : Hid (NatAt wz ak K1) := by rw [hwz]; exact HNA.out
            have HG : Hid (Pu.skp K1 at0 i ++ [pp] = Pu.lookK c K1 pp) := by
              show _ = _
              rw [← hgo]; exact hat.1
            clear hat hgo hlook hr2 hwz hyp hlr
            go_wp2_with fail
            go_loopw [8, 9] (fun nv kv wr' => ∃ (k : Nat) (x : Value) (wy : World), x = nv ∧ kv = .int .i64 (k : Int) ∧ k ≤ i ∧ wy = wr' ∧ Hid (OwnG wz (.slice none 0 0) wz.heap.size 3 1 x (Pu.skp K1 at0 k).length (natV (Pu.skp K1 at0 k)) wy)) (fun _ kv _ => i - (intOf kv).toNat)
            case atStart => exact ⟨0, _, _, rfl, rfl, by omega, by first | rfl | exact HWZ.out, OwnG.nil _ _ _ _⟩
            case round =>
              clear d0 d5
              obtain ⟨k, x, wy, hx, rfl, hki, hwy, HO⟩ := hrel
              subst hwy hx
              have HBX := HZ.out.1.box.turns HO.out.turns0 (fun x => x)
              have d0 := HBX.lt
              have d5 := HBX.c5
              by_cases hk : k < i
              · have hkk : (k : Int) < (i : Int) := by omega
                obtain ⟨y, hy⟩ : ∃ y, K1[k]? = some y := ⟨_, List.getElem?_eq_getElem (by rw [← HLK.out]; exact hk)⟩
                obtain ⟨gk, hak, ek0⟩ := HNZ.out k y hy
                subst hak
                have ek := (HO.out.turns0.cell (a := ⟨gk, k, none⟩) (World.block_lt_of_cell? _ _ ek0) (fun x => x)).trans ek0
                have hgl : gk < wy.heap.size := World.block_lt_of_cell? _ _ ek
                by_cases hka : (k : Int) = at0
                · have n1 : ((k : Int) != at0) = false := by rw [bne_eq_false_iff_eq]; exact hka
                  have HX : Hid (OwnG wz (.slice none 0 0) wz.heap.size 3 1 x (Pu.skp K1 at0 (k + 1)).length (natV (Pu.skp K1 at0 (k + 1))) wy) := by
                    have e : Pu.skp K1 at0 (k + 1) = Pu.skp K1 at0 k := by rw [Pu.skp, if_pos hka, List.append_nil]
                    rw [e]; exact HO.out
                  clear HBX hka
                  go_wp2
                  go_roundw
                  case measure => simp [intOf]; omega
                  case rel => exact ⟨k + 1, x, wy, rfl, by go_num, by omega, rfl, HX.out⟩
                · have n1 : ((k : Int) != at0) = true := by rw [bne_iff_ne]; exact hka
                  obtain ⟨xs, hxs⟩ : ∃ xs, xs = natV (Pu.skp K1 at0 k) := ⟨_, rfl⟩
                  obtain ⟨nn, hnn⟩ : ∃ nn, nn = (Pu.skp K1 at0 k).length := ⟨_, rfl⟩
                  have hnnb : nn ≤ 100 := by rw [hnn]; have := Pu.skp_len K1 at0 k; omega
                  have HO2 : Hid (OwnG wz (.slice none 0 0) wz.heap.size 3 1 x nn xs wy) := by rw [hxs, hnn]; exact HO.out
                  have hsz : wz.heap.size ≤ wy.heap.size := HO.out.turns0.size
                  have HY : Hid (∀ v' w3, OwnG wz (.slice none 0 0) wz.heap.size 3 1 v' (nn + 1) (xs ++ (#[Value.int .i64 (y : Int)] : Array Value).toList) w3 → OwnG wz (.slice none 0 0) wz.heap.size 3 1 v' (Pu.skp K1 at0 (k + 1)).length (natV (Pu.skp K1 at0 (k + 1))) w3) := by
                    intro v' w3 h3
                    rw [Pu.skp, if_neg hka, hy, Option.toList_some, natV_append, List.length_append, ← hxs, ← hnn]
                    exact h3
                  clear HBX hka hxs hnn HO
                  go_wp2_with (at_builtin; refine wpList_append_one rfl _ _ 55 rfl 3 1 8 _ Tryz.underlying55 info3n rfl (by decide) wz wy (.slice none 0 0) x wz.heap.size nn xs _ rfl (by intro u hu; simp at hu; subst hu; rfl) HO2.out hsz (by omega) (by omega) rfl _ rfl rfl ?_)
                  intro v' w3 hB
                  have HZ3 : Hid (OwnG wz (.slice none 0 0) wz.heap.size 3 1 v' (Pu.skp K1 at0 (k + 1)).length (natV (Pu.skp K1 at0 (k + 1))) w3) := HY.out v' w3 hB
                  clear HY hB HO2
                  go_wp2
                  go_roundw
                  case measure => simp [intOf]; omega
                  case rel => exact ⟨k + 1, v', w3, rfl, by go_num, by omega, rfl, HZ3.out⟩
              · have hkk : ¬ (k : Int) < (i : Int) := by omega
                have hke : k = i := by omega
                subst hke
                obtain ⟨xs, hxs⟩ : ∃ xs, xs = natV (Pu.skp K1 at0 k) := ⟨_, rfl⟩
                obtain ⟨nn, hnn⟩ : ∃ nn, nn = (Pu.skp K1 at0 k).length := ⟨_, rfl⟩
                have hnnb : nn ≤ 100 := by rw [hnn]; have := Pu.skp_len K1 at0 k; omega
                have HO2 : Hid (OwnG wz (.slice none 0 0) wz.heap.size 3 1 x nn xs wy) := by rw [hxs, hnn]; exact HO.out
                have hsz : wz.heap.size ≤ wy.heap.size := HO.out.turns0.size
                have f5 := HBX.free 5
                have HY : Hid (∀ v' w3, OwnG wz (.slice none 0 0) wz.heap.size 3 1 v' (nn + 1) (xs ++ (#[Value.int .i64 (pp : Int)] : Array Value).toList) w3 → w3.cell? ⟨b, 5, none⟩ = some (.slice ak k ck) ∧ w3.frozen? ⟨b, 5, none⟩ = false ∧ b < w3.heap.size ∧ RSt (w3.setCell ⟨b, 5, none⟩ v') s0 s1 b og oc lg lc fg fc hg hc O lab st c v' (Pu.lookK c K1 pp) r2 ∧ Pu.Keeps c (Pu.lookK c K1 pp) ∧ r2 ≤ r + (j + 1) ∧ LR = Pu.looks c (Pu.lookK c K1 pp, r2) (p0 + (j + 1)) (m - (j + 1)) ∧ (∀ q, v'.ownBlock = some q → kv.ownBlock = some q ∨ w.heap.size ≤ q) ∧ Turns (fun q => q = b) w (w3.setCell ⟨b, 5, none⟩ v')) := by
                  intro v' w3 h3
                  have t3 := h3.turns0
                  have hzs : w.heap.size ≤ wz.heap.size := HZ.out.2.size
                  have hb3 := HZ.out.1.box.turns t3 (fun x => x)
                  have hfr : ∀ q, v'.ownBlock = some q → wz.heap.size ≤ q := fun q hq => h3.fresh q hq
                  have c5 := hb3.c5
                  refine ⟨c5, hb3.free 5, hb3.lt, ?_, HI.out.2.1.look hc1 pp, HR2.out.1, HR2.out.2, fun q hq => Or.inr (Nat.le_trans hzs (hfr q hq)), ?_⟩
                  · refine HZ.out.1.next ((t3.mono (fun _ _ x => x.elim)).setCell (x := ⟨b, 5, none⟩) (Or.inr (Or.inl rfl)) _) (hb3.set5 v') ?_
                    have h7 : w3.ownsRow s1 3 1 v' (Pu.lookK c K1 pp).length (natV (Pu.lookK c K1 pp)) := by
                      rw [← HG.out, natV_append, List.length_append, ← hxs, ← hnn]
                      exact owns_low h3.own (Nat.le_trans hs1 hzs)
                    refine owns_turns_p h7 ((Turns.refl (fun q => q = b) w3).setCell (x := ⟨b, 5, none⟩) (Or.inr rfl) _) (fun q hq c => ?_)
                    have h8 := hfr q hq
                    have h9 := HZ.out.1.box.lt
                    rw [c] at h8
                    omega
                  · exact (HZ.out.2.trans (t3.mono (fun _ _ x => x.elim))).setCell (x := ⟨b, 5, none⟩) (Or.inr rfl) _
                clear HBX hxs hnn HO
                go_wp2_with (at_builtin; refine wpList_append_one rfl _ _ 55 rfl 3 1 8 _ Tryz.underlying55 info3n rfl (by decide) wz wy (.slice none 0 0) x wz.heap.size nn xs _ rfl (by intro u hu; simp at hu; subst hu; rfl) HO2.out hsz (by omega) (by omega) rfl _ rfl rfl ?_)
                intro v' w3 hB
                obtain ⟨j1, j2, j3, j4⟩ := HY.out v' w3 hB
                obtain ⟨g9, c9, hv9, _⟩ := own_some hB.own (by omega)
                subst hv9
                have HZ3 := j4
                have HF : Hid (RSt (w3.setCell ⟨b, 5, none⟩ (.slice (some ⟨g9, 0, none⟩) (nn + 1) c9)) s0 s1 b og oc lg lc fg fc hg hc O lab st c (.slice (some ⟨g9, 0, none⟩) (nn + 1) c9) (Pu.lookK c K1 pp) r2 ∧ Pu.Keeps c (Pu.lookK c K1 pp) ∧ r2 ≤ r + (j + 1) ∧ LR = Pu.looks c (Pu.lookK c K1 pp, r2) (p0 + (j + 1)) (m - (j + 1)) ∧ (∀ q, (Value.slice (some ⟨g9, 0, none⟩) (nn + 1) c9).ownBlock = some q → kv.ownBlock = some q ∨ w.heap.size ≤ q) ∧ Turns (fun q => q = b) w (w3.setCell ⟨b, 5, none⟩ (.slice (some ⟨g9, 0, none⟩) (nn + 1) c9))) := j4
                clear HY hB HO2 j4 HZ3
                go_wp2
                go_roundw
                case measure => simp [intOf]; omega
                case rel => exact ⟨j + 1, _, Pu.lookK c K1 pp, r2, _, by rw [HPP.out]; go_num, by omega, rfl, HF.out⟩
    · have hle : ¬ (pp : Int) ≤ (p1 : Int) := by omega
      have hjm : j = m := by omega
      have d1 := HI.out.1.box.c1
      obtain ⟨g, cap, hlc, hlh, _, _, hgb⟩ := HI.out.1.labs v hv
      have HX : Hid (HubAt wr (some ⟨g, 0, none⟩) (lab v) ∧ g ≠ b ∧ RSt wr s0 s1 b og oc lg lc fg fc hg hc O lab st c kv1 LR.1 LR.2 ∧ (∀ q, kv1.ownBlock = some q → kv.ownBlock = some q ∨ w.heap.size ≤ q) ∧ Turns (fun q => q = b) w wr) := by
        have e : LR = (K1, r1) := by rw [HI.out.2.2.2.1, hjm, Nat.sub_self, Pu.looks]
        rw [e]
        exact ⟨hlh, hgb, HI.out.1, HI.out.2.2.2.2⟩
      have hlgl : lg < wr.heap.size := World.block_lt_of_cell? _ _ hlc
      clear HI hlh
      go_wp2
      go_ret
      exact ⟨g, ⟨cap, rfl⟩, HX.out.1, HX.out.2.1, kv1, HX.out.2.2⟩
end Go.Proofs.YtdogncjcainhlaaGreatDoor
/- The walk of the reference's met. -/
namespace Go.Proofs.YtdogncjcainhlaaGreatDoor
open Go.RowKit Go.Deep
open Mem

theorem Pu.metA_drop {A : List (Nat × Int)} {i r : Nat} {f : Int} (h : A[i]? = some (r, f)) (s : Int × Nat) (B : List (Nat × Int)) : Pu.metA s (A.drop i) B = Pu.metA (Pu.met1 r f s B) (A.drop (i + 1)) B := by
  obtain ⟨h1, h2⟩ := List.getElem?_eq_some_iff.1 h
  rw [List.drop_eq_getElem_cons h1, h2, Pu.metA]
theorem Pu.met1_drop {B : List (Nat × Int)} {k q r : Nat} {f g : Int} (h : B[k]? = some (q, g)) (s : Int × Nat) : Pu.met1 r f s (B.drop k) = Pu.met1 r f (if r = q ∧ f + g < s.1 then (f + g, r) else s) (B.drop (k + 1)) := by
  obtain ⟨h1, h2⟩ := List.getElem?_eq_some_iff.1 h
  rw [List.drop_eq_getElem_cons h1, h2, Pu.met1]
set_option maxRecDepth 100000 in
set_option maxHeartbeats 4000000 in
theorem met_any (w : World) (a1 b1 : Option Addr) (A B : List (Nat × Int)) (c1 c2 : Nat) (hA : HubAt w a1 A) (hB : HubAt w b1 B) (lA : A.length ≤ 100) (lB : B.length ≤ 100) (rA : ∀ y ∈ A, 0 ≤ y.2 ∧ y.2 < 2097152 ∧ y.1 < 100) (rB : ∀ y ∈ B, 0 ≤ y.2 ∧ y.2 < 2097152 ∧ y.1 < 100) :
    Calls Tryz.prog 72 #[.slice a1 A.length c1, .slice b1 B.length c2] w fun e w' => e = .returned (.tuple #[.int .i64 (Pu.metA (1000000000, 0) A B).1, .int .i64 ((Pu.metA (1000000000, 0) A B).2 : Int)]) ∧ Turns (fun _ => False) w w' := by
  obtain ⟨R, hR⟩ : ∃ R, R = Pu.metA (1000000000, 0) A B := ⟨_, rfl⟩
  rw [← hR]
  have H0 : Hid (R = Pu.metA (1000000000, 0) (A.drop 0) B) := hR
  obtain ⟨la, hla⟩ : ∃ la, la = A.length := ⟨_, rfl⟩
  obtain ⟨lb, hlb⟩ : ∃ lb, lb = B.length := ⟨_, rfl⟩
  have HLA : Hid (la = A.length ∧ lb = B.length) := ⟨hla, hlb⟩
  rw [← hla, ← hlb]
  have hla1 : la ≤ 100 := by omega
  have hlb1 : lb ≤ 100 := by omega
  have HA : Hid (HubAt w a1 A) := hA
  have HB : Hid (HubAt w b1 B) := hB
  clear hR hla hlb hA hB lA lB
  go_enter Tryz.func72, Tryz.ntmps72
  go_wp2_with fail
  go_loopw [6, 7, 8] (fun bv hv iv wr => ∃ (i : Nat) (best : Int) (hub : Nat) (wy : World), bv = .int .i64 best ∧ hv = .int .i64 (hub : Int) ∧ iv = .int .i64 (i : Int) ∧ i ≤ la ∧ wy = wr ∧ -1000 ≤ best ∧ best ≤ 1000000000 ∧ Hid (R = Pu.metA (best, hub) (A.drop i) B ∧ Turns (fun _ => False) w wy)) (fun _ _ iv _ => la - (intOf iv).toNat)
  case atStart => exact ⟨0, 1000000000, 0, w, rfl, rfl, rfl, by omega, rfl, by omega, by omega, H0.out, Turns.refl _ _⟩
  case round =>
    clear H0
    obtain ⟨i, best, hub, wr, rfl, rfl, rfl, hil, hwy, hb0, hb1, HI⟩ := hrel
    subst hwy
    by_cases hi : i < la
    · have hii : (i : Int) < (la : Int) := by omega
      obtain ⟨y, hy⟩ : ∃ y, A[i]? = some y := ⟨_, List.getElem?_eq_getElem (by rw [← HLA.out.1]; exact hi)⟩
      obtain ⟨r, f⟩ := y
      obtain ⟨f0, f1, fr⟩ := rA (r, f) (List.mem_of_getElem? hy)
      simp only at f0 f1 fr
      obtain ⟨ga, ha, ea1, ea2⟩ := HA.out i r f hy
      subst ha
      have hgal : ga < w.heap.size := World.block_lt_of_cell? _ _ ea1
      have H1 : Hid (R = Pu.metA (Pu.met1 r f (best, hub) (B.drop 0)) (A.drop (i + 1)) B ∧ Turns (fun _ => False) w wr) := ⟨by rw [HI.out.1, Pu.metA_drop hy]; rfl, HI.out.2⟩
      clear HI hy
      go_wp2_with fail
      go_loopw [6, 7, 9] (fun bv hv kv wr' => ∃ (k : Nat) (best : Int) (hub : Nat) (wy : World), bv = .int .i64 best ∧ hv = .int .i64 (hub : Int) ∧ kv = .int .i64 (k : Int) ∧ k ≤ lb ∧ wy = wr' ∧ -1000 ≤ best ∧ best ≤ 1000000000 ∧ Hid (R = Pu.metA (Pu.met1 r f (best, hub) (B.drop k)) (A.drop (i + 1)) B ∧ Turns (fun _ => False) w wy)) (fun _ _ kv _ => lb - (intOf kv).toNat)
      case atStart => exact ⟨0, best, hub, wr, rfl, rfl, rfl, by omega, rfl, hb0, hb1, H1.out⟩
      case round =>
        clear H1 hb0 hb1
        obtain ⟨k, best, hub, wr, rfl, rfl, rfl, hkl, hwy, hb0, hb1, HI⟩ := hrel
        subst hwy
        by_cases hk : k < lb
        · have hki : (k : Int) < (lb : Int) := by omega
          obtain ⟨y, hy⟩ : ∃ y, B[k]? = some y := ⟨_, List.getElem?_eq_getElem (by rw [← HLA.out.2]; exact hk)⟩
          obtain ⟨q, g⟩ := y
          obtain ⟨g0, g1, gr⟩ := rB (q, g) (List.mem_of_getElem? hy)
          simp only at g0 g1 gr
          obtain ⟨gb, hb, eb1, eb2⟩ := HB.out k q g hy
          subst hb
          have hgbl : gb < w.heap.size := World.block_lt_of_cell? _ _ eb1
          have HT := HI.out.2
          have e1 := (HT.cell (a := ⟨ga, i * 2, none⟩) hgal (fun x => x)).trans ea1
          have e2 := (HT.cell (a := ⟨ga, i * 2 + 1, none⟩) hgal (fun x => x)).trans ea2
          have e3 := (HT.cell (a := ⟨gb, k * 2, none⟩) hgbl (fun x => x)).trans eb1
          have e4 := (HT.cell (a := ⟨gb, k * 2 + 1, none⟩) hgbl (fun x => x)).trans eb2
          have hstep := HI.out.1
          rw [Pu.met1_drop hy] at hstep
          simp only at hstep
          by_cases hrq : r = q
          · have n1 : ((r : Int) == (q : Int)) = true := by simp; omega
            have hfw : IntKind.i64.wrap (f + g) = f + g := by rw [IntKind.wrap_i64]; omega
            by_cases hlt : f + g < best
            · have n2 : decide (f + g < best) = true := decide_eq_true hlt
              have n3 : f + g < best := hlt
              rw [if_pos ⟨hrq, hlt⟩] at hstep
              have HX : Hid (∀ nq, R = Pu.metA (Pu.met1 r f (f + g, r) (B.drop (k + 1))) (A.drop (i + 1)) B ∧ Turns (fun _ => False) w (wr.drewN nq)) := fun nq => ⟨hstep, HT.drewN nq⟩
              clear HI HT hstep hy
              go_wp2_with fail
              go_big_quiet (fail)
              go_wp2_with fail
              go_big_quiet (fail)
              go_wp2
              go_roundw
              case measure => simp [intOf]; omega
              case rel => exact ⟨k + 1, f + g, r, _, rfl, (by rw [hrq]), by go_num, by omega, rfl, by omega, by omega, HX.out _⟩
            · have n2 : decide (f + g < best) = false := decide_eq_false hlt
              rw [if_neg (fun c => hlt c.2)] at hstep
              have HX : Hid (∀ nq, R = Pu.metA (Pu.met1 r f (best, hub) (B.drop (k + 1))) (A.drop (i + 1)) B ∧ Turns (fun _ => False) w (wr.drewN nq)) := fun nq => ⟨hstep, HT.drewN nq⟩
              clear HI HT hstep hy
              go_wp2_with fail
              go_big_quiet (fail)
              go_wp2
              go_roundw
              case measure => simp [intOf]; omega
              case rel => exact ⟨k + 1, best, hub, _, rfl, rfl, by go_num, by omega, rfl, hb0, hb1, HX.out _⟩
          · have n1 : ((r : Int) == (q : Int)) = false := by simp; omega
            rw [if_neg (fun c => hrq c.1)] at hstep
            have HX : Hid (∀ nq, R = Pu.metA (Pu.met1 r f (best, hub) (B.drop (k + 1))) (A.drop (i + 1)) B ∧ Turns (fun _ => False) w (wr.drewN nq)) := fun nq => ⟨hstep, HT.drewN nq⟩
            clear HI HT hstep hy
            go_wp2_with fail
            go_big_quiet (fail)
            go_wp2
            go_roundw
            case measure => simp [intOf]; omega
            case rel => exact ⟨k + 1, best, hub, _, rfl, rfl, by go_num, by omega, rfl, hb0, hb1, HX.out _⟩
        · have hki : ¬ (k : Int) < (lb : Int) := by omega
          have HX : Hid (R = Pu.metA (best, hub) (A.drop (i + 1)) B ∧ Turns (fun _ => False) w wr) := ⟨by
            rw [HI.out.1, List.drop_eq_nil_of_le (by rw [← HLA.out.2]; omega), Pu.met1], HI.out.2⟩
          clear HI
          go_wp2
          go_roundw
          case measure => simp [intOf]; omega
          case rel => exact ⟨i + 1, best, hub, wr, rfl, rfl, by go_num, by omega, rfl, hb0, hb1, HX.out⟩
    · have hii : ¬ (i : Int) < (la : Int) := by omega
      have HX : Hid (R = (best, hub) ∧ Turns (fun _ => False) w wr) := ⟨by
        rw [HI.out.1, List.drop_eq_nil_of_le (by rw [← HLA.out.1]; omega), Pu.metA], HI.out.2⟩
      clear HI
      go_wp2
      exact bodyPost_ret (v := .tuple #[.int .i64 best, .int .i64 (hub : Int)]) (by simp [results, Tryz.results72, go_sem]) rfl ⟨by rw [HX.out.1], HX.out.2⟩
end Go.Proofs.YtdogncjcainhlaaGreatDoor
/- The walk of the reference's Far. -/
namespace Go.Proofs.YtdogncjcainhlaaGreatDoor
open Go.RowKit Go.Deep
open Mem

/-- What is known of the labels of a store. -/
structure LabsP (lab : Nat → List (Nat × Int)) (st : Nat → Nat) (n : Nat) : Prop where
  n1 : 1 ≤ n
  n40 : n ≤ 40
  rise : ∀ v, v < n → Pu.Rise 0 (lab v)
  rank : ∀ v, v < n → ∀ y ∈ lab v, y.1 < n
  len : ∀ v, v < n → (lab v).length ≤ 100
  sts : ∀ v, v < n → st v < st (v + 1) ∧ st (v + 1) ≤ 60000
theorem LabsP.far {lab : Nat → List (Nat × Int)} {st : Nat → Nat} {n v : Nat} (h : LabsP lab st n) (hv : v < n) : ∀ y ∈ lab v, 0 ≤ y.2 ∧ y.2 < 2097152 ∧ y.1 < 100 := fun y hy => by
  have h1 := (h.rise v hv).far y hy
  have h2 := h.rank v hv y hy
  have h3 := h.n40
  exact ⟨h1.1, h1.2, by omega⟩
theorem looks_ok {c : Nat} {st : Nat → Nat} {n : Nat} {lab : Nat → List (Nat × Int)} (h : LabsP lab st n) (hc : 1 ≤ c) {s : List Nat × Nat} (hK : Pu.Keeps c s.1) {v : Nat} (hv : v < n) : Pu.Keeps c (Pu.lookP c st s v).1 ∧ (Pu.lookP c st s v).2 ≤ s.2 + 2200 := by
  have h1 := Pu.looks_le c ((st (v + 1) + 27) / 28 - st v / 28) s (st v / 28)
  have h2 := (h.sts v hv).2
  refine ⟨Pu.Keeps.looks (r := s.2) hc _ _ hK, ?_⟩
  unfold Pu.lookP
  omega
set_option maxRecDepth 100000 in
set_option maxHeartbeats 2000000 in
theorem rfar_node {w : World} {s0 s1 b og oc lg lc fg fc hg hc : Nat} {O : List Nat} {lab : Nat → List (Nat × Int)} {st : Nat → Nat} {c : Nat} {kv : Value} {K : List Nat} {r : Nat} (p q : Int) (h : RSt w s0 s1 b og oc lg lc fg fc hg hc O lab st c kv K r) (hpq : ¬ (0 ≤ p ∧ p < (O.length : Int) ∧ 0 ≤ q ∧ q < (O.length : Int))) :
    Calls Tryz.prog 35 #[.pointer (some ⟨b, 0, none⟩), .int .i64 p, .int .i64 q] w fun e w' => e = .returned (.tuple #[.int .i64 0, .int .i64 0, .int .i64 5]) ∧ w' = w := by
  have c0 := h.box.c0
  have d0 := h.box.lt
  clear h
  have hp : p < 0 ∨ (¬ p < 0 ∧ (O.length : Int) ≤ p) ∨ (¬ p < 0 ∧ ¬ (O.length : Int) ≤ p ∧ q < 0) ∨ (¬ p < 0 ∧ ¬ (O.length : Int) ≤ p ∧ ¬ q < 0 ∧ (O.length : Int) ≤ q) := by omega
  clear hpq
  rcases hp with q1 | ⟨q1, q2⟩ | ⟨q1, q2, q3⟩ | ⟨q1, q2, q3, q4⟩
  all_goals
    go_enter Tryz.func35, Tryz.ntmps35
    go_wp2
    exact bodyPost_ret (v := .tuple #[.int .i64 0, .int .i64 0, .int .i64 5]) (by simp [results, Tryz.results35, go_sem]) rfl ⟨rfl, rfl⟩
set_option maxRecDepth 100000 in
set_option maxHeartbeats 2000000 in
theorem rfar_any {w : World} {s0 s1 b og oc lg lc fg fc hg hc : Nat} {O : List Nat} {lab : Nat → List (Nat × Int)} {st : Nat → Nat} {c : Nat} {kv : Value} {K : List Nat} {r p q : Nat} (L : LabsP lab st O.length) (h : RSt w s0 s1 b og oc lg lc fg fc hg hc O lab st c kv K r) (hp : p < O.length) (hq : q < O.length) (hc1 : 1 ≤ c) (hc8 : c ≤ 8) (hK : Pu.Keeps c K) (hr : r ≤ 8000000000000000) (hs1 : s1 ≤ w.heap.size) :
    Calls Tryz.prog 35 #[.pointer (some ⟨b, 0, none⟩), .int .i64 (p : Int), .int .i64 (q : Int)] w fun e w' => e = .returned (farV O (Pu.best none (lab p) (lab q))) ∧ ∃ kv', RSt w' s0 s1 b og oc lg lc fg fc hg hc O lab st c kv' (Pu.lookP c st (Pu.lookP c st (K, r) p) q).1 (Pu.lookP c st (Pu.lookP c st (K, r) p) q).2 ∧ (∀ x, kv'.ownBlock = some x → kv.ownBlock = some x ∨ w.heap.size ≤ x) ∧ Turns (fun x => x = b) w w' := by
  have c0 := h.box.c0
  have d0 := h.box.lt
  have k1 := looks_ok L hc1 (s := (K, r)) hK hp
  have C1 := rlook_any h hp hc1 hc8 hK (by omega) (L.sts p hp).1 (L.sts p hp).2 hs1
  obtain ⟨LP, hLP⟩ : ∃ LP, LP = Pu.lookP c st (K, r) p := ⟨_, rfl⟩
  rw [← hLP] at C1 k1 ⊢
  have HC2 : Hid (∀ w1 kv1, RSt w1 s0 s1 b og oc lg lc fg fc hg hc O lab st c kv1 LP.1 LP.2 → s1 ≤ w1.heap.size → Calls Tryz.prog 71 #[.pointer (some ⟨b, 0, none⟩), .int .i64 (q : Int)] w1 fun e w' => ∃ g cap kv', e = .returned (.slice (some ⟨g, 0, none⟩) (lab q).length cap) ∧ HubAt w' (some ⟨g, 0, none⟩) (lab q) ∧ g ≠ b ∧ RSt w' s0 s1 b og oc lg lc fg fc hg hc O lab st c kv' (Pu.lookP c st LP q).1 (Pu.lookP c st LP q).2 ∧ (∀ q, kv'.ownBlock = some q → kv1.ownBlock = some q ∨ w1.heap.size ≤ q) ∧ Turns (fun q => q = b) w1 w') := fun w1 kv1 h1 h2 => rlook_any (K := LP.1) (r := LP.2) h1 hq hc1 hc8 k1.1 (by have := k1.2; simp only at this; omega) (L.sts q hq).1 (L.sts q hq).2 h2
  have HM : Hid (∀ w2 a1 b1 c1 c2, HubAt w2 a1 (lab p) → HubAt w2 b1 (lab q) → Calls Tryz.prog 72 #[.slice a1 (lab p).length c1, .slice b1 (lab q).length c2] w2 fun e w' => e = .returned (.tuple #[.int .i64 (Pu.encO (Pu.best none (lab p) (lab q))).1, .int .i64 ((Pu.encO (Pu.best none (lab p) (lab q))).2 : Int)]) ∧ Turns (fun _ => False) w2 w') := fun w2 a1 b1 c1 c2 h1 h2 => by
    have := met_any w2 a1 b1 (lab p) (lab q) c1 c2 h1 h2 (L.len p hp) (L.len q hq) (L.far hp) (L.far hq)
    rw [← Pu.met_best (lab p) (lab q) none 0 0 (L.rise p hp) (L.rise q hq)]
    exact this
  have HB1 : Hid (∀ rk x, Pu.best none (lab p) (lab q) = some (rk, x) → rk < O.length ∧ x < 1000000000) := fun rk x hb => ⟨Pu.best_mem (P := fun z => z < O.length) _ (lab p) (lab q) none (Nat.le_refl _) (fun _ _ z => by cases z) (L.rank p hp) rk x hb, Pu.best_lt (lab p) (lab q) none 0 0 (L.rise p hp) (L.rise q hq) (fun _ _ z => by cases z) rk x hb⟩
  obtain ⟨BB, hBB⟩ : ∃ BB, BB = Pu.best none (lab p) (lab q) := ⟨_, rfl⟩
  rw [← hBB] at HM HB1 ⊢
  obtain ⟨l1, hl1⟩ : ∃ l, l = (lab p).length := ⟨_, rfl⟩
  obtain ⟨l2, hl2⟩ : ∃ l, l = (lab q).length := ⟨_, rfl⟩
  rw [← hl1] at C1 HM
  rw [← hl2] at HC2 HM
  obtain ⟨n, hn⟩ : ∃ n, n = O.length := ⟨_, rfl⟩
  have HN : Hid (n = O.length) := hn
  rw [← hn] at c0
  have q1 : ¬ (p : Int) < 0 := by omega
  have q2 : ¬ (n : Int) ≤ (p : Int) := by omega
  have q3 : ¬ (q : Int) < 0 := by omega
  have q4 : ¬ (n : Int) ≤ (q : Int) := by omega
  have HOR : Hid (∀ rk, rk < O.length → ∃ v, O[rk]? = some v) := fun rk h => ⟨_, List.getElem?_eq_getElem h⟩
  clear h hLP hBB hl1 hl2 hn hK hp hq
  go_enter Tryz.func35, Tryz.ntmps35
  go_wp2_with fail
  refine C1.mono ?_
  rintro e w1 ⟨g1, cp1, kv1, rfl, hH1, hg1, hS1, hq1, hT1⟩
  have H1 : Hid (HubAt w1 (some ⟨g1, 0, none⟩) (lab p) ∧ RSt w1 s0 s1 b og oc lg lc fg fc hg hc O lab st c kv1 LP.1 LP.2 ∧ (∀ x, kv1.ownBlock = some x → kv.ownBlock = some x ∨ w.heap.size ≤ x) ∧ Turns (fun x => x = b) w w1) := ⟨hH1, hS1, hq1, hT1⟩
  have C2 := HC2.out w1 kv1 hS1 (Nat.le_trans hs1 hT1.size)
  clear C1 hH1 hS1 hq1 hT1 HC2 c0 d0
  go_wp2_with fail
  refine C2.mono ?_
  rintro e w2 ⟨g2, cp2, kv2, rfl, hH2, hg2, hS2, hq2, hT2⟩
  have H2 : Hid (RSt w2 s0 s1 b og oc lg lc fg fc hg hc O lab st c kv2 (Pu.lookP c st LP q).1 (Pu.lookP c st LP q).2 ∧ (∀ x, kv2.ownBlock = some x → kv.ownBlock = some x ∨ w.heap.size ≤ x) ∧ Turns (fun x => x = b) w w2) := ⟨hS2, fun x hx => by
    rcases hq2 x hx with e | e
    · exact H1.out.2.2.1 x e
    · exact Or.inr (Nat.le_trans H1.out.2.2.2.size e), H1.out.2.2.2.trans hT2⟩
  have CM := HM.out w2 (some ⟨g1, 0, none⟩) (some ⟨g2, 0, none⟩) cp1 cp2 (H1.out.1.turns_p (n := l1) (c := cp1) hT2 (fun x hx => by
    have hx : some g1 = some x := hx
    injection hx with hx
    subst hx
    exact hg1)) hH2
  clear C2 hH2 hS2 hq2 hT2 H1 HM hg1 hg2
  cases BB with
  | none =>
    simp only [Pu.encO] at CM
    go_wp2_with fail
    refine CM.mono ?_
    rintro e w3 ⟨rfl, hT3⟩
    have H3 : Hid (RSt w3 s0 s1 b og oc lg lc fg fc hg hc O lab st c kv2 (Pu.lookP c st LP q).1 (Pu.lookP c st LP q).2 ∧ (∀ x, kv2.ownBlock = some x → kv.ownBlock = some x ∨ w.heap.size ≤ x) ∧ Turns (fun x => x = b) w w3) := ⟨H2.out.1.turns hT3 (fun _ _ _ x => x) (fun _ _ x => x), H2.out.2.1, H2.out.2.2.trans (hT3.mono (fun _ _ x => x.elim))⟩
    clear CM hT3 H2
    go_wp2
    exact bodyPost_ret (v := .tuple #[.int .i64 0, .int .i64 0, .int .i64 6]) (by simp [results, Tryz.results35, go_sem]) rfl ⟨rfl, kv2, H3.out⟩
  | some z =>
    obtain ⟨rk, x⟩ := z
    obtain ⟨hrk, hx⟩ := HB1.out rk x rfl
    obtain ⟨v, hv⟩ := HOR.out rk hrk
    simp only [Pu.encO] at CM
    have q5 : ¬ (1000000000 : Int) ≤ x := by omega
    have HFV : Hid (farV O (some (rk, x)) = .tuple #[.int .i64 x, .int .i64 (v : Int), .int .i64 0]) := by show _ = _; rw [farV, hv]; rfl
    have hrn : (rk : Int) < (n : Int) := by have := HN.out; omega
    go_wp2_with fail
    refine CM.mono ?_
    rintro e w3 ⟨rfl, hT3⟩
    have H3 : Hid (RSt w3 s0 s1 b og oc lg lc fg fc hg hc O lab st c kv2 (Pu.lookP c st LP q).1 (Pu.lookP c st LP q).2 ∧ (∀ x, kv2.ownBlock = some x → kv.ownBlock = some x ∨ w.heap.size ≤ x) ∧ Turns (fun x => x = b) w w3) := ⟨H2.out.1.turns hT3 (fun _ _ _ x => x) (fun _ _ x => x), H2.out.2.1, H2.out.2.2.trans (hT3.mono (fun _ _ x => x.elim))⟩
    have c0 := H3.out.1.box.c0
    rw [← HN.out] at c0
    have d0 := H3.out.1.box.lt
    have ev := (H3.out.1.ord.2 rk v hv).2
    have hol : og < w3.heap.size := World.block_lt_of_cell? _ _ ev
    clear CM hT3 H2 HB1 HOR hv
    go_wp2_with fail
    go_quiet (fail)
    go_wp2
    exact bodyPost_ret (v := .tuple #[.int .i64 x, .int .i64 (v : Int), .int .i64 0]) (by simp [results, Tryz.results35, go_sem]) rfl ⟨by rw [HFV.out], kv2, H3.out.1.turns ((Turns.refl (fun _ => False) w3).drewN nq) (fun _ _ _ x => x) (fun _ _ x => x), H3.out.2.1, H3.out.2.2.drewN nq⟩
end Go.Proofs.YtdogncjcainhlaaGreatDoor
/- The world of the law Stores: stores side by side, and lists that are held: no walk in it. -/
namespace Go.Proofs.YtdogncjcainhlaaGreatDoor
open Go.RowKit Go.Deep
open Mem

theorem Pu.Rise.few : ∀ {l : List (Nat × Int)} {x n : Nat}, Pu.Rise x l → (∀ y ∈ l, y.1 < n) → l.length ≤ n - x
  | [], _, _, _, _ => Nat.zero_le _
  | (r, f) :: t, x, n, h, hr => by
    have h0 := hr (r, f) (by simp)
    have ih := Pu.Rise.few (n := n) h.2.2.2.2 (fun y hy => hr y (by simp [hy]))
    rw [List.length_cons]
    have := h.1
    omega
theorem Labs.p {S : ByteArray} {O : List Nat} {st : Nat → Nat} {lab : Nat → List (Nat × Int)} (h : Labs S O st lab) : LabsP lab st O.length :=
  ⟨h.n1, h.n40, fun _ hv => h.rise hv, h.rank, fun v hv => by
    have h1 := Pu.Rise.few (h.rise hv) (h.rank v hv)
    have h2 := h.n40
    omega, fun v hv => ⟨h.lt v hv, Nat.le_trans (h.le v hv) h.size⟩⟩
/-- What of two stores side by side does not turn. -/
structure PS where
  sb : Nat
  og : Nat
  oc : Nat
  sg : Nat
  sc : Nat
  O : List Nat
  st : Nat → Nat
  S : ByteArray
  c : Nat
  lab : Nat → List (Nat × Int)
  s0 : Nat
  s1 : Nat
  rb : Nat
  go : Nat
  co : Nat
  lg : Nat
  lc : Nat
  fg : Nat
  fc : Nat
  hg : Nat
  hc : Nat
/-- Two stores side by side: the program's and the document's, of the same bytes, that were asked the same. -/
structure PairI (w : World) (col : Nat → Nat) (j : Nat) (D : PS) (kv kr : Value) (K : List Nat) (r : Nat) : Prop where
  a : StoreAt w D.sb D.og D.oc D.sg D.sc D.O D.st D.S D.c 0 kv K r
  l : Labs D.S D.O D.st D.lab
  b : RSt w D.s0 D.s1 D.rb D.go D.co D.lg D.lc D.fg D.fc D.hg D.hc D.O D.lab D.st D.c kr K r
  c1 : 1 ≤ D.c
  c8 : D.c ≤ 8
  k : Pu.Keeps D.c K
  s1 : D.s1 ≤ w.heap.size
  ca : col D.sb = 2 * j + 4
  co : col D.og = 0
  cs : col D.sg = 0
  ck : ∀ q, kv.ownBlock = some q → col q = 2 * j + 4
  cb : col D.rb = 2 * j + 5
  cr : ∀ q, D.s0 ≤ q → q < D.s1 → q ≠ D.rb → col q = 0
  cq : ∀ q, kr.ownBlock = some q → col q = 0
section
variable {w : World} {col : Nat → Nat} {j : Nat} {D : PS} {kv kr : Value} {K : List Nat} {r : Nat}
theorem PairI.rb_lt (h : PairI w col j D kv kr K r) : D.rb < w.heap.size := by
  have := (h.b.rng D.rb (Or.inl rfl)).2
  have := h.s1
  omega
theorem PairI.lt (h : PairI w col j D kv kr K r) {q : Nat} (hq : Foot D.sb D.og D.sg kv q) : q < w.heap.size := h.a.foot_lt h.l.n1 hq
theorem PairI.turns {p : Nat → Prop} {w' : World} (h : PairI w col j D kv kr K r) (t : Turns p w w') (hp : ∀ q, p q → col q ≠ 0 ∧ col q ≠ 2 * j + 4 ∧ col q ≠ 2 * j + 5) : PairI w' col j D kv kr K r :=
  ⟨h.a.turns t (fun c => (hp _ c).2.1 h.ca) (fun c => (hp _ c).1 h.co) (fun c => (hp _ c).1 h.cs) (fun q hq c => (hp _ c).2.1 (h.ck q hq)), h.l, h.b.turns t (fun q h1 h2 c => by
      by_cases e : q = D.rb
      · rw [e] at c; exact (hp _ c).2.2 h.cb
      · exact (hp _ c).1 (h.cr q h1 h2 e)) (fun q hq c => (hp _ c).1 (h.cq q hq)), h.c1, h.c8, h.k, Nat.le_trans h.s1 t.size, h.ca, h.co, h.cs, h.ck, h.cb, h.cr, h.cq⟩
theorem PairI.recol {col' : Nat → Nat} (h : PairI w col j D kv kr K r) (hc : ∀ q, q < w.heap.size → col q ≠ 2 → col' q = col q) : PairI w col' j D kv kr K r :=
  ⟨h.a, h.l, h.b, h.c1, h.c8, h.k, h.s1, by rw [hc _ (h.lt (Or.inl rfl)) (by rw [h.ca]; omega)]; exact h.ca, by rw [hc _ (h.lt (Or.inr (Or.inl rfl))) (by rw [h.co]; omega)]; exact h.co, by rw [hc _ (h.lt (Or.inr (Or.inr (Or.inl rfl)))) (by rw [h.cs]; omega)]; exact h.cs,
    fun q hq => by rw [hc _ (h.lt (Or.inr (Or.inr (Or.inr hq)))) (by rw [h.ck q hq]; omega)]; exact h.ck q hq, by rw [hc _ h.rb_lt (by rw [h.cb]; omega)]; exact h.cb,
    fun q h1 h2 h3 => by rw [hc _ (Nat.lt_of_lt_of_le h2 h.s1) (by rw [h.cr q h1 h2 h3]; omega)]; exact h.cr q h1 h2 h3,
    fun q hq => by rw [hc _ (World.ownsRow.lt h.b.kept q hq).2 (by rw [h.cq q hq]; omega)]; exact h.cq q hq⟩
end
/-- The rows of stores, as cells. -/
def ptrV (f : Nat → Nat) (m : Nat) : List Value := (List.range m).map fun k => .pointer (some ⟨f k, 0, none⟩)
theorem ptrV_len (f : Nat → Nat) (m : Nat) : (ptrV f m).length = m := by simp [ptrV]
theorem ptrV_get (f : Nat → Nat) {m k : Nat} (h : k < m) : (ptrV f m)[k]? = some (.pointer (some ⟨f k, 0, none⟩)) := by simp [ptrV, List.getElem?_map, List.getElem?_range h]
theorem ptrV_succ {f f' : Nat → Nat} {m : Nat} (h : ∀ k, k < m → f' k = f k) : ptrV f' (m + 1) = ptrV f m ++ [.pointer (some ⟨f' m, 0, none⟩)] := by
  unfold ptrV
  rw [List.range_succ, List.map_append]
  congr 1
  apply List.map_congr_left
  intro k hk
  rw [h k (List.mem_range.1 hk)]
structure Inv (w0 : World) (h m R e N : Nat) (col : Nat → Nat) (u : Value × Value) (v : Value) (E : List (Value × Int)) (sb rb : Nat → Nat) (w : World) : Prop where
  box : WB w h (N : Int) u v
  ch : col h = 1
  ss : w.ownsRow (h + 1) 33 1 u.1 m (ptrV sb m)
  rs : w.ownsRow (h + 1) 101 1 u.2 m (ptrV rb m)
  css : ∀ q, u.1.ownBlock = some q → col q = 1
  crs : ∀ q, u.2.ownBlock = some q → col q = 1
  ls : Lists 2 122 w (h + 1) v E
  cv : ∀ q, v.ownBlock = some q → col q = 1
  ce : ∀ x ∈ E, ∀ q, x.1.ownBlock = some q → col q = 0
  el : E.length ≤ e
  ps : ∀ j, j < m → ∃ D kv kr K r, D.sb = sb j ∧ D.rb = rb j ∧ r ≤ R ∧ PairI w col j D kv kr K r
  t : Turns (fun _ => False) w0 w
  h0 : w0.heap.size ≤ h
  cw : ∀ q, q < w0.heap.size → col q = 0
section
variable {w0 w w1 w2 : World} {h m R e N : Nat} {col : Nat → Nat} {u : Value × Value} {v : Value} {E : List (Value × Int)} {sb rb : Nat → Nat}
theorem Inv.turns {p : Nat → Prop} (I : Inv w0 h m R e N col u v E sb rb w) (t : Turns p w w1) (hp : ∀ q, p q → col q ≠ 0 ∧ col q ≠ 1) (hj : ∀ q, p q → ∀ j, j < m → col q ≠ 2 * j + 4 ∧ col q ≠ 2 * j + 5) : Inv w0 h m R e N col u v E sb rb w1 := by
  refine ⟨I.box.turns t (fun c => (hp _ c).2 I.ch), I.ch, owns_turns_p I.ss t (fun q hq c => (hp q c).2 (I.css q hq)), owns_turns_p I.rs t (fun q hq c => (hp q c).2 (I.crs q hq)), I.css, I.crs, I.ls.turns t (fun q hq c => (hp q c).2 (I.cv q hq)) (fun x hx q hq c => (hp q c).1 (I.ce x hx q hq)), I.cv, I.ce, I.el, fun j hjm => ?_, I.t.join t (fun q hq _ c => (hp q c).1 (I.cw q hq)), I.h0, I.cw⟩
  obtain ⟨D, kv, kr, K, r, h1, h2, h3, h4⟩ := I.ps j hjm
  exact ⟨D, kv, kr, K, r, h1, h2, h3, h4.turns t (fun q hq => ⟨(hp q hq).1, hj q hq j hjm⟩)⟩
theorem Inv.turns0 (I : Inv w0 h m R e N col u v E sb rb w) (t : Turns (fun _ => False) w w1) : Inv w0 h m R e N col u v E sb rb w1 := I.turns t (fun _ c => c.elim) (fun _ c => c.elim)
theorem Inv.more (I : Inv w0 h m R e N col u v E sb rb w) {R' e' : Nat} (hR : R ≤ R') (he : e ≤ e') : Inv w0 h m R' e' N col u v E sb rb w :=
  ⟨I.box, I.ch, I.ss, I.rs, I.css, I.crs, I.ls, I.cv, I.ce, Nat.le_trans I.el he, fun j hj => by
    obtain ⟨D, kv, kr, K, r, h1, h2, h3, h4⟩ := I.ps j hj
    exact ⟨D, kv, kr, K, r, h1, h2, Nat.le_trans h3 hR, h4⟩, I.t, I.h0, I.cw⟩
/-- Other colours for what is new. -/
theorem Inv.recol {col' : Nat → Nat} (I : Inv w0 h m R e N col u v E sb rb w) (hc : ∀ q, q < w.heap.size → col' q = col q) : Inv w0 h m R e N col' u v E sb rb w :=
  ⟨I.box, by rw [hc _ I.box.lt]; exact I.ch, I.ss, I.rs, fun q hq => by rw [hc _ (World.ownsRow.lt I.ss q hq).2]; exact I.css q hq, fun q hq => by rw [hc _ (World.ownsRow.lt I.rs q hq).2]; exact I.crs q hq, I.ls,
    fun q hq => by rw [hc _ (World.ownsRow.lt I.ls.own q hq).2]; exact I.cv q hq, fun x hx q hq => by rw [hc _ ((I.ls.full x hx).lt q hq).2.1]; exact I.ce x hx q hq, I.el, fun j hj => by
    obtain ⟨D, kv, kr, K, r, h1, h2, h3, h4⟩ := I.ps j hj
    exact ⟨D, kv, kr, K, r, h1, h2, h3, h4.recol (fun q hq _ => hc q hq)⟩, I.t, I.h0, fun q hq => by rw [hc _ (Nat.lt_of_lt_of_le hq I.t.size)]; exact I.cw q hq⟩
/-- One of the stores, to be asked. -/
theorem PairI.ref {k : Nat} {D : PS} {kv kr : Value} {K : List Nat} {r : Nat} (P : PairI w col k D kv kr K r) (t : Turns (fun q => q = D.sb ∨ kv.ownBlock = some q) w w1) : RSt w1 D.s0 D.s1 D.rb D.go D.co D.lg D.lc D.fg D.fc D.hg D.hc D.O D.lab D.st D.c kr K r ∧ D.s1 ≤ w1.heap.size := by
  have hcq : ∀ q, (q = D.sb ∨ kv.ownBlock = some q) → col q = 2 * k + 4 := fun q hq => by
    rcases hq with e | e
    · rw [e]; exact P.ca
    · exact P.ck q e
  refine ⟨P.b.turns t (fun q h1 h2 c => ?_) (fun q hq c => ?_), Nat.le_trans P.s1 t.size⟩
  · have := hcq q c
    by_cases e : q = D.rb
    · rw [e, P.cb] at this; omega
    · rw [P.cr q h1 h2 e] at this; omega
  · have := hcq q c
    rw [P.cq q hq] at this
    omega
/-- One of the stores was asked, and the document's beside it. -/
theorem Inv.both {k : Nat} (I : Inv w0 h m R e N col u v E sb rb w) (hk : k < m) {D : PS} {kv kr kv' kr' : Value} {K K' : List Nat} {r r' R' : Nat} (hs : D.sb = sb k) (hb : D.rb = rb k) (P : PairI w col k D kv kr K r)
    (t1 : Turns (fun q => q = D.sb ∨ kv.ownBlock = some q) w w1) (a1 : StoreAt w1 D.sb D.og D.oc D.sg D.sc D.O D.st D.S D.c 0 kv' K' r') (q1 : ∀ q, kv'.ownBlock = some q → kv.ownBlock = some q ∨ w.heap.size ≤ q)
    (t2 : Turns (fun q => q = D.rb) w1 w2) (b2 : RSt w2 D.s0 D.s1 D.rb D.go D.co D.lg D.lc D.fg D.fc D.hg D.hc D.O D.lab D.st D.c kr' K' r') (q2 : ∀ q, kr'.ownBlock = some q → kr.ownBlock = some q ∨ w1.heap.size ≤ q)
    (hK : Pu.Keeps D.c K') (hr : r' ≤ R') (hR : R ≤ R') (x : Value) (hx : ∀ q, x.ownBlock = some q → w.heap.size ≤ q ∧ q < w1.heap.size ∧ kv'.ownBlock ≠ some q) :
    ∃ col', Inv w0 h m R' e N col' u v E sb rb w2 ∧ ∀ q, x.ownBlock = some q → col' q = 2 := by
  have hcq : ∀ q, (q = D.sb ∨ kv.ownBlock = some q) → col q = 2 * k + 4 := fun q hq => by
    rcases hq with e | e
    · rw [e]; exact P.ca
    · exact P.ck q e
  have hh : h < w.heap.size := I.box.lt
  have h0 := I.t.size
  have hrb := P.rb_lt
  have s1 := t1.size
  have s2 := t2.size
  obtain ⟨col', hcol'⟩ : ∃ col' : Nat → Nat, col' = fun q => if q < w.heap.size then col q else if kv'.ownBlock = some q then 2 * k + 4 else if x.ownBlock = some q then 2 else 0 := ⟨_, rfl⟩
  have cold : ∀ q, q < w.heap.size → col' q = col q := fun q hq => by rw [hcol']; simp only; rw [if_pos hq]
  have t12 : Turns (fun q => (q = D.sb ∨ kv.ownBlock = some q) ∨ q = D.rb) w w2 := (t1.mono (fun q _ hq => Or.inl hq)).trans (t2.mono (fun q _ hq => Or.inr hq))
  have hcc : ∀ q, ((q = D.sb ∨ kv.ownBlock = some q) ∨ q = D.rb) → col q = 2 * k + 4 ∨ col q = 2 * k + 5 := fun q hq => by
    rcases hq with c | c
    · exact Or.inl (hcq q c)
    · rw [c]; exact Or.inr P.cb
  refine ⟨col', ⟨I.box.turns t12 (fun c => ?_), by rw [cold _ hh]; exact I.ch, owns_turns_p I.ss t12 (fun q hq c => ?_), owns_turns_p I.rs t12 (fun q hq c => ?_), fun q hq => by rw [cold _ (World.ownsRow.lt I.ss q hq).2]; exact I.css q hq, fun q hq => by rw [cold _ (World.ownsRow.lt I.rs q hq).2]; exact I.crs q hq,
    I.ls.turns t12 (fun q hq c => ?_) (fun y hy q hq c => ?_), fun q hq => by rw [cold _ (World.ownsRow.lt I.ls.own q hq).2]; exact I.cv q hq, fun y hy q hq => by rw [cold _ ((I.ls.full y hy).lt q hq).2.1]; exact I.ce y hy q hq, I.el, fun j hj => ?_, ?_, I.h0, fun q hq => by rw [cold _ (Nat.lt_of_lt_of_le hq h0)]; exact I.cw q hq⟩, fun q hq => ?_⟩
  · have := hcc _ c; rw [I.ch] at this; omega
  · have := hcc q c; rw [I.css q hq] at this; omega
  · have := hcc q c; rw [I.crs q hq] at this; omega
  · have := hcc q c; rw [I.cv q hq] at this; omega
  · have := hcc q c; rw [I.ce y hy q hq] at this; omega
  · by_cases e : j = k
    · subst e
      refine ⟨D, kv', kr', K', r', hs, hb, hr, ⟨a1.turns t2 (fun c => ?_) (fun c => ?_) (fun c => ?_) (fun q hq c => ?_), P.l, b2, P.c1, P.c8, hK, ?_, by rw [cold _ (P.lt (Or.inl rfl))]; exact P.ca, by rw [cold _ (P.lt (Or.inr (Or.inl rfl)))]; exact P.co, by rw [cold _ (P.lt (Or.inr (Or.inr (Or.inl rfl))))]; exact P.cs, fun q hq => ?_, by rw [cold _ hrb]; exact P.cb, fun q g1 g2 g3 => by rw [cold _ (Nat.lt_of_lt_of_le g2 P.s1)]; exact P.cr q g1 g2 g3, fun q hq => ?_⟩⟩
      · have h1 := P.ca; rw [c, P.cb] at h1; omega
      · have h1 := P.co; rw [c, P.cb] at h1; omega
      · have h1 := P.cs; rw [c, P.cb] at h1; omega
      · rcases q1 q hq with g | g
        · have h1 := P.ck q g; rw [c, P.cb] at h1; omega
        · have c' : q = D.rb := c; omega
      · have := P.s1; omega
      · rcases q1 q hq with g | g
        · rw [cold _ (P.lt (Or.inr (Or.inr (Or.inr g))))]; exact P.ck q g
        · rw [hcol']; simp only; rw [if_neg (by omega), if_pos hq]
      · rcases q2 q hq with g | g
        · rw [cold _ (World.ownsRow.lt P.b.kept q g).2]; exact P.cq q g
        · rw [hcol']; simp only
          rw [if_neg (by omega), if_neg (fun c => by have := (World.ownsRow.lt a1.kept q c).2; omega), if_neg (fun c => by have := (hx q c).2.1; omega)]
    · obtain ⟨D', kv2, kr2, K2, r2, g1, g2, g3, g4⟩ := I.ps j hj
      refine ⟨D', kv2, kr2, K2, r2, g1, g2, Nat.le_trans g3 hR, ?_⟩
      have g5 : PairI w col' j D' kv2 kr2 K2 r2 := g4.recol (fun q hq _ => cold q hq)
      refine g5.turns t12 (fun q hq => ?_)
      have hql : q < w.heap.size := by
        rcases hq with c | c
        · exact P.lt (by rcases c with c | c
                         · exact Or.inl c
                         · exact Or.inr (Or.inr (Or.inr c)))
        · rw [c]; exact hrb
      rw [cold q hql]
      have := hcc q hq
      omega
  · refine I.t.join t12 (fun q hq _ c => ?_)
    have h2 := hcc q c
    rw [I.cw q hq] at h2
    omega
  · rw [hcol']; simp only
    have := hx q hq
    rw [if_neg (by omega), if_neg this.2.2, if_pos hq]
/-- A list was held. -/
theorem Inv.nears (I : Inv w0 h m R e N col u v E sb rb w) {x v' gs : Value} {E' : List (Value × Int)} (hx : ∀ q, x.ownBlock = some q → col q = 2 ∧ q < w.heap.size)
    (t : Turns (fun q => q = h ∨ v.ownBlock = some q ∨ x.ownBlock = some q) w w1) (hB : WB w1 h ((N : Int) + 1) u v') (hL : Lists 2 122 w1 (h + 1) v' E') (hl : E'.length = E.length + 4) (F : Fr w v x E v' gs E') :
    ∃ col', Inv w0 h m R (e + 4) (N + 1) col' u v' E' sb rb w1 := by
  have hh : h < w.heap.size := I.box.lt
  have h0 := I.t.size
  obtain ⟨col', hcol'⟩ : ∃ col' : Nat → Nat, col' = fun q => if q < w.heap.size then (if col q = 2 then 0 else col q) else if v'.ownBlock = some q then 1 else 0 := ⟨_, rfl⟩
  have cold : ∀ q, q < w.heap.size → col q ≠ 2 → col' q = col q := fun q hq h2 => by rw [hcol']; simp only; rw [if_pos hq, if_neg h2]
  have hcc : ∀ q, (q = h ∨ v.ownBlock = some q ∨ x.ownBlock = some q) → col q = 1 ∨ col q = 2 := fun q hq => by
    rcases hq with c | c | c
    · rw [c]; exact Or.inl I.ch
    · exact Or.inl (I.cv q c)
    · exact Or.inr (hx q c).1
  have aps := owns_apart I.ss I.ls.own (by decide)
  have apr := owns_apart I.rs I.ls.own (by decide)
  refine ⟨col', ⟨hB, by rw [cold _ hh (by rw [I.ch]; omega)]; exact I.ch, owns_turns_p I.ss t (fun q hq c => ?_), owns_turns_p I.rs t (fun q hq c => ?_), fun q hq => by rw [cold _ (World.ownsRow.lt I.ss q hq).2 (by rw [I.css q hq]; omega)]; exact I.css q hq, fun q hq => by rw [cold _ (World.ownsRow.lt I.rs q hq).2 (by rw [I.crs q hq]; omega)]; exact I.crs q hq,
    hL, fun q hq => ?_, fun y hy q hq => ?_, by have := I.el; omega, fun j hj => ?_, I.t.join t (fun q hq _ c => ?_), I.h0, fun q hq => by rw [cold _ (Nat.lt_of_lt_of_le hq h0) (by rw [I.cw q hq]; omega)]; exact I.cw q hq⟩⟩
  · rcases c with c | c | c
    · have := (World.ownsRow.lt I.ss q hq).1; omega
    · exact aps q hq c
    · have h1 := (hx q c).1; rw [I.css q hq] at h1; omega
  · rcases c with c | c | c
    · have := (World.ownsRow.lt I.rs q hq).1; omega
    · exact apr q hq c
    · have h1 := (hx q c).1; rw [I.crs q hq] at h1; omega
  · rcases F.v q hq with c | c
    · rw [cold _ (World.ownsRow.lt I.ls.own q c).2 (by rw [I.cv q c]; omega)]; exact I.cv q c
    · rw [hcol']; simp only; rw [if_neg (by omega), if_pos hq]
  · have hnv := ((hL.full y hy).lt q hq).2.2
    rcases F.e y hy q hq with ⟨y0, g1, g2⟩ | c | c
    · rw [cold _ ((I.ls.full y0 g1).lt q g2).2.1 (by rw [I.ce y0 g1 q g2]; omega)]; exact I.ce y0 g1 q g2
    · have h1 := hx q c
      rw [hcol']; simp only; rw [if_pos h1.2, if_pos h1.1]
    · rw [hcol']; simp only; rw [if_neg (by omega), if_neg hnv]
  · obtain ⟨D', kv2, kr2, K2, r2, g1, g2, g3, g4⟩ := I.ps j hj
    refine ⟨D', kv2, kr2, K2, r2, g1, g2, g3, ?_⟩
    obtain ⟨col1, hcol1⟩ : ∃ col1 : Nat → Nat, col1 = fun q => if q < w.heap.size then col q else if v'.ownBlock = some q then 1 else 0 := ⟨_, rfl⟩
    have c1 : ∀ q, q < w.heap.size → col1 q = col q := fun q hq => by rw [hcol1]; simp only; rw [if_pos hq]
    refine ((g4.recol (col' := col1) (fun q hq _ => c1 q hq)).turns t (fun q hq => ?_)).recol (fun q hq h2 => ?_)
    · have hql : q < w.heap.size := by
        rcases hq with c | c | c
        · omega
        · exact (World.ownsRow.lt I.ls.own q c).2
        · exact (hx q c).2
      have := hcc q hq
      rw [c1 q hql]
      omega
    · by_cases c : q < w.heap.size
      · rw [c1 q c] at h2 ⊢
        exact cold q c h2
      · rw [hcol', hcol1]; simp only; rw [if_neg c, if_neg c]
  · have h2 := hcc q c
    rw [I.cw q hq] at h2
    omega
/-- Two stores were opened. -/
theorem Inv.opened (I : Inv w0 h m R e N col u v E sb rb w) {D : PS} (t1 : Turns (fun _ => False) w w1) (a1 : StoreAt w1 D.sb D.og D.oc D.sg D.sc D.O D.st D.S D.c 0 (.slice none 0 0) [] 0) (l : Labs D.S D.O D.st D.lab) (f1 : w.heap.size ≤ D.sb ∧ w.heap.size ≤ D.og ∧ w.heap.size ≤ D.sg)
    (t2 : Turns (fun _ => False) w1 w2) (b2 : RSt w2 D.s0 D.s1 D.rb D.go D.co D.lg D.lc D.fg D.fc D.hg D.hc D.O D.lab D.st D.c (.slice none 0 0) [] 0) (f2 : w1.heap.size ≤ D.s0) (f3 : D.s1 ≤ w2.heap.size) (c1 : 1 ≤ D.c) (c8 : D.c ≤ 8) :
    ∃ col', Inv w0 h m R e N col' u v E sb rb w2 ∧ PairI w2 col' m D (.slice none 0 0) (.slice none 0 0) [] 0 := by
  have hlt : ∀ q, Foot D.sb D.og D.sg (.slice none 0 0) q → q < w1.heap.size := fun q hq => a1.foot_lt l.n1 hq
  have hrb := b2.rng D.rb (Or.inl rfl)
  have s1 := t1.size
  have l1 := hlt D.sb (Or.inl rfl)
  have l2 := hlt D.og (Or.inr (Or.inl rfl))
  have l3 := hlt D.sg (Or.inr (Or.inr (Or.inl rfl)))
  refine ⟨fun q => if q < w.heap.size then col q else if q = D.sb then 2 * m + 4 else if q = D.rb then 2 * m + 5 else 0, (I.recol (fun q hq => if_pos hq)).turns0 (t1.trans t2), ?_⟩
  refine ⟨a1.turns0 t2, l, b2, c1, c8, ⟨List.nodup_nil, Nat.zero_le _⟩, f3, ?_, ?_, ?_, fun q hq => (by cases hq), ?_, fun q h1 h2 h3 => ?_, fun q hq => (by cases hq)⟩
  · exact ((if_neg (by omega)).trans (if_pos rfl))
  · exact (((if_neg (by omega)).trans (if_neg a1.og)).trans (if_neg (by omega)))
  · exact (((if_neg (by omega)).trans (if_neg a1.sg)).trans (if_neg (by omega)))
  · exact (((if_neg (by omega)).trans (if_neg (by omega))).trans (if_pos rfl))
  · exact (((if_neg (by omega)).trans (if_neg (by omega))).trans (if_neg h3))
/-- They are put into the rows: the first row. -/
theorem Inv.push1 (I : Inv w0 h m R e N col u v E sb rb w) {v1 : Value} {xs : List Value} (hB : OwnG w u.1 (h + 1) 33 1 v1 (m + 1) xs w1) :
    w1.cell? ⟨h, 0, none⟩ = some u.1 ∧ w1.frozen? ⟨h, 0, none⟩ = false ∧ h < w1.heap.size ∧ w1.cell? ⟨h, 1, none⟩ = some u.2 ∧ WB (w1.setCell ⟨h, 0, none⟩ v1) h (N : Int) (v1, u.2) v ∧ (w1.setCell ⟨h, 0, none⟩ v1).ownsRow (h + 1) 101 1 u.2 m (ptrV rb m) := by
  have b1 := I.box.turns hB.turns (fun c => by have := (World.ownsRow.lt I.ss h c).1; omega)
  refine ⟨b1.cs, b1.free 0, b1.lt, b1.cr, b1.sets v1, ?_⟩
  have ap := owns_apart I.rs I.ss (by decide)
  exact owns_turns_p (owns_turns_p I.rs hB.turns (fun q hq c => ap q hq c)) ((Turns.refl (fun q => q = h) w1).setCell (x := ⟨h, 0, none⟩) (Or.inr rfl) _) (fun q hq c => by have := (World.ownsRow.lt I.rs q hq).1; omega)
/-- And the second one. -/
theorem Inv.push2 (I : Inv w0 h m R e N col u v E sb rb w) {v1 v2 : Value} {D : PS} (P : PairI w col m D (.slice none 0 0) (.slice none 0 0) [] 0) (hB : OwnG w u.1 (h + 1) 33 1 v1 (m + 1) (ptrV sb m ++ [.pointer (some ⟨D.sb, 0, none⟩)]) w1) (hB2 : OwnG (w1.setCell ⟨h, 0, none⟩ v1) u.2 (h + 1) 101 1 v2 (m + 1) (ptrV rb m ++ [.pointer (some ⟨D.rb, 0, none⟩)]) w2) :
    w2.cell? ⟨h, 1, none⟩ = some u.2 ∧ w2.frozen? ⟨h, 1, none⟩ = false ∧ h < w2.heap.size ∧ ∃ col' sb' rb', Inv w0 h (m + 1) R e N col' (v1, v2) v E sb' rb' (w2.setCell ⟨h, 1, none⟩ v2) := by
  obtain ⟨_, _, _, _, x4, x5⟩ := I.push1 hB
  have b2 := x4.turns hB2.turns (fun c => by have := (World.ownsRow.lt x5 h c).1; omega)
  refine ⟨b2.cr, b2.free 1, b2.lt, ?_⟩
  have ap := owns_apart I.ss I.rs (by decide)
  have aps := owns_apart I.ss I.ls.own (by decide)
  have apr := owns_apart I.rs I.ls.own (by decide)
  have t1 : Turns (fun q => q = h) w1 (w1.setCell ⟨h, 0, none⟩ v1) := (Turns.refl (fun q => q = h) w1).setCell (x := ⟨h, 0, none⟩) (Or.inr rfl) _
  have t2 : Turns (fun q => q = h) w2 (w2.setCell ⟨h, 1, none⟩ v2) := (Turns.refl (fun q => q = h) w2).setCell (x := ⟨h, 1, none⟩) (Or.inr rfl) _
  have hh : h < w.heap.size := I.box.lt
  have z1 := hB.turns.size
  have z2 := t1.size
  have z3 := hB2.turns.size
  have z4 := t2.size
  have pA : ∀ q, u.1.ownBlock = some q → h + 1 ≤ q ∧ q < w.heap.size := fun q hq => World.ownsRow.lt I.ss q hq
  have pB : ∀ q, u.2.ownBlock = some q → h + 1 ≤ q ∧ q < w.heap.size := fun q hq => World.ownsRow.lt I.rs q hq
  have tt : Turns (fun q => q = h ∨ u.1.ownBlock = some q ∨ u.2.ownBlock = some q) w (w2.setCell ⟨h, 1, none⟩ v2) :=
    (((hB.turns.mono (fun q _ hq => Or.inr (Or.inl hq))).trans (t1.mono (fun q _ hq => Or.inl hq))).trans (hB2.turns.mono (fun q _ hq => Or.inr (Or.inr hq)))).trans (t2.mono (fun q _ hq => Or.inl hq))
  have hcc : ∀ q, (q = h ∨ u.1.ownBlock = some q ∨ u.2.ownBlock = some q) → col q = 1 ∧ q < w.heap.size := fun q hq => by
    rcases hq with c | c | c
    · rw [c]; exact ⟨I.ch, hh⟩
    · exact ⟨I.css q c, (pA q c).2⟩
    · exact ⟨I.crs q c, (pB q c).2⟩
  obtain ⟨col', hcol'⟩ : ∃ col' : Nat → Nat, col' = fun q => if q < w.heap.size then col q else if v1.ownBlock = some q ∨ v2.ownBlock = some q then 1 else 0 := ⟨_, rfl⟩
  have cold : ∀ q, q < w.heap.size → col' q = col q := fun q hq => by rw [hcol']; simp only; rw [if_pos hq]
  have cnew : ∀ q, (v1.ownBlock = some q ∨ v2.ownBlock = some q) → w.heap.size ≤ q → col' q = 1 := fun q hq h1 => by rw [hcol']; simp only; rw [if_neg (by omega), if_pos hq]
  have hv1 : ∀ q, v1.ownBlock = some q → h + 1 ≤ q ∧ q < w1.heap.size := fun q hq => World.ownsRow.lt hB.own q hq
  have hv2 : ∀ q, v2.ownBlock = some q → h + 1 ≤ q ∧ q < w2.heap.size := fun q hq => World.ownsRow.lt hB2.own q hq
  have o1 : (w2.setCell ⟨h, 1, none⟩ v2).ownsRow (h + 1) 33 1 v1 (m + 1) (ptrV sb m ++ [.pointer (some ⟨D.sb, 0, none⟩)]) :=
    owns_turns_p (owns_turns_p (owns_turns_p hB.own t1 (fun q hq c => by have := (hv1 q hq).1; omega)) hB2.turns (fun q hq c => by
      rcases hB.block q hq with g | g
      · exact ap q g c
      · have := (pB q c).2; omega)) t2 (fun q hq c => by have := (hv1 q hq).1; omega)
  have o2 : (w2.setCell ⟨h, 1, none⟩ v2).ownsRow (h + 1) 101 1 v2 (m + 1) (ptrV rb m ++ [.pointer (some ⟨D.rb, 0, none⟩)]) := owns_turns_p hB2.own t2 (fun q hq c => by have := (hv2 q hq).1; omega)
  refine ⟨col', fun k => if k = m then D.sb else sb k, fun k => if k = m then D.rb else rb k, b2.setr v2, by rw [cold _ hh]; exact I.ch, ?_, ?_, fun q hq => ?_, fun q hq => ?_,
    I.ls.turns tt (fun q hq c => ?_) (fun y hy q hq c => ?_), fun q hq => by rw [cold _ (World.ownsRow.lt I.ls.own q hq).2]; exact I.cv q hq, fun y hy q hq => by rw [cold _ ((I.ls.full y hy).lt q hq).2.1]; exact I.ce y hy q hq, I.el, fun j hj => ?_, I.t.join tt (fun q hq _ c => ?_), I.h0, fun q hq => by rw [cold _ (Nat.lt_of_lt_of_le hq I.t.size)]; exact I.cw q hq⟩
  · rw [ptrV_succ (f := sb) (fun k hk => if_neg (by omega)), if_pos rfl]; exact o1
  · rw [ptrV_succ (f := rb) (fun k hk => if_neg (by omega)), if_pos rfl]; exact o2
  · rcases hB.block q hq with g | g
    · rw [cold _ (pA q g).2]; exact I.css q g
    · exact cnew q (Or.inl hq) g
  · rcases hB2.block q hq with g | g
    · rw [cold _ (pB q g).2]; exact I.crs q g
    · exact cnew q (Or.inr hq) (by omega)
  · rcases c with c | c | c
    · have := (World.ownsRow.lt I.ls.own q hq).1; omega
    · exact aps q c hq
    · exact apr q c hq
  · have h1 := (hcc q c).1
    rw [I.ce y hy q hq] at h1
    omega
  · by_cases c : j = m
    · subst c
      refine ⟨D, _, _, _, _, (if_pos rfl).symm, (if_pos rfl).symm, Nat.zero_le _, (P.recol (col' := col') (fun q hq _ => cold q hq)).turns tt (fun q hq => ?_)⟩
      have h1 := hcc q hq
      rw [cold q h1.2]
      omega
    · obtain ⟨D', kv2, kr2, K2, r2, g1, g2, g3, g4⟩ := I.ps j (by omega)
      refine ⟨D', kv2, kr2, K2, r2, g1.trans (if_neg c).symm, g2.trans (if_neg c).symm, g3, (g4.recol (col' := col') (fun q hq _ => cold q hq)).turns tt (fun q hq => ?_)⟩
      have h1 := hcc q hq
      rw [cold q h1.2]
      omega
  · have h2 := (hcc q c).1
    rw [I.cw q hq] at h2
    omega
end
end Go.Proofs.YtdogncjcainhlaaGreatDoor
/- The library's contract of slices.SortFunc at structs, laid at this translation. -/
namespace Go.Proofs.YtdogncjcainhlaaGreatDoor
open Go.Shelf Go.Lib Go.RowKit Go.Sort
def sortNear_ren : Go.Shelf.Ren := ⟨fun | 6 => 49 | 15 => 87 | 14 => 86 | 28 => 138 | 29 => 139 | 20 => 130 | 21 => 131 | 22 => 132 | 23 => 133 | 24 => 134 | 25 => 135 | 26 => 136 | 27 => 137 | 46 => 164 | 47 => 165 | 48 => 166 | 49 => 167 | 50 => 168 | 57 => 186 | n => n, fun | 22 => 62 | 24 => 66 | 25 => 138 | 3 => 3 | 39 => 194 | 0 => 0 | 53 => 88 | 55 => 244 | 4 => 4 | 46 => 237 | 45 => 236 | 50 => 174 | 5 => 5 | 9 => 9 | 66 => 265 | 70 => 269 | 76 => 285 | 77 => 167 | n => n, fun | n => n⟩
theorem sortNear : Go.Proofs.SlLaysF0.n6 Tryz.prog sortNear_ren := {
  mixed := by kernel_rfl
  f6 := ⟨Tryz.f49.name, by decide, Tryz.func49.trans (congrArg some (by kernel_rfl))⟩
  f14 := ⟨Tryz.f86.name, by decide, Tryz.func86.trans (congrArg some (by kernel_rfl))⟩
  f15 := Tryz.func87.trans (congrArg some (by kernel_rfl))
  f20 := ⟨Tryz.f130.name, by decide, Tryz.func130.trans (congrArg some (by kernel_rfl))⟩
  f21 := ⟨Tryz.f131.name, by decide, Tryz.func131.trans (congrArg some (by kernel_rfl))⟩
  f22 := ⟨Tryz.f132.name, by decide, Tryz.func132.trans (congrArg some (by kernel_rfl))⟩
  f23 := ⟨Tryz.f133.name, by decide, Tryz.func133.trans (congrArg some (by kernel_rfl))⟩
  f24 := ⟨Tryz.f134.name, by decide, Tryz.func134.trans (congrArg some (by kernel_rfl))⟩
  f25 := ⟨Tryz.f135.name, by decide, Tryz.func135.trans (congrArg some (by kernel_rfl))⟩
  f26 := ⟨Tryz.f136.name, by decide, Tryz.func136.trans (congrArg some (by kernel_rfl))⟩
  f27 := ⟨Tryz.f137.name, by decide, Tryz.func137.trans (congrArg some (by kernel_rfl))⟩
  f28 := Tryz.func138.trans (congrArg some (by kernel_rfl))
  f29 := Tryz.func139.trans (congrArg some (by kernel_rfl))
  f46 := ⟨Tryz.f164.name, by decide, Tryz.func164.trans (congrArg some (by kernel_rfl))⟩
  f47 := Tryz.func165.trans (congrArg some (by kernel_rfl))
  f48 := Tryz.func166.trans (congrArg some (by kernel_rfl))
  f49 := ⟨Tryz.f167.name, by decide, Tryz.func167.trans (congrArg some (by kernel_rfl))⟩
  f50 := ⟨Tryz.f168.name, by decide, Tryz.func168.trans (congrArg some (by kernel_rfl))⟩
  f57 := ⟨Tryz.f186.name, by decide, Tryz.func186.trans (congrArg some (by kernel_rfl))⟩
  t0 := Tryz.underlying0
  a0 := Tryz.isAgg0
  z0 := Tryz.sizeOf0
  v0 := Tryz.zeroValue0
  t3 := Tryz.underlying3
  a3 := Tryz.isAgg3
  z3 := Tryz.sizeOf3
  v3 := Tryz.zeroValue3
  t4 := Tryz.underlying4
  a4 := Tryz.isAgg4
  z4 := Tryz.sizeOf4
  v4 := Tryz.zeroValue4
  t5 := Tryz.underlying5
  a5 := Tryz.isAgg5
  z5 := Tryz.sizeOf5
  v5 := Tryz.zeroValue5
  t9 := Tryz.underlying9
  a9 := Tryz.isAgg9
  z9 := Tryz.sizeOf9
  v9 := Tryz.zeroValue9
  t22 := Tryz.underlying62
  a22 := Tryz.isAgg62
  z22 := Tryz.sizeOf62
  v22 := Tryz.zeroValue62
  t25 := Tryz.underlying138
  a25 := Tryz.isAgg138
  z25 := Tryz.sizeOf138
  v25 := Tryz.zeroValue138
  t39 := Tryz.underlying194
  a39 := Tryz.isAgg194
  z39 := Tryz.sizeOf194
  v39 := Tryz.zeroValue194
  t45 := Tryz.underlying236
  a45 := Tryz.isAgg236
  z45 := Tryz.sizeOf236
  v45 := Tryz.zeroValue236
  t46 := Tryz.underlying237
  a46 := Tryz.isAgg237
  z46 := Tryz.sizeOf237
  v46 := Tryz.zeroValue237
  t50 := Tryz.underlying174
  a50 := Tryz.isAgg174
  z50 := Tryz.sizeOf174
  v50 := Tryz.zeroValue174
  t53 := Tryz.underlying88
  a53 := Tryz.isAgg88
  z53 := Tryz.sizeOf88
  v53 := Tryz.zeroValue88
  t55 := Tryz.underlying244
  a55 := Tryz.isAgg244
  z55 := Tryz.sizeOf244
  v55 := Tryz.zeroValue244
  t66 := Tryz.underlying265
  a66 := Tryz.isAgg265
  z66 := Tryz.sizeOf265
  v66 := Tryz.zeroValue265
  t70 := Tryz.underlying269
  a70 := Tryz.isAgg269
  z70 := Tryz.sizeOf269
  v70 := Tryz.zeroValue269
  t76 := Tryz.underlying285
  a76 := Tryz.isAgg285
  z76 := Tryz.sizeOf285
  v76 := Tryz.zeroValue285
  t77 := Tryz.underlying167
  a77 := Tryz.isAgg167
  z77 := Tryz.sizeOf167
  v77 := Tryz.zeroValue167 }
theorem slices_SortFunc_near {α : Type} [Inhabited α] (enc : α → List Value) (hk : ∀ x, (enc x).length = 2) (h1 : ∀ x, ∀ v ∈ enc x, v.oneCell' = true) (cf : α → α → Int) (hO : SWO (ltOf cf)) (g : Nat) (cb : Array Value) (blk off cap : Nat) (d : Array α) (w : World)
    (eg : ∀ args w, (callFunc g args).run Tryz.prog w = .ok (.enter g args) w) (hcmp : CmpLays Tryz.prog g cb enc 2 cf blk off d.size w) (hH : HoldsK enc 2 w blk off d) (hblk : blk < w.heap.size) (hsz : d.size < 4611686018427387904) (hT : ∀ x y, (ltOf cf) x y = false → (ltOf cf) y x = false → x = y) :
    Calls Tryz.prog 49 #[.slice (some ⟨blk, off, none⟩) d.size cap, .func (.func g) #[] cb] w fun e w' =>
      e = .returned (.tuple #[]) ∧ ∃ n os, w' = sortWorldK enc 2 w blk off n (d.toList.mergeSort fun x y => !(ltOf cf) y x).toArray os := AnyQ.slices_SortFunc_total sortNear 2 Tryz.isAgg66 Tryz.sizeOf66 enc hk h1 cf hO g cb blk off cap d w eg hcmp hH hblk hsz hT
theorem slices_SortFunc_near0 (p : Option Addr) (cap : Nat) (fv : Value) (w : World) : Calls Tryz.prog 49 #[.slice p 0 cap, fv] w fun e w' => e = .returned (.tuple #[]) ∧ w' = w := AnyF.slices_SortFunc_none sortNear p cap fv w
#print axioms slices_SortFunc_near
end Go.Proofs.YtdogncjcainhlaaGreatDoor
