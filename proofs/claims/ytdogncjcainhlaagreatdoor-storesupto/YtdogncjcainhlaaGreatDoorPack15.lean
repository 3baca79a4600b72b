/- Pack15: texts of one proof, one behind the other. -/
import Derived.Test.YtdogncjcainhlaaGreatDoorPack14
import Derived.Test.YtdogncjcainhlaaGreatDoorPack2
import Derived.Test.YtdogncjcainhlaaGreatDoorPack5
import Derived.Test.YtdogncjcainhlaaGreatDoorPack10
import Derived.Test.YtdogncjcainhlaaGreatDoorPack11
import Derived.Test.YtdogncjcainhlaaGreatDoorPack13
import Derived.Test.YtdogncjcainhlaaGreatDoorPack7
/- The walk of the reference's Taker: a label. -/
namespace Go.Proofs.YtdogncjcainhlaaGreatDoor
open Go.RowKit Go.Deep
open Mem

theorem infoRHub : (Tryz.prog.info? 100).map (fun i => (i.zero, i.size, i.bytes)) = some (some (.agg #[.int .i64 0, .int .i64 0]), 2, 16) := by kernel_rfl
/-- What a label hands back. -/
def LbPost (w : World) (b : Nat) (s : ByteArray) (a rank : Nat) (e : Ending) (w' : World) : Prop := Turns (fun q => q = b) w w' ∧ match Pu.tkLab rank (s.data.toList.drop a) with
  | none => ∃ v a', e = .returned v ∧ TkB w' b s a' true
  | some (H, r) => ∃ v, e = .returned v ∧ w'.ownsRow w.heap.size 100 2 v H.length (hubV H) ∧ TkB w' b s (s.size - r.length) false
set_option maxRecDepth 100000 in
set_option maxHeartbeats 8000000 in
theorem tklabel_any {w : World} {b : Nat} {s : ByteArray} {a rank : Nat} (h : TkB w b s a false) (hs : s.size ≤ 60000) (hr : rank < 40) :
    Calls Tryz.prog 112 #[.pointer (some ⟨b, 0, none⟩), .int .i64 (rank : Int)] w (LbPost w b s a rank) := by
  have k := tkcount_any h (by omega)
  unfold CntPost at k
  cases e0 : Pu.cntR (s.data.toList.drop a) with
  | none =>
    rw [e0] at k
    simp only at k
    have e1 : Pu.tkLab rank (s.data.toList.drop a) = none := by unfold Pu.tkLab; rw [e0]
    have HP : Hid (Pu.tkLab rank (s.data.toList.drop a) = none) := e1
    clear e1 e0 h
    go_enter Tryz.func112, Tryz.ntmps112
    go_wp2_with fail
    refine k.mono ?_
    rintro e w1 ⟨h1, x0, a', rfl, hx0, hx1, h2⟩
    have d2 := h2.c2
    have d0 := h2.lt
    have df := h2.free 2
    have HZ : Hid (Turns (fun q => q = b) w (w1.setCell ⟨b, 2, none⟩ (.bool true)) ∧ TkB (w1.setCell ⟨b, 2, none⟩ (.bool true)) b s a' true) := ⟨h1.setCell (x := ⟨b, 2, none⟩) (Or.inr rfl) _, h2.set2 true⟩
    clear k h1 h2
    go_wp2_with fail
    go_loopw [6, 7, 8] (fun lv nv iv wr => wr = w1 ∧ lv = .slice none 0 0 ∧ nv = .int .i64 0 ∧ iv = .int .i64 0) (fun _ _ iv _ => 1)
    case atStart => exact ⟨rfl, rfl, rfl, rfl⟩
    case round =>
      obtain ⟨rfl, rfl, rfl, rfl⟩ := hrel
      by_cases hlt : 0 < x0
      · go_wp2
        go_ret
        unfold LbPost
        rw [HP.out]
        exact ⟨HZ.out.1, _, _, rfl, HZ.out.2⟩
      · go_wp2
        go_ret
        unfold LbPost
        rw [HP.out]
        exact ⟨HZ.out.1, _, _, rfl, HZ.out.2⟩
  | some z =>
    obtain ⟨n, k0⟩ := z
    rw [e0] at k
    simp only at k
    have hnb := (Pu.cntR_some e0).1
    go_enter Tryz.func112, Tryz.ntmps112
    go_wp2_with fail
    refine k.mono ?_
    rintro e w1 ⟨h1, rfl, h2⟩
    have HX : Hid (Turns (fun q => q = b) w w1 ∧ TkB w1 b s (a + k0) false) := ⟨h1, h2⟩
    clear k h1 h2
    obtain ⟨RES, hRES⟩ : ∃ RES, RES = Pu.tkHubs rank n 0 (s.data.toList.drop (a + k0)) := ⟨_, rfl⟩
    have hkp := Pu.cntR_pos e0
    rw [List.length_drop, ← size_list] at hkp
    have HTL : Hid (Pu.tkLab rank (s.data.toList.drop a) = if n = 0 then none else RES) := by
      show _ = _
      unfold Pu.tkLab
      rw [e0, hRES]
      simp only [List.drop_drop]
    have hbw := h.lt
    have H0 : Hid (∃ (xn ai : Nat) (H : List (Nat × Int)), (0 : Int) = (xn : Int) ∧ TkB w1 b s ai false ∧ ai ≤ s.size ∧ 0 ≤ xn ∧ xn ≤ rank + 1 ∧ w1.ownsRow w.heap.size 100 2 (.slice none 0 0) 0 (hubV H) ∧ H.length = 0 ∧ RES = (Pu.tkHubs rank (n - 0) xn (s.data.toList.drop ai)).map (fun p => (H ++ p.1, p.2))) := ⟨0, a + k0, [], rfl, HX.out.2, by omega, by omega, by omega, World.ownsRow_nil _ _ _ _, rfl, by rw [hRES]; simp⟩
    have HT0 : Hid (Turns (fun q => q = b) w w1) := HX.out.1
    clear hRES e0 HX h
    go_wp2_with fail
    go_loopw [6, 7, 8] (fun lv nv iv wr => ∃ (i : Nat) (x : Value) (wy : World) (nx : Int), x = lv ∧ nv = .int .i64 nx ∧ iv = .int .i64 (i : Int) ∧ i ≤ n ∧ wy = wr ∧ Hid (Turns (fun q => q = b) w wy ∧ ((∃ a', TkB wy b s a' true ∧ RES = none) ∨ ∃ (xn ai : Nat) (H : List (Nat × Int)), nx = (xn : Int) ∧ TkB wy b s ai false ∧ ai ≤ s.size ∧ i ≤ xn ∧ xn ≤ rank + 1 ∧ wy.ownsRow w.heap.size 100 2 x i (hubV H) ∧ H.length = i ∧ RES = (Pu.tkHubs rank (n - i) xn (s.data.toList.drop ai)).map (fun p => (H ++ p.1, p.2))))) (fun _ _ iv _ => n - (intOf iv).toNat)
    case atStart => exact ⟨0, _, w1, 0, rfl, rfl, rfl, by omega, rfl, HT0.out, Or.inr H0.out⟩
    case round =>
      clear H0 HT0
      obtain ⟨i, x, wr, nx, hx, rfl, rfl, hin, hwy, HI⟩ := hrel
      subst hwy hx
      have HTr : Hid (Turns (fun q => q = b) w wr) := HI.out.1
      rcases HI.out.2 with ⟨a', hK, hRN⟩ | ⟨xn, ai, H, rfl, hK, hai, hix, hxr, hrow, hHl, hRG⟩
      · have d2 := hK.c2
        have d0 := hK.lt
        have df := hK.free 2
        have HZ : Hid (Turns (fun q => q = b) w (wr.setCell ⟨b, 2, none⟩ (.bool true)) ∧ TkB (wr.setCell ⟨b, 2, none⟩ (.bool true)) b s a' true) := ⟨HTr.out.setCell (x := ⟨b, 2, none⟩) (Or.inr rfl) _, hK.set2 true⟩
        have HP : Hid (Pu.tkLab rank (s.data.toList.drop a) = none) := by
          show _ = _
          rw [HTL.out, hRN]; split <;> rfl
        clear HI hK hRN HTL
        by_cases hlt : i < n
        · have hii : (i : Int) < (n : Int) := by omega
          go_wp2
          go_ret
          unfold LbPost
          rw [HP.out]
          exact ⟨HZ.out.1, _, _, rfl, HZ.out.2⟩
        · have hii : ¬ (i : Int) < (n : Int) := by omega
          go_wp2
          go_ret
          unfold LbPost
          rw [HP.out]
          exact ⟨HZ.out.1, _, _, rfl, HZ.out.2⟩
      · have hxw : ∀ q, x.ownBlock = some q → w.heap.size ≤ q := fun q hq => (World.ownsRow.lt hrow q hq).1
        have d2 := hK.c2
        have d0 := hK.lt
        have df := hK.free 2
        by_cases hlt : i < n
        · have hii : (i : Int) < (n : Int) := by omega
          obtain ⟨xs, hxs⟩ : ∃ xs, xs = hubV H := ⟨_, rfl⟩
          have HXS : Hid (xs = hubV H) := hxs
          rw [← hxs] at hrow
          have HRR : Hid (wr.ownsRow w.heap.size 100 2 x i xs) := hrow
          obtain ⟨lb, hlb⟩ : ∃ lb : Bool, lb = decide (n - i - 1 = 0) := ⟨_, rfl⟩
          have hl1 : ((i : Int) == (n : Int) - 1) = lb := by
            rw [hlb, Bool.eq_iff_iff]; simp; omega
          have hni : n - i = (n - i - 1) + 1 := by omega
          rw [hni] at hRG
          have k1 := tkcount_any hK (by omega)
          unfold CntPost at k1
          cases ec1 : Pu.cntR (s.data.toList.drop ai) with
          | none =>
            rw [ec1] at k1
            simp only at k1
            have HRN : Hid (RES = none) := by show _ = _; rw [hRG, Pu.tkHubs, ec1]; rfl
            clear hRG hK HI ec1 hlb hxs hrow hHl
            go_wp2_with fail
            refine k1.mono ?_
            rintro e w2 ⟨h1, x0, a3, rfl, hx0, hx1, h2⟩
            have H2 : Hid (Turns (fun q => q = b) w w2 ∧ TkB w2 b s a3 true ∧ w2.ownsRow w.heap.size 100 2 x i xs) := ⟨HTr.out.trans h1, h2, owns_turns_p HRR.out h1 (fun q hq c => by have := hxw q hq; omega)⟩
            have k2 := count_bad h2
            clear k1 h1 h2 HTr HRR d2 d0 df
            go_wp2_with fail
            refine k2.mono ?_
            rintro e w3 ⟨rfl, h1, h2⟩
            have HT3 : Hid (Turns (fun q => q = b) w w3) := H2.out.1.trans h2
            have HK3 : Hid (TkB w3 b s a3 true) := h1
            have HQ : Hid (∀ wz, Turns (fun q => q = b) w3 wz → wz.ownsRow w.heap.size 100 2 x i xs) := fun wz t => owns_turns_p H2.out.2.2 (h2.trans t) (fun q hq c => by have := hxw q hq; omega)
            have d2 := h1.c2
            have d0 := h1.lt
            have df := h1.free 2
            obtain ⟨rr, hrr⟩ : ∃ rr, rr = (xn : Int) + x0 := ⟨_, rfl⟩
            have hrw : IntKind.i64.wrap ((xn : Int) + x0) = rr := by rw [IntKind.wrap_i64]; omega
            have hrb : -1000 ≤ rr ∧ rr ≤ 20000000 := by omega
            obtain ⟨fx, hfx⟩ : ∃ fx : Int, fx = 0 := ⟨_, rfl⟩
            rw [← hrr, ← hfx]
            have hfb : -1000 ≤ fx ∧ fx ≤ 20000000 := by omega
            clear k2 h1 h2 H2 hrr hfx hx0 hx1
            have hpaths : (decide ((rank : Int) < rr) = true) ∨ (decide ((rank : Int) < rr) = false ∧ (!((rr == (rank : Int)) == lb)) = true) ∨ (decide ((rank : Int) < rr) = false ∧ (!((rr == (rank : Int)) == lb)) = false ∧ (!((fx == 0) == lb)) = true) ∨ (decide ((rank : Int) < rr) = false ∧ (!((rr == (rank : Int)) == lb)) = false ∧ (!((fx == 0) == lb)) = false ∧ decide ((39000 : Int) < fx) = true) ∨ (decide ((rank : Int) < rr) = false ∧ (!((rr == (rank : Int)) == lb)) = false ∧ (!((fx == 0) == lb)) = false ∧ decide ((39000 : Int) < fx) = false) := by
              cases c1 : decide ((rank : Int) < rr) with
              | true => exact Or.inl rfl
              | false =>
                cases c2 : (!((rr == (rank : Int)) == lb)) with
                | true => exact Or.inr (Or.inl ⟨rfl, rfl⟩)
                | false =>
                  cases c3 : (!((fx == 0) == lb)) with
                  | true => exact Or.inr (Or.inr (Or.inl ⟨rfl, rfl, rfl⟩))
                  | false =>
                    cases c4 : decide ((39000 : Int) < fx) with
                    | true => exact Or.inr (Or.inr (Or.inr (Or.inl ⟨rfl, rfl, rfl, rfl⟩)))
                    | false => exact Or.inr (Or.inr (Or.inr (Or.inr ⟨rfl, rfl, rfl, rfl⟩)))
            rcases hpaths with q1 | ⟨q1, q2⟩ | ⟨q1, q2, q3⟩ | ⟨q1, q2, q3, q4⟩ | ⟨q1, q2, q3, q4⟩
            case inr.inr.inr.inr =>
              have HO : Hid (OwnG w3 x w.heap.size 100 2 x i xs w3) := OwnG.refl (HQ.out _ (Turns.refl _ _))
              have hsz : w.heap.size ≤ (w3 : World).heap.size := by exact HT3.out.size
              go_wp2_with (at_builtin; first | (refine wpList_append_one rfl _ _ 98 rfl 100 2 16 _ Tryz.underlying98 infoRHub rfl (by decide) w3 w3 x x w.heap.size i xs #[.int .i64 rr, .int .i64 fx] rfl (by intro u hu; simp at hu; rcases hu with rfl | rfl <;> rfl) HO.out hsz (by omega) (by omega) rfl _ rfl (by first | rfl | simp) ?_) | (exfalso; omega) | (exfalso; simp_all; done) | (exfalso; simp_all; omega))
              intro v' w6 hB
              have HZ : Hid (Turns (fun q => q = b) w w6 ∧ TkB w6 b s a3 true) := by
                have t1 : Turns (fun q => q = b) w w3 := HT3.out
                have k1 : TkB w3 b s a3 true := HK3.out
                exact ⟨t1.join hB.turns (fun q hq _ c => by have := hxw q c; omega), k1.turns hB.turns (fun c => by have := hxw b c; omega)⟩
              clear hB HO
              go_wp2
              go_roundw
              case measure => simp [intOf]; omega
              case rel => exact ⟨i + 1, v', w6, _, rfl, rfl, by go_num, by omega, rfl, HZ.out.1, Or.inl ⟨a3, HZ.out.2, HRN.out⟩⟩
            all_goals
              have HO : Hid (OwnG (w3.setCell ⟨b, 2, none⟩ (.bool true)) x w.heap.size 100 2 x i xs (w3.setCell ⟨b, 2, none⟩ (.bool true))) := OwnG.refl (HQ.out _ ((Turns.refl (fun q => q = b) _).setCell (x := ⟨b, 2, none⟩) (Or.inr rfl) _))
              have hsz : w.heap.size ≤ ((w3.setCell ⟨b, 2, none⟩ (.bool true)) : World).heap.size := by simp; exact HT3.out.size
              go_wp2_with (at_builtin; first | (refine wpList_append_one rfl _ _ 98 rfl 100 2 16 _ Tryz.underlying98 infoRHub rfl (by decide) (w3.setCell ⟨b, 2, none⟩ (.bool true)) (w3.setCell ⟨b, 2, none⟩ (.bool true)) x x w.heap.size i xs #[.int .i64 rr, .int .i64 fx] rfl (by intro u hu; simp at hu; rcases hu with rfl | rfl <;> rfl) HO.out hsz (by omega) (by omega) rfl _ rfl (by first | rfl | simp) ?_) | (exfalso; omega) | (exfalso; simp_all; done) | (exfalso; simp_all; omega))
              intro v' w6 hB
              have HZ : Hid (Turns (fun q => q = b) w w6 ∧ TkB w6 b s a3 true) := by
                have t1 : Turns (fun q => q = b) w (w3.setCell ⟨b, 2, none⟩ (.bool true)) := HT3.out.setCell (x := ⟨b, 2, none⟩) (Or.inr rfl) _
                have k1 : TkB (w3.setCell ⟨b, 2, none⟩ (.bool true)) b s a3 true := HK3.out.set2 true
                exact ⟨t1.join hB.turns (fun q hq _ c => by have := hxw q c; omega), k1.turns hB.turns (fun c => by have := hxw b c; omega)⟩
              clear hB HO
              go_wp2
              go_roundw
              case measure => simp [intOf]; omega
              case rel => exact ⟨i + 1, v', w6, _, rfl, rfl, by go_num, by omega, rfl, HZ.out.1, Or.inl ⟨a3, HZ.out.2, HRN.out⟩⟩
          | some z1 =>
            obtain ⟨gg, k1'⟩ := z1
            rw [ec1] at k1
            simp only at k1
            have hgb := (Pu.cntR_some ec1).1
            have hk1p := Pu.cntR_pos ec1
            rw [List.length_drop, ← size_list] at hk1p
            have k2 : Hid (∀ w2, TkB w2 b s (ai + k1') false → Calls Tryz.prog 111 #[.pointer (some ⟨b, 0, none⟩)] w2 (CntPost w2 b s (ai + k1'))) := fun w2 h2 => tkcount_any h2 (by omega)
            unfold CntPost at k2
            rw [Pu.tkHubs, ec1] at hRG
            simp only [List.drop_drop] at hRG
            cases ec2 : Pu.cntR (s.data.toList.drop (ai + k1')) with
            | none =>
              rw [ec2] at k2
              simp only at k2
              rw [ec2] at hRG
              have HRN : Hid (RES = none) := hRG
              clear hRG hK HI ec1 ec2 hlb hxs hrow hHl
              go_wp2_with fail
              refine k1.mono ?_
              rintro e w2 ⟨h1, rfl, h2⟩
              have H2 : Hid (Turns (fun q => q = b) w w2 ∧ TkB w2 b s (ai + k1') false ∧ w2.ownsRow w.heap.size 100 2 x i xs) := ⟨HTr.out.trans h1, h2, owns_turns_p HRR.out h1 (fun q hq c => by have := hxw q hq; omega)⟩
              clear k1 h1 h2 HTr HRR d2 d0 df
              go_wp2_with fail
              refine (k2.out w2 H2.out.2.1).mono ?_
              rintro e w3 ⟨h2, fx, a3, rfl, hfx0, hfx1, h1⟩
              have HT3 : Hid (Turns (fun q => q = b) w w3) := H2.out.1.trans h2
              have HK3 : Hid (TkB w3 b s a3 true) := h1
              have HQ : Hid (∀ wz, Turns (fun q => q = b) w3 wz → wz.ownsRow w.heap.size 100 2 x i xs) := fun wz t => owns_turns_p H2.out.2.2 (h2.trans t) (fun q hq c => by have := hxw q hq; omega)
              have d2 := h1.c2
              have d0 := h1.lt
              have df := h1.free 2
              obtain ⟨rr, hrr⟩ : ∃ rr, rr = (xn : Int) + (gg : Int) := ⟨_, rfl⟩
              rw [← hrr]
              have hrb : -1000 ≤ rr ∧ rr ≤ 20000000 := by omega
              clear k2 h1 h2 H2 hrr
              have hpaths : (decide ((rank : Int) < rr) = true) ∨ (decide ((rank : Int) < rr) = false ∧ (!((rr == (rank : Int)) == lb)) = true) ∨ (decide ((rank : Int) < rr) = false ∧ (!((rr == (rank : Int)) == lb)) = false ∧ (!((fx == 0) == lb)) = true) ∨ (decide ((rank : Int) < rr) = false ∧ (!((rr == (rank : Int)) == lb)) = false ∧ (!((fx == 0) == lb)) = false ∧ decide ((39000 : Int) < fx) = true) ∨ (decide ((rank : Int) < rr) = false ∧ (!((rr == (rank : Int)) == lb)) = false ∧ (!((fx == 0) == lb)) = false ∧ decide ((39000 : Int) < fx) = false) := by
                cases c1 : decide ((rank : Int) < rr) with
                | true => exact Or.inl rfl
                | false =>
                  cases c2 : (!((rr == (rank : Int)) == lb)) with
                  | true => exact Or.inr (Or.inl ⟨rfl, rfl⟩)
                  | false =>
                    cases c3 : (!((fx == 0) == lb)) with
                    | true => exact Or.inr (Or.inr (Or.inl ⟨rfl, rfl, rfl⟩))
                    | false =>
                      cases c4 : decide ((39000 : Int) < fx) with
                      | true => exact Or.inr (Or.inr (Or.inr (Or.inl ⟨rfl, rfl, rfl, rfl⟩)))
                      | false => exact Or.inr (Or.inr (Or.inr (Or.inr ⟨rfl, rfl, rfl, rfl⟩)))
              rcases hpaths with q1 | ⟨q1, q2⟩ | ⟨q1, q2, q3⟩ | ⟨q1, q2, q3, q4⟩ | ⟨q1, q2, q3, q4⟩
              case inr.inr.inr.inr =>
                have HO : Hid (OwnG w3 x w.heap.size 100 2 x i xs w3) := OwnG.refl (HQ.out _ (Turns.refl _ _))
                have hsz : w.heap.size ≤ (w3 : World).heap.size := by exact HT3.out.size
                go_wp2_with (at_builtin; first | (refine wpList_append_one rfl _ _ 98 rfl 100 2 16 _ Tryz.underlying98 infoRHub rfl (by decide) w3 w3 x x w.heap.size i xs #[.int .i64 rr, .int .i64 fx] rfl (by intro u hu; simp at hu; rcases hu with rfl | rfl <;> rfl) HO.out hsz (by omega) (by omega) rfl _ rfl (by first | rfl | simp) ?_) | (exfalso; omega) | (exfalso; simp_all; done) | (exfalso; simp_all; omega))
                intro v' w6 hB
                have HZ : Hid (Turns (fun q => q = b) w w6 ∧ TkB w6 b s a3 true) := by
                  have t1 : Turns (fun q => q = b) w w3 := HT3.out
                  have k1 : TkB w3 b s a3 true := HK3.out
                  exact ⟨t1.join hB.turns (fun q hq _ c => by have := hxw q c; omega), k1.turns hB.turns (fun c => by have := hxw b c; omega)⟩
                clear hB HO
                go_wp2
                go_roundw
                case measure => simp [intOf]; omega
                case rel => exact ⟨i + 1, v', w6, _, rfl, rfl, by go_num, by omega, rfl, HZ.out.1, Or.inl ⟨a3, HZ.out.2, HRN.out⟩⟩
              all_goals
                have HO : Hid (OwnG (w3.setCell ⟨b, 2, none⟩ (.bool true)) x w.heap.size 100 2 x i xs (w3.setCell ⟨b, 2, none⟩ (.bool true))) := OwnG.refl (HQ.out _ ((Turns.refl (fun q => q = b) _).setCell (x := ⟨b, 2, none⟩) (Or.inr rfl) _))
                have hsz : w.heap.size ≤ ((w3.setCell ⟨b, 2, none⟩ (.bool true)) : World).heap.size := by simp; exact HT3.out.size
                go_wp2_with (at_builtin; first | (refine wpList_append_one rfl _ _ 98 rfl 100 2 16 _ Tryz.underlying98 infoRHub rfl (by decide) (w3.setCell ⟨b, 2, none⟩ (.bool true)) (w3.setCell ⟨b, 2, none⟩ (.bool true)) x x w.heap.size i xs #[.int .i64 rr, .int .i64 fx] rfl (by intro u hu; simp at hu; rcases hu with rfl | rfl <;> rfl) HO.out hsz (by omega) (by omega) rfl _ rfl (by first | rfl | simp) ?_) | (exfalso; omega) | (exfalso; simp_all; done) | (exfalso; simp_all; omega))
                intro v' w6 hB
                have HZ : Hid (Turns (fun q => q = b) w w6 ∧ TkB w6 b s a3 true) := by
                  have t1 : Turns (fun q => q = b) w (w3.setCell ⟨b, 2, none⟩ (.bool true)) := HT3.out.setCell (x := ⟨b, 2, none⟩) (Or.inr rfl) _
                  have k1 : TkB (w3.setCell ⟨b, 2, none⟩ (.bool true)) b s a3 true := HK3.out.set2 true
                  exact ⟨t1.join hB.turns (fun q hq _ c => by have := hxw q c; omega), k1.turns hB.turns (fun c => by have := hxw b c; omega)⟩
                clear hB HO
                go_wp2
                go_roundw
                case measure => simp [intOf]; omega
                case rel => exact ⟨i + 1, v', w6, _, rfl, rfl, by go_num, by omega, rfl, HZ.out.1, Or.inl ⟨a3, HZ.out.2, HRN.out⟩⟩
            | some z2 =>
              obtain ⟨ff, k2'⟩ := z2
              rw [ec2] at k2
              simp only at k2
              rw [ec2] at hRG
              simp only at hRG
              have hffb := (Pu.cntR_some ec2).1
              have hk2p := Pu.cntR_pos ec2
              rw [List.length_drop, ← size_list] at hk2p
              clear hK HI ec1 ec2 hxs hrow
              go_wp2_with fail
              refine k1.mono ?_
              rintro e w2 ⟨h1, rfl, h2⟩
              have H2 : Hid (Turns (fun q => q = b) w w2 ∧ TkB w2 b s (ai + k1') false ∧ w2.ownsRow w.heap.size 100 2 x i xs) := ⟨HTr.out.trans h1, h2, owns_turns_p HRR.out h1 (fun q hq c => by have := hxw q hq; omega)⟩
              clear k1 h1 h2 HTr HRR d2 d0 df
              go_wp2_with fail
              refine (k2.out w2 H2.out.2.1).mono ?_
              rintro e w3 ⟨h2, rfl, h1⟩
              obtain ⟨a3, ha3e⟩ : ∃ a3, a3 = ai + k1' + k2' := ⟨_, rfl⟩
              rw [← ha3e] at h1 hRG
              have ha3 : a3 ≤ s.size := by omega
              have HT3 : Hid (Turns (fun q => q = b) w w3) := H2.out.1.trans h2
              have HK3' : Hid (TkB w3 b s a3 false) := h1
              have HQ : Hid (∀ wz, Turns (fun q => q = b) w3 wz → wz.ownsRow w.heap.size 100 2 x i xs) := fun wz t => owns_turns_p H2.out.2.2 (h2.trans t) (fun q hq c => by have := hxw q hq; omega)
              have d2 := h1.c2
              have d0 := h1.lt
              have df := h1.free 2
              obtain ⟨rr, hrr⟩ : ∃ rr, rr = (xn : Int) + (gg : Int) := ⟨_, rfl⟩
              rw [← hrr]
              obtain ⟨fx, hfx⟩ : ∃ fx, fx = (ff : Int) := ⟨_, rfl⟩
              rw [← hfx]
              have hrb : -1000 ≤ rr ∧ rr ≤ 20000000 := by omega
              have HRE : Hid (rr = (xn : Int) + (gg : Int)) := hrr
              have HFE : Hid (fx = (ff : Int)) := hfx
              have eq2 : (rr == (rank : Int)) = decide (xn + gg = rank) := by rw [Bool.eq_iff_iff]; simp; omega
              have eq3 : (fx == 0) = decide (ff = 0) := by rw [Bool.eq_iff_iff]; simp; omega
              have HBADR : Hid ((rank < xn + gg ∨ (decide (xn + gg = rank) != lb) = true ∨ (decide (ff = 0) != lb) = true ∨ 39000 < ff) → RES = none) := fun c => by
                rw [hRG, if_pos (by rw [hlb] at c; exact c)]; rfl
              have HGOOD : Hid (¬ (rank < xn + gg ∨ (decide (xn + gg = rank) != lb) = true ∨ (decide (ff = 0) != lb) = true ∨ 39000 < ff) → RES = (Pu.tkHubs rank (n - (i + 1)) (xn + gg + 1) (s.data.toList.drop a3)).map (fun p => (H ++ [(xn + gg, (ff : Int))] ++ p.1, p.2))) := fun c => by
                rw [hRG, if_neg (by rw [hlb] at c; exact c), show n - i - 1 = n - (i + 1) by omega]
                cases Pu.tkHubs rank (n - (i + 1)) (xn + gg + 1) (s.data.toList.drop a3) with
                | none => rfl
                | some p => simp
              have HE2 : Hid ((rr == (rank : Int)) = decide (xn + gg = rank)) := eq2
              have HE3 : Hid ((fx == 0) = decide (ff = 0)) := eq3
              clear k2 h1 h2 H2 hRG hlb ha3e hrr hfx eq2 eq3
              have hpaths : (decide ((rank : Int) < rr) = true) ∨ (decide ((rank : Int) < rr) = false ∧ (!((rr == (rank : Int)) == lb)) = true) ∨ (decide ((rank : Int) < rr) = false ∧ (!((rr == (rank : Int)) == lb)) = false ∧ (!((fx == 0) == lb)) = true) ∨ (decide ((rank : Int) < rr) = false ∧ (!((rr == (rank : Int)) == lb)) = false ∧ (!((fx == 0) == lb)) = false ∧ decide ((39000 : Int) < fx) = true) ∨ (decide ((rank : Int) < rr) = false ∧ (!((rr == (rank : Int)) == lb)) = false ∧ (!((fx == 0) == lb)) = false ∧ decide ((39000 : Int) < fx) = false) := by
                cases c1 : decide ((rank : Int) < rr) with
                | true => exact Or.inl rfl
                | false =>
                  cases c2 : (!((rr == (rank : Int)) == lb)) with
                  | true => exact Or.inr (Or.inl ⟨rfl, rfl⟩)
                  | false =>
                    cases c3 : (!((fx == 0) == lb)) with
                    | true => exact Or.inr (Or.inr (Or.inl ⟨rfl, rfl, rfl⟩))
                    | false =>
                      cases c4 : decide ((39000 : Int) < fx) with
                      | true => exact Or.inr (Or.inr (Or.inr (Or.inl ⟨rfl, rfl, rfl, rfl⟩)))
                      | false => exact Or.inr (Or.inr (Or.inr (Or.inr ⟨rfl, rfl, rfl, rfl⟩)))
              rcases hpaths with q1 | ⟨q1, q2⟩ | ⟨q1, q2, q3⟩ | ⟨q1, q2, q3, q4⟩ | ⟨q1, q2, q3, q4⟩
              case inr.inr.inr.inr =>
                have HRG : Hid (RES = (Pu.tkHubs rank (n - (i + 1)) (xn + gg + 1) (s.data.toList.drop a3)).map (fun p => (H ++ [(xn + gg, (ff : Int))] ++ p.1, p.2))) := HGOOD.out (by
                  have p1 := of_decide_eq_false q1
                  have p4 := of_decide_eq_false q4
                  have p0 := HRE.out
                  have p2 := HFE.out
                  rw [← HE2.out, ← HE3.out]
                  rintro (c | c | c | c)
                  · omega
                  · exact absurd (q2.symm.trans c) (by simp)
                  · exact absurd (q3.symm.trans c) (by simp)
                  · omega)
                have HK3 := HK3'
                have hxg : xn + gg ≤ rank := by have p1 := of_decide_eq_false q1; have p0 := HRE.out; omega
                clear HBADR HGOOD HK3' HE2 HE3
                have HO : Hid (OwnG w3 x w.heap.size 100 2 x i xs w3) := OwnG.refl (HQ.out _ (Turns.refl _ _))
                have hsz : w.heap.size ≤ (w3 : World).heap.size := HT3.out.size
                go_wp2_with (at_builtin; first | (refine wpList_append_one rfl _ _ 98 rfl 100 2 16 _ Tryz.underlying98 infoRHub rfl (by decide) w3 w3 x x w.heap.size i xs #[.int .i64 rr, .int .i64 fx] rfl (by intro u hu; simp at hu; rcases hu with rfl | rfl <;> rfl) HO.out hsz (by omega) (by omega) rfl _ rfl (by first | rfl | simp) ?_) | (exfalso; omega) | (exfalso; simp_all; done) | (exfalso; simp_all; omega))
                intro v' w6 hB
                have HZ : Hid (Turns (fun q => q = b) w w6 ∧ TkB w6 b s a3 false ∧ w6.ownsRow w.heap.size 100 2 v' (i + 1) (hubV (H ++ [(xn + gg, (ff : Int))]))) := by
                  refine ⟨HT3.out.join hB.turns (fun q hq _ c => by have := hxw q c; omega), HK3.out.turns hB.turns (fun c => by have := hxw b c; omega), ?_⟩
                  have h6 := hB.own
                  rw [hubV_append, ← HXS.out]
                  have p0 := HRE.out
                  have p2 := HFE.out
                  have e6 : hubV [(xn + gg, (ff : Int))] = [Value.int .i64 rr, .int .i64 fx] := by rw [p0, p2]; rfl
                  rw [e6]
                  exact h6
                clear hB HO
                go_wp2
                go_roundw
                case measure => simp [intOf]; omega
                case rel => exact ⟨i + 1, v', w6, ((xn + gg + 1 : Nat) : Int), rfl, (by rw [HRE.out]; go_num), by go_num, by omega, rfl, HZ.out.1, Or.inr ⟨xn + gg + 1, a3, H ++ [(xn + gg, (ff : Int))], rfl, HZ.out.2.1, ha3, by omega, by omega, HZ.out.2.2, by rw [List.length_append]; simp; omega, HRG.out⟩⟩
              all_goals
                have HRN : Hid (RES = none) := HBADR.out (by
                  have p0 := HRE.out
                  have p2 := HFE.out
                  rw [← HE2.out, ← HE3.out]
                  first
                    | exact Or.inl (by have p1 := of_decide_eq_true q1; omega)
                    | exact Or.inr (Or.inl q2)
                    | exact Or.inr (Or.inr (Or.inl q3))
                    | exact Or.inr (Or.inr (Or.inr (by have p4 := of_decide_eq_true q4; omega))))
                clear HGOOD HBADR HE2 HE3
                have HO : Hid (OwnG (w3.setCell ⟨b, 2, none⟩ (.bool true)) x w.heap.size 100 2 x i xs (w3.setCell ⟨b, 2, none⟩ (.bool true))) := OwnG.refl (HQ.out _ ((Turns.refl (fun q => q = b) _).setCell (x := ⟨b, 2, none⟩) (Or.inr rfl) _))
                have hsz : w.heap.size ≤ ((w3.setCell ⟨b, 2, none⟩ (.bool true)) : World).heap.size := by simp; exact HT3.out.size
                go_wp2_with (at_builtin; first | (refine wpList_append_one rfl _ _ 98 rfl 100 2 16 _ Tryz.underlying98 infoRHub rfl (by decide) (w3.setCell ⟨b, 2, none⟩ (.bool true)) (w3.setCell ⟨b, 2, none⟩ (.bool true)) x x w.heap.size i xs #[.int .i64 rr, .int .i64 fx] rfl (by intro u hu; simp at hu; rcases hu with rfl | rfl <;> rfl) HO.out hsz (by omega) (by omega) rfl _ rfl (by first | rfl | simp) ?_) | (exfalso; omega) | (exfalso; simp_all; done) | (exfalso; simp_all; omega))
                intro v' w6 hB
                have HZ : Hid (Turns (fun q => q = b) w w6 ∧ TkB w6 b s a3 true) := by
                  have t1 : Turns (fun q => q = b) w (w3.setCell ⟨b, 2, none⟩ (.bool true)) := HT3.out.setCell (x := ⟨b, 2, none⟩) (Or.inr rfl) _
                  have k1 : TkB (w3.setCell ⟨b, 2, none⟩ (.bool true)) b s a3 true := HK3'.out.set2 true
                  exact ⟨t1.join hB.turns (fun q hq _ c => by have := hxw q c; omega), k1.turns hB.turns (fun c => by have := hxw b c; omega)⟩
                clear hB HO
                go_wp2
                go_roundw
                case measure => simp [intOf]; omega
                case rel => exact ⟨i + 1, v', w6, _, rfl, rfl, by go_num, by omega, rfl, HZ.out.1, Or.inl ⟨a3, HZ.out.2, HRN.out⟩⟩
        · have hii : ¬ (i : Int) < (n : Int) := by omega
          have hie : i = n := by omega
          have hRS : RES = some (H, s.data.toList.drop ai) := by
            rw [hRG, hie, Nat.sub_self, Pu.tkHubs]; simp
          by_cases hn0 : n = 0
          · have hz : ((n : Int) == 0) = true := by simp; omega
            have HZ : Hid (Turns (fun q => q = b) w (wr.setCell ⟨b, 2, none⟩ (.bool true)) ∧ TkB (wr.setCell ⟨b, 2, none⟩ (.bool true)) b s ai true) := ⟨HTr.out.setCell (x := ⟨b, 2, none⟩) (Or.inr rfl) _, hK.set2 true⟩
            have HP : Hid (Pu.tkLab rank (s.data.toList.drop a) = none) := by show _ = _; rw [HTL.out, if_pos hn0]
            clear HI hK hRG hRS HTL hrow
            go_wp2
            go_ret
            unfold LbPost
            rw [HP.out]
            exact ⟨HZ.out.1, _, _, rfl, HZ.out.2⟩
          · have hz : ((n : Int) == 0) = false := by simp; omega
            have HZ : Hid (Turns (fun q => q = b) w (wr.setCell ⟨b, 2, none⟩ (.bool false)) ∧ TkB (wr.setCell ⟨b, 2, none⟩ (.bool false)) b s ai false ∧ (wr.setCell ⟨b, 2, none⟩ (.bool false)).ownsRow w.heap.size 100 2 x H.length (hubV H)) := ⟨HTr.out.setCell (x := ⟨b, 2, none⟩) (Or.inr rfl) _, hK.set2 false, by
              rw [hHl]
              exact owns_turns_p hrow ((Turns.refl (fun q => q = b) wr).setCell (x := ⟨b, 2, none⟩) (Or.inr rfl) _) (fun q hq c => by have := hxw q hq; omega)⟩
            have HP : Hid (Pu.tkLab rank (s.data.toList.drop a) = some (H, s.data.toList.drop ai)) := by show _ = _; rw [HTL.out, if_neg hn0, hRS]
            have HA : Hid (s.size - (s.data.toList.drop ai).length = ai) := by show _ = _; rw [List.length_drop, ← size_list]; omega
            clear HI hK hRG hRS HTL hrow
            go_wp2
            go_ret
            unfold LbPost
            rw [HP.out]
            simp only
            rw [HA.out]
            exact ⟨HZ.out.1, _, rfl, HZ.out.2.2, HZ.out.2.1⟩
end Go.Proofs.YtdogncjcainhlaaGreatDoor
/- The walk of the reference's Taker: a label where something was wrong ahead. -/
namespace Go.Proofs.YtdogncjcainhlaaGreatDoor
open Go.RowKit Go.Deep
open Mem

set_option maxRecDepth 100000 in
set_option maxHeartbeats 1000000 in
theorem tklabel_bad {w : World} {b : Nat} {s : ByteArray} {a : Nat} {rank : Int} (h : TkB w b s a true) :
    Calls Tryz.prog 112 #[.pointer (some ⟨b, 0, none⟩), .int .i64 rank] w fun e w' => ∃ v, e = .returned v ∧ TkB w' b s a true ∧ Turns (fun q => q = b) w w' := by
  have k := count_bad h
  clear h
  go_enter Tryz.func112, Tryz.ntmps112
  go_wp2_with fail
  refine k.mono ?_
  rintro e w1 ⟨rfl, h2, h1⟩
  have d2 := h2.c2
  have d0 := h2.lt
  have df := h2.free 2
  have HZ : Hid (Turns (fun q => q = b) w (w1.setCell ⟨b, 2, none⟩ (.bool true)) ∧ TkB (w1.setCell ⟨b, 2, none⟩ (.bool true)) b s a true) := ⟨h1.setCell (x := ⟨b, 2, none⟩) (Or.inr rfl) _, h2.set2 true⟩
  clear k h1 h2
  go_wp2_with fail
  go_loopw [6, 7, 8] (fun lv nv iv wr => wr = w1 ∧ lv = .slice none 0 0 ∧ nv = .int .i64 0 ∧ iv = .int .i64 0) (fun _ _ iv _ => 1)
  case atStart => exact ⟨rfl, rfl, rfl, rfl⟩
  case round =>
    obtain ⟨rfl, rfl, rfl, rfl⟩ := hrel
    go_wp2
    go_ret
    exact ⟨_, rfl, HZ.out.2, HZ.out.1⟩
end Go.Proofs.YtdogncjcainhlaaGreatDoor
/- What a store's first bytes tell, byte by byte: no walk in it. -/
namespace Go.Proofs.YtdogncjcainhlaaGreatDoor
open Go.RowKit Go.Deep
open Mem

/-- A byte of the list, 0 where there is none. -/
def byteN (l : List UInt8) (i : Nat) : Nat := match l[i]? with
  | none => 0
  | some x => x.toNat
theorem byteN_lt (l : List UInt8) (i : Nat) : byteN l i < 256 := by
  unfold byteN
  split
  · omega
  · rename_i x _; exact x.toNat_lt
theorem byteN_some {l : List UInt8} {i : Nat} {x : UInt8} (h : l[i]? = some x) : byteN l i = x.toNat := by unfold byteN; rw [h]
theorem hd_none {l : List UInt8} (h : ¬ (byteN l 0 = 98 ∧ byteN l 1 = 119 ∧ 1 ≤ byteN l 2 ∧ byteN l 2 ≤ 40)) : Pu.hdOf l = none := by
  match l with
  | [] => rfl
  | [_] => rfl
  | [_, _] => rfl
  | a :: b :: c :: rest =>
    rw [Pu.hdOf]
    rw [if_neg]
    rintro ⟨h1, h2, h3, h4, _⟩
    subst h1 h2
    exact h ⟨rfl, rfl, h3, h4⟩
theorem rd_hd_none {l : List UInt8} (h : Pu.hdOf l = none) : Pu.rdOf l = none := by unfold Pu.rdOf; rw [h]
namespace Pu
/-- The first bytes of the order, as numbers. -/
def ordL (l : List UInt8) (i : Nat) : List Nat := (List.range i).map (fun j => byteN l (3 + j))
theorem ordL_len (l : List UInt8) (i : Nat) : (ordL l i).length = i := by simp [ordL]
theorem ordL_succ (l : List UInt8) (i : Nat) : ordL l (i + 1) = ordL l i ++ [byteN l (3 + i)] := by simp [ordL, List.range_succ]
theorem ordL_get (l : List UInt8) {i j : Nat} (h : j < i) : (ordL l i)[j]? = some (byteN l (3 + j)) := by
  simp [ordL, List.getElem?_map, List.getElem?_range h]
theorem ordL_mem {l : List UInt8} {i m : Nat} (h : m ∈ ordL l i) : ∃ j, j < i ∧ byteN l (3 + j) = m := by
  obtain ⟨j, hj, rfl⟩ := List.mem_map.1 h
  exact ⟨j, List.mem_range.1 hj, rfl⟩
theorem hd_bytes {l : List UInt8} {O S : List Nat} {a : Nat} (h : hdOf l = some (O, S, a)) : byteN l 2 = O.length ∧ O.Nodup ∧ ∀ j, j < O.length → 3 + j < l.length ∧ O[j]? = some (byteN l (3 + j)) ∧ byteN l (3 + j) < O.length := by
  obtain ⟨r, h1, h2, h3, h4, h5, h6, h7, h8⟩ := hdOf_some h
  have e2 : byteN l 2 = O.length := by
    have : l[2]? = some (UInt8.ofNat O.length) := by rw [h7]; rfl
    rw [byteN_some this, UInt8.toNat_ofNat']
    omega
  refine ⟨e2, h3, fun j hj => ?_⟩
  obtain ⟨m, hm⟩ : ∃ m, O[j]? = some m := ⟨_, List.getElem?_eq_getElem hj⟩
  have hml := h4 m (List.mem_of_getElem? hm)
  have e3 : l[3 + j]? = some (UInt8.ofNat m) := by
    rw [h7, headB]
    rw [show 3 + j = j + 1 + 1 + 1 by omega]
    rw [List.cons_append, List.cons_append, List.cons_append, List.getElem?_cons_succ, List.getElem?_cons_succ, List.getElem?_cons_succ, List.getElem?_append_left (by simpa using hj), List.getElem?_map, hm]
    rfl
  have e4 : byteN l (3 + j) = m := by rw [byteN_some e3, UInt8.toNat_ofNat']; omega
  rw [e4]
  exact ⟨(List.getElem?_eq_some_iff.1 e3).1, hm, hml⟩
theorem ord_none {l : List UInt8} {n i : Nat} (hn : n = byteN l 2) (hi : i < n) (h : l.length ≤ 3 + i ∨ n ≤ byteN l (3 + i) ∨ byteN l (3 + i) ∈ ordL l i) : hdOf l = none := by
  cases e : hdOf l with
  | none => rfl
  | some z =>
    exfalso
    obtain ⟨O, S, a⟩ := z
    obtain ⟨h1, h2, h3⟩ := hd_bytes e
    obtain ⟨g1, g2, g3⟩ := h3 i (by omega)
    rcases h with h | h | h
    · omega
    · omega
    · obtain ⟨j, hj, hje⟩ := ordL_mem h
      obtain ⟨g4, g5, _⟩ := h3 j (by omega)
      have := (List.pairwise_iff_getElem.1 h2) j i (by omega) (by omega) hj
      rw [(List.getElem?_eq_some_iff.1 g5).2, (List.getElem?_eq_some_iff.1 g2).2] at this
      exact this hje
theorem hd_ok {l : List UInt8} {n : Nat} (h0 : byteN l 0 = 98) (h1 : byteN l 1 = 119) (h2 : n = byteN l 2) (hn1 : 1 ≤ n) (hn : n ≤ 40) (hl : 3 + n ≤ l.length) (hd : (ordL l n).Nodup) (hm : ∀ m ∈ ordL l n, m < n) : hdOf l = finH (ordL l n) l.length (readSz n (l.drop (3 + n))) := by
  match l, h0, h1, h2, hl, hd, hm with
  | [], _, _, _, hl, _, _ => simp at hl
  | [_], _, _, _, hl, _, _ => simp at hl; omega
  | [_, _], _, _, _, hl, _, _ => simp at hl; omega
  | a :: b :: c :: rest, h0, h1, h2, hl, hd, hm =>
    have ha : a = 98 := UInt8.toNat_inj.1 h0
    have hb : b = 119 := UInt8.toNat_inj.1 h1
    have hc : c.toNat = n := h2.symm
    subst ha hb
    have hr : n ≤ rest.length := by simp only [List.length_cons] at hl; omega
    have e1 : rest.take n = (ordL (98 :: 119 :: c :: rest) n).map UInt8.ofNat := by
      apply List.ext_getElem?
      intro j
      by_cases hj : j < n
      · obtain ⟨x, hx⟩ : ∃ x, rest[j]? = some x := ⟨_, List.getElem?_eq_getElem (by omega)⟩
        rw [List.getElem?_take_of_lt hj, hx, List.getElem?_map, ordL_get _ hj]
        have : (98 :: 119 :: c :: rest : List UInt8)[3 + j]? = some x := by
          rw [show 3 + j = j + 1 + 1 + 1 by omega, List.getElem?_cons_succ, List.getElem?_cons_succ, List.getElem?_cons_succ]; exact hx
        rw [byteN_some this]
        simp
      · rw [List.getElem?_eq_none_iff.2 (by rw [List.length_take]; omega), List.getElem?_eq_none_iff.2 (by rw [List.length_map, ordL_len]; omega)]
    have e2 : ordB (rest.take n) = some (ordL (98 :: 119 :: c :: rest) n) := by
      rw [e1]
      exact ordB_back hd (by rw [ordL_len]; exact hm) (by rw [ordL_len]; exact hn)
    rw [hdOf_c, hc, if_pos ⟨hn1, hn, hr⟩, e2]
    have e3 : (98 :: 119 :: c :: rest : List UInt8).drop (3 + n) = rest.drop n := by
      rw [show 3 + n = n + 1 + 1 + 1 by omega]; rfl
    rw [e3]
    dsimp only
    cases readSz n (rest.drop n) with
    | none => rfl
    | some z => rfl
theorem readSz_step {k : Nat} {l : List UInt8} {A : List Nat} {R : Option (List Nat × List UInt8)} (h : R = (readSz (k + 1) l).map (fun p => (A ++ p.1, p.2))) : match cntR l with
    | none => R = none
    | some (m, j) => R = (readSz k (l.drop j)).map (fun p => ((A ++ [m]) ++ p.1, p.2)) := by
  rw [readSz] at h
  cases e : cntR l with
  | none => rw [e] at h; exact h
  | some z =>
    obtain ⟨m, j⟩ := z
    rw [e] at h
    dsimp only at h ⊢
    rw [h]
    cases readSz k (l.drop j) with
    | none => rfl
    | some z => simp
/-- The labels stand where they should: what else must be so. -/
theorem areB_yes {l : List UInt8} {n : Nat} {O : List Nat} {st : Nat → Nat} (h1 : st n ≤ l.length) (h2 : ∀ v, v < n → labAt l O st v = true) (h3 : fillB (l.drop (st n)) = true) : areB l n O st = true := by
  rw [areB, h3, Bool.and_true]
  have : (List.range n).all (labAt l O st) = true := by rw [List.all_eq_true]; exact fun v hv => h2 v (List.mem_range.1 hv)
  rw [this, Bool.and_true]
  exact decide_eq_true h1
theorem areB_parts {l : List UInt8} {n : Nat} {O : List Nat} {st : Nat → Nat} (h : areB l n O st = true) : st n ≤ l.length ∧ (∀ v, v < n → labAt l O st v = true) ∧ fillB (l.drop (st n)) = true := by
  rw [areB, Bool.and_eq_true, Bool.and_eq_true] at h
  exact ⟨of_decide_eq_true h.1.1, fun v hv => (List.all_eq_true.1 h.1.2) v (List.mem_range.2 hv), h.2⟩
theorem fillB_no {l : List UInt8} {a i : Nat} (hi : a ≤ i) (h : byteN l i ≠ 0) : fillB (l.drop a) = false := by
  rw [fillB]
  have : (l.drop a).all (· == 0) = false := by
    rw [List.all_eq_false]
    cases e : l[i]? with
    | none => exact absurd (by unfold byteN; rw [e]) h
    | some x =>
      refine ⟨x, List.mem_of_getElem? (i := i - a) (by rw [List.getElem?_drop, show a + (i - a) = i by omega]; exact e), ?_⟩
      intro c
      have : x = 0 := by simpa using c
      rw [byteN_some e, this] at h
      exact h rfl
  rw [this, Bool.and_false]
theorem fillB_long {l : List UInt8} {a : Nat} (h : 28 ≤ l.length - a) : fillB (l.drop a) = false := by
  rw [fillB, decide_eq_false (by rw [List.length_drop]; omega), Bool.false_and]
theorem fillB_yes {l : List UInt8} {a : Nat} (h : l.length - a < 28) (h2 : ∀ i, a ≤ i → i < l.length → byteN l i = 0) : fillB (l.drop a) = true := by
  rw [fillB, decide_eq_true (by rw [List.length_drop]; omega), Bool.true_and, List.all_eq_true]
  intro x hx
  obtain ⟨j, hj⟩ := List.mem_iff_getElem?.1 hx
  rw [List.getElem?_drop] at hj
  have := h2 (a + j) (by omega) (List.getElem?_eq_some_iff.1 hj).1
  rw [byteN_some hj] at this
  have : x = 0 := UInt8.toNat_inj.1 this
  simp [this]
/-- In an order of n places each has its rank. -/
theorem rank_of {O : List Nat} {n v : Nat} (h1 : O.Nodup) (h2 : ∀ m ∈ O, m < n) (h3 : O.length = n) (hv : v < n) : ∃ q, q < n ∧ O[q]? = some v := by
  have : v ∈ O := Perm.mem (n := n) ⟨h3, h1, h2⟩ hv
  obtain ⟨q, hq⟩ := List.mem_iff_getElem?.1 this
  exact ⟨q, by have := (List.getElem?_eq_some_iff.1 hq).1; omega, hq⟩
end Pu
end Go.Proofs.YtdogncjcainhlaaGreatDoor
/- What stands in memory while the reference's held reads: the order, the sizes, the labels. -/
namespace Go.Proofs.YtdogncjcainhlaaGreatDoor
open Go.RowKit Go.Deep
open Mem

/-- A byte is taken, whatever was ahead. -/
theorem one_all {w : World} {b : Nat} {s : ByteArray} {i : Nat} (h : TkB w b s i false ∨ ((∃ a, TkB w b s a true) ∧ s.size ≤ i)) (hs : s.size ≤ 100000) :
    Calls Tryz.prog 110 #[.pointer (some ⟨b, 0, none⟩)] w fun e w' => e = .returned (.int .i64 (byteN s.data.toList i : Int)) ∧ (TkB w' b s (i + 1) false ∧ i < s.size ∨ ((∃ a, TkB w' b s a true) ∧ s.size ≤ i + 1 ∧ s.size ≤ i)) ∧ Turns (fun q => q = b) w w' := by
  have hsl : s.data.toList.length = s.size := (size_list s).symm
  rcases h with h | ⟨⟨a, h⟩, hi⟩
  · refine (one_any h hs).mono ?_
    rintro e w' ⟨hT, h2⟩
    unfold byteN
    cases e0 : s.data.toList[i]? with
    | none =>
      rw [e0] at h2
      have := List.getElem?_eq_none_iff.1 e0
      exact ⟨h2.1, Or.inr ⟨⟨_, h2.2⟩, by omega, by omega⟩, hT⟩
    | some x =>
      rw [e0] at h2
      have := (List.getElem?_eq_some_iff.1 e0).1
      exact ⟨h2.1, Or.inl ⟨h2.2, by omega⟩, hT⟩
  · refine (one_bad h).mono ?_
    rintro e w' ⟨he, h2, hT⟩
    have e0 : s.data.toList[i]? = none := List.getElem?_eq_none_iff.2 (by omega)
    have e1 : byteN s.data.toList i = 0 := by unfold byteN; rw [e0]
    rw [e1]
    exact ⟨he, Or.inr ⟨⟨_, h2⟩, by omega, hi⟩, hT⟩
theorem or_no {a b : Bool} (h : false = (a || b)) : a = false ∧ b = false := by cases a <;> cases b <;> simp_all
/-- Where the order is read: so many of its places are there. -/
structure OrdI (w0 w : World) (tb xb n : Nat) (s : ByteArray) (l : List UInt8) (i : Nat) (ov : Value) (g : Nat → Int) : Prop where
  tk : TkB w tb s (3 + i) false
  le : 3 + i ≤ s.size
  box : RSB w xb ov (.slice none 0 0) (.slice none 0 0) (.slice none 0 0) 0 (.slice none 0 0) 0
  row : w.ownsRow (xb + 2) 3 1 ov (Pu.ordL l i).length (natV (Pu.ordL l i))
  nd : (Pu.ordL l i).Nodup
  lt : ∀ m ∈ Pu.ordL l i, m < n
  ints : Ints w (xb + 1) n g
  rk : ∀ q m : Nat, (Pu.ordL l i)[q]? = some m → g m = (q : Int)
  t : Turns (fun _ => False) w0 w
theorem OrdI.step {w0 wr wy w7 : World} {tb xb n : Nat} {s : ByteArray} {l : List UInt8} {i p ck : Nat} {ak : Option Addr} {g : Nat → Int} {v' : Value} (h : OrdI w0 wr tb xb n s l i (.slice ak i ck) g) (hT : Turns (fun q => q = tb) wr wy) (hk : TkB wy tb s (3 + i + 1) false) (hs : 3 + i < s.size) (hp : p = byteN l (3 + i)) (hpn : p < n) (hpm : p ∉ Pu.ordL l i) (htx : tb < xb) (h0 : w0.heap.size = tb)
    (hB : OwnG wy (.slice ak i ck) (xb + 2) 3 1 v' (i + 1) (natV (Pu.ordL l i) ++ [.int .i64 (p : Int)]) w7) :
    w7.cell? ⟨xb, 0, none⟩ = some (.slice ak i ck) ∧ w7.frozen? ⟨xb, 0, none⟩ = false ∧ xb < w7.heap.size ∧ w7.cell? ⟨xb + 1, p, none⟩ = some (.int .i64 (g p)) ∧ w7.frozen? ⟨xb + 1, p, none⟩ = false ∧ xb + 1 < w7.heap.size ∧ OrdI w0 ((w7.setCell ⟨xb, 0, none⟩ v').setCell ⟨xb + 1, p, none⟩ (.int .i64 (i : Int))) tb xb n s l (i + 1) v' (upd g p i) := by
  have hlo : ∀ q, (Value.slice ak i ck).ownBlock = some q → xb + 2 ≤ q := fun q hq => (World.ownsRow.lt h.row q hq).1
  have hno : ∀ q, q < xb + 2 → ¬ ((Value.slice ak i ck).ownBlock = some q) := fun q hq c => by have := hlo q c; omega
  have b6 := h.box.turns hT (fun c => by omega)
  have b7 := b6.turns hB.turns (hno xb (by omega))
  have i6 := h.ints.turns hT (fun c => by omega)
  have i7 := i6.turns hB.turns (hno (xb + 1) (by omega))
  have k7 := hk.turns hB.turns (hno tb (by omega))
  refine ⟨b7.c0, b7.free 0, b7.lt, i7.cell p hpn, i7.free p hpn, i7.lt, ?_⟩
  have hv' : ∀ q, v'.ownBlock = some q → xb + 2 ≤ q := fun q hq => (World.ownsRow.lt hB.own q hq).1
  have t8 : Turns (fun q => q = xb) w7 (w7.setCell ⟨xb, 0, none⟩ v') := (Turns.refl (fun q => q = xb) w7).setCell (x := ⟨xb, 0, none⟩) (Or.inr rfl) _
  have t9 : Turns (fun q => q = xb + 1) (w7.setCell ⟨xb, 0, none⟩ v') ((w7.setCell ⟨xb, 0, none⟩ v').setCell ⟨xb + 1, p, none⟩ (.int .i64 (i : Int))) := (Turns.refl (fun q => q = xb + 1) _).setCell (x := ⟨xb + 1, p, none⟩) (Or.inr rfl) _
  refine ⟨(k7.turns t8 (fun c => by omega)).turns t9 (fun c => by omega), by omega, (b7.set0 v').turns t9 (fun c => by omega), ?_, ?_, ?_, Ints.set (i7.turns t8 (fun c => by omega)) hpn _, ?_, ?_⟩
  · rw [Pu.ordL_len, Pu.ordL_succ, natV_append, ← hp]
    exact owns_turns_p (owns_turns_p hB.own t8 (fun q hq c => by have := hv' q hq; omega)) t9 (fun q hq c => by have := hv' q hq; omega)
  · rw [Pu.ordL_succ, ← hp, List.nodup_append]
    refine ⟨h.nd, by simp, fun x hx y hy => ?_⟩
    rw [List.mem_singleton] at hy
    subst hy
    rintro rfl
    exact hpm hx
  · rw [Pu.ordL_succ, ← hp]
    intro m hm
    rcases List.mem_append.1 hm with hm | hm
    · exact h.lt m hm
    · rw [List.mem_singleton] at hm; omega
  · intro q m hq
    rw [Pu.ordL_succ, ← hp] at hq
    by_cases c : q < (Pu.ordL l i).length
    · rw [List.getElem?_append_left c] at hq
      have : m ≠ p := fun e => hpm (by rw [← e]; exact List.mem_of_getElem? hq)
      rw [upd_other _ _ _ _ this]
      exact h.rk q m hq
    · rw [List.getElem?_append_right (by omega)] at hq
      have h1 := (List.getElem?_eq_some_iff.1 hq).1
      simp at h1
      have h2 : q - (Pu.ordL l i).length = 0 := by omega
      rw [h2] at hq
      simp at hq
      subst hq
      rw [upd_same]
      have := Pu.ordL_len l i
      omega
  · have hs0 := h.t.size
    have t1 : Turns (fun _ => False) w0 wy := h.t.join hT (fun x hx _ c => by omega)
    have t2 : Turns (fun _ => False) w0 w7 := t1.join hB.turns (fun x hx _ c => by have := hlo x c; omega)
    exact (t2.join t8 (fun x hx _ c => by omega)).join t9 (fun x hx _ c => by omega)
/-- Where the sizes are read: what the taker is at, what the row holds. -/
def SzT (w : World) (tb : Nat) (s : ByteArray) (l : List UInt8) (n : Nat) (R : Option (List Nat × List UInt8)) (i : Nat) (xs : List Value) : Prop := (∃ a, TkB w tb s a true ∧ R = none) ∨ ∃ a S, TkB w tb s a false ∧ a ≤ s.size ∧ xs = natV S ∧ S.length = i ∧ R = (Pu.readSz (n - i) (l.drop a)).map (fun p => (S ++ p.1, p.2))
theorem SzT.turns {p : Nat → Prop} {w w' : World} {tb : Nat} {s : ByteArray} {l : List UInt8} {n : Nat} {R : Option (List Nat × List UInt8)} {i : Nat} {xs : List Value} (h : SzT w tb s l n R i xs) (t : Turns p w w') (hp : ¬ p tb) : SzT w' tb s l n R i xs := by
  rcases h with ⟨a, h1, h2⟩ | ⟨a, S, h1, h2⟩
  · exact Or.inl ⟨a, h1.turns t hp, h2⟩
  · exact Or.inr ⟨a, S, h1.turns t hp, h2⟩
theorem SzT.lt {w : World} {tb : Nat} {s : ByteArray} {l : List UInt8} {n : Nat} {R : Option (List Nat × List UInt8)} {i : Nat} {xs : List Value} (h : SzT w tb s l n R i xs) : tb < w.heap.size := by
  rcases h with ⟨a, h1, h2⟩ | ⟨a, S, h1, h2⟩
  · exact h1.lt
  · exact h1.lt
theorem SzT.count {w : World} {tb : Nat} {s : ByteArray} {l : List UInt8} {n : Nat} {R : Option (List Nat × List UInt8)} {i : Nat} {xs : List Value} (h : SzT w tb s l n R i xs) (hi : i < n) (hs : s.size ≤ 60000) (hl : s.data.toList = l) :
    Calls Tryz.prog 111 #[.pointer (some ⟨tb, 0, none⟩)] w fun e w' => ∃ y : Int, e = .returned (.int .i64 y) ∧ Turns (fun q => q = tb) w w' ∧ SzT w' tb s l n R (i + 1) (xs ++ [.int .i64 y]) := by
  rcases h with ⟨a, h1, h2⟩ | ⟨a, S, h1, h2, h3, h4, h5⟩
  · refine (count_bad h1).mono ?_
    rintro e w' ⟨rfl, k1, k2⟩
    exact ⟨0, rfl, k2, Or.inl ⟨a, k1, h2⟩⟩
  · refine (tkcount_any h1 (by omega)).mono ?_
    rintro e w' ⟨k1, k2⟩
    rw [show n - i = (n - (i + 1)) + 1 by omega] at h5
    have h6 := Pu.readSz_step h5
    rw [hl] at k2
    cases ec : Pu.cntR (l.drop a) with
    | none =>
      rw [ec] at k2 h6
      obtain ⟨x, a', rfl, _, _, k3⟩ := k2
      exact ⟨x, rfl, k1, Or.inl ⟨a', k3, h6⟩⟩
    | some z =>
      obtain ⟨m, j⟩ := z
      rw [ec] at k2 h6
      dsimp only at k2 h6
      obtain ⟨rfl, k3⟩ := k2
      have hj := Pu.cntR_pos ec
      have hll : l.length = s.size := by rw [← hl]; exact (size_list s).symm
      rw [List.length_drop] at hj
      refine ⟨m, rfl, k1, Or.inr ⟨a + j, S ++ [m], k3, by omega, by rw [natV_append, h3]; rfl, by simp [h4], ?_⟩⟩
      rw [h6, List.drop_drop]
/-- Where the sizes are read. -/
structure SzI (w0 w : World) (tb xb og oc base n : Nat) (s : ByteArray) (l : List UInt8) (O : List Nat) (g : Nat → Int) (R : Option (List Nat × List UInt8)) (i : Nat) (sv : Value) (xs : List Value) : Prop where
  tk : SzT w tb s l n R i xs
  box : RSB w xb (.slice (some ⟨og, 0, none⟩) n oc) (.slice none 0 0) (.slice none 0 0) (.slice none 0 0) 0 (.slice none 0 0) 0
  ord : Ord w og n O
  ints : Ints w (xb + 1) n g
  row : w.ownsRow base 3 1 sv i xs
  t : Turns (fun _ => False) w0 w
  bl : base ≤ w.heap.size
theorem SzI.step {w0 wr w6 w7 : World} {tb xb og oc base n : Nat} {s : ByteArray} {l : List UInt8} {O : List Nat} {g : Nat → Int} {R : Option (List Nat × List UInt8)} {i : Nat} {sv v' : Value} {xs : List Value} {y : Int} (h : SzI w0 wr tb xb og oc base n s l O g R i sv xs) (h6 : Turns (fun q => q = tb) wr w6) (hz : SzT w6 tb s l n R (i + 1) (xs ++ [.int .i64 y])) (htx : tb < xb) (h0 : w0.heap.size = tb) (hxb : xb + 1 < og) (hog : og < base) (hB : OwnG w6 sv base 3 1 v' (i + 1) (xs ++ [.int .i64 y]) w7) : SzI w0 w7 tb xb og oc base n s l O g R (i + 1) v' (xs ++ [.int .i64 y]) := by
  have hlo : ∀ q, sv.ownBlock = some q → base ≤ q := fun q hq => (World.ownsRow.lt h.row q hq).1
  have hno : ∀ q, q < base → ¬ (sv.ownBlock = some q) := fun q hq c => by have := hlo q c; omega
  have hs0 := h.t.size
  have t1 : Turns (fun _ => False) w0 w6 := h.t.join h6 (fun x hx _ c => by omega)
  refine ⟨hz.turns hB.turns (hno tb (by omega)), (h.box.turns h6 (fun c => by omega)).turns hB.turns (hno xb (by omega)), (h.ord.turns_p h6 (fun c => by omega)).turns_p hB.turns (hno og (by omega)), (h.ints.turns h6 (fun c => by omega)).turns hB.turns (hno (xb + 1) (by omega)), hB.own, t1.join hB.turns (fun x hx _ c => by have := hlo x c; omega), ?_⟩
  have h1 := h.bl
  have h2 := h6.size
  have h3 := hB.turns.size
  omega
/-- The labels that were read, and what they are read from. -/
structure LbC (w : World) (tb xb og sg base n : Nat) (s : ByteArray) (O S : List Nat) (g : Nat → Int) (a : Nat) (lab : Nat → List (Nat × Int)) (LV : List Value) (col : Nat → Nat) : Prop where
  tk : TkB w tb s a false
  ord : Ord w og n O
  ints : Ints w (xb + 1) n g
  szs : ∀ j x : Nat, S[j]? = some x → w.cell? ⟨sg, j, none⟩ = some (.int .i64 (x : Int))
  labs : ∀ (v : Nat) (y : Value), LV[v]? = some y → ∃ gg cap, y = .slice (some ⟨gg, 0, none⟩) (lab v).length cap ∧ HubAt w (some ⟨gg, 0, none⟩) (lab v) ∧ base ≤ gg ∧ gg < w.heap.size ∧ col gg = 6
  bl : base ≤ w.heap.size
theorem LbC.turns {p : Nat → Prop} {w w' : World} {tb xb og sg base n : Nat} {s : ByteArray} {O S : List Nat} {g : Nat → Int} {a : Nat} {lab : Nat → List (Nat × Int)} {LV : List Value} {col : Nat → Nat} (h : LbC w tb xb og sg base n s O S g a lab LV col) (t : Turns p w w') (hp : ∀ q, p q → q = xb ∨ (base ≤ q ∧ col q ≠ 6)) (htx : tb < xb) (hxb : xb + 1 < og) (hog : og < sg) (hsg : sg < base) : LbC w' tb xb og sg base n s O S g a lab LV col := by
  have hno : ∀ q, q ≠ xb → q < base → ¬ p q := fun q h1 h2 c => by have := hp q c; omega
  refine ⟨h.tk.turns t (hno tb (by omega) (by omega)), h.ord.turns_p t (hno og (by omega) (by omega)), h.ints.turns t (hno (xb + 1) (by omega) (by omega)), fun j x hj => ?_, fun v y hv => ?_, Nat.le_trans h.bl t.size⟩
  · have := h.szs j x hj
    exact (t.cell (a := ⟨sg, j, none⟩) (World.block_lt_of_cell? _ _ this) (hno sg (by omega) (by omega))).trans this
  · obtain ⟨gg, cap, h1, h2, h3, h4, h5⟩ := h.labs v y hv
    refine ⟨gg, cap, h1, h2.turns_p (n := 0) (c := 0) t (fun q hq c => ?_), h3, Nat.lt_of_lt_of_le h4 t.size, h5⟩
    have e : gg = q := by injection hq
    subst e
    rcases hp gg c with c | c
    · omega
    · exact c.2 h5
/-- New colours for what is new. -/
def colN (w : World) (k : Nat) (col : Nat → Nat) : Nat → Nat := fun q => if q < w.heap.size then col q else k
theorem colN_old {w : World} {k : Nat} {col : Nat → Nat} {q : Nat} (h : q < w.heap.size) : colN w k col q = col q := by unfold colN; rw [if_pos h]
theorem colN_new {w : World} {k : Nat} {col : Nat → Nat} {q : Nat} (h : w.heap.size ≤ q) : colN w k col q = k := by unfold colN; rw [if_neg (by omega)]
theorem LbC.col {w : World} {tb xb og sg base n : Nat} {s : ByteArray} {O S : List Nat} {g : Nat → Int} {a : Nat} {lab : Nat → List (Nat × Int)} {LV : List Value} {col : Nat → Nat} (h : LbC w tb xb og sg base n s O S g a lab LV col) (k : Nat) : LbC w tb xb og sg base n s O S g a lab LV (colN w k col) :=
  ⟨h.tk, h.ord, h.ints, h.szs, fun v y hv => by
    obtain ⟨gg, cap, h1, h2, h3, h4, h5⟩ := h.labs v y hv
    exact ⟨gg, cap, h1, h2, h3, h4, by rw [colN_old h4]; exact h5⟩, h.bl⟩
/-- Where the labels are read. -/
structure LbI (w0 w : World) (tb xb og oc sg base n : Nat) (s : ByteArray) (O S : List Nat) (g : Nat → Int) (a : Nat) (lab : Nat → List (Nat × Int)) (lv fv hv : Value) (LV : List Value) (F H : List Nat) (col : Nat → Nat) : Prop where
  core : LbC w tb xb og sg base n s O S g a lab LV col
  box : RSB w xb (.slice (some ⟨og, 0, none⟩) n oc) lv fv hv 0 (.slice none 0 0) 0
  lrow : w.ownsRow base 98 1 lv LV.length LV
  frow : w.ownsRow base 3 1 fv F.length (natV F)
  hrow : w.ownsRow base 3 1 hv H.length (natV H)
  lc : ∀ q, lv.ownBlock = some q → col q = 2
  fc : ∀ q, fv.ownBlock = some q → col q = 3
  hc : ∀ q, hv.ownBlock = some q → col q = 4
  t : Turns (fun _ => False) w0 w
theorem LbI.step1 {w0 w w7 : World} {tb xb og oc sg base n : Nat} {s : ByteArray} {O S : List Nat} {g : Nat → Int} {a : Nat} {lab : Nat → List (Nat × Int)} {lv fv hv : Value} {LV : List Value} {F H : List Nat} {col : Nat → Nat} {v' : Value} {gg cap : Nat} (h : LbI w0 w tb xb og oc sg base n s O S g a lab lv fv hv LV F H col) (htx : tb < xb) (h0 : w0.heap.size = tb) (hxb : xb + 1 < og) (hog : og < sg) (hsg : sg < base) (hx1 : HubAt w (some ⟨gg, 0, none⟩) (lab LV.length)) (hx2 : base ≤ gg) (hx3 : gg < w.heap.size) (hx4 : col gg = 6) (hB : OwnG w lv base 98 1 v' (LV.length + 1) (LV ++ [.slice (some ⟨gg, 0, none⟩) (lab LV.length).length cap]) w7) :
    w7.cell? ⟨xb, 1, none⟩ = some lv ∧ w7.frozen? ⟨xb, 1, none⟩ = false ∧ xb < w7.heap.size ∧ LbI w0 (w7.setCell ⟨xb, 1, none⟩ v') tb xb og oc sg base n s O S g a lab v' fv hv (LV ++ [.slice (some ⟨gg, 0, none⟩) (lab LV.length).length cap]) F H (colN w 2 col) := by
  have hlo : ∀ q, lv.ownBlock = some q → base ≤ q ∧ q < w.heap.size := fun q hq => World.ownsRow.lt h.lrow q hq
  have hco : ∀ q, lv.ownBlock = some q → col q = 2 := h.lc
  have b7 := h.box.turns hB.turns (fun c => by have := hlo xb c; omega)
  have t8 : Turns (fun q => q = xb) w7 (w7.setCell ⟨xb, 1, none⟩ v') := (Turns.refl (fun q => q = xb) w7).setCell (x := ⟨xb, 1, none⟩) (Or.inr rfl) _
  have hcol : ∀ q, v'.ownBlock = some q → colN w 2 col q = 2 := fun q hq => by
    rcases hB.block q hq with c | c
    · rw [colN_old (hlo q c).2]; exact hco q c
    · exact colN_new c
  have hv' : ∀ q, v'.ownBlock = some q → base ≤ q := fun q hq => (World.ownsRow.lt hB.own q hq).1
  have hs0 := h.t.size
  refine ⟨b7.c1, b7.free 1, b7.lt, ?_⟩
  have k7 : LbC w7 tb xb og sg base n s O S g a lab LV (colN w 2 col) := (h.core.col 2).turns hB.turns (fun q hq => Or.inr ⟨(hlo q hq).1, by rw [colN_old (hlo q hq).2, hco q hq]; decide⟩) htx hxb hog hsg
  have k8 := k7.turns t8 (fun q hq => Or.inl hq) htx hxb hog hsg
  have t2 : Turns (fun _ => False) w0 w7 := h.t.join hB.turns (fun x hx _ c => by have := hlo x c; omega)
  have keep : ∀ {u : Value} {e : TypeId} {m : Nat} {xs : List Value} (c : Nat), w.ownsRow base e 1 u m xs → (∀ q, u.ownBlock = some q → col q = c) → c ≠ 2 → (w7.setCell ⟨xb, 1, none⟩ v').ownsRow base e 1 u m xs ∧ ∀ q, u.ownBlock = some q → colN w 2 col q = c := fun {u e m xs} c hr hc hne => by
    refine ⟨owns_turns_p (owns_turns_p hr hB.turns (fun q hq e => ?_)) t8 (fun q hq e => ?_), fun q hq => by rw [colN_old (World.ownsRow.lt hr q hq).2]; exact hc q hq⟩
    · have h1 := hc q hq
      have h2 := hco q e
      omega
    · have := (World.ownsRow.lt hr q hq).1
      omega
  obtain ⟨kf, kfc⟩ := keep 3 h.frow h.fc (by decide)
  obtain ⟨kh, khc⟩ := keep 4 h.hrow h.hc (by decide)
  have own8 := owns_turns_p hB.own t8 (fun q hq c => by have := hv' q hq; omega)
  refine ⟨⟨k8.tk, k8.ord, k8.ints, k8.szs, fun v y hv => ?_, k8.bl⟩, b7.set1 v', by rw [List.length_append]; exact own8, kf, kh, hcol, kfc, khc, t2.join t8 (fun x hx _ c => by omega)⟩
  by_cases c : v < LV.length
  · rw [List.getElem?_append_left c] at hv
    exact k8.labs v y hv
  · rw [List.getElem?_append_right (by omega)] at hv
    have h1 := (List.getElem?_eq_some_iff.1 hv).1
    simp at h1
    have h2 : v = LV.length := by omega
    subst h2
    rw [Nat.sub_self] at hv
    simp at hv
    subst hv
    have hg8 : HubAt w7 (some ⟨gg, 0, none⟩) (lab LV.length) := hx1.turns_p (n := 0) (c := 0) hB.turns (fun q hq c => by
      have e : gg = q := by injection hq
      subst e
      have := hco gg c
      omega)
    refine ⟨gg, cap, rfl, hg8.turns_p (n := 0) (c := 0) t8 (fun q hq c => ?_), hx2, ?_, by rw [colN_old hx3]; exact hx4⟩
    · have e : gg = q := by injection hq
      subst e
      omega
    · have := hB.turns.size
      have := t8.size
      omega
theorem LbI.step2 {w0 w w7 : World} {tb xb og oc sg base n : Nat} {s : ByteArray} {O S : List Nat} {g : Nat → Int} {a : Nat} {lab : Nat → List (Nat × Int)} {lv fv hv : Value} {LV : List Value} {F H : List Nat} {col : Nat → Nat} {v' : Value} {x : Nat} (h : LbI w0 w tb xb og oc sg base n s O S g a lab lv fv hv LV F H col) (htx : tb < xb) (h0 : w0.heap.size = tb) (hxb : xb + 1 < og) (hog : og < sg) (hsg : sg < base)  (hB : OwnG w fv base 3 1 v' (F.length + 1) (natV F ++ [.int .i64 (x : Int)]) w7) :
    w7.cell? ⟨xb, 2, none⟩ = some fv ∧ w7.frozen? ⟨xb, 2, none⟩ = false ∧ xb < w7.heap.size ∧ LbI w0 (w7.setCell ⟨xb, 2, none⟩ v') tb xb og oc sg base n s O S g a lab lv v' hv LV (F ++ [x]) H (colN w 3 col) := by
  have hlo : ∀ q, fv.ownBlock = some q → base ≤ q ∧ q < w.heap.size := fun q hq => World.ownsRow.lt h.frow q hq
  have hco : ∀ q, fv.ownBlock = some q → col q = 3 := h.fc
  have b7 := h.box.turns hB.turns (fun c => by have := hlo xb c; omega)
  have t8 : Turns (fun q => q = xb) w7 (w7.setCell ⟨xb, 2, none⟩ v') := (Turns.refl (fun q => q = xb) w7).setCell (x := ⟨xb, 2, none⟩) (Or.inr rfl) _
  have hcol : ∀ q, v'.ownBlock = some q → colN w 3 col q = 3 := fun q hq => by
    rcases hB.block q hq with c | c
    · rw [colN_old (hlo q c).2]; exact hco q c
    · exact colN_new c
  have hv' : ∀ q, v'.ownBlock = some q → base ≤ q := fun q hq => (World.ownsRow.lt hB.own q hq).1
  have hs0 := h.t.size
  refine ⟨b7.c2, b7.free 2, b7.lt, ?_⟩
  have k7 : LbC w7 tb xb og sg base n s O S g a lab LV (colN w 3 col) := (h.core.col 3).turns hB.turns (fun q hq => Or.inr ⟨(hlo q hq).1, by rw [colN_old (hlo q hq).2, hco q hq]; decide⟩) htx hxb hog hsg
  have k8 := k7.turns t8 (fun q hq => Or.inl hq) htx hxb hog hsg
  have t2 : Turns (fun _ => False) w0 w7 := h.t.join hB.turns (fun x hx _ c => by have := hlo x c; omega)
  have keep : ∀ {u : Value} {e : TypeId} {m : Nat} {xs : List Value} (c : Nat), w.ownsRow base e 1 u m xs → (∀ q, u.ownBlock = some q → col q = c) → c ≠ 3 → (w7.setCell ⟨xb, 2, none⟩ v').ownsRow base e 1 u m xs ∧ ∀ q, u.ownBlock = some q → colN w 3 col q = c := fun {u e m xs} c hr hc hne => by
    refine ⟨owns_turns_p (owns_turns_p hr hB.turns (fun q hq e => ?_)) t8 (fun q hq e => ?_), fun q hq => by rw [colN_old (World.ownsRow.lt hr q hq).2]; exact hc q hq⟩
    · have h1 := hc q hq
      have h2 := hco q e
      omega
    · have := (World.ownsRow.lt hr q hq).1
      omega
  obtain ⟨kl, klc⟩ := keep 2 h.lrow h.lc (by decide)
  obtain ⟨kh, khc⟩ := keep 4 h.hrow h.hc (by decide)
  have own8 := owns_turns_p hB.own t8 (fun q hq c => by have := hv' q hq; omega)
  exact ⟨k8, b7.set2 v', kl, by rw [List.length_append, natV_append]; exact own8, kh, klc, hcol, khc, t2.join t8 (fun x hx _ c => by omega)⟩
theorem LbI.step3 {w0 w w7 : World} {tb xb og oc sg base n : Nat} {s : ByteArray} {O S : List Nat} {g : Nat → Int} {a : Nat} {lab : Nat → List (Nat × Int)} {lv fv hv : Value} {LV : List Value} {F H : List Nat} {col : Nat → Nat} {v' : Value} {x : Nat} (h : LbI w0 w tb xb og oc sg base n s O S g a lab lv fv hv LV F H col) (htx : tb < xb) (h0 : w0.heap.size = tb) (hxb : xb + 1 < og) (hog : og < sg) (hsg : sg < base)  (hB : OwnG w hv base 3 1 v' (H.length + 1) (natV H ++ [.int .i64 (x : Int)]) w7) :
    w7.cell? ⟨xb, 3, none⟩ = some hv ∧ w7.frozen? ⟨xb, 3, none⟩ = false ∧ xb < w7.heap.size ∧ LbI w0 (w7.setCell ⟨xb, 3, none⟩ v') tb xb og oc sg base n s O S g a lab lv fv v' LV F (H ++ [x]) (colN w 4 col) := by
  have hlo : ∀ q, hv.ownBlock = some q → base ≤ q ∧ q < w.heap.size := fun q hq => World.ownsRow.lt h.hrow q hq
  have hco : ∀ q, hv.ownBlock = some q → col q = 4 := h.hc
  have b7 := h.box.turns hB.turns (fun c => by have := hlo xb c; omega)
  have t8 : Turns (fun q => q = xb) w7 (w7.setCell ⟨xb, 3, none⟩ v') := (Turns.refl (fun q => q = xb) w7).setCell (x := ⟨xb, 3, none⟩) (Or.inr rfl) _
  have hcol : ∀ q, v'.ownBlock = some q → colN w 4 col q = 4 := fun q hq => by
    rcases hB.block q hq with c | c
    · rw [colN_old (hlo q c).2]; exact hco q c
    · exact colN_new c
  have hv' : ∀ q, v'.ownBlock = some q → base ≤ q := fun q hq => (World.ownsRow.lt hB.own q hq).1
  have hs0 := h.t.size
  refine ⟨b7.c3, b7.free 3, b7.lt, ?_⟩
  have k7 : LbC w7 tb xb og sg base n s O S g a lab LV (colN w 4 col) := (h.core.col 4).turns hB.turns (fun q hq => Or.inr ⟨(hlo q hq).1, by rw [colN_old (hlo q hq).2, hco q hq]; decide⟩) htx hxb hog hsg
  have k8 := k7.turns t8 (fun q hq => Or.inl hq) htx hxb hog hsg
  have t2 : Turns (fun _ => False) w0 w7 := h.t.join hB.turns (fun x hx _ c => by have := hlo x c; omega)
  have keep : ∀ {u : Value} {e : TypeId} {m : Nat} {xs : List Value} (c : Nat), w.ownsRow base e 1 u m xs → (∀ q, u.ownBlock = some q → col q = c) → c ≠ 4 → (w7.setCell ⟨xb, 3, none⟩ v').ownsRow base e 1 u m xs ∧ ∀ q, u.ownBlock = some q → colN w 4 col q = c := fun {u e m xs} c hr hc hne => by
    refine ⟨owns_turns_p (owns_turns_p hr hB.turns (fun q hq e => ?_)) t8 (fun q hq e => ?_), fun q hq => by rw [colN_old (World.ownsRow.lt hr q hq).2]; exact hc q hq⟩
    · have h1 := hc q hq
      have h2 := hco q e
      omega
    · have := (World.ownsRow.lt hr q hq).1
      omega
  obtain ⟨kl, klc⟩ := keep 2 h.lrow h.lc (by decide)
  obtain ⟨kf, kfc⟩ := keep 3 h.frow h.fc (by decide)
  have own8 := owns_turns_p hB.own t8 (fun q hq c => by have := hv' q hq; omega)
  exact ⟨k8, b7.set3 v', kl, kf, by rw [List.length_append, natV_append]; exact own8, klc, kfc, hcol, t2.join t8 (fun x hx _ c => by omega)⟩
theorem LbI.drewN {w0 w : World} {tb xb og oc sg base n : Nat} {s : ByteArray} {O S : List Nat} {g : Nat → Int} {a : Nat} {lab : Nat → List (Nat × Int)} {lv fv hv : Value} {LV : List Value} {F H : List Nat} {col : Nat → Nat} (h : LbI w0 w tb xb og oc sg base n s O S g a lab lv fv hv LV F H col) (q : Nat) : LbI w0 (w.drewN q) tb xb og oc sg base n s O S g a lab lv fv hv LV F H col :=
  ⟨⟨h.core.tk, h.core.ord, ⟨h.core.ints.lt, h.core.ints.cell, h.core.ints.free⟩, h.core.szs, h.core.labs, h.core.bl⟩, h.box, h.lrow, h.frow, h.hrow, h.lc, h.fc, h.hc, h.t.drewN q⟩
/-- A label was taken: the taker is further on. -/
theorem LbI.next {w0 w w7 : World} {tb xb og oc sg base n : Nat} {s : ByteArray} {O S : List Nat} {g : Nat → Int} {a a' : Nat} {lab : Nat → List (Nat × Int)} {lv fv hv : Value} {LV : List Value} {F H : List Nat} {col : Nat → Nat} (h : LbI w0 w tb xb og oc sg base n s O S g a lab lv fv hv LV F H col) (htx : tb < xb) (h0 : w0.heap.size = tb) (hxb : xb + 1 < og) (hog : og < sg) (hsg : sg < base) (t : Turns (fun q => q = tb) w w7) (hk : TkB w7 tb s a' false) : LbI w0 w7 tb xb og oc sg base n s O S g a' lab lv fv hv LV F H (colN w 6 col) := by
  have keep : ∀ {u : Value} {e : TypeId} {m : Nat} {xs : List Value} (c : Nat), w.ownsRow base e 1 u m xs → (∀ q, u.ownBlock = some q → col q = c) → w7.ownsRow base e 1 u m xs ∧ ∀ q, u.ownBlock = some q → colN w 6 col q = c := fun {u e m xs} c hr hc =>
    ⟨owns_turns_p hr t (fun q hq e => by have := (World.ownsRow.lt hr q hq).1; omega), fun q hq => by rw [colN_old (World.ownsRow.lt hr q hq).2]; exact hc q hq⟩
  obtain ⟨kl, klc⟩ := keep 2 h.lrow h.lc
  obtain ⟨kf, kfc⟩ := keep 3 h.frow h.fc
  obtain ⟨kh, khc⟩ := keep 4 h.hrow h.hc
  have hs0 := h.t.size
  refine ⟨⟨hk, h.core.ord.turns_p t (fun c => by omega), h.core.ints.turns t (fun c => by omega), fun j x hj => ?_, fun v y hv => ?_, Nat.le_trans h.core.bl t.size⟩, h.box.turns t (fun c => by omega), kl, kf, kh, klc, kfc, khc, h.t.join t (fun x hx _ c => by omega)⟩
  · have := h.core.szs j x hj
    exact (t.cell (a := ⟨sg, j, none⟩) (World.block_lt_of_cell? _ _ this) (fun c => by have c' : sg = tb := c; omega)).trans this
  · obtain ⟨gg, cap, h1, h2, h3, h4, h5⟩ := h.core.labs v y hv
    refine ⟨gg, cap, h1, h2.turns_p (n := 0) (c := 0) t (fun q hq c => ?_), h3, Nat.lt_of_lt_of_le h4 t.size, by rw [colN_old h4]; exact h5⟩
    have e : gg = q := by injection hq
    subst e
    omega
/-- All labels are read: a store. -/
theorem LbI.fin {w0 w : World} {tb xb og oc sg base n : Nat} {s : ByteArray} {O S : List Nat} {g : Nat → Int} {a : Nat} {lab : Nat → List (Nat × Int)} {lv fv hv : Value} {LV : List Value} {F H : List Nat} {col : Nat → Nat} {st : Nat → Nat} (h : LbI w0 w tb xb og oc sg base n s O S g a lab lv fv hv LV F H col) (htx : tb < xb) (h0 : w0.heap.size = tb) (hxb : xb + 1 < og) (hog : og < sg) (hsg : sg < base) (hn : 1 ≤ n) (hO : O.length = n) (hL : LV.length = n) (hF : F = (List.range n).map (fun v => st v / 28)) (hH : H = (List.range n).map (fun v => (st (v + 1) - 1) / 28)) :
    ∃ lg lc fg fc hg hc, RSt w w0.heap.size w.heap.size xb og oc lg lc fg fc hg hc O lab st 0 (.slice none 0 0) [] 0 := by
  have hFl : F.length = n := by rw [hF]; simp
  have hHl : H.length = n := by rw [hH]; simp
  obtain ⟨lg, lc, e1, _⟩ := own_some h.lrow (by omega)
  obtain ⟨fg, fc, e2, _⟩ := own_some h.frow (by omega)
  obtain ⟨hg, hc, e3, _⟩ := own_some h.hrow (by omega)
  have l1 := World.ownsRow.lt h.lrow lg (by rw [e1]; rfl)
  have l2 := World.ownsRow.lt h.frow fg (by rw [e2]; rfl)
  have l3 := World.ownsRow.lt h.hrow hg (by rw [e3]; rfl)
  have hbl := h.core.bl
  have hx := h.box.lt
  have r1 := h.lrow
  have r2 := h.frow
  have r3 := h.hrow
  have hbx := h.box
  rw [hL] at e1 r1
  rw [hFl] at e2 r2
  rw [hHl] at e3 r3
  subst e1 e2 e3
  refine ⟨lg, lc, fg, fc, hg, hc, by rw [hO]; exact hbx, by rw [hO]; exact h.core.ord, fun v hv => ?_, fun v hv => ?_, fun v hv => ?_, World.ownsRow_nil _ _ _ _, ?_, ?_⟩
  · rw [hO] at hv
    obtain ⟨y, hy⟩ : ∃ y, LV[v]? = some y := ⟨_, List.getElem?_eq_getElem (by omega)⟩
    obtain ⟨gg, cap, h1, h2, h3, h4, h5⟩ := h.core.labs v y hy
    refine ⟨gg, cap, ?_, h2, by omega, h4, by omega⟩
    have := World.ownsRow.cellAt r1 v (by omega)
    rw [this, hy, h1]
  · rw [hO] at hv
    have := World.ownsRow.cellAt r2 v (by omega)
    rw [this, natV, List.getElem?_map, hF, List.getElem?_map, List.getElem?_range hv]
    rfl
  · rw [hO] at hv
    have := World.ownsRow.cellAt r3 v (by omega)
    rw [this, natV, List.getElem?_map, hH, List.getElem?_map, List.getElem?_range hv]
    rfl
  · rintro q (rfl | rfl | rfl | rfl | rfl) <;> omega
  · rintro q (rfl | rfl | rfl | rfl) <;> omega
theorem infoRLabs : (Tryz.prog.info? 98).map (fun i => (i.zero, i.size, i.bytes)) = some (some (.slice none 0 0), 1, 24) := by kernel_rfl
/-- A label that is one's own. -/
theorem labAt_own {w : World} {base : Nat} {v : Value} {L : List (Nat × Int)} (h : w.ownsRow base 100 2 v L.length (hubV L)) (hL : 1 ≤ L.length) : ∃ g c, v = .slice (some ⟨g, 0, none⟩) L.length c ∧ HubAt w (some ⟨g, 0, none⟩) L ∧ base ≤ g ∧ g < w.heap.size := by
  obtain ⟨g, c, e, _⟩ := own_some h (by omega)
  have hl := World.ownsRow.lt h g (by rw [e]; rfl)
  refine ⟨g, c, e, fun i r f hi => ?_, hl.1, hl.2⟩
  subst e
  have hil := (List.getElem?_eq_some_iff.1 hi).1
  have h0 := World.ownsRow.cellAt h (i * 2) (by omega)
  have h1 := World.ownsRow.cellAt h (i * 2 + 1) (by omega)
  obtain ⟨a0, a1⟩ := hubV_get L i r f hi
  exact ⟨g, rfl, h0.trans a0, h1.trans a1⟩
namespace Pu
theorem stF_succ {a : Nat} {S : List Nat} {i z : Nat} (h : S[i]? = some z) : stF a S (i + 1) = stF a S i + z := by
  have sumA : ∀ (A : List Nat) (x : Nat), sumL (A ++ [x]) = sumL A + x := by
    intro A x
    induction A with
    | nil => simp [sumL]
    | cons y t ih => rw [List.cons_append, sumL, sumL, ih]; omega
  rw [stF, stF, List.take_add_one, h, Option.toList_some, sumA]
  omega
theorem tkLab_le {rank : Nat} {l r : List UInt8} {H : List (Nat × Int)} (h : tkLab rank l = some (H, r)) : r.length ≤ l.length ∧ 1 ≤ H.length := by
  obtain ⟨h1, h2⟩ := tkLab_some h
  have := congrArg List.length h1
  rw [List.length_append] at this
  refine ⟨by omega, ?_⟩
  match H, h2 with
  | [], h2 => exact h2.elim
  | x :: t, _ => simp
/-- No label there, or one that ends elsewhere: no store. -/
theorem lab_none {l : List UInt8} {n i q z : Nat} {O : List Nat} {st : Nat → Nat} (hO : O[q]? = some i) (hnd : O.Nodup) (hq : q < 40) (hz : st (i + 1) = st i + z) (hi : i < n) (hm : st (i + 1) ≤ st n) (h : ∀ H r, tkLab q (l.drop (st i)) = some (H, r) → ¬ (l.length - r.length = st i + z)) : areB l n O st = false := by
  cases e : areB l n O st with
  | false => rfl
  | true =>
    exfalso
    obtain ⟨h1, h2, _⟩ := areB_parts e
    refine h _ _ (tk_yes hO hnd hq hz (by omega) (h2 i hi)) ?_
    rw [List.length_drop]
    omega
end Pu
end Go.Proofs.YtdogncjcainhlaaGreatDoor
