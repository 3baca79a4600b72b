/- The walk of the reference's held. -/
import Derived.Test.YtdogncjcainhlaaGreatDoorPack15
import Derived.Deep.QuietTactic
import Derived.BigQuiet
import Derived.Deep.RegionHeld3
import Derived.Deep.RegionLaw
namespace Go.Proofs.YtdogncjcainhlaaGreatDoor
open Go.RowKit Go.Deep
open Mem

set_option maxRecDepth 100000 in
set_option maxHeartbeats 8000000 in
theorem held_any : HeldSaid := by
  intro s w hs h28
  have hsl : s.data.toList.length = s.size := (size_list s).symm
  obtain ⟨w1, hw1⟩ : ∃ w1, w1 = w.alloc (.cells #[.string s, .int .i64 0, .bool false] 220) := ⟨_, rfl⟩
  have HW1 : Hid (w.alloc (.cells #[.string s, .int .i64 0, .bool false] 220) = w1) := hw1.symm
  have hk1 : TkB w1 w.heap.size s 0 false := by rw [hw1]; exact heap_alloc_new w _
  have HT1 : Hid (Turns (fun _ => False) w w1) := by show Turns _ _ _; rw [hw1]; exact (Turns.refl _ w).alloc _
  have C1 := one_all (Or.inl hk1) (by omega)
  obtain ⟨A, hA⟩ : ∃ A, A = byteN s.data.toList 0 := ⟨_, rfl⟩
  obtain ⟨B, hB⟩ : ∃ B, B = byteN s.data.toList 1 := ⟨_, rfl⟩
  obtain ⟨n, hn⟩ : ∃ n, n = byteN s.data.toList 2 := ⟨_, rfl⟩
  rw [← hA] at C1
  have HABN : Hid (A = byteN s.data.toList 0 ∧ B = byteN s.data.toList 1 ∧ n = byteN s.data.toList 2) := ⟨hA, hB, hn⟩
  have hAl : A < 256 := by rw [hA]; exact byteN_lt _ _
  have hBl : B < 256 := by rw [hB]; exact byteN_lt _ _
  have hnl : n < 256 := by rw [hn]; exact byteN_lt _ _
  clear hw1 hA hB hn hk1
  go_enter Tryz.func70, Tryz.ntmps70
  go_wp2_with fail
  rw [HW1.out]
  refine C1.mono ?_
  rintro e w2 ⟨rfl, hk2, hT2⟩
  have HT2 : Hid (Turns (fun _ => False) w w2) := HT1.out.join hT2 (fun x hx _ c => by omega)
  have C2 := one_all (i := 1) (hk2.imp (fun x => x.1) (fun x => ⟨x.1, x.2.1⟩)) (by omega)
  rw [← HABN.out.2.1] at C2
  clear C1 hT2 hk2 HT1
  go_wp2_with fail
  refine C2.mono ?_
  rintro e w3 ⟨rfl, hk3, hT3⟩
  have HT3 : Hid (Turns (fun _ => False) w w3) := HT2.out.join hT3 (fun x hx _ c => by omega)
  have C3 := one_all (i := 2) (hk3.imp (fun x => x.1) (fun x => ⟨x.1, x.2.1⟩)) (by omega)
  rw [← HABN.out.2.2] at C3
  clear C2 hT3 hk3 HT2
  go_wp2_with fail
  refine C3.mono ?_
  rintro e w4 ⟨rfl, hk4, hT4⟩
  have HT4 : Hid (Turns (fun _ => False) w w4) := HT3.out.join hT4 (fun x hx _ c => by omega)
  have HK4 : Hid (TkB w4 w.heap.size s 3 false ∧ 2 < s.size ∨ (n = 0)) := by
    rcases hk4 with x | x
    · exact Or.inl x
    · refine Or.inr ?_
      rw [HABN.out.2.2]
      have e0 : s.data.toList[2]? = none := List.getElem?_eq_none_iff.2 (by omega)
      unfold byteN; rw [e0]
  clear C3 hT4 hk4 HT3
  by_cases hgd : A = 98 ∧ B = 119 ∧ 1 ≤ n ∧ n ≤ 40
  · obtain ⟨hA8, hB9, hn1, hn40⟩ := hgd
    have q1 : ((A : Int) != 98) = false := by simp; omega
    have q2 : ((B : Int) != 119) = false := by simp; omega
    have q3 : ¬ (n : Int) < 1 := by omega
    have q4 : ¬ (n : Int) > 40 := by omega
    have HK5 : Hid (TkB w4 w.heap.size s 3 false ∧ 2 < s.size) := by
      rcases HK4.out with x | x
      · exact x
      · omega
    have hmk := run_make_row' (P := Tryz.prog) 55 3 (.int .i64 0) 8 Tryz.underlying55 info3n rfl .i64 .i64 n (by omega) (by omega)
    clear HK4
    have hk4 := HK5.out.1
    have htx : w.heap.size < w4.heap.size := hk4.lt
    have HA8 : Hid (A = 98 ∧ B = 119) := ⟨hA8, hB9⟩
    obtain ⟨xb, hxb⟩ : ∃ xb, xb = w4.heap.size := ⟨_, rfl⟩
    obtain ⟨w5, hw5⟩ : ∃ w5, w5 = (w4.alloc (.cells #[.slice none 0 0, .slice none 0 0, .slice none 0 0, .slice none 0 0, .int .i64 0, .slice none 0 0, .int .i64 0] 113)).alloc (.cells (madeCells #[.int .i64 0] n) 3) := ⟨_, rfl⟩
    have t45 : Turns (fun _ => False) w4 w5 := by rw [hw5]; exact ((Turns.refl _ w4).alloc _).alloc _
    have hI5 : Ints w5 (xb + 1) n (fun _ => 0) := by
      have := Ints.made (w4.alloc (.cells #[.slice none 0 0, .slice none 0 0, .slice none 0 0, .slice none 0 0, .int .i64 0, .slice none 0 0, .int .i64 0] 113)) n 3 0
      rw [hw5, hxb]
      simpa using this
    have hB5 : RSB w5 xb (.slice none 0 0) (.slice none 0 0) (.slice none 0 0) (.slice none 0 0) 0 (.slice none 0 0) 0 := by
      rw [hw5, hxb]
      exact RSB.turns (w := w4.alloc _) (heap_alloc_new w4 _) ((Turns.refl (fun _ => False) _).alloc _) (fun x => x)
    obtain ⟨l, hl⟩ : ∃ l, l = s.data.toList := ⟨_, rfl⟩
    have hll : l.length = s.size := by rw [hl]; exact hsl
    obtain ⟨tb, htb⟩ : ∃ tb, tb = w.heap.size := ⟨_, rfl⟩
    have H5 : Hid (OrdI w w5 tb xb n s l 0 (.slice none 0 0) (fun _ => 0)) := ⟨by rw [htb]; exact hk4.turns t45 (fun x => x), by have := HK5.out.2; omega, hB5, World.ownsRow_nil _ _ _ _, List.nodup_nil, fun m hm => by simp [Pu.ordL] at hm, hI5, fun q m hq => by simp [Pu.ordL] at hq, HT4.out.trans t45⟩
    have HW5 : Hid ((w4.alloc (.cells #[.slice none 0 0, .slice none 0 0, .slice none 0 0, .slice none 0 0, .int .i64 0, .slice none 0 0, .int .i64 0] 113)).alloc (.cells (madeCells #[.int .i64 0] n) 3) = w5) := hw5.symm
    have HXB : Hid (w4.heap.size = xb) := hxb.symm
    have HTB : Hid (w.heap.size = tb) := htb.symm
    have HL : Hid (s.data.toList = l) := hl.symm
    have htx' : tb < xb := by omega
    clear hk4 htx hw5 hxb t45 hI5 hB5 HT4 HK5 hl htb
    go_wp2_with fail
    rw [HW5.out, HXB.out, HTB.out]
    go_loopw [10] (fun iv wr => ∃ (i : Nat) (ov : Value) (wy : World) (g : Nat → Int), iv = .int .i64 (i : Int) ∧ i ≤ n ∧ wy = wr ∧ Hid (OrdI w wy tb xb n s l i ov g)) (fun iv _ => n - (intOf iv).toNat)
    case atStart => exact ⟨0, _, w5, _, rfl, by omega, rfl, H5.out⟩
    case round =>
      clear H5
      obtain ⟨i, ov, wr, g, rfl, hin, hwy, HI⟩ := hrel
      subst hwy
      have hk0 := HI.out.tk
      have d0 := hk0.lt
      by_cases hlt : i < n
      · have hii : (i : Int) < (n : Int) := by omega
        have C1 := one_all (i := 3 + i) (Or.inl hk0) (by omega)
        rw [HL.out] at C1
        obtain ⟨p, hp⟩ : ∃ p, p = byteN l (3 + i) := ⟨_, rfl⟩
        rw [← hp] at C1
        have hpb : p < 256 := by rw [hp]; exact byteN_lt _ _
        have HP : Hid (p = byteN l (3 + i)) := hp
        clear hk0 hp
        go_wp2_with fail
        refine C1.mono ?_
        rintro e w6 ⟨rfl, hk6, hT6⟩
        have hk6' : ∃ (a6 : Nat) (bb : Bool), TkB w6 tb s a6 bb ∧ ((bb = false ∧ a6 = 3 + i + 1 ∧ 3 + i < s.size) ∨ (bb = true ∧ s.size ≤ 3 + i)) := by
          rcases hk6 with ⟨x, y⟩ | ⟨⟨a, x⟩, _, y⟩
          · exact ⟨_, false, x, Or.inl ⟨rfl, rfl, y⟩⟩
          · exact ⟨a, true, x, Or.inr ⟨rfl, y⟩⟩
        obtain ⟨a6, bb, hk6, HBB⟩ := hk6'
        obtain ⟨ak, ck, hov, hNA, hck⟩ := natAt_own HI.out.row
        rw [Pu.ordL_len] at hov hck
        subst hov
        have HNA : Hid (NatAt wr ak (Pu.ordL l i)) := hNA
        have HT6 : Hid (Turns (fun q => q = tb) wr w6) := hT6
        have HK6 : Hid (TkB w6 tb s a6 (bb || decide (p ∈ (Pu.ordL l i).take 0))) := by show TkB _ _ _ _ _; simpa using hk6
        have HBB' : Hid ((bb = false ∧ a6 = 3 + i + 1 ∧ 3 + i < s.size) ∨ (bb = true ∧ s.size ≤ 3 + i)) := HBB
        clear C1 hk6 hT6 hNA d0 HBB
        go_wp2_with fail
        go_loopw [12] (fun kv wr' => ∃ (k : Nat) (wy : World), kv = .int .i64 (k : Int) ∧ k ≤ i ∧ wy = wr' ∧ Hid (TkB wy tb s a6 (bb || decide (p ∈ (Pu.ordL l i).take k)) ∧ Turns (fun q => q = tb) wr wy)) (fun kv _ => i - (intOf kv).toNat)
        case atStart => exact ⟨0, w6, rfl, by omega, rfl, HK6.out, HT6.out⟩
        case round =>
          clear HK6 HT6
          obtain ⟨k, wy, rfl, hki, hwy, HJ⟩ := hrel
          subst hwy
          have hbx := HI.out.box.turns HJ.out.2 (fun c => by omega)
          have d0 := hbx.c0
          have d1 := hbx.lt
          have e0 := HJ.out.1.lt
          have e2 := HJ.out.1.c2
          have ef := HJ.out.1.free 2
          by_cases hk : k < i
          · have hkk : (k : Int) < (i : Int) := by omega
            have hx := Pu.ordL_get l hk
            obtain ⟨y, hy⟩ : ∃ y, y = byteN l (3 + k) := ⟨_, rfl⟩
            rw [← hy] at hx
            obtain ⟨gk, hak, ek0⟩ := HNA.out k y hx
            subst hak
            have hgb : xb + 2 ≤ gk := (World.ownsRow.lt HI.out.row gk rfl).1
            have ek := (HJ.out.2.cell (a := ⟨gk, k, none⟩) (World.block_lt_of_cell? _ _ ek0) (fun c => by have c' : gk = tb := c; omega)).trans ek0
            have htk : (Pu.ordL l i).take (k + 1) = (Pu.ordL l i).take k ++ [y] := by rw [List.take_add_one, hx]; rfl
            have hybd : y < 256 := by rw [hy]; exact byteN_lt _ _
            by_cases hyp : y = p
            · have n1 : ((y : Int) == (p : Int)) = true := by simp; omega
              have HZ : Hid (TkB (wy.setCell ⟨tb, 2, none⟩ (.bool true)) tb s a6 (bb || decide (p ∈ (Pu.ordL l i).take (k + 1))) ∧ Turns (fun q => q = tb) wr (wy.setCell ⟨tb, 2, none⟩ (.bool true))) := by
                have e9 : (bb || decide (p ∈ (Pu.ordL l i).take (k + 1))) = true := by rw [decide_eq_true (by rw [htk, hyp]; simp), Bool.or_true]
                rw [e9]
                exact ⟨HJ.out.1.set2 true, HJ.out.2.setCell (x := ⟨tb, 2, none⟩) (Or.inr rfl) _⟩
              clear hbx hx hy ek0 htk hyp
              go_wp2
              go_roundw
              case measure => simp [intOf]; omega
              case rel => exact ⟨k + 1, _, by go_num, by omega, rfl, HZ.out⟩
            · have n1 : ((y : Int) == (p : Int)) = false := by simp; omega
              have HZ : Hid (TkB wy tb s a6 (bb || decide (p ∈ (Pu.ordL l i).take (k + 1))) ∧ Turns (fun q => q = tb) wr wy) := by
                have e9 : decide (p ∈ (Pu.ordL l i).take (k + 1)) = decide (p ∈ (Pu.ordL l i).take k) := by
                  rw [htk, Bool.eq_iff_iff]; simp; intro c; exact absurd c.symm hyp
                rw [e9]
                exact HJ.out
              clear hbx hx hy ek0 htk hyp
              go_wp2
              go_roundw
              case measure => simp [intOf]; omega
              case rel => exact ⟨k + 1, _, by go_num, by omega, rfl, HZ.out⟩
          · have hkk : ¬ (k : Int) < (i : Int) := by omega
            have hke : (Pu.ordL l i).take k = Pu.ordL l i := List.take_of_length_le (by rw [Pu.ordL_len]; omega)
            have HJ1 := HJ.out.1
            rw [hke] at HJ1 e2
            by_cases hgo : bb = false ∧ p < n ∧ p ∉ Pu.ordL l i
            · obtain ⟨hbb, hpn, hpm⟩ := hgo
              have hb2 : (bb || decide (p ∈ Pu.ordL l i)) = false := by rw [hbb, decide_eq_false hpm]; rfl
              rw [hb2] at HJ1 e2
              have hpi : ¬ (n : Int) ≤ (p : Int) := by omega
              have hpi2 : (p : Int) < (n : Int) := by omega
              have hpi3 : decide ((n : Int) ≤ (p : Int)) = false := decide_eq_false hpi
              have ha6 : a6 = 3 + i + 1 ∧ 3 + i < s.size := by
                rcases HBB'.out with c | c
                · exact c.2
                · rw [hbb] at c; cases c.1
              obtain ⟨xs, hxs⟩ : ∃ xs, xs = natV (Pu.ordL l i) := ⟨_, rfl⟩
              have HXS : Hid (xs = natV (Pu.ordL l i)) := hxs
              have HST : Hid (∀ v' w7, OwnG wy (.slice ak i ck) (xb + 2) 3 1 v' (i + 1) (xs ++ [.int .i64 (p : Int)]) w7 → w7.cell? ⟨xb, 0, none⟩ = some (.slice ak i ck) ∧ w7.frozen? ⟨xb, 0, none⟩ = false ∧ xb < w7.heap.size ∧ w7.cell? ⟨xb + 1, p, none⟩ = some (.int .i64 (g p)) ∧ w7.frozen? ⟨xb + 1, p, none⟩ = false ∧ xb + 1 < w7.heap.size ∧ OrdI w ((w7.setCell ⟨xb, 0, none⟩ v').setCell ⟨xb + 1, p, none⟩ (.int .i64 (i : Int))) tb xb n s l (i + 1) v' (upd g p i)) := fun v' w7 hB => by
                rw [hxs] at hB
                rw [ha6.1] at HJ1
                exact HI.out.step HJ.out.2 HJ1 ha6.2 HP.out hpn hpm htx' HTB.out hB
              have HO : Hid (OwnG wy (.slice ak i ck) (xb + 2) 3 1 (.slice ak i ck) i xs wy) := OwnG.refl (by
                have h9 := HI.out.row
                rw [Pu.ordL_len, ← hxs] at h9
                exact owns_turns_p h9 HJ.out.2 (fun q hq c => by have := (World.ownsRow.lt h9 q hq).1; omega))
              have hsz : xb + 2 ≤ wy.heap.size := by
                have h8 := HI.out.ints.lt
                have h9 := HJ.out.2.size
                omega
              clear hbx HJ1 hxs hke hb2 hbb hpm ha6 HJ HI HNA HBB' HP
              go_wp2_with (at_builtin; refine wpList_append_one rfl _ _ 55 rfl 3 1 8 _ Tryz.underlying55 info3n rfl (by decide) wy wy (.slice ak i ck) (.slice ak i ck) (xb + 2) i xs #[.int .i64 (p : Int)] rfl (by intro u hu; simp at hu; subst hu; rfl) HO.out hsz (by omega) (by omega) rfl _ rfl rfl ?_)
              intro v' w7 hB
              obtain ⟨j1, j2, j3, j4, j5, j6, j7⟩ := HST.out v' w7 hB
              obtain ⟨g9, c9, hv9, _⟩ := own_some hB.own (by omega)
              subst hv9
              have HZ : Hid (OrdI w ((w7.setCell ⟨xb, 0, none⟩ (.slice (some ⟨g9, 0, none⟩) (i + 1) c9)).setCell ⟨xb + 1, p, none⟩ (.int .i64 (i : Int))) tb xb n s l (i + 1) (.slice (some ⟨g9, 0, none⟩) (i + 1) c9) (upd g p i)) := j7
              clear HST hB HO j7 d0 d1 e0 e2 ef
              go_wp2
              go_roundw
              case measure => simp [intOf]; omega
              case rel => exact ⟨i + 1, _, _, _, by go_num, by omega, rfl, HZ.out⟩
            · have HRN : Hid (Pu.rdOf l = none) := by
                refine rd_hd_none (Pu.ord_none (n := n) (i := i) (by rw [← HL.out]; exact HABN.out.2.2) hlt ?_)
                rw [← HP.out, hll]
                rcases HBB'.out with c | c
                · by_cases c2 : p < n
                  · by_cases c3 : p ∈ Pu.ordL l i
                    · exact Or.inr (Or.inr c3)
                    · exact absurd ⟨c.1, c2, c3⟩ hgo
                  · exact Or.inr (Or.inl (by omega))
                · exact Or.inl c.2
              obtain ⟨b9, hb9⟩ : ∃ b9, b9 = (bb || decide (p ∈ Pu.ordL l i)) := ⟨_, rfl⟩
              rw [← hb9] at HJ1 e2
              have hcs : b9 = true ∨ (b9 = false ∧ decide ((n : Int) ≤ (p : Int)) = true ∧ (n : Int) ≤ (p : Int)) := by
                cases b9 with
                | true => exact Or.inl rfl
                | false =>
                  refine Or.inr ?_
                  have h8 : bb = false := (or_no hb9).1
                  have h9 : p ∉ Pu.ordL l i := of_decide_eq_false (or_no hb9).2
                  have h10 : ¬ p < n := fun c => hgo ⟨h8, c, h9⟩
                  exact ⟨rfl, decide_eq_true (by omega), by omega⟩
              have HX : Hid (HeldPost w s (.returned (.tuple #[.pointer none, .bool false])) wy) := ⟨HI.out.t.join HJ.out.2 (fun x hx _ c => by have := HTB.out; omega), by rw [HL.out, HRN.out]⟩
              clear hgo hb9 HI HJ HJ1 hbx hke HNA HBB' HP
              rcases hcs with h9 | ⟨h9, h10, h11⟩
              all_goals
                subst h9
                go_wp2
                exact bodyPost_ret (v := .tuple #[.pointer none, .bool false]) (by simp [results, Tryz.results70, go_sem]) rfl HX.out
      · as_aux_lemma =>
        have hii : ¬ (i : Int) < (n : Int) := by omega
        have hie : n = i := by omega
        subst hie
        obtain ⟨og, oc, hov, hoc⟩ := own_some HI.out.row (by rw [Pu.ordL_len]; omega)
        rw [Pu.ordL_len] at hov hoc
        subst hov
        obtain ⟨O, hO⟩ : ∃ O, O = Pu.ordL l n := ⟨_, rfl⟩
        have hOl : O.length = n := by rw [hO]; exact Pu.ordL_len _ _
        have HOP : Hid (O.Nodup ∧ (∀ m ∈ O, m < n) ∧ ∀ q m : Nat, O[q]? = some m → g m = (q : Int)) := by rw [hO]; exact ⟨HI.out.nd, HI.out.lt, HI.out.rk⟩
        obtain ⟨R, hR⟩ : ∃ R, R = Pu.readSz n (l.drop (3 + n)) := ⟨_, rfl⟩
        have HHD : Hid (Pu.hdOf l = Pu.finH O l.length R) := by
          show _ = _
          rw [hO, hR]
          refine Pu.hd_ok ?_ ?_ ?_ hn1 hn40 (by rw [hll]; exact HI.out.le) HI.out.nd HI.out.lt
          · rw [← HL.out, ← HABN.out.1]; exact HA8.out.1
          · rw [← HL.out, ← HABN.out.2.1]; exact HA8.out.2
          · rw [← HL.out]; exact HABN.out.2.2
        have hgl := World.ownsRow.lt HI.out.row og rfl
        have hxo : xb + 1 < og := by omega
        obtain ⟨base, hbase⟩ : ∃ base, base = wr.heap.size := ⟨_, rfl⟩
        have hob : og < base := by omega
        have H0 : Hid (SzI w wr tb xb og oc base n s l O g R 0 (.slice none 0 0) []) := ⟨Or.inr ⟨3 + n, [], HI.out.tk, HI.out.le, rfl, rfl, by rw [hR]; simp⟩, HI.out.box, by
            have h9 := HI.out.row
            rw [← hO] at h9
            exact ord_own h9 hOl HOP.out.2.1, HI.out.ints, World.ownsRow_nil _ _ _ _, HI.out.t, by omega⟩
        clear hk0 d0 HI hO hR hgl hbase HABN HA8
        go_wp2_with fail
        go_loopw [13, 14] (fun sv iv wr => ∃ (i : Nat) (x : Value) (wy : World) (xs : List Value), x = sv ∧ iv = .int .i64 (i : Int) ∧ i ≤ n ∧ wy = wr ∧ Hid (SzI w wy tb xb og oc base n s l O g R i x xs)) (fun _ iv _ => n - (intOf iv).toNat)
        case atStart => exact ⟨0, _, wr, _, rfl, rfl, by omega, rfl, H0.out⟩
        case round =>
          clear H0
          obtain ⟨i, x, wr, xs, hx, rfl, hin, hwy, HI⟩ := hrel
          subst hwy hx
          by_cases hlt : i < n
          · have hii : (i : Int) < (n : Int) := by omega
            have C1 := HI.out.tk.count hlt hs HL.out
            have d0 := HI.out.tk.lt
            go_wp2_with fail
            refine C1.mono ?_
            rintro e w6 ⟨y, rfl, hT6, hz6⟩
            have HST : Hid (∀ v' w7, OwnG w6 x base 3 1 v' (i + 1) (xs ++ [.int .i64 y]) w7 → SzI w w7 tb xb og oc base n s l O g R (i + 1) v' (xs ++ [.int .i64 y])) := fun v' w7 hB => HI.out.step hT6 hz6 htx' HTB.out hxo hob hB
            have HO : Hid (OwnG w6 x base 3 1 x i xs w6) := OwnG.refl (owns_turns_p HI.out.row hT6 (fun q hq c => by have := (World.ownsRow.lt HI.out.row q hq).1; omega))
            have hsz : base ≤ w6.heap.size := Nat.le_trans HI.out.bl hT6.size
            clear C1 hT6 hz6 d0 HI
            go_wp2_with (at_builtin; refine wpList_append_one rfl _ _ 55 rfl 3 1 8 _ Tryz.underlying55 info3n rfl (by decide) w6 w6 x x base i xs #[.int .i64 y] rfl (by intro u hu; simp at hu; subst hu; rfl) HO.out hsz (by omega) (by omega) rfl _ rfl rfl ?_)
            intro v' w7 hB
            have HZ : Hid (SzI w w7 tb xb og oc base n s l O g R (i + 1) v' (xs ++ [.int .i64 y])) := HST.out v' w7 hB
            clear HST hB HO
            go_wp2
            go_roundw
            case measure => simp [intOf]; omega
            case rel => exact ⟨i + 1, v', w7, _, rfl, by go_num, by omega, rfl, HZ.out⟩
          · as_aux_lemma =>
            have hii : ¬ (i : Int) < (n : Int) := by omega
            have hie : n = i := by omega
            subst hie
            have p0 := HI.out.ints.cell 0 (by omega)
            have pl := HI.out.ints.lt
            rcases HI.out.tk with ⟨a, hk, hRN⟩ | ⟨a, S, hk, ha, hxs, hSl, hRS⟩
            · have HRN : Hid (Pu.rdOf l = none) := rd_hd_none (by rw [HHD.out, hRN]; rfl)
              have C1 := tklabel_bad (rank := g 0) hk
              have d0 := hk.lt
              have d1 := hk.c1
              have HTr : Hid (Turns (fun _ => False) w wr) := HI.out.t
              have hni : (0 : Int) < (n : Int) := by omega
              clear hk hRN HI HHD HOP
              go_wp2_with fail
              go_loopw [15] (fun iv wr' => iv = .int .i64 0 ∧ wr' = wr) (fun _ _ => 1)
              case atStart => exact ⟨rfl, rfl⟩
              case round =>
                obtain ⟨rfl, hwr⟩ := hrel
                subst hwr
                go_wp2_with fail
                refine C1.mono ?_
                rintro e w6 ⟨v6, rfl, hk6, hT6⟩
                have d2 := hk6.c2
                have d3 := hk6.lt
                have HX : Hid (∀ q, HeldPost w s (.returned (.tuple #[.pointer none, .bool false])) (w6.drewN q)) := fun q => ⟨(HTr.out.join hT6 (fun x hx _ c => by have := HTB.out; omega)).drewN q, by rw [HL.out, HRN.out]⟩
                clear C1 hk6 hT6 d0 d1 p0 pl
                go_wp2_with fail
                go_quiet (fail)
                go_wp2
                exact bodyPost_ret (v := .tuple #[.pointer none, .bool false]) (by simp [results, Tryz.results70, go_sem]) rfl (HX.out _)
            · as_aux_lemma =>
              have hRs : R = some (S, l.drop a) := by rw [hRS, Nat.sub_self, Pu.readSz]; simp
              have hHD : Pu.hdOf l = some (O, S, a) := by
                rw [HHD.out, hRs, Pu.finH, List.length_drop]
                congr 3
                omega
              obtain ⟨st, hst⟩ : ∃ st, st = Pu.stF a S := ⟨_, rfl⟩
              have HST : Hid (st = Pu.stF a S) := hst
              have HST3 : Hid (∀ j, 3 ≤ st j) := fun j => by
                obtain ⟨r0, _, _, _, _, _, _, e7, e8⟩ := Pu.hdOf_some hHD
                have e9 := congrArg List.length e7
                rw [List.length_append, List.length_append, Pu.headB_len] at e9
                rw [hst, Pu.stF]
                omega
              have HRD : Hid (Pu.rdOf l = if Pu.areB l n O st then some (O, S, a) else none) := by
                show _ = _
                unfold Pu.rdOf
                rw [hHD, hst]
                dsimp only
                rw [hOl]
              have hrow := HI.out.row
              rw [hxs, ← hSl] at hrow
              obtain ⟨sg, sc, hxe, _⟩ := own_some hrow (by omega)
              have hsb := World.ownsRow.lt HI.out.row sg (by rw [hxe]; rfl)
              rw [hSl] at hxe
              subst hxe
              rw [hSl] at hrow
              have hos : og < sg := by omega
              obtain ⟨b2, hb2⟩ : ∃ b2, b2 = wr.heap.size := ⟨_, rfl⟩
              have hsb2 : sg < b2 := by omega
              have hst0 : st 0 = a := by rw [hst]; simp [Pu.stF, Pu.sumL]
              have H0 : Hid (LbI w wr tb xb og oc sg b2 n s O S g (st 0) (Pu.labF l st) (.slice none 0 0) (.slice none 0 0) (.slice none 0 0) [] [] [] (fun _ => 0) ∧ st 0 ≤ s.size) := by
                refine ⟨⟨⟨by rw [hst0]; exact hk, HI.out.ord, HI.out.ints, fun j x hj => ?_, fun v y hv => by simp at hv, by omega⟩, HI.out.box, World.ownsRow_nil _ _ _ _, World.ownsRow_nil _ _ _ _, World.ownsRow_nil _ _ _ _, fun q hq => (by cases hq), fun q hq => (by cases hq), fun q hq => (by cases hq), HI.out.t⟩, by omega⟩
                have hjl : j < n * 1 := by have := (List.getElem?_eq_some_iff.1 hj).1; omega
                have := World.ownsRow.cellAt hrow j hjl
                rw [this, natV, List.getElem?_map, hj]
                rfl
              have d0 := hk.lt
              clear hk hRS hRs hHD hst HI hrow hxs hb2 hst0 HHD p0 pl hsb
              go_wp2_with fail
              go_loopw [15] (fun iv wr' => ∃ (i : Nat) (wy : World) (lv fv hv : Value) (LV : List Value) (col : Nat → Nat), iv = .int .i64 (i : Int) ∧ i ≤ n ∧ wy = wr' ∧ Hid (LbI w wy tb xb og oc sg b2 n s O S g (st i) (Pu.labF l st) lv fv hv LV ((List.range i).map (fun v => st v / 28)) ((List.range i).map (fun v => (st (v + 1) - 1) / 28)) col ∧ LV.length = i ∧ st i ≤ s.size ∧ ∀ v, v < i → Pu.labAt l O st v = true)) (fun iv _ => n - (intOf iv).toNat)
              case atStart => exact ⟨0, wr, _, _, _, _, _, rfl, by omega, rfl, H0.out.1, rfl, H0.out.2, fun v hv => absurd hv (by omega)⟩
              case round =>
                clear H0 d0
                obtain ⟨i, wr, lv, fv, hv, LV, col, rfl, hin, hwy, HI⟩ := hrel
                subst hwy
                have hk := HI.out.1.core.tk
                have d0 := hk.lt
                have d1 := hk.c1
                by_cases hlt : i < n
                · have hii : (i : Int) < (n : Int) := by omega
                  obtain ⟨q, hqn, hOq⟩ := Pu.rank_of HOP.out.1 HOP.out.2.1 hOl hlt
                  have r0 := HI.out.1.core.ints.cell i hlt
                  rw [HOP.out.2.2 q i hOq] at r0
                  have r1 := HI.out.1.core.ints.lt
                  obtain ⟨z, hSz⟩ : ∃ z, S[i]? = some z := ⟨_, List.getElem?_eq_getElem (by omega)⟩
                  have HZ : Hid (st (i + 1) = st i + z) := by show _ = _; rw [HST.out]; exact Pu.stF_succ hSz
                  have HNO : Hid ((∀ H r, Pu.tkLab q (l.drop (st i)) = some (H, r) → ¬ (l.length - r.length = st i + z)) → Pu.rdOf l = none) := fun hh => by
                    rw [HRD.out, Pu.lab_none hOq HOP.out.1 (by omega) HZ.out hlt (by rw [HST.out]; exact Pu.stF_mono _ _ (by omega)) hh]
                    rfl
                  have C1 := tklabel_any (rank := q) hk hs (by omega)
                  unfold LbPost at C1
                  rw [HL.out] at C1
                  have HOQ : Hid (O[q]? = some i) := hOq
                  have hstb : st i ≤ s.size := HI.out.2.2.1
                  cases e0 : Pu.tkLab q (l.drop (st i)) with
                  | none =>
                    as_aux_lemma =>
                    rw [e0] at C1
                    simp only at C1
                    have HRN : Hid (Pu.rdOf l = none) := HNO.out (fun H r c => by rw [e0] at c; cases c)
                    have HTr : Hid (Turns (fun _ => False) w wr) := HI.out.1.t
                    clear hk HI e0 hOq hSz HNO
                    go_wp2_with fail
                    refine C1.mono ?_
                    rintro e w6 ⟨hT6, v6, a6, rfl, hk6⟩
                    have d2 := hk6.c2
                    have d3 := hk6.lt
                    have HX : Hid (∀ q, HeldPost w s (.returned (.tuple #[.pointer none, .bool false])) (w6.drewN q)) := fun q => ⟨(HTr.out.join hT6 (fun x hx _ c => by have := HTB.out; omega)).drewN q, by rw [HL.out, HRN.out]⟩
                    clear C1 hk6 hT6 d0 d1
                    go_wp2_with fail
                    go_quiet (fail)
                    go_wp2
                    exact bodyPost_ret (v := .tuple #[.pointer none, .bool false]) (by simp [results, Tryz.results70, go_sem]) rfl (HX.out _)
                  | some zz =>
                    as_aux_lemma =>
                    obtain ⟨H, r⟩ := zz
                    rw [e0] at C1
                    simp only at C1
                    obtain ⟨hrl, hHl⟩ := Pu.tkLab_le e0
                    rw [List.length_drop, hll] at hrl
                    obtain ⟨a6, ha6⟩ : ∃ a6, a6 = s.size - r.length := ⟨_, rfl⟩
                    rw [← ha6] at C1
                    obtain ⟨s0, hs0⟩ : ∃ s0, s0 = st i := ⟨_, rfl⟩
                    rw [← hs0] at d1
                    have HS0 : Hid (s0 = st i) := hs0
                    have ha6b : s0 ≤ a6 ∧ a6 ≤ 60000 := by omega
                    have hw1 : IntKind.i64.wrap ((a6 : Int) - (s0 : Int)) = (a6 : Int) - (s0 : Int) := by rw [IntKind.wrap_i64]; omega
                    have HA6 : Hid (a6 = s.size - r.length) := ha6
                    have HE0 : Hid (Pu.tkLab q (l.drop (st i)) = some (H, r)) := e0
                    have HSZ : Hid (S[i]? = some z) := hSz
                    clear hk e0 hOq hSz ha6 hs0
                    by_cases hat : a6 = s0 + z
                    · as_aux_lemma =>
                      have n1 : (((a6 : Int) - (s0 : Int)) != (z : Int)) = false := by rw [bne_eq_false_iff_eq]; omega
                      have HOK := Pu.tk_ok HOQ.out (by omega) (by rw [hll]; exact hstb) HZ.out HE0.out (by have := HA6.out; have := HS0.out; omega)
                      have HOK' : Hid (Pu.labAt l O st i = true ∧ Pu.labF l st i = H ∧ st (i + 1) ≤ s.size) := ⟨HOK.1, HOK.2.1, by rw [← hll]; exact HOK.2.2.1⟩
                      have HA : Hid (a6 = st (i + 1)) := by show _ = _; have := HZ.out; have := HS0.out; omega
                      have hLVl : LV.length = i := HI.out.2.1
                      have HI' : Hid (∀ w6, Turns (fun q => q = tb) wr w6 → w6.cell? ⟨sg, i, none⟩ = some (.int .i64 (z : Int)) ∧ sg < w6.heap.size) := fun w6 t6 => by
                        have h9 := HI.out.1.core.szs i z HSZ.out
                        have h8 := (t6.cell (a := ⟨sg, i, none⟩) (World.block_lt_of_cell? _ _ h9) (fun c => by have c' : sg = tb := c; omega)).trans h9
                        exact ⟨h8, World.block_lt_of_cell? _ _ h8⟩
                      clear HOK HNO hat
                      go_wp2_with fail
                      refine C1.mono ?_
                      rintro e w6 ⟨hT6, v6, rfl, hrow6, hk6⟩
                      obtain ⟨gg, cap, hv6, hHA, hg1, hg2⟩ := labAt_own hrow6 hHl
                      subst hv6
                      have d2 := hk6.c2
                      have d3 := hk6.lt
                      have d4 := hk6.c1
                      obtain ⟨d5, d6⟩ := HI'.out w6 hT6
                      have H6 : Hid (∀ q, LbI w (w6.drewN q) tb xb og oc sg b2 n s O S g (st (i + 1)) (Pu.labF l st) lv fv hv LV ((List.range i).map (fun v => st v / 28)) ((List.range i).map (fun v => (st (v + 1) - 1) / 28)) (colN wr 6 col) ∧ HubAt (w6.drewN q) (some ⟨gg, 0, none⟩) (Pu.labF l st LV.length) ∧ b2 ≤ gg ∧ gg < (w6.drewN q).heap.size ∧ colN wr 6 col gg = 6) := fun q => by
                        have k6 := hk6
                        rw [HA.out] at k6
                        have hb2 := HI.out.1.core.bl
                        refine ⟨HI.out.1.next htx' HTB.out hxo hos hsb2 (hT6.drewN q) k6, ?_, by omega, hg2, colN_new hg1⟩
                        rw [hLVl, HOK'.out.2.1]
                        exact hHA
                      have HYES : Hid (∀ v, v < i + 1 → Pu.labAt l O st v = true) := fun v hv => by
                        by_cases c : v = i
                        · subst c; exact HOK'.out.1
                        · exact HI.out.2.2.2 v (by omega)
                      clear C1 hk6 hT6 d0 d1 r0 HI' HI hrow6 hHA hg1 hg2
                      go_wp2_with fail
                      go_quiet (fail)
                      obtain ⟨w7, hw7⟩ : ∃ w7, w7 = w6.drewN nq := ⟨_, rfl⟩
                      have H7 := H6.out nq
                      rw [← hw7] at H7 ⊢
                      have H7' : Hid (LbI w w7 tb xb og oc sg b2 n s O S g (st (i + 1)) (Pu.labF l st) lv fv hv LV ((List.range i).map (fun v => st v / 28)) ((List.range i).map (fun v => (st (v + 1) - 1) / 28)) (colN wr 6 col)) := H7.1
                      have c1 := H7.1.box.c1
                      have cl := H7.1.box.lt
                      have hHl2 : (Pu.labF l st LV.length).length = H.length := by rw [hLVl, HOK'.out.2.1]
                      have HS1 : Hid (∀ v' w8, OwnG w7 lv b2 98 1 v' (i + 1) (LV ++ [.slice (some ⟨gg, 0, none⟩) H.length cap]) w8 → w8.cell? ⟨xb, 1, none⟩ = some lv ∧ w8.frozen? ⟨xb, 1, none⟩ = false ∧ xb < w8.heap.size ∧ ∃ LV' col', LV'.length = i + 1 ∧ LbI w (w8.setCell ⟨xb, 1, none⟩ v') tb xb og oc sg b2 n s O S g (st (i + 1)) (Pu.labF l st) v' fv hv LV' ((List.range i).map (fun v => st v / 28)) ((List.range i).map (fun v => (st (v + 1) - 1) / 28)) col') := fun v' w8 hB => by
                        rw [← hHl2, ← hLVl] at hB
                        obtain ⟨k1, k2, k3, k4⟩ := H7.1.step1 htx' HTB.out hxo hos hsb2 H7.2.1 H7.2.2.1 H7.2.2.2.1 H7.2.2.2.2 hB
                        exact ⟨k1, k2, k3, _, _, by rw [List.length_append, hLVl]; rfl, k4⟩
                      have HO7 : Hid (OwnG w7 lv b2 98 1 lv i LV w7) := OwnG.refl (by rw [← hLVl]; exact H7.1.lrow)
                      have hsz : b2 ≤ w7.heap.size := H7.1.core.bl
                      clear H7 H6 hw7 hHl2 d2 d3 d4 d5 d6
                      go_wp2_with (at_builtin; refine wpList_append_one rfl _ _ 95 rfl 98 1 24 _ Tryz.underlying95 infoRLabs rfl (by decide) w7 w7 lv lv b2 i LV #[.slice (some ⟨gg, 0, none⟩) H.length cap] rfl (by intro u hu; simp at hu; subst hu; rfl) HO7.out hsz (by omega) (by omega) rfl _ rfl rfl ?_)
                      intro v' w8 hB
                      obtain ⟨j1, j2, j3, LV2, col2, hLV2, j4⟩ := HS1.out v' w8 hB
                      obtain ⟨g9, c9, hv9, _⟩ := own_some hB.own (by omega)
                      subst hv9
                      have H8 : Hid (LbI w (w8.setCell ⟨xb, 1, none⟩ (.slice (some ⟨g9, 0, none⟩) (i + 1) c9)) tb xb og oc sg b2 n s O S g (st (i + 1)) (Pu.labF l st) (.slice (some ⟨g9, 0, none⟩) (i + 1) c9) fv hv LV2 ((List.range i).map (fun v => st v / 28)) ((List.range i).map (fun v => (st (v + 1) - 1) / 28)) col2) := j4
                      have k2 := j4.box.c2
                      have k2' : w8.cell? ⟨xb, 2, none⟩ = some fv := by rw [World.cell?_setCell_other _ _ _ _ (by intro c; injection c with _ c; omega)] at k2; exact k2
                      clear HS1 HO7 hB j4 H7' c1 cl
                      obtain ⟨V1, hV1⟩ : ∃ V1, V1 = Value.slice (some ⟨g9, 0, none⟩) (i + 1) c9 := ⟨_, rfl⟩
                      obtain ⟨F, hF⟩ : ∃ F, F = (List.range i).map (fun v => st v / 28) := ⟨_, rfl⟩
                      obtain ⟨G, hG⟩ : ∃ G, G = (List.range i).map (fun v => (st (v + 1) - 1) / 28) := ⟨_, rfl⟩
                      have hFl : F.length = i := by rw [hF]; simp
                      have hGl : G.length = i := by rw [hG]; simp
                      rw [← hF, ← hG] at H8
                      have hq1 : ((s0 / 28 : Nat) : Int) = (s0 : Int) / 28 := by omega
                      have HFG : Hid (F ++ [s0 / 28] = (List.range (i + 1)).map (fun v => st v / 28) ∧ G ++ [(st (i + 1) - 1) / 28] = (List.range (i + 1)).map (fun v => (st (v + 1) - 1) / 28)) := by
                        rw [hF, hG, List.range_succ, List.map_append, List.map_append, HS0.out]; exact ⟨rfl, rfl⟩
                      have HS2 : Hid (∀ v' w9, OwnG (w8.setCell ⟨xb, 1, none⟩ (.slice (some ⟨g9, 0, none⟩) (i + 1) c9)) fv b2 3 1 v' (i + 1) (natV F ++ [.int .i64 ((s0 : Int) / 28)]) w9 → w9.cell? ⟨xb, 2, none⟩ = some fv ∧ w9.frozen? ⟨xb, 2, none⟩ = false ∧ xb < w9.heap.size ∧ ∃ col', LbI w (w9.setCell ⟨xb, 2, none⟩ v') tb xb og oc sg b2 n s O S g (st (i + 1)) (Pu.labF l st) (.slice (some ⟨g9, 0, none⟩) (i + 1) c9) v' hv LV2 (F ++ [s0 / 28]) G col') := fun v' w9 hB => by
                        rw [← hq1, ← hFl] at hB
                        have H8' := H8.out
                        rw [← hFl] at H8'
                        obtain ⟨k1, k2, k3, k4⟩ := H8'.step2 htx' HTB.out hxo hos hsb2 hB
                        rw [hFl] at k4
                        exact ⟨k1, k2, k3, _, k4⟩
                      have HO8 : Hid (OwnG (w8.setCell ⟨xb, 1, none⟩ (.slice (some ⟨g9, 0, none⟩) (i + 1) c9)) fv b2 3 1 fv i (natV F) (w8.setCell ⟨xb, 1, none⟩ (.slice (some ⟨g9, 0, none⟩) (i + 1) c9))) := OwnG.refl (by
                        have h9 := H8.out.frow
                        rw [hFl] at h9
                        exact h9)
                      have hsz8 : b2 ≤ (w8.setCell ⟨xb, 1, none⟩ (.slice (some ⟨g9, 0, none⟩) (i + 1) c9)).heap.size := H8.out.core.bl
                      obtain ⟨xf, hxf⟩ : ∃ xf, xf = natV F := ⟨_, rfl⟩
                      rw [← hxf] at HS2 HO8
                      clear H8 hF hG hV1 V1 hxf hq1 hFl
                      go_wp2_with (at_builtin; refine wpList_append_one rfl _ _ 55 rfl 3 1 8 _ Tryz.underlying55 info3n rfl (by decide) (w8.setCell ⟨xb, 1, none⟩ (.slice (some ⟨g9, 0, none⟩) (i + 1) c9)) (w8.setCell ⟨xb, 1, none⟩ (.slice (some ⟨g9, 0, none⟩) (i + 1) c9)) fv fv b2 i xf #[.int .i64 ((s0 : Int) / 28)] rfl (by intro u hu; simp at hu; subst hu; rfl) HO8.out hsz8 (by omega) (by omega) rfl _ rfl (by first | rfl | simp) ?_)
                      intro v' w9 hB
                      obtain ⟨j1, j2, j3, col3, j4⟩ := HS2.out v' w9 hB
                      obtain ⟨g10, c10, hv10, _⟩ := own_some hB.own (by omega)
                      subst hv10
                      have H9 : Hid (LbI w (w9.setCell ⟨xb, 2, none⟩ (.slice (some ⟨g10, 0, none⟩) (i + 1) c10)) tb xb og oc sg b2 n s O S g (st (i + 1)) (Pu.labF l st) (.slice (some ⟨g9, 0, none⟩) (i + 1) c9) (.slice (some ⟨g10, 0, none⟩) (i + 1) c10) hv LV2 (F ++ [s0 / 28]) G col3) := j4
                      have k3 := j4.box.c3
                      have k3' : w9.cell? ⟨xb, 3, none⟩ = some hv := by rw [World.cell?_setCell_other _ _ _ _ (by intro c; injection c with _ c; omega)] at k3; exact k3
                      obtain ⟨s1, hs1⟩ : ∃ s1, s1 = st (i + 1) := ⟨_, rfl⟩
                      have m1 := j4.core.tk.c1
                      have ml := j4.core.tk.lt
                      rw [← hs1] at m1
                      have m1' : w9.cell? ⟨tb, 1, none⟩ = some (.int .i64 (s1 : Int)) := by rw [World.cell?_setCell_other _ _ _ _ (by intro c; injection c with c _; omega)] at m1; exact m1
                      have ml' : tb < w9.heap.size := by simpa using ml
                      have hs1b : 3 ≤ s1 ∧ s1 ≤ 60000 := by rw [hs1]; exact ⟨HST3.out _, by have := HOK'.out.2.2; omega⟩
                      have hq2 : (((s1 - 1) / 28 : Nat) : Int) = IntKind.i64.wrap (((s1 : Int) - 1).tdiv 28) := by rw [Int.tdiv_eq_ediv_of_nonneg (by omega), IntKind.wrap_i64]; omega
                      have hw2 : IntKind.i64.wrap ((s1 : Int) - 1) = (s1 : Int) - 1 := by rw [IntKind.wrap_i64]; omega
                      have HS3 : Hid (∀ v' wz, OwnG (w9.setCell ⟨xb, 2, none⟩ (.slice (some ⟨g10, 0, none⟩) (i + 1) c10)) hv b2 3 1 v' (i + 1) (natV G ++ [.int .i64 (IntKind.i64.wrap (((s1 : Int) - 1).tdiv 28))]) wz → wz.cell? ⟨xb, 3, none⟩ = some hv ∧ wz.frozen? ⟨xb, 3, none⟩ = false ∧ xb < wz.heap.size ∧ ∃ col', LbI w (wz.setCell ⟨xb, 3, none⟩ v') tb xb og oc sg b2 n s O S g (st (i + 1)) (Pu.labF l st) (.slice (some ⟨g9, 0, none⟩) (i + 1) c9) (.slice (some ⟨g10, 0, none⟩) (i + 1) c10) v' LV2 ((List.range (i + 1)).map (fun v => st v / 28)) ((List.range (i + 1)).map (fun v => (st (v + 1) - 1) / 28)) col') := fun v' wz hB => by
                        rw [← hq2, ← hGl] at hB
                        have H9' := H9.out
                        rw [← hGl] at H9'
                        obtain ⟨k1, k2, k3, k4⟩ := H9'.step3 htx' HTB.out hxo hos hsb2 hB
                        rw [hGl, hs1, HFG.out.1, HFG.out.2] at k4
                        exact ⟨k1, k2, k3, _, k4⟩
                      have HO9 : Hid (OwnG (w9.setCell ⟨xb, 2, none⟩ (.slice (some ⟨g10, 0, none⟩) (i + 1) c10)) hv b2 3 1 hv i (natV G) (w9.setCell ⟨xb, 2, none⟩ (.slice (some ⟨g10, 0, none⟩) (i + 1) c10))) := OwnG.refl (by
                        have h9 := H9.out.hrow
                        rw [hGl] at h9
                        exact h9)
                      have hsz9 : b2 ≤ (w9.setCell ⟨xb, 2, none⟩ (.slice (some ⟨g10, 0, none⟩) (i + 1) c10)).heap.size := H9.out.core.bl
                      obtain ⟨xg, hxg⟩ : ∃ xg, xg = natV G := ⟨_, rfl⟩
                      rw [← hxg] at HS3 HO9
                      obtain ⟨wa, hwa⟩ : ∃ wa, wa = w9.setCell ⟨xb, 2, none⟩ (.slice (some ⟨g10, 0, none⟩) (i + 1) c10) := ⟨_, rfl⟩
                      have HWA : Hid (w9.setCell ⟨xb, 2, none⟩ (.slice (some ⟨g10, 0, none⟩) (i + 1) c10) = wa) := hwa.symm
                      rw [← hwa] at HS3 HO9 hsz9 k3 m1 ml H9
                      have e3l := H9.out.box.lt
                      have HNO9 : Hid (∀ q, q < b2 → ¬ (hv.ownBlock = some q)) := fun q hq c => by have := (World.ownsRow.lt HO9.out.own q c).1; omega
                      obtain ⟨i0, hi, hz0, hz1, hz2⟩ := info_parts info3n
                      clear HS2 HO8 hB j4 H9 hxg hq2 hGl k2 k2' hs1 HFG hsz8 hwa
                      go_wp2_with fail
                      rw [HWA.out]
                      clear k3' m1' ml' j1 j2 j3
                      have HEND : Hid (∀ g' cap' w4', OwnG wa hv b2 3 1 (.slice (some ⟨g', 0, none⟩) (i + 1) cap') (i + 1) (xg ++ [.int .i64 (IntKind.i64.wrap (((s1 : Int) - 1).tdiv 28))]) w4' → w4'.cell? ⟨xb, 3, none⟩ = some hv ∧ w4'.frozen? ⟨xb, 3, none⟩ = false ∧ xb < w4'.heap.size ∧ w4'.cell? ⟨tb, 1, none⟩ = some (.int .i64 (s1 : Int)) ∧ Hid (∃ (i1 : Nat) (wy : World) (lv fv hv : Value) (LV : List Value) (col : Nat → Nat), (Value.int .i64 ((i : Int) + 1)) = .int .i64 (i1 : Int) ∧ i1 ≤ n ∧ wy = w4'.setCell ⟨xb, 3, none⟩ (.slice (some ⟨g', 0, none⟩) (i + 1) cap') ∧ Hid (LbI w wy tb xb og oc sg b2 n s O S g (st i1) (Pu.labF l st) lv fv hv LV ((List.range i1).map (fun v => st v / 28)) ((List.range i1).map (fun v => (st (v + 1) - 1) / 28)) col ∧ LV.length = i1 ∧ st i1 ≤ s.size ∧ ∀ v, v < i1 → Pu.labAt l O st v = true))) := fun g' cap' w4' hB => by
                        obtain ⟨j5, j6, j7, col4, j8⟩ := HS3.out _ w4' hB
                        have hno := HNO9.out
                        exact ⟨j5, j6, j7, (hB.turns.cell (a := ⟨tb, 1, none⟩) ml (hno tb (by omega))).trans m1, i + 1, _, _, _, _, _, _, by go_num, by omega, rfl, j8, hLV2, HOK'.out.2.2, HYES.out⟩
                      have HOWN : Hid (wa.ownsRow b2 3 1 hv i xg) := HO9.out.own
                      have hin1 : i < n := hlt
                      clear HS3 HO9 HNO9 HYES HOK' HWA HST HST3 HOP HRD HZ HOQ HS0 HA6 HE0 HSZ HA hLVl hLV2 hrl hHl ha6b hw1 n1 hstb hqn HTB HL hxo hos hob htx' hll hsl hs h28 hBl hAl hnl HW1 HW5 HXB hmk hA8 hB9
                      refine wp_region_noPanic ?_
                      refine wp_region_held_drew (S := fun w' => w'.cell? ⟨tb, 1, none⟩ = some (.int .i64 (s1 : Int))) (by kernel_rfl) ?hS0 (fun hHeld => ?_)
                      case hS0 =>
                        try dsimp only
                        go_keep
                      refine wpAnyH_take (i := 0) (oi := { dst := some 156, op := Op.move (Operand.tmp 8), type := 101, pos := "store.go:171", after := #[], guard := none }) (v := ?v1) rfl (by kernel_rfl) (by kernel_rfl) (by kernel_rfl) (fun _ _ _ h => h) (Or.inl ⟨by rfl, ?hy1⟩) (by assumption) ?r1
                      case hy1 =>
                        intro w hSw
                        try dsimp only at hSw
                        go_simp
                        all_goals with_reducible rfl
                      try simp only [Act.put, List.setIfInBounds_toArray, List.set_cons_zero, List.set_cons_succ]
                      refine wpAnyH_take (i := 1) (oi := { dst := some 157, op := Op.move (Operand.tmp 8), type := 101, pos := "store.go:171", after := #[], guard := none }) (v := ?v2) rfl (by kernel_rfl) (by kernel_rfl) (by kernel_rfl) (fun _ _ _ h => h) (Or.inl ⟨by rfl, ?hy2⟩) (by assumption) ?r2
                      case hy2 =>
                        intro w hSw
                        try dsimp only at hSw
                        go_simp
                        all_goals with_reducible rfl
                      try simp only [Act.put, List.setIfInBounds_toArray, List.set_cons_zero, List.set_cons_succ]
                      refine wpAnyH_take (i := 2) (oi := { dst := some 158, op := Op.nilCheck (Operand.tmp 157), type := 0, pos := "store.go:171", after := #[{ on := 1, ground := Ground.data }], guard := none }) (v := ?v3) rfl (by kernel_rfl) (by kernel_rfl) (by kernel_rfl) (fun _ _ _ h => h) (Or.inl ⟨by rfl, ?hy3⟩) (by assumption) ?r3
                      case hy3 =>
                        intro w hSw
                        try dsimp only at hSw
                        go_simp
                        all_goals with_reducible rfl
                      try simp only [Act.put, List.setIfInBounds_toArray, List.set_cons_zero, List.set_cons_succ]
                      refine wpAnyH_take (i := 3) (oi := { dst := some 159, op := Op.fieldAddr 113 (Operand.tmp 158) 3, type := 0, pos := "store.go:171", after := #[{ on := 2, ground := Ground.data }], guard := none }) (v := ?v4) rfl (by kernel_rfl) (by kernel_rfl) (by kernel_rfl) (fun _ _ _ h => h) (Or.inl ⟨by rfl, ?hy4⟩) (by assumption) ?r4
                      case hy4 =>
                        intro w hSw
                        try dsimp only at hSw
                        go_simp
                        all_goals with_reducible rfl
                      try simp only [Act.put, List.setIfInBounds_toArray, List.set_cons_zero, List.set_cons_succ]
                      refine wpAnyH_take (i := 5) (oi := { dst := some 161, op := Op.move (Operand.tmp 4), type := 218, pos := "store.go:171", after := #[], guard := none }) (v := ?v5) rfl (by kernel_rfl) (by kernel_rfl) (by kernel_rfl) (fun _ _ _ h => h) (Or.inl ⟨by rfl, ?hy5⟩) (by assumption) ?r5
                      case hy5 =>
                        intro w hSw
                        try dsimp only at hSw
                        go_simp
                        all_goals with_reducible rfl
                      try simp only [Act.put, List.setIfInBounds_toArray, List.set_cons_zero, List.set_cons_succ]
                      refine wpAnyH_take (i := 6) (oi := { dst := some 162, op := Op.nilCheck (Operand.tmp 161), type := 0, pos := "store.go:171", after := #[{ on := 5, ground := Ground.data }], guard := none }) (v := ?v6) rfl (by kernel_rfl) (by kernel_rfl) (by kernel_rfl) (fun _ _ _ h => h) (Or.inl ⟨by rfl, ?hy6⟩) (by assumption) ?r6
                      case hy6 =>
                        intro w hSw
                        try dsimp only at hSw
                        go_simp
                        all_goals with_reducible rfl
                      try simp only [Act.put, List.setIfInBounds_toArray, List.set_cons_zero, List.set_cons_succ]
                      refine wpAnyH_take (i := 7) (oi := { dst := some 163, op := Op.fieldAddr 220 (Operand.tmp 162) 1, type := 0, pos := "store.go:171", after := #[{ on := 6, ground := Ground.data }], guard := none }) (v := ?v7) rfl (by kernel_rfl) (by kernel_rfl) (by kernel_rfl) (fun _ _ _ h => h) (Or.inl ⟨by rfl, ?hy7⟩) (by assumption) ?r7
                      case hy7 =>
                        intro w hSw
                        try dsimp only at hSw
                        go_simp
                        all_goals with_reducible rfl
                      try simp only [Act.put, List.setIfInBounds_toArray, List.set_cons_zero, List.set_cons_succ]
                      refine wpAnyH_take (i := 8) (oi := { dst := some 164, op := Op.load 3 (Operand.tmp 163), type := 3, pos := "store.go:171", after := #[{ on := 7, ground := Ground.data }], guard := none }) (v := ?v8) rfl (by kernel_rfl) (by kernel_rfl) (by kernel_rfl) (fun _ _ _ h => h) (Or.inl ⟨by rfl, ?hy8⟩) (by assumption) ?r8
                      case hy8 =>
                        intro w hSw
                        try dsimp only at hSw
                        go_simp
                        all_goals with_reducible rfl
                      try simp only [Act.put, List.setIfInBounds_toArray, List.set_cons_zero, List.set_cons_succ]
                      refine wpAnyH_take (i := 9) (oi := { dst := some 165, op := Op.binOp BinOp.sub 3 (Operand.tmp 164) (Operand.const (Value.int IntKind.i64 1)) 3, type := 3, pos := "store.go:171", after := #[{ on := 8, ground := Ground.data }], guard := none }) (v := ?v9) rfl (by kernel_rfl) (by kernel_rfl) (by kernel_rfl) (fun _ _ _ h => h) (Or.inl ⟨by rfl, ?hy9⟩) (by assumption) ?r9
                      case hy9 =>
                        intro w hSw
                        try dsimp only at hSw
                        go_simp
                        all_goals with_reducible rfl
                      try simp only [Act.put, List.setIfInBounds_toArray, List.set_cons_zero, List.set_cons_succ]
                      refine wpAnyH_take (i := 10) (oi := { dst := some 166, op := Op.binOp BinOp.quo 3 (Operand.tmp 165) (Operand.const (Value.int IntKind.i64 28)) 3, type := 3, pos := "store.go:171", after := #[{ on := 9, ground := Ground.data }], guard := none }) (v := ?v10) rfl (by kernel_rfl) (by kernel_rfl) (by kernel_rfl) (fun _ _ _ h => h) (Or.inl ⟨by rfl, ?hy10⟩) (by assumption) ?r10
                      case hy10 =>
                        intro w hSw
                        try dsimp only at hSw
                        go_simp
                        all_goals with_reducible rfl
                      try simp only [Act.put, List.setIfInBounds_toArray, List.set_cons_zero, List.set_cons_succ]
                      refine wpAnyH_ready (rs := [4, 11]) (by kernel_rfl) (by simp) ?_
                      refine AllReadyH.cons (o := { dst := some 160, op := Op.load 55 (Operand.tmp 159), type := 55, pos := "store.go:171", after := #[{ on := 3, ground := Ground.data }], guard := none }) rfl (fun K hK => ?bA) ?cA
                      case bA =>
                        go_simp
                        refine hK.out _ _ ?s11 (fun hHeld => ?_)
                        case s11 =>
                          try dsimp only
                          first | assumption | go_keep
                        clear hK K
                        try simp only [Act.put, List.setIfInBounds_toArray, List.set_cons_zero, List.set_cons_succ]
                        refine wpAnyH_ready (rs := [11]) (by kernel_rfl) (by simp) ?_
                        refine AllReadyH.cons (o := { dst := some 167, op := Op.buildSlice 55 1 #[(0, Operand.tmp 166)], type := 55, pos := "store.go:171", after := #[{ on := 10, ground := Ground.data }], guard := none }) rfl (fun K hK => ?_) AllReadyH.nil
                        go_simp
                        refine hK.out _ _ ?s12 (fun hHeld => ?_)
                        case s12 =>
                          try dsimp only
                          go_keep
                        clear hK K
                        try simp only [Act.put, List.setIfInBounds_toArray, List.set_cons_zero, List.set_cons_succ]
                        refine wpAnyH_ready (rs := [12]) (by kernel_rfl) (by simp) ?_
                        refine AllReadyH.cons (o := { dst := some 168, op := Op.call { callee := Callee.builtin Builtin.append, args := #[Operand.tmp 160, Operand.tmp 167], argTypes := #[55, 55] }, type := 55, pos := "store.go:171", after := #[{ on := 4, ground := Ground.data }, { on := 11, ground := Ground.data }], guard := none }) rfl (fun K hK => ?_) AllReadyH.nil
                        refine step_append_lies _ (by rfl) _ _ _ (by rfl) b2 3 i0 _ 1 8 Tryz.underlying55 hi hz0 hz1 hz2 rfl (by omega) hv i xg (by rfl) ((HOWN.out.alloc _).drew) ⟨wa.heap.size, 0, none⟩ 1 1 [.int .i64 (IntKind.i64.wrap (((s1 : Int) - 1).tdiv 28))] (by rfl) (by rfl) (World.news_of_block (cs := #[.int .i64 (IntKind.i64.wrap (((s1 : Int) - 1).tdiv 28))]) (t := 3) (fr := (0, 0)) (heap_alloc_new wa _)) (by simp [Value.oneCell']) (by omega) (by unfold maxLen; omega) (by omega) (by simp; omega) (wa.heap.size + 1) (by simp) ?_; intro g' cap' w4' hown4 hgrow hat hlt4; obtain ⟨j5, j6, j7, f2, HREL⟩ := HEND.out g' cap' w4' ⟨hown4, (((Turns.refl _ wa).alloc _).drew).grown hgrow (fun _ hk => Or.inr hk), fun q hq => by (have e : g' = q := by injection hq); subst e; exact hat.imp (fun x => x) (fun x => by omega)⟩; clear hown4 hgrow hat
                        refine hK.out _ _ ?s13 (fun hHeld => ?_)
                        case s13 =>
                          try dsimp only
                          first | exact f2 | go_keep
                        clear hK K
                        try simp only [Act.put, List.setIfInBounds_toArray, List.set_cons_zero, List.set_cons_succ]
                        refine wpAnyH_take (i := 13) (oi := { dst := some 169, op := Op.nilCheck (Operand.tmp 156), type := 0, pos := "store.go:171", after := #[{ on := 0, ground := Ground.data }, { on := 0, ground := Ground.phase }, { on := 1, ground := Ground.phase }, { on := 2, ground := Ground.phase }, { on := 3, ground := Ground.phase }, { on := 4, ground := Ground.phase }, { on := 5, ground := Ground.phase }, { on := 6, ground := Ground.phase }, { on := 7, ground := Ground.phase }, { on := 8, ground := Ground.phase }, { on := 9, ground := Ground.phase }, { on := 10, ground := Ground.phase }, { on := 11, ground := Ground.phase }, { on := 12, ground := Ground.phase }], guard := none }) (v := ?v14) rfl (by kernel_rfl) (by kernel_rfl) (by kernel_rfl) (fun _ _ _ h => h) (Or.inl ⟨by rfl, ?hy14⟩) (by assumption) ?r14
                        case hy14 =>
                          intro w hSw
                          try dsimp only at hSw
                          go_simp
                          all_goals with_reducible rfl
                        try simp only [Act.put, List.setIfInBounds_toArray, List.set_cons_zero, List.set_cons_succ]
                        refine wpAnyH_take (i := 14) (oi := { dst := some 170, op := Op.fieldAddr 113 (Operand.tmp 169) 3, type := 0, pos := "store.go:171", after := #[{ on := 13, ground := Ground.data }, { on := 0, ground := Ground.phase }, { on := 1, ground := Ground.phase }, { on := 2, ground := Ground.phase }, { on := 3, ground := Ground.phase }, { on := 4, ground := Ground.phase }, { on := 5, ground := Ground.phase }, { on := 6, ground := Ground.phase }, { on := 7, ground := Ground.phase }, { on := 8, ground := Ground.phase }, { on := 9, ground := Ground.phase }, { on := 10, ground := Ground.phase }, { on := 11, ground := Ground.phase }, { on := 12, ground := Ground.phase }], guard := none }) (v := ?v15) rfl (by kernel_rfl) (by kernel_rfl) (by kernel_rfl) (fun _ _ _ h => h) (Or.inl ⟨by rfl, ?hy15⟩) (by assumption) ?r15
                        case hy15 =>
                          intro w hSw
                          try dsimp only at hSw
                          go_simp
                          all_goals with_reducible rfl
                        try simp only [Act.put, List.setIfInBounds_toArray, List.set_cons_zero, List.set_cons_succ]
                        refine wpAnyH_ready (rs := [15]) (by kernel_rfl) (by simp) ?_
                        refine AllReadyH.cons (o := { dst := none, op := Op.store 55 (Operand.tmp 170) (Operand.tmp 168), type := 0, pos := "store.go:171", after := #[{ on := 14, ground := Ground.data }, { on := 12, ground := Ground.data }, { on := 12, ground := Ground.chain }, { on := 0, ground := Ground.phase }, { on := 1, ground := Ground.phase }, { on := 2, ground := Ground.phase }, { on := 3, ground := Ground.phase }, { on := 4, ground := Ground.phase }, { on := 5, ground := Ground.phase }, { on := 6, ground := Ground.phase }, { on := 7, ground := Ground.phase }, { on := 8, ground := Ground.phase }, { on := 9, ground := Ground.phase }, { on := 10, ground := Ground.phase }, { on := 11, ground := Ground.phase }, { on := 12, ground := Ground.phase }], guard := none }) rfl (fun K hK => ?_) AllReadyH.nil
                        go_simp
                        refine hK.out _ _ ?s16 (fun hHeld => ?_)
                        case s16 =>
                          try dsimp only
                          first | go_keep | (rw [World.cell?_setCell_other _ _ _ _ (by intro c; injection c with c _; omega)]; exact f2)
                        clear hK K
                        try simp only [Act.put, List.setIfInBounds_toArray, List.set_cons_zero, List.set_cons_succ]
                        refine wpAnyH_done (by kernel_rfl) ?_ _
                        refine NoPanic.normal ?_
                        clear HEND HOWN k3 m1 ml
                        go_wp2
                        refine ⟨HREL.out, ?_⟩
                        simp [intOf]; omega
                      case cA =>
                        refine AllReadyH.cons (o := { dst := some 167, op := Op.buildSlice 55 1 #[(0, Operand.tmp 166)], type := 55, pos := "store.go:171", after := #[{ on := 10, ground := Ground.data }], guard := none }) rfl (fun K hK => ?_) AllReadyH.nil
                        go_simp
                        refine hK.out _ _ ?s17 (fun hHeld => ?_)
                        case s17 =>
                          try dsimp only
                          go_keep
                        clear hK K
                        try simp only [Act.put, List.setIfInBounds_toArray, List.set_cons_zero, List.set_cons_succ]
                        refine wpAnyH_ready (rs := [4]) (by kernel_rfl) (by simp) ?_
                        refine AllReadyH.cons (o := { dst := some 160, op := Op.load 55 (Operand.tmp 159), type := 55, pos := "store.go:171", after := #[{ on := 3, ground := Ground.data }], guard := none }) rfl (fun K hK => ?_) AllReadyH.nil
                        go_simp
                        refine hK.out _ _ ?s18 (fun hHeld => ?_)
                        case s18 =>
                          try dsimp only
                          first | assumption | go_keep
                        clear hK K
                        try simp only [Act.put, List.setIfInBounds_toArray, List.set_cons_zero, List.set_cons_succ]
                        refine wpAnyH_ready (rs := [12]) (by kernel_rfl) (by simp) ?_
                        refine AllReadyH.cons (o := { dst := some 168, op := Op.call { callee := Callee.builtin Builtin.append, args := #[Operand.tmp 160, Operand.tmp 167], argTypes := #[55, 55] }, type := 55, pos := "store.go:171", after := #[{ on := 4, ground := Ground.data }, { on := 11, ground := Ground.data }], guard := none }) rfl (fun K hK => ?_) AllReadyH.nil
                        refine step_append_lies _ (by rfl) _ _ _ (by rfl) b2 3 i0 _ 1 8 Tryz.underlying55 hi hz0 hz1 hz2 rfl (by omega) hv i xg (by rfl) ((HOWN.out.alloc _).drew) ⟨wa.heap.size, 0, none⟩ 1 1 [.int .i64 (IntKind.i64.wrap (((s1 : Int) - 1).tdiv 28))] (by rfl) (by rfl) (World.news_of_block (cs := #[.int .i64 (IntKind.i64.wrap (((s1 : Int) - 1).tdiv 28))]) (t := 3) (fr := (0, 0)) (heap_alloc_new wa _)) (by simp [Value.oneCell']) (by omega) (by unfold maxLen; omega) (by omega) (by simp; omega) (wa.heap.size + 1) (by simp) ?_; intro g' cap' w4' hown4 hgrow hat hlt4; obtain ⟨j5, j6, j7, f2, HREL⟩ := HEND.out g' cap' w4' ⟨hown4, (((Turns.refl _ wa).alloc _).drew).grown hgrow (fun _ hk => Or.inr hk), fun q hq => by (have e : g' = q := by injection hq); subst e; exact hat.imp (fun x => x) (fun x => by omega)⟩; clear hown4 hgrow hat
                        refine hK.out _ _ ?s19 (fun hHeld => ?_)
                        case s19 =>
                          try dsimp only
                          first | exact f2 | go_keep
                        clear hK K
                        try simp only [Act.put, List.setIfInBounds_toArray, List.set_cons_zero, List.set_cons_succ]
                        refine wpAnyH_take (i := 13) (oi := { dst := some 169, op := Op.nilCheck (Operand.tmp 156), type := 0, pos := "store.go:171", after := #[{ on := 0, ground := Ground.data }, { on := 0, ground := Ground.phase }, { on := 1, ground := Ground.phase }, { on := 2, ground := Ground.phase }, { on := 3, ground := Ground.phase }, { on := 4, ground := Ground.phase }, { on := 5, ground := Ground.phase }, { on := 6, ground := Ground.phase }, { on := 7, ground := Ground.phase }, { on := 8, ground := Ground.phase }, { on := 9, ground := Ground.phase }, { on := 10, ground := Ground.phase }, { on := 11, ground := Ground.phase }, { on := 12, ground := Ground.phase }], guard := none }) (v := ?v20) rfl (by kernel_rfl) (by kernel_rfl) (by kernel_rfl) (fun _ _ _ h => h) (Or.inl ⟨by rfl, ?hy20⟩) (by assumption) ?r20
                        case hy20 =>
                          intro w hSw
                          try dsimp only at hSw
                          go_simp
                          all_goals with_reducible rfl
                        try simp only [Act.put, List.setIfInBounds_toArray, List.set_cons_zero, List.set_cons_succ]
                        refine wpAnyH_take (i := 14) (oi := { dst := some 170, op := Op.fieldAddr 113 (Operand.tmp 169) 3, type := 0, pos := "store.go:171", after := #[{ on := 13, ground := Ground.data }, { on := 0, ground := Ground.phase }, { on := 1, ground := Ground.phase }, { on := 2, ground := Ground.phase }, { on := 3, ground := Ground.phase }, { on := 4, ground := Ground.phase }, { on := 5, ground := Ground.phase }, { on := 6, ground := Ground.phase }, { on := 7, ground := Ground.phase }, { on := 8, ground := Ground.phase }, { on := 9, ground := Ground.phase }, { on := 10, ground := Ground.phase }, { on := 11, ground := Ground.phase }, { on := 12, ground := Ground.phase }], guard := none }) (v := ?v21) rfl (by kernel_rfl) (by kernel_rfl) (by kernel_rfl) (fun _ _ _ h => h) (Or.inl ⟨by rfl, ?hy21⟩) (by assumption) ?r21
                        case hy21 =>
                          intro w hSw
                          try dsimp only at hSw
                          go_simp
                          all_goals with_reducible rfl
                        try simp only [Act.put, List.setIfInBounds_toArray, List.set_cons_zero, List.set_cons_succ]
                        refine wpAnyH_ready (rs := [15]) (by kernel_rfl) (by simp) ?_
                        refine AllReadyH.cons (o := { dst := none, op := Op.store 55 (Operand.tmp 170) (Operand.tmp 168), type := 0, pos := "store.go:171", after := #[{ on := 14, ground := Ground.data }, { on := 12, ground := Ground.data }, { on := 12, ground := Ground.chain }, { on := 0, ground := Ground.phase }, { on := 1, ground := Ground.phase }, { on := 2, ground := Ground.phase }, { on := 3, ground := Ground.phase }, { on := 4, ground := Ground.phase }, { on := 5, ground := Ground.phase }, { on := 6, ground := Ground.phase }, { on := 7, ground := Ground.phase }, { on := 8, ground := Ground.phase }, { on := 9, ground := Ground.phase }, { on := 10, ground := Ground.phase }, { on := 11, ground := Ground.phase }, { on := 12, ground := Ground.phase }], guard := none }) rfl (fun K hK => ?_) AllReadyH.nil
                        go_simp
                        refine hK.out _ _ ?s22 (fun hHeld => ?_)
                        case s22 =>
                          try dsimp only
                          first | go_keep | (rw [World.cell?_setCell_other _ _ _ _ (by intro c; injection c with c _; omega)]; exact f2)
                        clear hK K
                        try simp only [Act.put, List.setIfInBounds_toArray, List.set_cons_zero, List.set_cons_succ]
                        refine wpAnyH_done (by kernel_rfl) ?_ _
                        refine NoPanic.normal ?_
                        clear HEND HOWN k3 m1 ml
                        go_wp2
                        refine ⟨HREL.out, ?_⟩
                        simp [intOf]; omega
                    · have n1 : (((a6 : Int) - (s0 : Int)) != (z : Int)) = true := by rw [bne_iff_ne]; omega
                      have HRN : Hid (Pu.rdOf l = none) := HNO.out (fun H' r' c e => by
                        rw [HE0.out] at c
                        injection c with c
                        injection c with c1 c2
                        subst c2
                        rw [hll] at e
                        have := HA6.out
                        have := HS0.out
                        omega)
                      have HI' : Hid (∀ w6, Turns (fun q => q = tb) wr w6 → w6.cell? ⟨sg, i, none⟩ = some (.int .i64 (z : Int)) ∧ sg < w6.heap.size) := fun w6 t6 => by
                        have h9 := HI.out.1.core.szs i z HSZ.out
                        have h8 := (t6.cell (a := ⟨sg, i, none⟩) (World.block_lt_of_cell? _ _ h9) (fun c => by have c' : sg = tb := c; omega)).trans h9
                        exact ⟨h8, World.block_lt_of_cell? _ _ h8⟩
                      have HTr : Hid (Turns (fun _ => False) w wr) := HI.out.1.t
                      clear HI HNO hat
                      go_wp2_with fail
                      refine C1.mono ?_
                      rintro e w6 ⟨hT6, v6, rfl, _, hk6⟩
                      have d2 := hk6.c2
                      have d3 := hk6.lt
                      have d4 := hk6.c1
                      obtain ⟨d5, d6⟩ := HI'.out w6 hT6
                      have HX : Hid (∀ q, HeldPost w s (.returned (.tuple #[.pointer none, .bool false])) (w6.drewN q)) := fun q => ⟨(HTr.out.join hT6 (fun x hx _ c => by have := HTB.out; omega)).drewN q, by rw [HL.out, HRN.out]⟩
                      clear C1 hk6 hT6 d0 d1 HI'
                      go_wp2_with fail
                      go_quiet (fail)
                      go_wp2
                      exact bodyPost_ret (v := .tuple #[.pointer none, .bool false]) (by simp [results, Tryz.results70, go_sem]) rfl (HX.out _)
                · as_aux_lemma =>
                  have hii : ¬ (i : Int) < (n : Int) := by omega
                  have hie : n = i := by omega
                  subst hie
                  obtain ⟨s1, hs1⟩ : ∃ s1, s1 = st n := ⟨_, rfl⟩
                  have hs1b : s1 ≤ s.size := by rw [hs1]; exact HI.out.2.2.1
                  rw [← hs1] at d1
                  have HTr : Hid (Turns (fun _ => False) w wr) := HI.out.1.t
                  have hw9 : IntKind.i64.wrap ((s.size : Int) - (s1 : Int)) = (s.size : Int) - (s1 : Int) := by rw [IntKind.wrap_i64]; omega
                  by_cases hlg : 28 ≤ s.size - s1
                  · have n1 : (28 : Int) ≤ (s.size : Int) - (s1 : Int) := by omega
                    have n2 : decide ((28 : Int) ≤ (s.size : Int) - (s1 : Int)) = true := decide_eq_true n1
                    have HRN : Hid (Pu.rdOf l = none) := by
                      show _ = _
                      have e1 : Pu.areB l n O st = false := by
                        rw [Pu.areB, ← hs1, Pu.fillB_long (by rw [hll]; exact hlg), Bool.and_false]
                      rw [HRD.out, e1]
                      rfl
                    have HX : Hid (HeldPost w s (.returned (.tuple #[.pointer none, .bool false])) wr) := ⟨HTr.out, by rw [HL.out, HRN.out]⟩
                    clear hk HI hs1 HST HST3
                    go_wp2
                    exact bodyPost_ret (v := .tuple #[.pointer none, .bool false]) (by simp [results, Tryz.results70, go_sem]) rfl HX.out
                  · have n1 : ¬ (28 : Int) ≤ (s.size : Int) - (s1 : Int) := by omega
                    have n2 : decide ((28 : Int) ≤ (s.size : Int) - (s1 : Int)) = false := decide_eq_false n1
                    obtain ⟨lg, lc, fg, fc, hg, hc, hRS⟩ := HI.out.1.fin htx' HTB.out hxo hos hsb2 hn1 hOl HI.out.2.1 rfl rfl
                    have HOK : Hid ((∀ j, s1 ≤ j → j < s.size → byteN l j = 0) → HeldPost w s (.returned (.tuple #[.pointer (some ⟨xb, 0, none⟩), .bool true])) wr) := fun hz => by
                      have e1 : Pu.areB l n O st = true := Pu.areB_yes (by rw [← hs1, hll]; exact hs1b) HI.out.2.2.2 (Pu.fillB_yes (by rw [← hs1, hll]; omega) (by rw [← hs1, hll]; exact hz))
                      refine ⟨HTr.out, ?_⟩
                      rw [HL.out, HRD.out, e1, if_pos rfl]
                      dsimp only
                      rw [← HST.out]
                      exact ⟨xb, og, oc, lg, lc, fg, fc, hg, hc, rfl, hRS⟩
                    have HNO : Hid (∀ j, s1 ≤ j → byteN l j ≠ 0 → HeldPost w s (.returned (.tuple #[.pointer none, .bool false])) wr) := fun j h1 h2 => by
                      have e1 : Pu.areB l n O st = false := by rw [Pu.areB, ← hs1, Pu.fillB_no h1 h2, Bool.and_false]
                      refine ⟨HTr.out, ?_⟩
                      rw [HL.out, HRD.out, e1]
                      rfl
                    clear hk HI hs1 HST HST3 hRS HTr HRD HOP
                    go_wp2_with fail
                    go_loopw [18] (fun iv wr' => ∃ (j : Nat), iv = .int .i64 ((s1 + j : Nat) : Int) ∧ s1 + j ≤ s.size ∧ wr' = wr ∧ Hid (∀ k, s1 ≤ k → k < s1 + j → byteN l k = 0)) (fun iv _ => s.size - (intOf iv).toNat)
                    case atStart => exact ⟨0, rfl, by omega, rfl, fun k h1 h2 => absurd h2 (by omega)⟩
                    case round =>
                      obtain ⟨j, rfl, hjs, hwr, HZ⟩ := hrel
                      subst hwr
                      obtain ⟨t, ht⟩ : ∃ t, t = s1 + j := ⟨_, rfl⟩
                      rw [← ht]
                      have HT : Hid (t = s1 + j) := ht
                      by_cases hlt : t < s.size
                      · have hti : (t : Int) < (s.size : Int) := by omega
                        have hx : byteN l t = (s[t]'hlt).toNat := by
                          have : l[t]? = some (s[t]'hlt) := by rw [← HL.out]; exact List.getElem?_eq_getElem (by rw [hsl]; exact hlt)
                          exact byteN_some this
                        by_cases hb : byteN l t = 0
                        · have n3 : (((s[t]'hlt).toNat : Int) != 0) = false := by rw [bne_eq_false_iff_eq]; omega
                          have HZ2 : Hid (∀ k, s1 ≤ k → k < s1 + (j + 1) → byteN l k = 0) := fun k h1 h2 => by
                            by_cases c : k = t
                            · rw [c]; exact hb
                            · exact HZ.out k h1 (by omega)
                          clear hx hb ht HZ
                          go_wp2
                          go_roundw
                          case measure => simp [intOf]; omega
                          case rel => exact ⟨j + 1, by rw [HT.out]; go_num, by have := HT.out; omega, by first | rfl | trivial, HZ2.out⟩
                        · have n3 : (((s[t]'hlt).toNat : Int) != 0) = true := by rw [bne_iff_ne]; omega
                          have HX : Hid (HeldPost w s (.returned (.tuple #[.pointer none, .bool false])) wr) := HNO.out t (by omega) hb
                          clear hx hb ht HZ HNO HOK
                          go_wp2
                          exact bodyPost_ret (v := .tuple #[.pointer none, .bool false]) (by simp [results, Tryz.results70, go_sem]) rfl HX.out
                      · have hti : ¬ (t : Int) < (s.size : Int) := by omega
                        have HX : Hid (HeldPost w s (.returned (.tuple #[.pointer (some ⟨xb, 0, none⟩), .bool true])) wr) := HOK.out (fun k h1 h2 => HZ.out k h1 (by omega))
                        clear ht HZ HNO HOK
                        go_wp2
                        exact bodyPost_ret (v := .tuple #[.pointer (some ⟨xb, 0, none⟩), .bool true]) (by simp [results, Tryz.results70, go_sem]) rfl HX.out
  · have HP : Hid (Pu.rdOf s.data.toList = none) := rd_hd_none (hd_none (fun c => hgd (by rw [HABN.out.1, HABN.out.2.1, HABN.out.2.2]; exact c)))
    have hcs : ((A : Int) != 98) = true ∨ (((A : Int) != 98) = false ∧ ((B : Int) != 119) = true) ∨ (((A : Int) != 98) = false ∧ ((B : Int) != 119) = false ∧ (n : Int) < 1) ∨ (((A : Int) != 98) = false ∧ ((B : Int) != 119) = false ∧ ¬ (n : Int) < 1 ∧ (n : Int) > 40) := by
      by_cases a1 : A = 98
      · have e1 : ((A : Int) != 98) = false := by simp; omega
        by_cases a2 : B = 119
        · have e2 : ((B : Int) != 119) = false := by simp; omega
          by_cases a3 : (n : Int) < 1
          · exact Or.inr (Or.inr (Or.inl ⟨e1, e2, a3⟩))
          · exact Or.inr (Or.inr (Or.inr ⟨e1, e2, a3, by omega⟩))
        · exact Or.inr (Or.inl ⟨e1, by simp; omega⟩)
      · exact Or.inl (by simp; omega)
    clear hgd
    rcases hcs with q1 | ⟨q1, q2⟩ | ⟨q1, q2, q3⟩ | ⟨q1, q2, q3, q4⟩
    all_goals
      have HX : Hid (HeldPost w s (.returned (.tuple #[.pointer none, .bool false])) w4) := ⟨HT4.out, by rw [HP.out]⟩
      go_wp2
      exact bodyPost_ret (v := .tuple #[.pointer none, .bool false]) (by simp [results, Tryz.results70, go_sem]) rfl HX.out
end Go.Proofs.YtdogncjcainhlaaGreatDoor
