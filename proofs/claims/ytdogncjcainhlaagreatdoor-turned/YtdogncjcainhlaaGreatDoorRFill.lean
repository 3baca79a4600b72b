/- The walk of the reference's fill: the table of how far it is, filled through every place. -/
import Derived.Test.YtdogncjcainhlaaGreatDoorPlain
import Derived.Test.YtdogncjcainhlaaGreatDoorPOne
import Derived.Test.YtdogncjcainhlaaGreatDoorPack9
import Derived.Deep.QuietTactic
import Derived.BigQuiet
import Derived.BigRegion
namespace Go.Proofs.YtdogncjcainhlaaGreatDoor
open Go.RowKit Go.Deep
open Mem

theorem info41r : (Tryz.prog.info? 55).map (fun i => (i.zero, i.size, i.bytes)) = some (some (.slice none 0 0), 1, 24) := by kernel_rfl

/-- A row of the table in the making. -/
def rowK (len : Nat → Nat → Int) (i k j : Nat) : Int := if j < k then Pu.fill0 len i j else 0
theorem rowK_self (len : Nat → Nat → Int) (i k : Nat) : rowK len i k k = 0 := by simp [rowK]
theorem rowK_step (len : Nat → Nat → Int) (i k j : Nat) : upd (rowK len i k) k (Pu.fill0 len i k) j = rowK len i (k + 1) j := by
  unfold upd rowK
  by_cases e : j = k
  · rw [if_pos e, if_pos (by omega), e]
  · rw [if_neg e]
    show (if j < k then _ else _) = _
    by_cases g : j < k
    · rw [if_pos g, if_pos (by omega)]
    · rw [if_neg g, if_neg (by omega)]
theorem rowK_end (len : Nat → Nat → Int) (i k j : Nat) (h : j < k) : rowK len i k j = Pu.fill0 len i j := by unfold rowK; rw [if_pos h]

/-- What holds ahead of each round of fill's first loop. -/
def Fill1 (w : World) (b n : Nat) (R : Int) (v : Value) (len : Nat → Nat → Int) (i : Value) (wr : World) : Prop :=
  ∃ (fv : Value) (fb : List Nat), i = .int .i64 fb.length ∧ fb.length ≤ n ∧ RB wr b n R v fv ∧ Grid wr w.heap.size n fv fb (Pu.fill0 len) ∧ Turns (· = b) w wr
/-- What holds in the rounds behind it. -/
def Fill2 (w : World) (b n : Nat) (R : Int) (v fv : Value) (fb : List Nat) (t : Nat → Nat → Int) (wr : World) : Prop :=
  RB wr b n R v fv ∧ Grid wr w.heap.size n fv fb t ∧ Turns (· = b) w wr
theorem Fill2.congr {w : World} {b n : Nat} {R : Int} {v fv : Value} {fb : List Nat} {t t' : Nat → Nat → Int} {wr : World} (h : Fill2 w b n R v fv fb t wr) (e : ∀ i j, i < fb.length → j < n → t i j = t' i j) : Fill2 w b n R v fv fb t' wr :=
  ⟨h.1, h.2.1.congr e, h.2.2⟩
theorem Fill2.drewN {w : World} {b n : Nat} {R : Int} {v fv : Value} {fb : List Nat} {t : Nat → Nat → Int} {wr : World} (h : Fill2 w b n R v fv fb t wr) (q : Nat) : Fill2 w b n R v fv fb t (wr.drewN q) :=
  ⟨h.1, h.2.1.turns ((Turns.refl (fun _ => False) wr).drewN q) (fun _ _ x => x), h.2.2.drewN q⟩
theorem Fill2.drew {w : World} {b n : Nat} {R : Int} {v fv : Value} {fb : List Nat} {t : Nat → Nat → Int} {wr : World} (h : Fill2 w b n R v fv fb t wr) : Fill2 w b n R v fv fb t wr.drew :=
  ⟨h.1, h.2.1.turns ((Turns.refl (fun _ => False) wr).drew) (fun _ _ x => x), h.2.2.drew⟩
/-- One entry written. -/
theorem Fill2.set {w : World} {b n : Nat} {R : Int} {v fv : Value} {fb : List Nat} {t t' : Nat → Nat → Int} {wr : World} (h : Fill2 w b n R v fv fb t wr) (hb : b < w.heap.size) {i r k : Nat} (hi : fb[i]? = some r) (hk : k < n) (x : Int)
    (e : ∀ p q, t' p q = if p = i ∧ q = k then x else t p q) : Fill2 w b n R v fv fb t' (wr.setCell ⟨r, k, none⟩ (.int .i64 x)) := by
  have hr := (h.2.1.row i r hi).2.1
  refine ⟨h.1.turns ((Turns.refl (· = r) wr).setCell (Or.inr rfl) _) (by omega), (h.2.1.set hi hk x).congr (fun p q _ _ => (e p q).symm), h.2.2.setCell (Or.inl hr) _⟩

set_option maxRecDepth 100000 in
set_option maxHeartbeats 2000000 in
theorem fill_any (w : World) (b B n lb lcap : Nat) (R : Int) (rb : List Nat) (len : Nat → Nat → Int) (hn1 : 1 ≤ n) (hn : n ≤ 40) (hRB : RB w b n R (.slice (some ⟨lb, 0, none⟩) rb.length lcap) (.slice none 0 0))
    (hG : Grid w B n (.slice (some ⟨lb, 0, none⟩) rb.length lcap) rb len) (hrl : rb.length = n) (hbB : b < B) (L : Pu.Lens len) :
    Calls Tryz.prog 107 #[.pointer (some ⟨b, 0, none⟩)] w fun e w' => e = .returned (.tuple #[]) ∧ ∃ fv fb, fb.length = n ∧ Fill2 w b n R (.slice (some ⟨lb, 0, none⟩) rb.length lcap) fv fb (Pu.fillTo len n) w' := by
  have hmk := run_make_row' (P := Tryz.prog) 55 3 (.int .i64 0) 8 Tryz.underlying55 info3 rfl .i64 .i64 n (by omega) (by omega)
  obtain ⟨i0, hi, hz0, hz1, hz2⟩ := info_parts info41r
  have hbl := hRB.lt
  go_enter Tryz.func107, Tryz.ntmps107
  go_wp2
  go_loopw [2] (fun i wr => Fill1 w b n R (.slice (some ⟨lb, 0, none⟩) rb.length lcap) len i wr) (fun i _ => n - (intOf i).toNat)
  case atStart => exact ⟨_, [], rfl, Nat.zero_le _, hRB, Grid.nil _ _ _ _, Turns.refl _ _⟩
  case round =>
    obtain ⟨fv, fb, rfl, hk, hB, hF, hT⟩ := hrel
    have c0 := hB.c0
    by_cases hlt : fb.length < n
    · obtain ⟨wo, hwo⟩ : ∃ wo, wo = wr := ⟨_, rfl⟩
      subst hwo
      have hsz := hT.size
      have hG1 := (hG.turns hT (fun k hk => by omega))
      have HF : Hid (RB wo b n R (.slice (some ⟨lb, 0, none⟩) rb.length lcap) fv ∧ Grid wo w.heap.size n fv fb (Pu.fill0 len) ∧ Turns (· = b) w wo) := ⟨hB, hF, hT⟩
      obtain ⟨ri, hri⟩ : ∃ ri, rb[fb.length]? = some ri := ⟨_, List.getElem?_eq_getElem (by omega)⟩
      have g1 := hG1.cell hri
      have r1 := hG1.row _ _ hri
      have c2 := hB.c2
      have hrli := r1.1.lt
      have hlbl : lb < wo.heap.size := World.block_lt_of_cell? _ _ g1
      have hI0 := Ints.made wo n 3 0
      obtain ⟨i, hfi⟩ : ∃ i, fb.length = i := ⟨_, rfl⟩
      have hIK : Ints (wo.alloc (.cells (madeCells #[.int .i64 0] n) 3)) wo.heap.size n (rowK len i 0) := hI0.congr (fun j _ => by simp [rowK])
      have HI : Hid (∀ k, k < n → wo.cell? ⟨ri, k, none⟩ = some (.int .i64 (len i k))) := fun k hk => by rw [← hfi]; exact r1.1.cell k hk
      rw [hfi] at hlt hri g1 ⊢
      have hil : (i : Int) < (rb.length : Int) := by omega
      have hrbl : b < wo.heap.size := hB.lt
      have HFI : Hid (fb.length = i) := hfi
      clear hI0 hB hF hT hG1 r1 hk hfi
      go_wp2
      go_loopw [4] (fun kv wx => ∃ k : Nat, kv = .int .i64 k ∧ k ≤ n ∧ Ints wx wo.heap.size n (rowK len i k) ∧ Turns (fun _ => False) wo wx) (fun kv _ => n - (intOf kv).toNat)
      case atStart => exact ⟨0, rfl, Nat.zero_le _, hIK, (Turns.refl _ _).alloc _⟩
      case round =>
        clear hIK
        obtain ⟨k, rfl, hk, hI, hTx⟩ := hrel
        have d0 : wr.cell? ⟨b, 0, none⟩ = some (.int .i64 n) := (hTx.cell (a := ⟨b, 0, none⟩) hrbl (fun x => x)).trans c0
        by_cases hkn : k < n
        · have hc := hI.cell k hkn
          have hf := hI.free k hkn
          rw [rowK_self] at hc
          have d2 := (hTx.cell (a := ⟨b, 2, none⟩) hrbl (fun x => x)).trans c2
          have dg := (hTx.cell (a := ⟨lb, i, none⟩) hlbl (fun x => x)).trans g1
          have dl := (hTx.cell (a := ⟨ri, k, none⟩) hrli (fun x => x)).trans (HI.out k hkn)
          have n1 : b ≠ wo.heap.size := by omega
          have n2 : lb ≠ wo.heap.size := by omega
          have n3 : ri ≠ wo.heap.size := by omega
          have s2 : ∀ y, (wr.setCell ⟨wo.heap.size, k, none⟩ y).cell? ⟨b, 2, none⟩ = some (.slice (some ⟨lb, 0, none⟩) rb.length lcap) := fun y => (World.cell?_setCell_other _ _ _ _ (by intro c; injection c with c; exact n1 c.symm)).trans d2
          have sg : ∀ y, (wr.setCell ⟨wo.heap.size, k, none⟩ y).cell? ⟨lb, i, none⟩ = some (.slice (some ⟨ri, 0, none⟩) n n) := fun y => (World.cell?_setCell_other _ _ _ _ (by intro c; injection c with c; exact n2 c.symm)).trans dg
          have sl : ∀ y, (wr.setCell ⟨wo.heap.size, k, none⟩ y).cell? ⟨ri, k, none⟩ = some (.int .i64 (len i k)) := fun y => (World.cell?_setCell_other _ _ _ _ (by intro c; injection c with c; exact n3 c.symm)).trans dl
          have sr : ∀ y, (wr.setCell ⟨wo.heap.size, k, none⟩ y).cell? ⟨wo.heap.size, k, none⟩ = some y := fun y => World.cell?_setCell_same _ _ _ hc
          have HN : Hid (∀ x, Pu.fill0 len i k = x → ∀ wx, wx = wr.setCell ⟨wo.heap.size, k, none⟩ (.int .i64 x) ∨ (∃ y, wx = (wr.setCell ⟨wo.heap.size, k, none⟩ (.int .i64 y)).setCell ⟨wo.heap.size, k, none⟩ (.int .i64 x)) → ∃ k' : Nat, (Value.int .i64 ((k : Int) + 1)) = .int .i64 k' ∧ k' ≤ n ∧ Ints wx wo.heap.size n (rowK len i k') ∧ Turns (fun _ => False) wo wx) := by
            intro x hx wx hwx
            refine ⟨k + 1, by go_num, by omega, ?_, ?_⟩
            · rcases hwx with rfl | ⟨y, rfl⟩
              · exact (hI.set hkn x).congr (fun j _ => by rw [← hx]; exact rowK_step len i k j)
              · refine ((hI.set hkn y).set hkn x).congr (fun j _ => ?_)
                rw [← rowK_step, hx]
                unfold upd
                by_cases e : j = k
                · rw [if_pos e, if_pos e]
                · rw [if_neg e, if_neg e, if_neg e]
            · rcases hwx with rfl | ⟨y, rfl⟩
              · exact hTx.setCell (Or.inl (Nat.le_refl _)) _
              · exact (hTx.setCell (Or.inl (Nat.le_refl _)) _).setCell (Or.inl (Nat.le_refl _)) _
          have hb := L.rng i k
          have hself := L.self i
          have hki : (k : Int) < (n : Int) := by omega
          clear hI hTx
          by_cases hpos : 0 < len i k
          · have hik : i ≠ k := by rintro rfl; omega
            have hikb : ((i : Int) == (k : Int)) = false := by simp; omega
            have HX : Hid (Pu.fill0 len i k = len i k) := by show _ = _; unfold Pu.fill0; rw [if_neg hik, if_pos hpos]
            clear hik
            go_wp2
            go_roundw
            case measure => simp [intOf]; omega
            case rel => exact HN.out _ HX.out _ (Or.inr ⟨_, rfl⟩)
          · by_cases hik : i = k
            · have hikb : ((i : Int) == (k : Int)) = true := by simp; omega
              have HX : Hid (Pu.fill0 len i k = 0) := by show _ = _; unfold Pu.fill0; rw [if_pos hik]
              have hpn : (0 < len i k) = False := by simp; omega
              clear hik
              go_wp2
              go_roundw
              case measure => simp [intOf]; omega
              case rel => exact HN.out _ HX.out _ (Or.inr ⟨_, rfl⟩)
            · have hikb : ((i : Int) == (k : Int)) = false := by simp; omega
              have HX : Hid (Pu.fill0 len i k = 1000000000) := by show _ = _; unfold Pu.fill0; rw [if_neg hik, if_neg hpos]
              have hpn : (0 < len i k) = False := by simp; omega
              clear hik
              go_wp2
              go_roundw
              case measure => simp [intOf]; omega
              case rel => exact HN.out _ HX.out _ (Or.inl rfl)
        · have ek : k = n := by omega
          subst ek
          have hF := HF.out.2.1
          have hFr := hF.turns hTx (fun _ _ x => x)
          have hBr := HF.out.1.turns hTx (fun x => x)
          have hTr : Turns (· = b) w wr := HF.out.2.2.join hTx (fun _ _ _ x => x)
          have hIr : Ints wr wo.heap.size k (Pu.fill0 len fb.length) := hI.congr (fun j hj => by rw [HFI.out]; exact rowK_end len i k j hj)
          have hown := hFr.own
          have hb3 := hBr.c3
          have hf3 := hBr.free 3
          have hrsz := hTr.size
          have hwsz := hTx.size
          have hnv : fv.ownBlock ≠ some wo.heap.size := fun c => by have := (hF.own.lt _ c).2; omega
          have hnr : ∀ j : Nat, fb[j]? ≠ some wo.heap.size := fun j c => by have := (hF.row j _ c).1.lt; omega
          have hvb : ∀ q, fv.ownBlock = some q → w.heap.size ≤ q ∧ q < wr.heap.size := fun q hq => hown.lt q hq
          have HP : Hid (Grid wr w.heap.size k fv fb (Pu.fill0 len) ∧ RB wr b k R (.slice (some ⟨lb, 0, none⟩) rb.length lcap) fv ∧ Turns (· = b) w wr ∧ Ints wr wo.heap.size k (Pu.fill0 len fb.length)) := ⟨hFr, hBr, hTr, hIr⟩
          clear hF hFr hBr hTr hIr hI hTx HF HI
          have hfl : fb.length = i := HFI.out
          go_wp2_with (at_builtin; refine wpList_append_own_at _ rfl _ _ 23 rfl w.heap.size 55 i0 _ 1 24 Tryz.underlying23 hi hz0 hz1 hz2 rfl (by decide) _ _ _ rfl (hown.alloc _) ⟨wr.heap.size, 0, none⟩ 1 1 [.slice (some ⟨wo.heap.size, 0, none⟩) k k] rfl rfl ?c1 ?c2 ?c3 ?c4 ?c5 ?_)
          case c1 => exact cell_one_new _ _ _
          case c2 => intro u hu; simp at hu; subst hu; rfl
          case c3 => unfold maxLen; omega
          case c4 => omega
          case c5 => simp; omega
          intro v' w3 hown3 hgrow _ hat
          obtain ⟨g', cap', hv'⟩ := owns_form hown3
          subst hv'
          obtain ⟨hFr, hBr, hTr, hIr⟩ := HP.out
          have hT3 : Turns (fun q => fv.ownBlock = some q) wr w3 := ((Turns.refl _ wr).alloc _).grown hgrow (fun q hq => Or.inr hq)
          have hat' : fv.ownBlock = some g' ∨ wr.heap.size ≤ g' := by
            rcases hat with h | h
            · left; rw [← h]; rfl
            · right; simp [Value.ownBlock] at h; omega
          have hG3 := hFr.snoc (cap := cap') hIr (by omega) hnr hnv (by rw [hfl]; exact hown3) hT3 hat'
          rw [hfl] at hG3
          have hB3 := hBr.turns hT3 (fun c => by have := (hvb _ c).1; omega)
          have hTw3 : Turns (· = b) w w3 := hTr.join hT3 (fun q hq _ c => by have := (hvb _ c).1; omega)
          have k3 := hB3.c3
          have j3 := hB3.free 3
          have HX : Hid (Fill1 w b k R (.slice (some ⟨lb, 0, none⟩) rb.length lcap) len (.int .i64 ((i : Int) + 1)) (w3.setCell ⟨b, 3, none⟩ (.slice (some ⟨g', 0, none⟩) (i + 1) cap'))) := by
            refine ⟨_, fb ++ [wo.heap.size], by rw [← hfl]; simp, by simp; omega, hB3.set3 _, hG3.turns ((Turns.refl (· = b) w3).setCell (Or.inr rfl) _) (fun q hq => by omega), hTw3.setCell (Or.inr rfl) _⟩
          clear hG3 hB3 hTw3 hT3 hown3 hgrow hFr hBr hTr hIr HP hown hat hat'
          go_wp2
          go_roundw
          case measure => simp [intOf]; omega
          case rel => exact HX.out
    · have hfl : fb.length = n := by omega
      have hFt : Fill2 w b n R (.slice (some ⟨lb, 0, none⟩) rb.length lcap) fv fb (Pu.fillTo len 0) wr := ⟨hB, hF, hT⟩
      clear hB hF hT hk hlt hmk hi hz0 hz1 hz2 hG hRB
      obtain ⟨fg, fcap, hfv, _, _⟩ := hFt.2.1.form (by omega)
      subst hfv
      have HFL : Hid (fb.length = n) := hfl
      rw [hfl] at hFt ⊢
      clear hfl
      go_wp2
      go_loopw [5] (fun xv wx => ∃ x : Nat, xv = .int .i64 x ∧ x ≤ n ∧ Fill2 w b n R (.slice (some ⟨lb, 0, none⟩) rb.length lcap) (.slice (some ⟨fg, 0, none⟩) n fcap) fb (Pu.fillTo len x) wx) (fun xv _ => n - (intOf xv).toNat)
      case atStart => exact ⟨0, rfl, Nat.zero_le _, hFt⟩
      case round =>
        clear hFt c0
        obtain ⟨x, rfl, hx, hF⟩ := hrel
        have c0 := hF.1.c0
        by_cases hxn : x < n
        · have HR := Pu.fillTo_rng L x
          have hF0 := hF.congr (t' := Pu.fillAt (Pu.fillTo len x) x 0 0) (fun p q _ _ => (Pu.fillAt_start _ x p q).symm)
          clear hF
          have HS : Hid (Pu.fillTo len (x + 1) = Pu.fstep (Pu.fillTo len x) x) := rfl
          generalize Pu.fillTo len x = t at *
          go_wp2
          go_loopw [6] (fun iv wx => ∃ i : Nat, iv = .int .i64 i ∧ i ≤ n ∧ Fill2 w b n R (.slice (some ⟨lb, 0, none⟩) rb.length lcap) (.slice (some ⟨fg, 0, none⟩) n fcap) fb (Pu.fillAt t x i 0) wx) (fun iv _ => n - (intOf iv).toNat)
          case atStart => exact ⟨0, rfl, Nat.zero_le _, hF0⟩
          case round =>
            clear hF0 c0
            obtain ⟨i, rfl, hi, hF⟩ := hrel
            have c0 := hF.1.c0
            by_cases hin : i < n
            · go_wp2
              go_loopw [7] (fun kv wx => ∃ k : Nat, kv = .int .i64 k ∧ k ≤ n ∧ Fill2 w b n R (.slice (some ⟨lb, 0, none⟩) rb.length lcap) (.slice (some ⟨fg, 0, none⟩) n fcap) fb (Pu.fillAt t x i k) wx) (fun kv _ => n - (intOf kv).toNat)
              case atStart => exact ⟨0, rfl, Nat.zero_le _, hF⟩
              case round =>
                clear hF c0
                obtain ⟨k, rfl, hk, hF⟩ := hrel
                have c0 := hF.1.c0
                by_cases hkn : k < n
                · obtain ⟨wq, hwq⟩ : ∃ wq, wq = wr := ⟨_, rfl⟩
                  subst hwq
                  have hrl' := HFL.out
                  obtain ⟨ri, hri⟩ : ∃ ri, fb[i]? = some ri := ⟨_, List.getElem?_eq_getElem (by omega)⟩
                  obtain ⟨rx, hrx⟩ : ∃ rx, fb[x]? = some rx := ⟨_, List.getElem?_eq_getElem (by omega)⟩
                  have hGr := hF.2.1
                  rw [← hrl'] at hGr
                  have g1 := hGr.cell hri
                  have g2 := hGr.cell hrx
                  rw [hrl'] at g1 g2 hGr
                  have r1 := hGr.row _ _ hri
                  have r2 := hGr.row _ _ hrx
                  have m1 := r1.1.cell x hxn
                  have m2 := r2.1.cell k hkn
                  have m3 := r1.1.cell k hkn
                  have f3 := r1.1.free k hkn
                  rw [Pu.fillAt_col t x i k i (HR.1 x)] at m1
                  rw [Pu.fillAt_xrow t x i k k (HR.1 x)] at m2
                  rw [Pu.fillAt_here] at m3
                  have b1 := HR.2 i x
                  have b2 := HR.2 x k
                  have b3 := HR.2 i k
                  have c3 := hF.1.c3
                  have hki : (k : Int) < (n : Int) := by omega
                  have hii : (i : Int) < (n : Int) := by omega
                  have hxi : (x : Int) < (n : Int) := by omega
                  have HX0 : Hid (¬ t i x + t x k < t i k → ∀ q, ∃ k' : Nat, (Value.int .i64 ((k : Int) + 1)) = .int .i64 k' ∧ k' ≤ n ∧ Fill2 w b n R (.slice (some ⟨lb, 0, none⟩) rb.length lcap) (.slice (some ⟨fg, 0, none⟩) n fcap) fb (Pu.fillAt t x i k') (wq.drewN q)) := by
                    intro hno q
                    refine ⟨k + 1, by go_num, by omega, (hF.congr (fun p r _ _ => ?_)).drewN q⟩
                    rw [Pu.fillAt_next]
                    by_cases c : p = i ∧ r = k
                    · rw [if_pos c, c.1, c.2, Pu.fillAt_here]; unfold Pu.fstep; rw [if_neg hno]
                    · rw [if_neg c]
                  have HX1 : Hid (t i x + t x k < t i k → ∀ wz, Fill2 w b n R (.slice (some ⟨lb, 0, none⟩) rb.length lcap) (.slice (some ⟨fg, 0, none⟩) n fcap) fb (Pu.fillAt t x i k) wz → ∃ k' : Nat, (Value.int .i64 ((k : Int) + 1)) = .int .i64 k' ∧ k' ≤ n ∧ Fill2 w b n R (.slice (some ⟨lb, 0, none⟩) rb.length lcap) (.slice (some ⟨fg, 0, none⟩) n fcap) fb (Pu.fillAt t x i k') (wz.setCell ⟨ri, k, none⟩ (.int .i64 (t i x + t x k)))) := by
                    intro hyes wz hFz
                    refine ⟨k + 1, by go_num, by omega, hFz.set hbl hri hkn _ (fun p r => ?_)⟩
                    rw [Pu.fillAt_next]
                    by_cases c : p = i ∧ r = k
                    · rw [if_pos c, if_pos c]; unfold Pu.fstep; rw [if_pos hyes]
                    · rw [if_neg c, if_neg c]
                  have HFF : Hid (Fill2 w b n R (.slice (some ⟨lb, 0, none⟩) rb.length lcap) (.slice (some ⟨fg, 0, none⟩) n fcap) fb (Pu.fillAt t x i k) wq) := hF
                  clear hF hGr r1 r2 hrl'
                  by_cases hless : t i x + t x k < t i k
                  · go_wp2
                    go_quiet (fail)
                    go_wp2_with fail
                    rename_i nq
                    obtain ⟨wz, hwz⟩ : ∃ wz, wq.drewN nq = wz := ⟨_, rfl⟩
                    rw [hwz]
                    have z3 : wz.cell? ⟨b, 3, none⟩ = some (.slice (some ⟨fg, 0, none⟩) n fcap) := by rw [← hwz]; exact c3
                    have zg1 : wz.cell? ⟨fg, i, none⟩ = some (.slice (some ⟨ri, 0, none⟩) n n) := by rw [← hwz]; exact g1
                    have zg2 : wz.cell? ⟨fg, x, none⟩ = some (.slice (some ⟨rx, 0, none⟩) n n) := by rw [← hwz]; exact g2
                    have zm1 : wz.cell? ⟨ri, x, none⟩ = some (.int .i64 (t i x)) := by rw [← hwz]; exact m1
                    have zm2 : wz.cell? ⟨rx, k, none⟩ = some (.int .i64 (t x k)) := by rw [← hwz]; exact m2
                    have zm3 : wz.cell? ⟨ri, k, none⟩ = some (.int .i64 (t i k)) := by rw [← hwz]; exact m3
                    have zf3 : wz.frozen? ⟨ri, k, none⟩ = false := by rw [← hwz]; exact f3
                    have HFz : Hid (Fill2 w b n R (.slice (some ⟨lb, 0, none⟩) rb.length lcap) (.slice (some ⟨fg, 0, none⟩) n fcap) fb (Pu.fillAt t x i k) wz) := by rw [← hwz]; exact HFF.out.drewN nq
                    clear hwz HX0 HFF c3 g1 g2 m1 m2 m3 f3
                    go_region
                    all_goals
                      go_wp2
                      go_roundw
                      case measure => simp [intOf]; omega
                      case rel => first
                        | exact HX1.out hless _ HFz.out.drew
                        | exact HX1.out hless _ HFz.out
                  · have hle : ¬ t i x + t x k < t i k := hless
                    go_wp2
                    go_quiet (fail)
                    go_wp2
                    go_roundw
                    case measure => simp [intOf]; omega
                    case rel => exact HX0.out hle _
                · have ek : k = n := by omega
                  subst ek
                  have HX := hF.congr (t' := Pu.fillAt t x (i + 1) 0) (fun p q _ hq => Pu.fillAt_row t x i k p q hq)
                  clear hF
                  go_wp2
                  go_roundw
                  case measure => simp [intOf]; omega
                  case rel => exact ⟨i + 1, by go_num, by omega, HX⟩
            · have ei : i = n := by omega
              subst ei
              have HX := hF.congr (t' := Pu.fillTo len (x + 1)) (fun p q hp _ => by rw [HS.out]; exact Pu.fillAt_end t x i p q (by have := HFL.out; omega))
              clear hF
              go_wp2
              go_roundw
              case measure => simp [intOf]; omega
              case rel => exact ⟨x + 1, by go_num, by omega, HX⟩
        · have ex : x = n := by omega
          subst ex
          go_wp2
          go_end0
          exact ⟨rfl, _, fb, HFL.out, hF⟩
#print axioms fill_any
end Go.Proofs.YtdogncjcainhlaaGreatDoor
