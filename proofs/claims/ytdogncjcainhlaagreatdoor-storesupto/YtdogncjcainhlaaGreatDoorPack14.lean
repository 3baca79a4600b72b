/- Pack14: texts of one proof, one behind the other. -/
import Derived.Test.YtdogncjcainhlaaGreatDoorPack13
import Derived.Test.YtdogncjcainhlaaGreatDoorPack10
import Derived.Test.YtdogncjcainhlaaGreatDoorPack2
import Derived.Test.YtdogncjcainhlaaGreatDoorPlain
import Derived.Deep.QuietTactic
import Derived.BigQuiet
import Derived.Deep.RegionHeld3
/- The walk of (*World).step: one step on a store, and on the document's beside it. -/
namespace Go.Proofs.YtdogncjcainhlaaGreatDoor
open Go.RowKit Go.Deep
open Mem

/-- A step, as a value. -/
def opV (kd a b g : Int) (s : ByteArray) : Value := .agg #[.int .i64 kd, .int .i64 a, .int .i64 b, .int .i64 g, .string s]
def LStPost (w0 : World) (h m R e N : Nat) (x : Option Value) (en : Ending) (w : World) : Prop := en = .returned (.bool true) ∧ ∃ N', N' ≤ N + 1 ∧ InvE w0 h m (R + 100000) (e + 4) N' w ∧ w.cell? ⟨h, 0, none⟩ = x
set_option maxRecDepth 100000 in
set_option maxHeartbeats 4000000 in
theorem step_other {w0 w : World} {h m R e N k : Nat} (I : InvE w0 h m R e N w) (hk : k < m) (hm : m ≤ 1000000000) (kd a b g : Int) (s : ByteArray) (h2 : kd ≠ 2) (h3 : kd ≠ 3) (h4 : kd ≠ 4) :
    Calls Tryz.prog 14 #[.pointer (some ⟨h, 0, none⟩), .int .i64 (k : Int), opV kd a b g s] w (LStPost w0 h m R e N (w.cell? ⟨h, 0, none⟩)) := by
  obtain ⟨col, u, v, E, sb, rb, I0⟩ := I
  obtain ⟨x0, hx0⟩ : ∃ x0, x0 = w.cell? ⟨h, 0, none⟩ := ⟨_, rfl⟩
  rw [← hx0]
  have HX0 : Hid (x0 = some u.1) := by show _ = _; rw [hx0]; exact I0.box.cs
  clear hx0
  obtain ⟨wa, hwa⟩ : ∃ wa, wa = w.alloc (.cells #[.int .i64 kd, .int .i64 a, .int .i64 b, .int .i64 g, .string s] 53) := ⟨_, rfl⟩
  have HWA : Hid (w.alloc (.cells #[.int .i64 kd, .int .i64 a, .int .i64 b, .int .i64 g, .string s] 53) = wa) := hwa.symm
  obtain ⟨ob, hob⟩ : ∃ ob, ob = w.heap.size := ⟨_, rfl⟩
  have HOB : Hid (w.heap.size = ob) := hob.symm
  have I : Inv w0 h m R e N col u v E sb rb wa := by rw [hwa]; exact I0.turns0 ((Turns.refl _ w).alloc _)
  have hbk : wa.heap[ob]? = some (.cells #[.int .i64 kd, .int .i64 a, .int .i64 b, .int .i64 g, .string s] 53 (0, 0)) := by rw [hwa, hob]; exact heap_alloc_new w _
  have o0 : wa.cell? ⟨ob, 0, none⟩ = some (.int .i64 kd) := by simp [World.cell?, hbk]
  have o1 : wa.cell? ⟨ob, 1, none⟩ = some (.int .i64 a) := by simp [World.cell?, hbk]
  have o2 : wa.cell? ⟨ob, 2, none⟩ = some (.int .i64 b) := by simp [World.cell?, hbk]
  have hol : ob < wa.heap.size := lt_of_block hbk
  have cs := I0.box.cs
  have cr := I0.box.cr
  have hlt := I0.box.lt
  have ss := I0.ss
  have rs := I0.rs
  obtain ⟨g1, c1, hu1, _⟩ := own_some ss (by omega)
  obtain ⟨g2, c2, hu2, _⟩ := own_some rs (by omega)
  rw [hu1] at cs ss
  rw [hu2] at cr rs
  have e1 := (World.ownsRow.cellAt ss k (by omega)).trans (ptrV_get sb hk)
  have e2 := (World.ownsRow.cellAt rs k (by omega)).trans (ptrV_get rb hk)
  have hki : (k : Int) < (m : Int) := by omega
  have l1 := World.block_lt_of_cell? _ _ e1
  have l2 := World.block_lt_of_cell? _ _ e2
  have HX : Hid (LStPost w0 h m R e N x0 (.returned (.bool true)) wa) := ⟨rfl, N, by omega, ⟨_, _, _, _, _, _, I.more (by omega) (by omega)⟩, I.box.cs.trans HX0.out.symm⟩
  have n2 : (kd == 2) = false := by simpa using h2
  have n3 : (kd == 3) = false := by simpa using h3
  have n4 : (kd == 4) = false := by simpa using h4
  unfold opV
  clear I I0 ss rs hu1 hu2 h2 h3 h4 hwa hob hbk
  go_enter Tryz.func14, Tryz.ntmps14
  go_wp2
  go_ret
  rw [HWA.out]
  exact HX.out
set_option maxRecDepth 100000 in
set_option maxHeartbeats 4000000 in
theorem step_far {w0 w : World} {h m R e N k : Nat} (I : InvE w0 h m R e N w) (hk : k < m) (hm : m ≤ 1000000000) (hR : R ≤ 8000000000000000) (a b g : Int) (s : ByteArray) :
    Calls Tryz.prog 14 #[.pointer (some ⟨h, 0, none⟩), .int .i64 (k : Int), opV 2 a b g s] w (LStPost w0 h m R e N (w.cell? ⟨h, 0, none⟩)) := by
  obtain ⟨col, u, v, E, sb, rb, I0⟩ := I
  obtain ⟨x0, hx0⟩ : ∃ x0, x0 = w.cell? ⟨h, 0, none⟩ := ⟨_, rfl⟩
  rw [← hx0]
  have HX0 : Hid (x0 = some u.1) := by show _ = _; rw [hx0]; exact I0.box.cs
  clear hx0
  obtain ⟨wa, hwa⟩ : ∃ wa, wa = w.alloc (.cells #[.int .i64 2, .int .i64 a, .int .i64 b, .int .i64 g, .string s] 53) := ⟨_, rfl⟩
  have HWA : Hid (w.alloc (.cells #[.int .i64 2, .int .i64 a, .int .i64 b, .int .i64 g, .string s] 53) = wa) := hwa.symm
  obtain ⟨ob, hob⟩ : ∃ ob, ob = w.heap.size := ⟨_, rfl⟩
  have HOB : Hid (w.heap.size = ob) := hob.symm
  have I : Inv w0 h m R e N col u v E sb rb wa := by rw [hwa]; exact I0.turns0 ((Turns.refl _ w).alloc _)
  have hbk : wa.heap[ob]? = some (.cells #[.int .i64 2, .int .i64 a, .int .i64 b, .int .i64 g, .string s] 53 (0, 0)) := by rw [hwa, hob]; exact heap_alloc_new w _
  have o0 : wa.cell? ⟨ob, 0, none⟩ = some (.int .i64 2) := by simp [World.cell?, hbk]
  have o1 : wa.cell? ⟨ob, 1, none⟩ = some (.int .i64 a) := by simp [World.cell?, hbk]
  have o2 : wa.cell? ⟨ob, 2, none⟩ = some (.int .i64 b) := by simp [World.cell?, hbk]
  have hol : ob < wa.heap.size := lt_of_block hbk
  have cs := I0.box.cs
  have cr := I0.box.cr
  have hlt := I0.box.lt
  have ss := I0.ss
  have rs := I0.rs
  obtain ⟨g1, c1, hu1, _⟩ := own_some ss (by omega)
  obtain ⟨g2, c2, hu2, _⟩ := own_some rs (by omega)
  rw [hu1] at cs ss
  rw [hu2] at cr rs
  have e1 := (World.ownsRow.cellAt ss k (by omega)).trans (ptrV_get sb hk)
  have e2 := (World.ownsRow.cellAt rs k (by omega)).trans (ptrV_get rb hk)
  have hki : (k : Int) < (m : Int) := by omega
  have l1 := World.block_lt_of_cell? _ _ e1
  have l2 := World.block_lt_of_cell? _ _ e2
  obtain ⟨D, kv, kr, K, r, hs, hb, hrR, P0⟩ := I0.ps k hk
  have P : PairI wa col k D kv kr K r := by rw [hwa]; exact P0.turns ((Turns.refl (fun _ => False) w).alloc _) (fun q c => c.elim)
  have hfo : ∀ q, (q = D.sb ∨ kv.ownBlock = some q) → q ≠ ob := fun q hq c => by
    have : q < w.heap.size := by
      rcases hq with g | g
      · exact P0.lt (Or.inl g)
      · exact P0.lt (Or.inr (Or.inr (Or.inr g)))
    omega
  have hfr : D.rb ≠ ob := by have := P0.rb_lt; omega
  rw [← hs] at e1
  rw [← hb] at e2
  obtain ⟨x, y, z, K', r', hK', hr', CA, CB⟩ := far_two P (by omega) a b
  have HQ : Hid (Inv w0 h m R e N col u v E sb rb wa ∧ PairI wa col k D kv kr K r ∧ D.sb = sb k ∧ D.rb = rb k ∧ Pu.Keeps D.c K' ∧ r' ≤ R + 100000) := ⟨I, P, hs, hb, hK', by omega⟩
  have HCB : Hid (∀ w1, RSt w1 D.s0 D.s1 D.rb D.go D.co D.lg D.lc D.fg D.fc D.hg D.hc D.O D.lab D.st D.c kr K r → D.s1 ≤ w1.heap.size → Calls Tryz.prog 35 #[.pointer (some ⟨D.rb, 0, none⟩), .int .i64 a, .int .i64 b] w1 fun e w' => e = .returned (.tuple #[.int .i64 x, .int .i64 y, .int .i64 z]) ∧ ∃ kr', RSt w' D.s0 D.s1 D.rb D.go D.co D.lg D.lc D.fg D.fc D.hg D.hc D.O D.lab D.st D.c kr' K' r' ∧ (∀ x, kr'.ownBlock = some x → kr.ownBlock = some x ∨ w1.heap.size ≤ x) ∧ Turns (fun x => x = D.rb) w1 w') := CB
  have HF : Hid ((∀ q, (q = D.sb ∨ kv.ownBlock = some q) → q ≠ ob) ∧ wa.cell? ⟨ob, 1, none⟩ = some (.int .i64 a) ∧ wa.cell? ⟨ob, 2, none⟩ = some (.int .i64 b) ∧ ob < wa.heap.size) := ⟨hfo, o1, o2, hol⟩
  unfold opV
  clear I I0 P P0 ss rs hu1 hu2 hwa hbk CB hs hb hK' hr' hfo hfr o0 o1 o2 hrR hol
  go_enter Tryz.func14, Tryz.ntmps14
  go_wp2_with fail
  rw [HWA.out]
  refine CA.mono ?_
  rintro en w1 ⟨rfl, kv', hA1, hq1, hT1⟩
  rw [HOB.out]
  have RS := HQ.out.2.1.ref hT1
  have CB := HCB.out w1 RS.1 RS.2
  have d1 := (hT1.cell (a := ⟨ob, 1, none⟩) HF.out.2.2.2 (fun c => HF.out.1 ob c rfl)).trans HF.out.2.1
  have d2 := (hT1.cell (a := ⟨ob, 2, none⟩) HF.out.2.2.2 (fun c => HF.out.1 ob c rfl)).trans HF.out.2.2.1
  have dl := World.block_lt_of_cell? _ _ d1
  have HA1 : Hid (StoreAt w1 D.sb D.og D.oc D.sg D.sc D.O D.st D.S D.c 0 kv' K' r' ∧ (∀ x, kv'.ownBlock = some x → kv.ownBlock = some x ∨ wa.heap.size ≤ x) ∧ Turns (fun x => x = D.sb ∨ kv.ownBlock = some x) wa w1) := ⟨hA1, hq1, hT1⟩
  clear CA hA1 hq1 hT1 RS HCB HF cs cr e1 e2 l1 l2 hlt HWA HOB hob
  go_wp2_with fail
  refine CB.mono ?_
  rintro en w2 ⟨rfl, kr', hB2, hq2, hT2⟩
  obtain ⟨col', hI', _⟩ := HQ.out.1.both hk HQ.out.2.2.1 HQ.out.2.2.2.1 HQ.out.2.1 HA1.out.2.2 HA1.out.1 HA1.out.2.1 hT2 hB2 hq2 HQ.out.2.2.2.2.1 HQ.out.2.2.2.2.2 (by omega) (.slice none 0 0) (fun q hq => by cases hq)
  have HX : Hid (LStPost w0 h m R e N x0 (.returned (.bool true)) w2) := ⟨rfl, N, by omega, ⟨_, _, _, _, _, _, hI'.more (Nat.le_refl _) (by omega)⟩, hI'.box.cs.trans HX0.out.symm⟩
  clear CB hB2 hq2 hT2 HA1 HQ hI' d1 d2 dl
  go_wp2_with (go_at_call 34; refine (num_any _ _).mono ?_; rintro en wq ⟨rfl, hwq⟩; subst wq)
  go_ret
  exact HX.out
set_option maxRecDepth 100000 in
set_option maxHeartbeats 4000000 in
theorem step_reads {w0 w : World} {h m R e N k : Nat} (I : InvE w0 h m R e N w) (hk : k < m) (hm : m ≤ 1000000000) (a b g : Int) (s : ByteArray) :
    Calls Tryz.prog 14 #[.pointer (some ⟨h, 0, none⟩), .int .i64 (k : Int), opV 4 a b g s] w (LStPost w0 h m R e N (w.cell? ⟨h, 0, none⟩)) := by
  obtain ⟨col, u, v, E, sb, rb, I0⟩ := I
  obtain ⟨x0, hx0⟩ : ∃ x0, x0 = w.cell? ⟨h, 0, none⟩ := ⟨_, rfl⟩
  rw [← hx0]
  have HX0 : Hid (x0 = some u.1) := by show _ = _; rw [hx0]; exact I0.box.cs
  clear hx0
  obtain ⟨wa, hwa⟩ : ∃ wa, wa = w.alloc (.cells #[.int .i64 4, .int .i64 a, .int .i64 b, .int .i64 g, .string s] 53) := ⟨_, rfl⟩
  have HWA : Hid (w.alloc (.cells #[.int .i64 4, .int .i64 a, .int .i64 b, .int .i64 g, .string s] 53) = wa) := hwa.symm
  obtain ⟨ob, hob⟩ : ∃ ob, ob = w.heap.size := ⟨_, rfl⟩
  have HOB : Hid (w.heap.size = ob) := hob.symm
  have I : Inv w0 h m R e N col u v E sb rb wa := by rw [hwa]; exact I0.turns0 ((Turns.refl _ w).alloc _)
  have hbk : wa.heap[ob]? = some (.cells #[.int .i64 4, .int .i64 a, .int .i64 b, .int .i64 g, .string s] 53 (0, 0)) := by rw [hwa, hob]; exact heap_alloc_new w _
  have o0 : wa.cell? ⟨ob, 0, none⟩ = some (.int .i64 4) := by simp [World.cell?, hbk]
  have o1 : wa.cell? ⟨ob, 1, none⟩ = some (.int .i64 a) := by simp [World.cell?, hbk]
  have o2 : wa.cell? ⟨ob, 2, none⟩ = some (.int .i64 b) := by simp [World.cell?, hbk]
  have hol : ob < wa.heap.size := lt_of_block hbk
  have cs := I0.box.cs
  have cr := I0.box.cr
  have hlt := I0.box.lt
  have ss := I0.ss
  have rs := I0.rs
  obtain ⟨g1, c1, hu1, _⟩ := own_some ss (by omega)
  obtain ⟨g2, c2, hu2, _⟩ := own_some rs (by omega)
  rw [hu1] at cs ss
  rw [hu2] at cr rs
  have e1 := (World.ownsRow.cellAt ss k (by omega)).trans (ptrV_get sb hk)
  have e2 := (World.ownsRow.cellAt rs k (by omega)).trans (ptrV_get rb hk)
  have hki : (k : Int) < (m : Int) := by omega
  have l1 := World.block_lt_of_cell? _ _ e1
  have l2 := World.block_lt_of_cell? _ _ e2
  obtain ⟨D, kv, kr, K, r, hs, hb, hrR, P0⟩ := I0.ps k hk
  have P : PairI wa col k D kv kr K r := by rw [hwa]; exact P0.turns ((Turns.refl (fun _ => False) w).alloc _) (fun q c => c.elim)
  have hfo : ∀ q, (q = D.sb ∨ kv.ownBlock = some q) → q ≠ ob := fun q hq c => by
    have : q < w.heap.size := by
      rcases hq with g | g
      · exact P0.lt (Or.inl g)
      · exact P0.lt (Or.inr (Or.inr (Or.inr g)))
    omega
  have hfr : D.rb ≠ ob := by have := P0.rb_lt; omega
  rw [← hs] at e1
  rw [← hb] at e2
  have CA := stReads_any P.a
  have HQ : Hid (Inv w0 h m R e N col u v E sb rb wa ∧ PairI wa col k D kv kr K r ∧ D.sb = sb k ∧ D.rb = rb k ∧ r ≤ R) := ⟨I, P, hs, hb, hrR⟩
  unfold opV
  clear I I0 P P0 ss rs hu1 hu2 hwa hbk hs hb hfo hfr o0 o1 o2 hrR hol
  go_enter Tryz.func14, Tryz.ntmps14
  go_wp2_with fail
  rw [HWA.out]
  refine CA.mono ?_
  rintro en w1 ⟨rfl, hA1, hT1⟩
  have hT1' : Turns (fun q => q = D.sb ∨ kv.ownBlock = some q) wa w1 := hT1.mono (fun _ _ c => Or.inl c)
  have RS := HQ.out.2.1.ref hT1'
  have d6 := RS.1.box.c6
  have dl := RS.1.box.lt
  obtain ⟨col', hI', _⟩ := HQ.out.1.both (R' := R + 100000) hk HQ.out.2.2.1 HQ.out.2.2.2.1 HQ.out.2.1 hT1' hA1 (fun q hq => Or.inl hq) (Turns.refl (fun q => q = D.rb) w1) RS.1 (fun q hq => Or.inl hq) HQ.out.2.1.k (by have := HQ.out.2.2.2.2; omega) (by omega) (.slice none 0 0) (fun q hq => by cases hq)
  have HX : Hid (LStPost w0 h m R e N x0 (.returned (.bool true)) w1) := ⟨rfl, N, by omega, ⟨_, _, _, _, _, _, hI'.more (Nat.le_refl _) (by omega)⟩, hI'.box.cs.trans HX0.out.symm⟩
  clear CA hA1 hT1 hT1' RS HQ hI' cs cr e1 e2 l1 l2 hlt HWA HOB hob
  go_wp2
  go_ret
  exact HX.out
set_option maxRecDepth 100000 in
set_option maxHeartbeats 8000000 in
theorem step_around {w0 w : World} {h m R e N k : Nat} (I : InvE w0 h m R e N w) (hk : k < m) (hm : m ≤ 1000000000) (hR : R ≤ 8000000000000000) (hN : N ≤ 1000000000) (he : e ≤ 4000000000) (a b g : Int) (s : ByteArray) :
    Calls Tryz.prog 14 #[.pointer (some ⟨h, 0, none⟩), .int .i64 (k : Int), opV 3 a b g s] w (LStPost w0 h m R e N (w.cell? ⟨h, 0, none⟩)) := by
  obtain ⟨col, u, v, E, sb, rb, I0⟩ := I
  obtain ⟨x0, hx0⟩ : ∃ x0, x0 = w.cell? ⟨h, 0, none⟩ := ⟨_, rfl⟩
  rw [← hx0]
  have HX0 : Hid (x0 = some u.1) := by show _ = _; rw [hx0]; exact I0.box.cs
  clear hx0
  obtain ⟨wa, hwa⟩ : ∃ wa, wa = w.alloc (.cells #[.int .i64 3, .int .i64 a, .int .i64 b, .int .i64 g, .string s] 53) := ⟨_, rfl⟩
  have HWA : Hid (w.alloc (.cells #[.int .i64 3, .int .i64 a, .int .i64 b, .int .i64 g, .string s] 53) = wa) := hwa.symm
  obtain ⟨ob, hob⟩ : ∃ ob, ob = w.heap.size := ⟨_, rfl⟩
  have HOB : Hid (w.heap.size = ob) := hob.symm
  have I : Inv w0 h m R e N col u v E sb rb wa := by rw [hwa]; exact I0.turns0 ((Turns.refl _ w).alloc _)
  have hbk : wa.heap[ob]? = some (.cells #[.int .i64 3, .int .i64 a, .int .i64 b, .int .i64 g, .string s] 53 (0, 0)) := by rw [hwa, hob]; exact heap_alloc_new w _
  have o0 : wa.cell? ⟨ob, 0, none⟩ = some (.int .i64 3) := by simp [World.cell?, hbk]
  have o1 : wa.cell? ⟨ob, 1, none⟩ = some (.int .i64 a) := by simp [World.cell?, hbk]
  have o2 : wa.cell? ⟨ob, 2, none⟩ = some (.int .i64 b) := by simp [World.cell?, hbk]
  have hol : ob < wa.heap.size := lt_of_block hbk
  have cs := I0.box.cs
  have cr := I0.box.cr
  have hlt := I0.box.lt
  have ss := I0.ss
  have rs := I0.rs
  obtain ⟨g1, c1, hu1, _⟩ := own_some ss (by omega)
  obtain ⟨g2, c2, hu2, _⟩ := own_some rs (by omega)
  rw [hu1] at cs ss
  rw [hu2] at cr rs
  have e1 := (World.ownsRow.cellAt ss k (by omega)).trans (ptrV_get sb hk)
  have e2 := (World.ownsRow.cellAt rs k (by omega)).trans (ptrV_get rb hk)
  have hki : (k : Int) < (m : Int) := by omega
  have l1 := World.block_lt_of_cell? _ _ e1
  have l2 := World.block_lt_of_cell? _ _ e2
  obtain ⟨D, kv, kr, K, r, hs, hb, hrR, P0⟩ := I0.ps k hk
  have P : PairI wa col k D kv kr K r := by rw [hwa]; exact P0.turns ((Turns.refl (fun _ => False) w).alloc _) (fun q c => c.elim)
  have hfo : ∀ q, (q = D.sb ∨ kv.ownBlock = some q) → q ≠ ob := fun q hq c => by
    have : q < w.heap.size := by
      rcases hq with g | g
      · exact P0.lt (Or.inl g)
      · exact P0.lt (Or.inr (Or.inr (Or.inr g)))
    omega
  have hfr : D.rb ≠ ob := by have := P0.rb_lt; omega
  rw [← hs] at e1
  rw [← hb] at e2
  obtain ⟨A, z, K', r', hAl, hK', hr', CA, CB⟩ := around_two P (by omega) a b
  have HQ : Hid (Inv w0 h m R e N col u v E sb rb wa ∧ PairI wa col k D kv kr K r ∧ D.sb = sb k ∧ D.rb = rb k ∧ Pu.Keeps D.c K' ∧ r' ≤ R + 100000) := ⟨I, P, hs, hb, hK', by omega⟩
  have HCB : Hid (∀ w1, RSt w1 D.s0 D.s1 D.rb D.go D.co D.lg D.lc D.fg D.fc D.hg D.hc D.O D.lab D.st D.c kr K r → D.s1 ≤ w1.heap.size → Calls Tryz.prog 36 #[.pointer (some ⟨D.rb, 0, none⟩), .int .i64 a, .int .i64 b] w1 fun e w' => ∃ a cp kr', e = .returned (.tuple #[.slice a A.length cp, .int .i64 z]) ∧ HubAt w' a A ∧ RSt w' D.s0 D.s1 D.rb D.go D.co D.lg D.lc D.fg D.fc D.hg D.hc D.O D.lab D.st D.c kr' K' r' ∧ (∀ x, kr'.ownBlock = some x → kr.ownBlock = some x ∨ w1.heap.size ≤ x) ∧ Turns (fun x => x = D.rb) w1 w') := CB
  have HF : Hid ((∀ q, (q = D.sb ∨ kv.ownBlock = some q) → q ≠ ob) ∧ wa.cell? ⟨ob, 1, none⟩ = some (.int .i64 a) ∧ wa.cell? ⟨ob, 2, none⟩ = some (.int .i64 b) ∧ ob < wa.heap.size) := ⟨hfo, o1, o2, hol⟩
  obtain ⟨l, hl⟩ : ∃ l, l = A.length := ⟨_, rfl⟩
  have HLA : Hid (l = A.length) := hl
  have hl40 : l ≤ 40 := by omega
  unfold opV
  clear I I0 P P0 ss rs hu1 hu2 hwa hbk CB hs hb hK' hr' hfo hfr o0 o1 o2 hrR hol hAl hl
  go_enter Tryz.func14, Tryz.ntmps14
  go_wp2_with fail
  rw [HWA.out]
  refine CA.mono ?_
  rintro en w1 ⟨x, kv', rfl, hrow1, hA1, hq1, hT1⟩
  obtain ⟨ax, cp, hx, hH1, _, _⟩ := nearAt_own hrow1
  rw [← HLA.out] at hx
  subst hx
  rw [HOB.out]
  have RS := HQ.out.2.1.ref hT1
  have CB := HCB.out w1 RS.1 RS.2
  have d1 := (hT1.cell (a := ⟨ob, 1, none⟩) HF.out.2.2.2 (fun c => HF.out.1 ob c rfl)).trans HF.out.2.1
  have d2 := (hT1.cell (a := ⟨ob, 2, none⟩) HF.out.2.2.2 (fun c => HF.out.1 ob c rfl)).trans HF.out.2.2.1
  have dl := World.block_lt_of_cell? _ _ d1
  have HA1 : Hid (StoreAt w1 D.sb D.og D.oc D.sg D.sc D.O D.st D.S D.c 0 kv' K' r' ∧ (∀ x, kv'.ownBlock = some x → kv.ownBlock = some x ∨ wa.heap.size ≤ x) ∧ Turns (fun x => x = D.sb ∨ kv.ownBlock = some x) wa w1) := ⟨hA1, hq1, hT1⟩
  have HR1 : Hid (w1.ownsRow wa.heap.size 66 2 (.slice ax l cp) A.length (hubV A) ∧ HubAt w1 ax A) := ⟨hrow1, hH1⟩
  rw [← HLA.out] at CB
  clear CA hA1 hq1 hT1 RS HCB HF cs cr e1 e2 l1 l2 hlt HWA HOB hob hrow1 hH1
  go_wp2_with fail
  refine CB.mono ?_
  rintro en w2 ⟨ay, cq, kr', rfl, hHB, hB2, hq2, hT2⟩
  have hrbl := HQ.out.2.1.rb_lt
  have hnew : ∀ q, (Value.slice ax l cp).ownBlock = some q → wa.heap.size ≤ q ∧ q < w1.heap.size ∧ kv'.ownBlock ≠ some q := fun q hq => ⟨(World.ownsRow.lt HR1.out.1 q hq).1, (World.ownsRow.lt HR1.out.1 q hq).2, owns_apart HR1.out.1 HA1.out.1.kept (by decide) q hq⟩
  have hH2 : HubAt w2 ax A := HR1.out.2.turns_p (n := l) (c := cp) hT2 (fun q hq c => by have := (hnew q hq).1; omega)
  have row2 : w2.ownsRow wa.heap.size 66 2 (.slice ax l cp) A.length (hubV A) := owns_turns_p HR1.out.1 hT2 (fun q hq c => by have := (hnew q hq).1; omega)
  obtain ⟨col', hI', hc2⟩ := HQ.out.1.both hk HQ.out.2.2.1 HQ.out.2.2.2.1 HQ.out.2.1 HA1.out.2.2 HA1.out.1 HA1.out.2.1 hT2 hB2 hq2 HQ.out.2.2.2.2.1 HQ.out.2.2.2.2.2 (by omega) (.slice ax l cp) hnew
  have hha : h + 1 ≤ wa.heap.size := HQ.out.1.box.lt
  have H2 : Hid (Inv w0 h m (R + 100000) e N col' u v E sb rb w2 ∧ (∀ q, (Value.slice ax l cp).ownBlock = some q → col' q = 2) ∧ w2.ownsRow (h + 1) 66 2 (.slice ax l cp) l (hubV A)) := ⟨hI', hc2, by
    have h9 := owns_low row2 hha
    rw [← HLA.out] at h9
    exact h9⟩
  have HHA : Hid (HubAt w2 ax A ∧ HubAt w2 ay A) := ⟨hH2, hHB⟩
  have hbl : h < w2.heap.size := hI'.box.lt
  clear CB hHB hB2 hq2 hT2 HA1 HQ hI' d1 d2 dl hrbl hnew hH2 row2 hc2 hha HR1
  go_wp2_with (go_at_call 34; refine (num_any _ _).mono ?_; rintro en wq ⟨rfl, hwq⟩; subst wq)
  go_loopw [19, 20] (fun sv iv wr => ∃ (i nq : Nat), sv = .bool true ∧ iv = .int .i64 (i : Int) ∧ i ≤ l ∧ Hid (wr = w2.drewN nq)) (fun _ iv _ => l - (intOf iv).toNat)
  case atStart => exact ⟨0, 0, rfl, rfl, by omega, rfl⟩
  case round =>
    obtain ⟨i, nq, rfl, rfl, hil, HWR⟩ := hrel
    by_cases hlt : i < l
    · have hii : (i : Int) < (l : Int) := by omega
      obtain ⟨y, hy⟩ : ∃ y, A[i]? = some y := ⟨_, List.getElem?_eq_getElem (by have := HLA.out; omega)⟩
      obtain ⟨pl, fr⟩ := y
      obtain ⟨gx, hax, x0, x1⟩ := HHA.out.1 i pl fr hy
      obtain ⟨gy, hay, y0, y1⟩ := HHA.out.2 i pl fr hy
      subst hax hay
      have x0' : wr.cell? ⟨gx, i * 2, none⟩ = some (.int .i64 (pl : Int)) := by rw [HWR.out]; exact x0
      have x1' : wr.cell? ⟨gx, i * 2 + 1, none⟩ = some (.int .i64 fr) := by rw [HWR.out]; exact x1
      have y0' : wr.cell? ⟨gy, i * 2, none⟩ = some (.int .i64 (pl : Int)) := by rw [HWR.out]; exact y0
      have y1' : wr.cell? ⟨gy, i * 2 + 1, none⟩ = some (.int .i64 fr) := by rw [HWR.out]; exact y1
      have HY : Hid (∀ n', ∃ (i' nq : Nat), (Value.int .i64 ((i : Int) + 1)) = .int .i64 (i' : Int) ∧ i' ≤ l ∧ Hid (wr.drewN n' = w2.drewN nq)) := fun n' => ⟨i + 1, nq + n', by go_num, by omega, by show _ = _; rw [HWR.out, World.drewN_drewN]⟩
      have hgx := World.block_lt_of_cell? _ _ x0'
      have hgy := World.block_lt_of_cell? _ _ y0'
      have n1 : ((pl : Int) == (pl : Int)) = true := by simp
      have n2 : (fr == fr) = true := by simp
      clear x0 x1 y0 y1 hy HHA HWR
      go_wp2
      go_quiet (fail)
      go_wp2
      go_roundw
      case measure => simp [intOf]; omega
      case rel =>
        obtain ⟨i', nq', h8⟩ := HY.out _
        exact ⟨i', nq', rfl, h8⟩
    · have hii : ¬ (i : Int) < (l : Int) := by omega
      have I3 : Inv w0 h m (R + 100000) e N col' u v E sb rb wr := by rw [HWR.out]; exact H2.out.1.turns0 ((Turns.refl _ w2).drewN nq)
      have row3 : wr.ownsRow (h + 1) 66 2 (.slice ax l cp) l (hubV A) := by rw [HWR.out]; exact H2.out.2.2
      have CN := nears_any wr h (h + 1) l (N : Int) v (.slice ax l cp) u E (hubV A) (by omega) (by omega) (by omega) (by have := I3.el; omega) I3.box I3.ls row3 (by omega) I3.box.lt (fun q hq => ⟨fun c => by have h1 := H2.out.2.1 q hq; rw [I3.cv q c] at h1; omega, fun y hy c => by have h1 := H2.out.2.1 q hq; rw [I3.ce y hy q c] at h1; omega⟩)
      have HI3 : Hid (Inv w0 h m (R + 100000) e N col' u v E sb rb wr ∧ ∀ q, (Value.slice ax l cp).ownBlock = some q → col' q = 2 ∧ q < wr.heap.size) := ⟨I3, fun q hq => ⟨H2.out.2.1 q hq, (World.ownsRow.lt row3 q hq).2⟩⟩
      have hbl3 : h < wr.heap.size := I3.box.lt
      clear I3 row3 H2 HHA HWR hbl
      go_wp2_with fail
      refine CN.mono ?_
      rintro en w4 ⟨rfl, hT4, v', E', hB4, hL4, hl4, gs, hF4⟩
      obtain ⟨col'', hI4⟩ := HI3.out.1.nears HI3.out.2 hT4 hB4 hL4 hl4 hF4
      have HX : Hid (LStPost w0 h m R e N x0 (.returned (.bool true)) w4) := ⟨rfl, N + 1, Nat.le_refl _, ⟨_, _, _, _, _, _, hI4⟩, hI4.box.cs.trans HX0.out.symm⟩
      clear CN hT4 hB4 hL4 hl4 hF4 hI4 HI3 hbl3
      go_wp2
      go_ret
      exact HX.out
end Go.Proofs.YtdogncjcainhlaaGreatDoor
/- What the law Stores calls: a step of any kind, dry, pick; the store that it begins with. -/
namespace Go.Proofs.YtdogncjcainhlaaGreatDoor
open Go.RowKit Go.Deep
open Mem

theorem lstep_any {w0 w : World} {h m R e N k : Nat} (I : InvE w0 h m R e N w) (hk : k < m) (hm : m ≤ 1000000000) (hR : R ≤ 8000000000000000) (hN : N ≤ 1000000000) (he : e ≤ 4000000000) (kd a b g : Int) (s : ByteArray) :
    Calls Tryz.prog 14 #[.pointer (some ⟨h, 0, none⟩), .int .i64 (k : Int), opV kd a b g s] w (LStPost w0 h m R e N (w.cell? ⟨h, 0, none⟩)) := by
  by_cases h2 : kd = 2
  · subst h2; exact step_far I hk hm hR a b g s
  by_cases h3 : kd = 3
  · subst h3; exact step_around I hk hm hR hN he a b g s
  by_cases h4 : kd = 4
  · subst h4; exact step_reads I hk hm a b g s
  exact step_other I hk hm kd a b g s h2 h3 h4
theorem InvE.turns0 {w0 w w' : World} {h m R e N : Nat} (I : InvE w0 h m R e N w) (t : Turns (fun _ => False) w w') : InvE w0 h m R e N w' := by
  obtain ⟨col, u, v, E, sb, rb, I⟩ := I
  exact ⟨_, _, _, _, _, _, I.turns0 t⟩
theorem InvE.t {w0 w : World} {h m R e N : Nat} (I : InvE w0 h m R e N w) : Turns (fun _ => False) w0 w := by
  obtain ⟨col, u, v, E, sb, rb, I⟩ := I
  exact I.t
theorem dry_any {w0 w : World} {h m R e N : Nat} (I : InvE w0 h m R e N w) (he : e ≤ 4000000000) : Calls Tryz.prog 16 #[.pointer (some ⟨h, 2, none⟩)] w fun en w' => en = .returned (.bool true) ∧ InvE w0 h m R e N w' := by
  obtain ⟨col, u, v, E, sb, rb, I⟩ := I
  have hE := I.el
  have fin : ∀ (en : Ending) (w' : World), (en = .returned (.bool true) ∧ Turns (fun _ => False) w w') → en = .returned (.bool true) ∧ InvE w0 h m R e N w' := fun en w' ⟨h1, h2⟩ => ⟨h1, _, _, _, _, _, _, I.turns0 h2⟩
  rcases I.ls.own.2 with ⟨hv, _⟩ | ⟨g, cap, cur, hv, _⟩
  · have hb := I.box
    rw [hv] at hb
    exact (dry_none w h N u hb).mono (fun en w' hh => fin en w' hh)
  · exact (dry_nears w h (h + 1) N u v E I.box I.ls ⟨g, cap, hv⟩ (by omega)).mono (fun en w' hh => fin en w' hh)
set_option maxRecDepth 100000 in
set_option maxHeartbeats 1000000 in
theorem lpick_any (c : Int) (n : Nat) (w : World) (h0 : -9223372036854775808 ≤ c) (h1 : c ≤ 9223372036854775807) (hn : 0 < n) (hn2 : n ≤ 1000000000) :
    Calls Tryz.prog 15 #[.int .i64 c, .int .i64 n] w fun e w' => ∃ k : Nat, k < n ∧ e = .returned (.int .i64 (k : Int)) ∧ w' = w := by
  have hz : ((n : Int) == 0) = false := by simp; omega
  by_cases hc : c < 0
  · obtain ⟨k, hkd⟩ : ∃ k : Nat, k = (-(c + 1)).toNat % n := ⟨_, rfl⟩
    have hk : k < n := by rw [hkd]; exact Nat.mod_lt _ hn
    have H : Hid ((k : Int) = -((c + 1).tmod (n : Int))) := by
      show _ = _
      rw [hkd, Int.natCast_emod, Int.toNat_of_nonneg (by omega), ← Int.neg_tmod, Int.tmod_eq_emod_of_nonneg (by omega)]
    clear hkd
    go_enter Tryz.func15, Tryz.ntmps15
    go_wp2
    go_ret
    exact ⟨k, hk, ret_int H.out.symm, rfl⟩
  · obtain ⟨k, hkd⟩ : ∃ k : Nat, k = c.toNat % n := ⟨_, rfl⟩
    have hk : k < n := by rw [hkd]; exact Nat.mod_lt _ hn
    have H : Hid ((k : Int) = c % (n : Int)) := by
      show _ = _
      rw [hkd, Int.natCast_emod, Int.toNat_of_nonneg (by omega)]
    clear hkd
    go_enter Tryz.func15, Tryz.ntmps15
    go_wp2
    go_ret
    exact ⟨k, hk, ret_int H.out.symm, rfl⟩
/-- The world of stores, with none. -/
theorem InvE.new (w : World) : InvE w w.heap.size 0 0 0 0 (w.alloc (.cells #[.slice none 0 0, .slice none 0 0, .int .i64 0, .slice none 0 0, .slice none 0 0, .slice none 0 0] 47)) := by
  refine ⟨fun q => if q = w.heap.size then 1 else 0, (.slice none 0 0, .slice none 0 0), .slice none 0 0, [], fun _ => 0, fun _ => 0, heap_alloc_new w _, if_pos rfl, World.ownsRow_nil _ _ _ _, World.ownsRow_nil _ _ _ _, fun q hq => (by cases hq), fun q hq => (by cases hq), Lists.nil _ _ _ _, fun q hq => (by cases hq), fun y hy => (by cases hy), Nat.le_refl _, fun j hj => absurd hj (by omega), (Turns.refl _ w).alloc _, Nat.le_refl _, fun q hq => if_neg (by omega)⟩
/-- A saved store opens. -/
theorem saved_opens (hH : HeldSaid) {n : Nat} {len D : Nat → Nat → Int} {O : List Nat} (C : Pu.Cov n len D O) (hn1 : 1 ≤ n) (hn : n ≤ 40) (c : Nat) (h1 : 1 ≤ c) (h2 : c ≤ 8) : Opens ⟨(Pu.paged (Pu.heldB O (fun v => Pu.hubK D O v n) n)).toArray⟩ (c : Int) := by
  have hl := Pu.heldB_len (L := fun v => Pu.hubK D O v n) C.perm.len hn (fun v _ => Pu.hubK_len D O v n)
  have V := C.valid hn1 hn
  obtain ⟨HB, hHB⟩ : ∃ HB, HB = Pu.heldB O (fun v => Pu.hubK D O v n) n := ⟨_, rfl⟩
  rw [← hHB] at V hl ⊢
  obtain ⟨Z, a, g1, g2⟩ := V.rd
  obtain ⟨p, hp⟩ : ∃ p, p = (HB.length + 27) / 28 := ⟨_, rfl⟩
  obtain ⟨b, hb⟩ : ∃ b : ByteArray, b = ⟨(Pu.paged HB).toArray⟩ := ⟨_, rfl⟩
  have hbd : b.data.toList = Pu.paged HB := by rw [hb]
  rw [← hb]
  have hbl : b.size = 32 * p := by rw [size_list, hbd, Pu.paged_len, hp]
  have hk : Pu.heldK b.data.toList p = Pu.pad HB := by rw [hbd, hp]; exact Pu.paged_held HB
  exact opens_of hH b c p h1 h2 hbl (by omega) (by omega) (by rw [hbd]; exact Pu.paged_fw HB) (by rw [hk]; exact g1)
def shownB : ByteArray := ⟨#[52, 10, 48, 32, 49, 32, 53, 10, 49, 32, 50, 32, 49, 10, 48, 32, 50, 32, 55]⟩
/-- The store that the law begins with. -/
theorem first_any (hH : HeldSaid) (w : World) : Calls Tryz.prog 12 #[.string shownB, .string ⟨#[]⟩] w fun e w' => Turns (fun _ => False) w w' ∧ ∃ (b : ByteArray), Opens b 1 ∧ e = .returned (.tuple #[.string b, .int .i64 0, .int .i64 0]) := by
  refine (rsave_any shownB ⟨#[]⟩ w (by decide) (by decide)).mono ?_
  rintro e w' ⟨t, h⟩
  refine ⟨t, ?_⟩
  have hok : (match Pu.parse shownB.data.toList with
      | .err _ _ => false
      | .ok n _ _ => decide (1 ≤ n) && decide (n ≤ 40)) = true := by kernel_rfl
  cases hp : Pu.parse shownB.data.toList with
  | err c p => rw [hp] at hok; cases hok
  | ok n q len =>
    rw [hp] at h hok
    simp only at h hok
    rw [Bool.and_eq_true, decide_eq_true_eq, decide_eq_true_eq] at hok
    cases ho : Pu.orderOf (⟨#[]⟩ : ByteArray).data.toList n len with
    | none => unfold Pu.orderOf at ho; rw [if_pos (by rfl)] at ho; cases ho
    | some O =>
      rw [ho] at h
      simp only at h
      obtain ⟨D, C, he⟩ := h
      exact ⟨_, saved_opens hH C hok.1 hok.2 1 (by omega) (by omega), he⟩
end Go.Proofs.YtdogncjcainhlaaGreatDoor
/- The walk of the law Stores. -/
namespace Go.Proofs.YtdogncjcainhlaaGreatDoor
open Go.RowKit Go.Deep
open Mem

/-- A script that came in, as the walk is told of it. -/
def Ops (w : World) (ra : Option Addr) (K : Nat) (f : Nat → (Int × Int × Int × Int) × ByteArray) : Prop :=
  (0 < K → ∃ rb ro, ra = some ⟨rb, ro, none⟩ ∧ rb < w.heap.size ∧ ∀ i, i < K → w.cell? ⟨rb, ro + i * 5, none⟩ = some (.int .i64 (f i).1.1) ∧ w.cell? ⟨rb, ro + i * 5 + 1, none⟩ = some (.int .i64 (f i).1.2.1) ∧ w.cell? ⟨rb, ro + i * 5 + 2, none⟩ = some (.int .i64 (f i).1.2.2.1) ∧ w.cell? ⟨rb, ro + i * 5 + 3, none⟩ = some (.int .i64 (f i).1.2.2.2) ∧ w.cell? ⟨rb, ro + i * 5 + 4, none⟩ = some (.string (f i).2)) ∧
  ∀ i, i < K → -9223372036854775808 ≤ (f i).1.2.2.2 ∧ (f i).1.2.2.2 ≤ 9223372036854775807
/-- What holds while the script goes on. -/
def LwI (w0 : World) (h i : Nat) (m : Nat) (w : World) : Prop := ∃ R e N, InvE w0 h m R e N w ∧ 1 ≤ m ∧ m ≤ i + 1 ∧ R ≤ 300000 + 100000 * i ∧ e ≤ 100 + 4 * i ∧ N ≤ 100 + i
def LwPost (w : World) (e : Ending) (w' : World) : Prop := e = .returned (.bool true) ∧ Turns (fun _ => False) w w'
set_option maxRecDepth 100000 in
set_option maxHeartbeats 8000000 in
theorem stores_any (hH : HeldSaid) (w : World) (ra : Option Addr) (K cap : Nat) (f : Nat → (Int × Int × Int × Int) × ByteArray) (hK : K ≤ 2000000) (hf : Ops w ra K f) :
    Calls Tryz.prog 4 #[.slice ra K cap] w (LwPost w) := by
  obtain ⟨w1, hw1⟩ : ∃ w1, w1 = w.alloc (.cells #[.slice none 0 0, .slice none 0 0, .int .i64 0, .slice none 0 0, .slice none 0 0, .slice none 0 0] 47) := ⟨_, rfl⟩
  have HW1 : Hid (w.alloc (.cells #[.slice none 0 0, .slice none 0 0, .int .i64 0, .slice none 0 0, .slice none 0 0, .slice none 0 0] 47) = w1) := hw1.symm
  obtain ⟨h, hh⟩ : ∃ h, h = w.heap.size := ⟨_, rfl⟩
  have HHB : Hid (w.heap.size = h) := hh.symm
  have H1 : Hid (InvE w h 0 0 0 0 w1) := by show InvE _ _ _ _ _ _ _; rw [hw1, hh]; exact InvE.new w
  have HF : Hid (Ops w ra K f) := hf
  have HHS : Hid HeldSaid := hH
  have CF := first_any hH w1
  unfold shownB at CF
  clear hw1 hf hH hh
  go_enter Tryz.func4, Tryz.ntmps4
  go_wp2_with fail
  rw [HW1.out, HHB.out]
  refine CF.mono ?_
  rintro en w2 ⟨hT2, b, hb, rfl⟩
  have H2 : Hid (InvE w h 0 0 0 0 w2) := by
    obtain ⟨col, u, v, E, sb, rb, I⟩ := H1.out
    exact ⟨_, _, _, _, _, _, I.turns0 hT2⟩
  have HB : Hid (Opens b 1) := hb
  have CO := lopen_any HHS.out H2.out b 1 (by omega)
  clear CF H1 hT2 hb HW1 HHB
  go_wp2_with fail
  refine CO.mono ?_
  rintro en w3 ⟨rfl, m', _, _, hmust, hI3⟩
  have hm1 : m' = 0 + 1 := hmust HB.out
  subst hm1
  have C1 := lstep_any hI3 (k := 0) (by omega) (by omega) (by omega) (by omega) (by omega) 2 0 2 0 ⟨#[]⟩
  unfold opV at C1
  clear CO HB H2 hmust hI3
  go_wp2_with fail
  refine C1.mono ?_
  rintro en w4 ⟨rfl, N4, hN4, hI4, _⟩
  have C2 := lstep_any hI4 (k := 0) (by omega) (by omega) (by omega) (by omega) (by omega) 4 0 0 0 ⟨#[]⟩
  unfold opV at C2
  clear C1 hI4
  go_wp2_with fail
  refine C2.mono ?_
  rintro en w5 ⟨rfl, N5, hN5, hI5, _⟩
  have H5 : Hid (LwI w h 0 1 w5) := ⟨_, _, _, hI5, by omega, by omega, by omega, by omega, by omega⟩
  clear C2 hI5 hN5 hN4
  go_wp2_with fail
  go_loopw [7, 8] (fun ov iv wr => ∃ (i m : Nat) (wy : World), ov = .bool true ∧ iv = .int .i64 (i : Int) ∧ i ≤ K ∧ wy = wr ∧ Hid (LwI w h i m wy)) (fun _ iv _ => K - (intOf iv).toNat)
  case atStart => exact ⟨0, 1, w5, rfl, rfl, by omega, rfl, H5.out⟩
  case round =>
    clear H5
    obtain ⟨i, m, wr, rfl, rfl, hiK, hwy, HI⟩ := hrel
    subst hwy
    obtain ⟨R, e, N, hInv, hm1, hmi, hRb, heb, hNb⟩ := HI.out
    have HInv : Hid (InvE w h m R e N wr) := hInv
    obtain ⟨col, u, v, E, sb, rb, I⟩ := hInv
    have cs := I.box.cs
    have hhl := I.box.lt
    obtain ⟨g1, c1, hu1, _⟩ := own_some I.ss hm1
    rw [hu1] at cs
    have hT := I.t
    clear I hu1
    by_cases hlt : i < K
    · have hii : (i : Int) < (K : Int) := by omega
      obtain ⟨rbk, ro, hra, hrl, hc⟩ := HF.out.1 (by omega)
      have hgb := HF.out.2 i hlt
      obtain ⟨k0, k1, k2, k3, k4⟩ := hc i hlt
      generalize f i = fi at k0 k1 k2 k3 k4 hgb
      obtain ⟨⟨kd, a, b', g⟩, s⟩ := fi
      simp only at k0 k1 k2 k3 k4 hgb
      subst hra
      have q0 := (hT.cell (a := ⟨rbk, ro + i * 5, none⟩) hrl (fun x => x)).trans k0
      have q1 := (hT.cell (a := ⟨rbk, ro + i * 5 + 1, none⟩) hrl (fun x => x)).trans k1
      have q2 := (hT.cell (a := ⟨rbk, ro + i * 5 + 2, none⟩) hrl (fun x => x)).trans k2
      have q3 := (hT.cell (a := ⟨rbk, ro + i * 5 + 3, none⟩) hrl (fun x => x)).trans k3
      have q4 := (hT.cell (a := ⟨rbk, ro + i * 5 + 4, none⟩) hrl (fun x => x)).trans k4
      have ql := World.block_lt_of_cell? _ _ q0
      clear hc hT
      by_cases hkd : kd = 1
      · have n1 : (kd == 1) = true := by simpa using hkd
        have HCO : Hid (∀ wx, Turns (fun _ => False) wr wx → Calls Tryz.prog 13 #[.pointer (some ⟨h, 0, none⟩), .string s, .int .i64 a] wx (LOpPost w h m R e N (Opens s a))) := fun wx hx => lopen_any HHS.out (HInv.out.turns0 hx) s a (by omega)
        have HSC : Hid (∀ wx, Turns (fun _ => False) w wx → wx.cell? ⟨rbk, ro + i * 5 + 4, none⟩ = some (.string s) ∧ wx.cell? ⟨rbk, ro + i * 5 + 1, none⟩ = some (.int .i64 a)) := fun wx hx => ⟨(hx.cell (a := ⟨rbk, ro + i * 5 + 4, none⟩) hrl (fun x => x)).trans k4, (hx.cell (a := ⟨rbk, ro + i * 5 + 1, none⟩) hrl (fun x => x)).trans k1⟩
        clear hkd HI k1 k4 HInv
        go_wp2_with fail
        go_region_held3 (fun w' => w'.cell? ⟨rbk, ro + i * 5 + 4, none⟩ = some (.string s) ∧ w'.cell? ⟨rbk, ro + i * 5 + 1, none⟩ = some (.int .i64 a)) (go_keep)
          (first | (go_at_call 13; refine (HCO.out _ (by first | exact Turns.refl _ _ | exact (Turns.refl _ _).drew)).mono ?_; rintro en w6 ⟨rfl, m', hm2, hm3, _, hI6⟩; obtain ⟨j0, j1⟩ := HSC.out w6 hI6.t))
        all_goals
          have HI6 : Hid (InvE w h m' R e N w6) := hI6
          clear HCO HSC hI6 cs q0 q1 q2 q3 q4 ql hhl j0 j1
          go_wp2_with fail
          refine (dry_any HI6.out (by omega)).mono ?_
          rintro en w7 ⟨rfl, hI7⟩
          have H7 : Hid (LwI w h (i + 1) m' w7) := ⟨_, _, _, hI7, by omega, by omega, by omega, by omega, by omega⟩
          clear HI6 hI7
          go_wp2
          go_roundw
          case measure => simp [intOf]; omega
          case rel => exact ⟨i + 1, m', w7, rfl, by go_num, by omega, rfl, H7.out⟩
      · have n1 : (kd == 1) = false := by simpa using hkd
        have HCP : Hid (∀ wx, Calls Tryz.prog 15 #[.int .i64 g, .int .i64 (m : Int)] wx fun e w' => ∃ k : Nat, k < m ∧ e = .returned (.int .i64 (k : Int)) ∧ w' = wx) := fun wx => lpick_any g m wx hgb.1 hgb.2 (by omega) (by omega)
        have HST : Hid (∀ wx (k : Nat), Turns (fun _ => False) wr wx → k < m → Calls Tryz.prog 14 #[.pointer (some ⟨h, 0, none⟩), .int .i64 (k : Int), .agg #[.int .i64 kd, .int .i64 a, .int .i64 b', .int .i64 g, .string s]] wx (LStPost w h m R e N (some (.slice (some ⟨g1, 0, none⟩) m c1)))) := fun wx k hx hk => by
          have h8 := lstep_any (HInv.out.turns0 hx) hk (by omega) (by omega) (by omega) (by omega) kd a b' g s
          rw [(hx.cell (a := ⟨h, 0, none⟩) hhl (fun x => x)).trans cs] at h8
          exact h8
        have HSC : Hid (∀ wx, Turns (fun _ => False) w wx → wx.cell? ⟨rbk, ro + i * 5, none⟩ = some (.int .i64 kd) ∧ wx.cell? ⟨rbk, ro + i * 5 + 1, none⟩ = some (.int .i64 a) ∧ wx.cell? ⟨rbk, ro + i * 5 + 2, none⟩ = some (.int .i64 b') ∧ wx.cell? ⟨rbk, ro + i * 5 + 3, none⟩ = some (.int .i64 g) ∧ wx.cell? ⟨rbk, ro + i * 5 + 4, none⟩ = some (.string s)) := fun wx hx => ⟨(hx.cell (a := ⟨rbk, ro + i * 5, none⟩) hrl (fun x => x)).trans k0, (hx.cell (a := ⟨rbk, ro + i * 5 + 1, none⟩) hrl (fun x => x)).trans k1, (hx.cell (a := ⟨rbk, ro + i * 5 + 2, none⟩) hrl (fun x => x)).trans k2, (hx.cell (a := ⟨rbk, ro + i * 5 + 3, none⟩) hrl (fun x => x)).trans k3, (hx.cell (a := ⟨rbk, ro + i * 5 + 4, none⟩) hrl (fun x => x)).trans k4⟩
        clear hkd HI k0 k1 k2 k3 k4 HInv
        go_wp2_with fail
        go_region_held3 (fun w' => w'.cell? ⟨rbk, ro + i * 5, none⟩ = some (.int .i64 kd) ∧ w'.cell? ⟨rbk, ro + i * 5 + 1, none⟩ = some (.int .i64 a) ∧ w'.cell? ⟨rbk, ro + i * 5 + 2, none⟩ = some (.int .i64 b') ∧ w'.cell? ⟨rbk, ro + i * 5 + 3, none⟩ = some (.int .i64 g) ∧ w'.cell? ⟨rbk, ro + i * 5 + 4, none⟩ = some (.string s) ∧ w'.cell? ⟨h, 0, none⟩ = some (.slice (some ⟨g1, 0, none⟩) m c1)) (go_keep)
          (first
            | (go_at_call 15; refine (HCP.out _).mono ?_; rintro en wq ⟨k, hk, rfl, hwq⟩; subst wq)
            | (go_at_call 14; refine (HST.out _ k (by first | exact Turns.refl _ _ | exact (Turns.refl _ _).drew) hk).mono ?_; rintro en w6 ⟨rfl, N6, hN6, hI6, j5⟩; obtain ⟨j0, j1, j2, j3, j4⟩ := HSC.out w6 hI6.t))
        all_goals
          have HI6 : Hid (InvE w h m (R + 100000) (e + 4) N6 w6) := hI6
          clear HCP HST HSC hI6 cs q0 q1 q2 q3 q4 ql hhl j0 j1 j2 j3 j4 j5
          go_wp2_with fail
          refine (dry_any HI6.out (by omega)).mono ?_
          rintro en w7 ⟨rfl, hI7⟩
          have H7 : Hid (LwI w h (i + 1) m w7) := ⟨_, _, _, hI7, by omega, by omega, by omega, by omega, by omega⟩
          clear HI6 hI7
          go_wp2
          go_roundw
          case measure => simp [intOf]; omega
          case rel => exact ⟨i + 1, m, w7, rfl, by go_num, by omega, rfl, H7.out⟩
    · have hii : ¬ (i : Int) < (K : Int) := by omega
      have hie : i = K := by omega
      have H6 : Hid (∃ N', N' ≤ N + 3 * 0 ∧ InvE w h m (R + 300000 * 0) (e + 12 * 0) N' wr) := ⟨N, by omega, HInv.out⟩
      clear HI HInv hT HF HHS
      go_wp2_with fail
      go_loopw [7, 10] (fun ov kv wr => ∃ (k : Nat) (wy : World), ov = .bool true ∧ kv = .int .i64 (k : Int) ∧ k ≤ m ∧ wy = wr ∧ Hid (∃ N', N' ≤ N + 3 * k ∧ InvE w h m (R + 300000 * k) (e + 12 * k) N' wy)) (fun _ kv _ => m - (intOf kv).toNat)
      case atStart => exact ⟨0, wr, rfl, rfl, by omega, rfl, H6.out⟩
      case round =>
        clear H6 cs hhl
        obtain ⟨k, wr, rfl, rfl, hkm, hwy, HI⟩ := hrel
        subst hwy
        obtain ⟨N', hN', hInv⟩ := HI.out
        have HInv : Hid (InvE w h m (R + 300000 * k) (e + 12 * k) N' wr) := hInv
        obtain ⟨col, u, v, E, sb, rb, I⟩ := hInv
        have cs := I.box.cs
        have hhl := I.box.lt
        obtain ⟨g1, c1, hu1, _⟩ := own_some I.ss hm1
        rw [hu1] at cs
        clear I hu1 HI
        by_cases hlt : k < m
        · have hkk : (k : Int) < (m : Int) := by omega
          have C1 := lstep_any HInv.out hlt (by omega) (by omega) (by omega) (by omega) 4 0 0 0 ⟨#[]⟩
          unfold opV at C1
          clear HInv
          go_wp2_with fail
          refine C1.mono ?_
          rintro en w6 ⟨rfl, N6, hN6, hI6, _⟩
          have C2 := lstep_any hI6 hlt (by omega) (by omega) (by omega) (by omega) 3 0 40 0 ⟨#[]⟩
          unfold opV at C2
          clear C1 hI6 cs hhl
          go_wp2_with fail
          refine C2.mono ?_
          rintro en w7 ⟨rfl, N7, hN7, hI7, _⟩
          have C3 := lstep_any hI7 hlt (by omega) (by omega) (by omega) (by omega) 4 0 0 0 ⟨#[]⟩
          unfold opV at C3
          clear C2 hI7
          go_wp2_with fail
          refine C3.mono ?_
          rintro en w8 ⟨rfl, N8, hN8, hI8, _⟩
          have H8 : Hid (∃ N', N' ≤ N + 3 * (k + 1) ∧ InvE w h m (R + 300000 * (k + 1)) (e + 12 * (k + 1)) N' w8) := by
            have a1 : R + 300000 * k + 100000 + 100000 + 100000 = R + 300000 * (k + 1) := by omega
            have a2 : e + 12 * k + 4 + 4 + 4 = e + 12 * (k + 1) := by omega
            rw [a1, a2] at hI8
            exact ⟨N8, by omega, hI8⟩
          clear C3 hI8
          go_wp2
          go_roundw
          case measure => simp [intOf]; omega
          case rel => exact ⟨k + 1, w8, rfl, by go_num, by omega, rfl, H8.out⟩
        · have hkk : ¬ (k : Int) < (m : Int) := by omega
          go_wp2_with fail
          refine (dry_any HInv.out (by omega)).mono ?_
          rintro en w6 ⟨rfl, hI6⟩
          have HX : Hid (LwPost w (.returned (.bool true)) w6) := ⟨rfl, hI6.t⟩
          clear HInv hI6 cs hhl
          go_wp2
          go_ret
          exact HX.out
end Go.Proofs.YtdogncjcainhlaaGreatDoor
/- Proved: where what it reads is of bulk at most 1048576, for every script the law bywaylaw.Stores returns true, and the script reads afterwards as it read before: Open of any bytes, Far, Around and Reads answer as the document's own store does, in every order, several stores side by side; lists that came out are their owner's. Conditions: the row's own bound (the first form is false by size alone); Go's two listed tables of unicode/utf8 start as their texts lay them (the card ties them). -/
namespace Go.Proofs.YtdogncjcainhlaaGreatDoor
open Go.ChangeShapes Go.WideShapes Go.ChangeAt Go.RowKit
open Mem

theorem bulk_pos {H : Type} (d : DataW H) : 1 ≤ Rows.uptoBulk d := by
  cases d with
  | lit l => cases l <;> simp [Rows.uptoBulk]
  | _ => simp [Rows.uptoBulk]
theorem bulk_len {H : Type} : ∀ l : List (DataW H), l.length ≤ Rows.uptoBulkAll l
  | [] => Nat.zero_le _
  | d :: r => by
    have h1 := bulk_pos d
    have h2 := bulk_len r
    rw [List.length_cons, Rows.uptoBulkAll]
    omega
theorem trod_struct5 {H : Type} {enc : TypeId × Value → H} {P : Program} {w : World} {base : Nat} {spare : Nat → Bool} {held : Bool} {t : TypeId} {f0 f1 f2 f3 f4 : Field} {fuel : Nat} {cs : List Value} {x : DataW H × List MemPlace} (ht : P.underlying t = some (.struct #[f0, f1, f2, f3, f4])) (h : DataW.trod enc P w base spare held fuel t cs = some x) :
    ∃ y0 y1 y2 y3 y4 n, cs.length = P.cellsOf t ∧ DataW.trod enc P w base spare held n f0.type ((cs.drop f0.offset).take (P.cellsOf f0.type)) = some y0 ∧ DataW.trod enc P w base spare held n f1.type ((cs.drop f1.offset).take (P.cellsOf f1.type)) = some y1 ∧ DataW.trod enc P w base spare held n f2.type ((cs.drop f2.offset).take (P.cellsOf f2.type)) = some y2 ∧ DataW.trod enc P w base spare held n f3.type ((cs.drop f3.offset).take (P.cellsOf f3.type)) = some y3 ∧ DataW.trod enc P w base spare held n f4.type ((cs.drop f4.offset).take (P.cellsOf f4.type)) = some y4 := by
  obtain ⟨xs, n, _, rfl, hl, hlen, hf⟩ := DataW.trod_struct ht h
  match xs, hlen with
  | [y0, y1, y2, y3, y4], _ => exact ⟨y0, y1, y2, y3, y4, n, hl, by simpa using hf 0 f0 rfl, by simpa using hf 1 f1 rfl, by simpa using hf 2 f2 rfl, by simpa using hf 3 f3 rfl, by simpa using hf 4 f4 rfl⟩
theorem cellsOp : Tryz.prog.cellsOf 53 = 5 := by kernel_rfl
theorem cells9 : Tryz.prog.cellsOf 9 = 1 := by kernel_rfl
theorem five {l : List Value} (h : l.length = 5) : ∃ a b c d e, l = [a, b, c, d, e] := by
  match l, h with
  | [a, b, c, d, e], _ => exact ⟨a, b, c, d, e, rfl⟩
/-- A script that came in, as the walk is told of it. -/
theorem ops_of {H : Type} {enc : TypeId × Value → H} {W : World} {ra : Option Addr} {K cap : Nat} {d : DataW H} {p : List MemPlace} (h : DataW.Trod enc Tryz.prog W 0 (fun _ => true) true 37 (Value.slice ra K cap) d p) : K ≤ Rows.uptoBulk d ∧ ∃ f, Ops W ra K f := by
  obtain ⟨fuel, hf⟩ := h
  rcases Deep.open_slice Tryz.underlying37 hf with ⟨hcs, _⟩ | ⟨a, len, cap', m, n, D, Pl, hcs, _, hl, hm, hmm, hxe, hx⟩
  · simp [Value.cells] at hcs
    obtain ⟨rfl, rfl, rfl⟩ := hcs
    exact ⟨by omega, fun _ => ((0, 0, 0, 0), ⟨#[]⟩), fun h => absurd h (by omega), fun i h => absurd h (by omega)⟩
  · simp [Value.cells] at hcs
    obtain ⟨rfl, rfl, rfl⟩ := hcs
    have hlm : K ≤ m := by rw [hmm]; split <;> omega
    have hd : d = .slice ((List.range K).map D) ((List.range (m - K)).map fun j => D (K + j)) := congrArg Prod.fst hxe
    refine ⟨?_, ?_⟩
    · have := bulk_len ((List.range K).map D)
      rw [hd, Rows.uptoBulk]
      simp at this
      omega
    rw [cellsOp] at hx
    have each : ∀ i, i < K → ∃ t : (Int × Int × Int × Int) × ByteArray, (W.cell? (a.add (i * 5)) = some (.int .i64 t.1.1) ∧ W.cell? (a.add (i * 5 + 1)) = some (.int .i64 t.1.2.1) ∧ W.cell? (a.add (i * 5 + 2)) = some (.int .i64 t.1.2.2.1) ∧ W.cell? (a.add (i * 5 + 3)) = some (.int .i64 t.1.2.2.2) ∧ W.cell? (a.add (i * 5 + 4)) = some (.string t.2)) ∧ (Lit.int .i64 t.1.2.2.2).wf = true := by
      intro i hi
      obtain ⟨cs', h1, h2⟩ := hx i (by omega)
      obtain ⟨_, hlen, hcell⟩ := World.cells?_some h1
      obtain ⟨y0, y1, y2, y3, y4, k, _, g0, g1, g2, g3, g4⟩ := trod_struct5 Tryz.underlying53 h2
      obtain ⟨v0, v1, v2, v3, v4, rfl⟩ := five hlen
      simp [cells3, cells9] at g0 g1 g2 g3 g4
      obtain ⟨x0, e0, _, w0⟩ := DataW.trod_int Tryz.underlying3 g0
      obtain ⟨x1, e1, _, w1⟩ := DataW.trod_int Tryz.underlying3 g1
      obtain ⟨x2, e2, _, w2⟩ := DataW.trod_int Tryz.underlying3 g2
      obtain ⟨x3, e3, _, w3⟩ := DataW.trod_int Tryz.underlying3 g3
      obtain ⟨x4, e4, _, _⟩ := DataW.trod_string Tryz.underlying9 g4
      simp at e0 e1 e2 e3 e4
      subst e0 e1 e2 e3 e4
      have c0 := hcell 0 (by omega)
      have c1 := hcell 1 (by omega)
      have c2 := hcell 2 (by omega)
      have c3 := hcell 3 (by omega)
      have c4 := hcell 4 (by omega)
      rw [Deep.add_add] at c0 c1 c2 c3 c4
      exact ⟨((x0, x1, x2, x3), x4), ⟨by simpa using c0, by simpa using c1, by simpa using c2, by simpa using c3, by simpa using c4⟩, w3⟩
    obtain ⟨f, hr⟩ := Deep.choose_lt each
    refine ⟨f, fun h0 => ?_, fun i hi => wf_i64 (hr i hi).2⟩
    have hsp := spot_none (hr 0 h0).1.1
    obtain ⟨b, o, sp⟩ := a
    simp [Addr.add] at hsp
    subst hsp
    refine ⟨b, o, rfl, World.block_lt_of_cell? W _ (hr 0 h0).1.1, fun i hi => ?_⟩
    have hh := (hr i hi).1
    rw [add_none, add_none, add_none, add_none, add_none] at hh
    refine ⟨hh.1, ?_, ?_, ?_, ?_⟩
    · rw [Nat.add_assoc]; exact hh.2.1
    · rw [Nat.add_assoc]; exact hh.2.2.1
    · rw [Nat.add_assoc]; exact hh.2.2.2.1
    · rw [Nat.add_assoc]; exact hh.2.2.2.2
set_option maxRecDepth 100000 in
theorem stores_contract (hH : HeldSaid) (H : Type) (enc : TypeId × Value → H) (W : World) (base : Nat) (args : Array Value) (ds gs : List (DataW H)) (before : List MemPlace)
    (hval : ∀ (j : Nat) t v, Tryz.f4.params[j]? = some t → args[j]? = some v → Value.okWide Tryz.prog W .any base t v)
    (hW : DataW.Whole enc Tryz.prog Tryz.f4.params.toList Rows.storesSpec.vars false W args.toList ds gs before) (hk : Rows.uptoBulkAll (ds ++ gs) ≤ 1048576) :
    Calls Tryz.prog 4 args W fun e W' => ∃ v, e = .returned v ∧ Rows.storesSpec.post enc Tryz.prog Tryz.f4 false true false false W args v W' := by
  have hW' := hW
  obtain ⟨p, q, hA0, hV, rfl, hfz, hnd⟩ := hW
  have hA : DataW.TrodAll enc Tryz.prog W 0 (fun _ => true) true Tryz.f4.params.toList args.toList ds p := hA0
  rw [Tryz.params4] at hA hval
  obtain ⟨v0, vs0, d0, ds0, p0, q0, hargs, rfl, rfl, h0, r0⟩ := trodAll_cons hA
  obtain ⟨rfl, rfl, rfl⟩ := trodAll_nil r0
  obtain rfl : args = #[v0] := by cases args; simp_all
  obtain ⟨rfl, rfl⟩ := trodVars_none hV
  obtain ⟨ra, K, cap, rfl⟩ := okWide_slice Tryz.underlying37 (hval 0 37 v0 rfl rfl)
  have k0 := h0
  have lt0 : ∀ x ∈ p0, x.block < W.heap.size := by obtain ⟨m, hm⟩ := k0; exact DataW.trod_lt m _ _ _ hm
  obtain ⟨hKb, f, hOps⟩ := ops_of h0
  clear hA0
  have hK : K ≤ 2000000 := by
    simp only [List.append_nil, Rows.uptoBulkAll] at hk
    omega
  refine (stores_any hH W ra K cap f hK hOps).mono fun e W' ⟨he, hT⟩ => ?_
  subst he
  have bel := hT.below
  exact ⟨_, rfl, _, _, _, [], _, [], hW', trodAll_mk1 (shut_bool Tryz.underlying4 _), (trodAll_cons_mk (Below.trod laidOut (by kernel_rfl) (of_decide_eq_true (by kernel_rfl)) k0 bel lt0) trodAll_mk0), rfl, bel.frame _, fun h => by cases h⟩

theorem stores_laid (os : Os) : laidMet Tryz.prog Rows.storesUptoRow.laid ((laidWorld os).forCall (fun _ _ => 0) ⟨#[], #[.slice none 0 0], []⟩).memory :=
  laidMet_of_run' 8 (by kernel_rfl) (by kernel_rfl)
theorem stores_reads (os : Os) {H : Type} (enc : TypeId × Value → H) : ∃ places, DataW.whole enc Tryz.prog ((laidWorld os).forCall (fun _ _ => 0) ⟨#[], #[.slice none 0 0], []⟩).memory Tryz.f4.params.toList Rows.storesSpec.vars false #[Value.slice none 0 0].toList 8 = some ([.nil], [], places) :=
  ⟨[], by kernel_rfl⟩

set_option maxRecDepth 100000 in
theorem stores_lifted (hH : HeldSaid) (os : Os) (started : os.Started) (H : Type) (enc : TypeId × Value → H) (F : Stop.Interp) :
    ReturnsInHanded {} Tryz.checked os 4 .any ((Rows.OpenSpec.upto Rows.storesSpec).preRow enc Tryz.prog Tryz.f4 Rows.storesUptoRow.domain false Rows.storesUptoRow.laid) (((Rows.OpenSpec.upto Rows.storesSpec).at F).post enc Tryz.prog Tryz.f4 false true false false) := by
  obtain ⟨places, hx⟩ := stores_reads os enc
  refine returnsInHanded_of_row (C := Tryz.checked) (s := Rows.OpenSpec.upto Rows.storesSpec) own started (by kernel_rfl) Tryz.func4
    (witness_row_at (enc := enc) (C := Tryz.checked) false (laidWorld os) #[.slice none 0 0] rfl (by kernel_rfl) (by kernel_rfl) (by kernel_rfl)
      (OpenSpec.preRow_of_cond 8 hx (by kernel_rfl) (fun k hk => by cases hk; kernel_rfl) (by kernel_rfl) (stores_laid os))) ?_
  intro W base args ds gs before hval hW _ hcond _ _ _ _
  exact stores_contract hH H enc W base args ds gs before hval hW (of_decide_eq_true (hcond _ rfl))

theorem stores_said (hH : HeldSaid) : Rows.StoresUptoSaid :=
  OpenClaim.holds_of_cond 4 Tryz.f4 rfl rfl rfl rfl rfl rfl rfl ⟨rfl, rfl, rfl, rfl, rfl⟩ rfl rfl rfl rfl rfl (by kernel_rfl) Tryz.func4 (by kernel_rfl)
    (of_decide_eq_true (by kernel_rfl)) (by unfold Func.isWrapper; first | (rw [if_pos (by decide +kernel)]; kernel_rfl) | (rw [if_neg (by decide +kernel)]; exact ⟨rfl, rfl⟩))
    (fun os started H enc _ F => by rw [OpenClaim.pre_eq_preRow]; exact stores_lifted hH os started H enc F)

/-- No parameter wants a stand-in; the program's own looks are off. -/
theorem stores_plain (f : FuncId) (fn : Func) (hf : Tryz.pinned.checked.prog.funcNamed "byway/bywaylaw.Stores" = some f) (hfn : Tryz.pinned.checked.prog.funcs[f]? = some fn) :
    false = Tryz.pinned.checked.prog.looks [] ∧ ∀ (j : Nat) t, fn.params[j]? = some t → Tryz.pinned.checked.prog.wantsStandIn t = false := by
  obtain rfl : f = 4 := Option.some.inj ((show Tryz.prog.funcNamed "byway/bywaylaw.Stores" = some 4 by kernel_rfl).symm.trans hf) |>.symm
  obtain rfl : fn = Tryz.f4 := (Option.some.inj (Tryz.func4.symm.trans hfn)).symm
  refine ⟨by kernel_rfl, fun j t ht => ?_⟩
  rw [Tryz.params4] at ht
  have h : t = 37 := by simpa using Array.mem_of_getElem? ht
  subst h
  exact (show Tryz.prog.wantsStandIn 37 = false by kernel_rfl)

theorem stores_card_of (hH : HeldSaid) : Rows.StoresUptoCardSaid :=
  Claim7.holds_tied_plain_at .later [] _ _ _ _ (stores_said hH) (fun _ h => by cases h) (by kernel_rfl) (fun _ h => by cases h) storesUpto_row_tie rfl ⟨rfl, rfl⟩ (by kernel_rfl) rfl stores_plain (by kernel_rfl)
#print axioms stores_card_of
end Go.Proofs.YtdogncjcainhlaaGreatDoor
/- The walk of the reference's Taker: a byte, a count. -/
namespace Go.Proofs.YtdogncjcainhlaaGreatDoor
open Go.RowKit Go.Deep
open Mem

/-- Block b holds a taker: its bytes, how far it is, whether something is wrong. -/
def TkB (w : World) (b : Nat) (s : ByteArray) (at_ : Nat) (bad : Bool) : Prop := w.heap[b]? = some (.cells #[.string s, .int .i64 (at_ : Int), .bool bad] 220 (0, 0))
section
variable {w : World} {b : Nat} {s : ByteArray} {a : Nat} {bad : Bool}
theorem TkB.lt (h : TkB w b s a bad) : b < w.heap.size := lt_of_block h
theorem TkB.free (h : TkB w b s a bad) (j : Nat) : w.frozen? ⟨b, j, none⟩ = false := by unfold TkB at h; simp [World.frozen?, h]
theorem TkB.c0 (h : TkB w b s a bad) : w.cell? ⟨b, 0, none⟩ = some (.string s) := by unfold TkB at h; simp [World.cell?, h]
theorem TkB.c1 (h : TkB w b s a bad) : w.cell? ⟨b, 1, none⟩ = some (.int .i64 (a : Int)) := by unfold TkB at h; simp [World.cell?, h]
theorem TkB.c2 (h : TkB w b s a bad) : w.cell? ⟨b, 2, none⟩ = some (.bool bad) := by unfold TkB at h; simp [World.cell?, h]
theorem TkB.turns {p : Nat → Prop} {w' : World} (h : TkB w b s a bad) (t : Turns p w w') (hp : ¬ p b) : TkB w' b s a bad := (t.block b h.lt hp).trans h
theorem TkB.set1 (h : TkB w b s a bad) (x : Nat) : TkB (w.setCell ⟨b, 1, none⟩ (.int .i64 (x : Int))) b s x bad := Mem.heap_setCell_same h _
theorem TkB.set2 (h : TkB w b s a bad) (x : Bool) : TkB (w.setCell ⟨b, 2, none⟩ (.bool x)) b s a x := Mem.heap_setCell_same h _
end
/-- What a taker hands back: a byte, or something is wrong. -/
def OnePost (w : World) (b : Nat) (s : ByteArray) (a : Nat) (e : Ending) (w' : World) : Prop := Turns (fun q => q = b) w w' ∧ match s.data.toList[a]? with
  | none => e = .returned (.int .i64 0) ∧ TkB w' b s a true
  | some x => e = .returned (.int .i64 (x.toNat : Int)) ∧ TkB w' b s (a + 1) false
set_option maxRecDepth 100000 in
set_option maxHeartbeats 1000000 in
theorem one_bad {w : World} {b : Nat} {s : ByteArray} {a : Nat} (h : TkB w b s a true) :
    Calls Tryz.prog 110 #[.pointer (some ⟨b, 0, none⟩)] w fun e w' => e = .returned (.int .i64 0) ∧ TkB w' b s a true ∧ Turns (fun q => q = b) w w' := by
  have c0 := h.c0
  have c1 := h.c1
  have c2 := h.c2
  have f2 := h.free 2
  have HX : Hid (∀ q, TkB ((w.drewN q).setCell ⟨b, 2, none⟩ (.bool true)) b s a true ∧ Turns (fun q => q = b) w ((w.drewN q).setCell ⟨b, 2, none⟩ (.bool true))) := fun q => ⟨TkB.set2 (w := w.drewN q) h true, ((Turns.refl (fun q => q = b) w).drewN q).setCell (x := ⟨b, 2, none⟩) (Or.inr rfl) _⟩
  clear h
  go_enter Tryz.func110, Tryz.ntmps110
  go_wp2_with fail
  go_quiet (fail)
  all_goals
    go_wp2
    go_ret
    exact ⟨rfl, HX.out _⟩
set_option maxRecDepth 100000 in
set_option maxHeartbeats 1000000 in
theorem one_any {w : World} {b : Nat} {s : ByteArray} {a : Nat} (h : TkB w b s a false) (hs : s.size ≤ 100000) :
    Calls Tryz.prog 110 #[.pointer (some ⟨b, 0, none⟩)] w (OnePost w b s a) := by
  have c0 := h.c0
  have c1 := h.c1
  have c2 := h.c2
  have f1 := h.free 1
  have f2 := h.free 2
  have hbl := h.lt
  have hsl : s.data.toList.length = s.size := (size_list s).symm
  unfold OnePost
  cases e : s.data.toList[a]? with
  | none =>
    have hge : s.size ≤ a := by have := List.getElem?_eq_none_iff.1 e; omega
    have hge' : (s.size : Int) ≤ (a : Int) := by omega
    have HX : Hid (∀ q, Turns (fun q => q = b) w ((w.drewN q).setCell ⟨b, 2, none⟩ (.bool true)) ∧ TkB ((w.drewN q).setCell ⟨b, 2, none⟩ (.bool true)) b s a true) := fun q => ⟨((Turns.refl (fun q => q = b) w).drewN q).setCell (x := ⟨b, 2, none⟩) (Or.inr rfl) _, TkB.set2 (w := w.drewN q) h true⟩
    clear h e hsl
    go_enter Tryz.func110, Tryz.ntmps110
    go_wp2_with fail
    go_quiet (fail)
    all_goals
      go_wp2
      go_ret
      exact ⟨(HX.out _).1, rfl, (HX.out _).2⟩
  | some x =>
    have hlt : a < s.size := by have := (List.getElem?_eq_some_iff.1 e).1; omega
    have hge' : ¬ (s.size : Int) ≤ (a : Int) := by omega
    have hge2 : (a : Int) < (s.size : Int) := by omega
    have hw : IntKind.i64.wrap ((a : Int) + 1) = ((a + 1 : Nat) : Int) := by rw [IntKind.wrap_i64]; omega
    have HX : Hid (∀ q, Turns (fun q => q = b) w ((w.drewN q).setCell ⟨b, 1, none⟩ (.int .i64 ((a : Int) + 1))) ∧ TkB ((w.drewN q).setCell ⟨b, 1, none⟩ (.int .i64 ((a : Int) + 1))) b s (a + 1) false) := fun q => ⟨((Turns.refl (fun q => q = b) w).drewN q).setCell (x := ⟨b, 1, none⟩) (Or.inr rfl) _, TkB.set1 (w := w.drewN q) h (a + 1)⟩
    clear h hsl
    go_enter Tryz.func110, Tryz.ntmps110
    go_wp2_with fail
    go_quiet (fail)
    go_wp2_with fail
    have HN : Hid (∃ w1, w1 = (w.drewN nq).setCell ⟨b, 1, none⟩ (.int .i64 ((a : Int) + 1))) := ⟨_, rfl⟩
    obtain ⟨w1, hw1⟩ := HN.out
    have H1 := HX.out nq
    rw [← hw1] at H1 ⊢
    have d0 := H1.2.c0
    have d1 := H1.2.c1
    have HF : Hid (∀ q, Turns (fun q => q = b) w (w1.drewN q) ∧ TkB (w1.drewN q) b s (a + 1) false) := fun q => ⟨H1.1.drewN q, H1.2⟩
    have HV : Hid (Ending.returned (.int .i64 (wrap64 (((s[a]'hlt).toNat : Nat) : Int))) = .returned (.int .i64 (x.toNat : Int))) := by
      have h1 := (List.getElem?_eq_some_iff.1 e).2
      have h2 : s[a]'hlt = x := by rw [← h1]; rfl
      rw [h2]
      have := x.toNat_lt
      have h3 : wrap64 (x.toNat : Int) = (x.toNat : Int) := by unfold wrap64; omega
      rw [h3]
      exact rfl
    clear H1 HX HN hw1
    go_quiet (fail)
    go_wp2
    go_ret
    exact ⟨(HF.out _).1, HV.out, (HF.out _).2⟩
/-- What a count hands back. -/
def CntPost (w : World) (b : Nat) (s : ByteArray) (a : Nat) (e : Ending) (w' : World) : Prop := Turns (fun q => q = b) w w' ∧ match Pu.cntR (s.data.toList.drop a) with
  | none => ∃ (x : Int) (a' : Nat), e = .returned (.int .i64 x) ∧ -200 ≤ x ∧ x ≤ 10000000 ∧ TkB w' b s a' true
  | some (n, k) => e = .returned (.int .i64 (n : Int)) ∧ TkB w' b s (a + k) false
set_option maxRecDepth 100000 in
set_option maxHeartbeats 1000000 in
theorem count_bad {w : World} {b : Nat} {s : ByteArray} {a : Nat} (h : TkB w b s a true) :
    Calls Tryz.prog 111 #[.pointer (some ⟨b, 0, none⟩)] w fun e w' => e = .returned (.int .i64 0) ∧ TkB w' b s a true ∧ Turns (fun q => q = b) w w' := by
  have k := one_bad h
  clear h
  go_enter Tryz.func111, Tryz.ntmps111
  go_wp2_with fail
  refine k.mono ?_
  rintro e w1 ⟨rfl, h1, h2⟩
  have HX : Hid (TkB w1 b s a true ∧ Turns (fun q => q = b) w w1) := ⟨h1, h2⟩
  clear k h1 h2
  go_wp2
  go_ret
  exact ⟨rfl, HX.out⟩
namespace Pu
theorem cntR_1 {x : UInt8} (r : List UInt8) (h : x.toNat < 128) : cntR (x :: r) = some (x.toNat, 1) := by simp [cntR, h]
theorem cntR_1n {x : UInt8} (h : ¬ x.toNat < 128) : cntR [x] = none := by simp [cntR, h]
theorem cntR_2 {x y : UInt8} (r : List UInt8) (h : ¬ x.toNat < 128) (h1 : y.toNat < 128) (h2 : y.toNat ≠ 0) : cntR (x :: y :: r) = some (x.toNat - 128 + 128 * y.toNat, 2) := by simp [cntR, h, h1, h2]
theorem cntR_20 {x y : UInt8} (r : List UInt8) (h : ¬ x.toNat < 128) (h2 : y.toNat = 0) : cntR (x :: y :: r) = none := by simp [cntR, h, h2]
theorem cntR_2n {x y : UInt8} (h : ¬ x.toNat < 128) (h1 : ¬ y.toNat < 128) : cntR [x, y] = none := by simp [cntR, h, h1]
theorem cntR_3 {x y z : UInt8} (r : List UInt8) (h : ¬ x.toNat < 128) (h1 : ¬ y.toNat < 128) (h2 : z.toNat ≠ 0) (h3 : ¬ 127 < z.toNat) : cntR (x :: y :: z :: r) = some (x.toNat - 128 + 128 * (y.toNat - 128) + 16384 * z.toNat, 3) := by simp [cntR, h, h1, h2]; omega
theorem cntR_3n {x y z : UInt8} (r : List UInt8) (h : ¬ x.toNat < 128) (h1 : ¬ y.toNat < 128) (h2 : z.toNat = 0 ∨ 127 < z.toNat) : cntR (x :: y :: z :: r) = none := by simp [cntR, h, h1, h2]
end Pu
theorem drop_get (l : List UInt8) (a j : Nat) : (l.drop a)[j]? = l[a + j]? := List.getElem?_drop
theorem drop_cons {l : List UInt8} {a : Nat} {x : UInt8} (h : l[a]? = some x) : l.drop a = x :: l.drop (a + 1) := by
  obtain ⟨h1, h2⟩ := List.getElem?_eq_some_iff.1 h
  rw [List.drop_eq_getElem_cons h1, h2]
theorem drop_none {l : List UInt8} {a : Nat} (h : l[a]? = none) : l.drop a = [] := List.drop_eq_nil_of_le (List.getElem?_eq_none_iff.1 h)
set_option maxRecDepth 100000 in
set_option maxHeartbeats 2000000 in
theorem tkcount_any {w : World} {b : Nat} {s : ByteArray} {a : Nat} (h : TkB w b s a false) (hs : s.size ≤ 100000) :
    Calls Tryz.prog 111 #[.pointer (some ⟨b, 0, none⟩)] w (CntPost w b s a) := by
  have k := one_any h hs
  unfold OnePost at k
  unfold CntPost
  cases e0 : s.data.toList[a]? with
  | none =>
    rw [e0] at k
    simp only at k
    rw [drop_none e0]
    simp only [Pu.cntR]
    clear h e0
    go_enter Tryz.func111, Tryz.ntmps111
    go_wp2_with fail
    refine k.mono ?_
    rintro e w1 ⟨h1, rfl, h2⟩
    have HX : Hid (Turns (fun q => q = b) w w1 ∧ TkB w1 b s a true) := ⟨h1, h2⟩
    clear k h1 h2
    go_wp2
    go_ret
    exact ⟨HX.out.1, 0, a, rfl, by omega, by omega, HX.out.2⟩
  | some x =>
    rw [e0] at k
    simp only at k
    rw [drop_cons e0]
    have hx := x.toNat_lt
    by_cases hlt : x.toNat < 128
    · have e1 := Pu.cntR_1 (s.data.toList.drop (a + 1)) hlt
      rw [e1]
      simp only
      have hl : (x.toNat : Int) < 128 := by omega
      clear h e0 e1
      go_enter Tryz.func111, Tryz.ntmps111
      go_wp2_with fail
      refine k.mono ?_
      rintro e w1 ⟨h1, rfl, h2⟩
      have HX : Hid (Turns (fun q => q = b) w w1 ∧ TkB w1 b s (a + 1) false) := ⟨h1, h2⟩
      clear k h1 h2
      go_wp2
      go_ret
      exact ⟨HX.out.1, rfl, HX.out.2⟩
    · have hl : ¬ (x.toNat : Int) < 128 := by omega
      have k2 : Hid (∀ w1, TkB w1 b s (a + 1) false → Calls Tryz.prog 110 #[.pointer (some ⟨b, 0, none⟩)] w1 (OnePost w1 b s (a + 1))) := fun w1 h1 => one_any h1 hs
      unfold OnePost at k2
      cases e1 : s.data.toList[a + 1]? with
      | none =>
        rw [e1] at k2
        simp only at k2
        have e2 : Pu.cntR (x :: s.data.toList.drop (a + 1)) = none := by rw [drop_none e1]; exact Pu.cntR_1n hlt
        rw [e2]
        simp only
        clear h e0 e1 e2
        go_enter Tryz.func111, Tryz.ntmps111
        go_wp2_with fail
        refine k.mono ?_
        rintro e w1 ⟨h1, rfl, h2⟩
        have HX : Hid (Turns (fun q => q = b) w w1 ∧ TkB w1 b s (a + 1) false) := ⟨h1, h2⟩
        clear k h1 h2
        go_wp2_with fail
        refine (k2.out w1 HX.out.2).mono ?_
        rintro e w2 ⟨h1, rfl, h2⟩
        have HY : Hid (Turns (fun q => q = b) w w2 ∧ TkB w2 b s (a + 1) true) := ⟨HX.out.1.trans h1, h2⟩
        have d2 := HY.out.2.c2
        have d0 := HY.out.2.lt
        have df := HY.out.2.free 2
        clear k2 h1 h2 HX
        have HZ : Hid (Turns (fun q => q = b) w (w2.setCell ⟨b, 2, none⟩ (.bool true)) ∧ TkB (w2.setCell ⟨b, 2, none⟩ (.bool true)) b s (a + 1) true) := ⟨HY.out.1.setCell (x := ⟨b, 2, none⟩) (Or.inr rfl) _, HY.out.2.set2 true⟩
        go_wp2
        go_ret
        exact ⟨HZ.out.1, _, _, rfl, by omega, by omega, HZ.out.2⟩
      | some y =>
        rw [e1] at k2
        simp only at k2
        have hy := y.toNat_lt
        rw [drop_cons e1]
        by_cases hy1 : y.toNat < 128
        · have hy2 : (y.toNat : Int) < 128 := by omega
          by_cases hy0 : y.toNat = 0
          · have e2 := Pu.cntR_20 (s.data.toList.drop (a + 1 + 1)) hlt hy0
            rw [e2]
            simp only
            have hz : ((y.toNat : Int) == 0) = true := by simp; omega
            clear h e0 e1 e2
            go_enter Tryz.func111, Tryz.ntmps111
            go_wp2_with fail
            refine k.mono ?_
            rintro e w1 ⟨h1, rfl, h2⟩
            have HX : Hid (Turns (fun q => q = b) w w1 ∧ TkB w1 b s (a + 1) false) := ⟨h1, h2⟩
            clear k h1 h2
            go_wp2_with fail
            refine (k2.out w1 HX.out.2).mono ?_
            rintro e w2 ⟨h1, rfl, h2⟩
            have HY : Hid (Turns (fun q => q = b) w w2 ∧ TkB w2 b s (a + 2) false) := ⟨HX.out.1.trans h1, h2⟩
            clear k2 h1 h2 HX
            have d2 := HY.out.2.c2
            have d0 := HY.out.2.lt
            have df := HY.out.2.free 2
            have HZ : Hid (Turns (fun q => q = b) w (w2.setCell ⟨b, 2, none⟩ (.bool true)) ∧ TkB (w2.setCell ⟨b, 2, none⟩ (.bool true)) b s (a + 2) true) := ⟨HY.out.1.setCell (x := ⟨b, 2, none⟩) (Or.inr rfl) _, HY.out.2.set2 true⟩
            go_wp2
            go_ret
            exact ⟨HZ.out.1, _, _, rfl, by omega, by omega, HZ.out.2⟩
          · have e2 := Pu.cntR_2 (s.data.toList.drop (a + 1 + 1)) hlt hy1 hy0
            rw [e2]
            simp only
            have hz : ((y.toNat : Int) == 0) = false := by simp; omega
            clear h e0 e1 e2
            go_enter Tryz.func111, Tryz.ntmps111
            go_wp2_with fail
            refine k.mono ?_
            rintro e w1 ⟨h1, rfl, h2⟩
            have HX : Hid (Turns (fun q => q = b) w w1 ∧ TkB w1 b s (a + 1) false) := ⟨h1, h2⟩
            clear k h1 h2
            go_wp2_with fail
            refine (k2.out w1 HX.out.2).mono ?_
            rintro e w2 ⟨h1, rfl, h2⟩
            have HY : Hid (Turns (fun q => q = b) w w2 ∧ TkB w2 b s (a + 2) false) := ⟨HX.out.1.trans h1, h2⟩
            clear k2 h1 h2 HX
            have d2 := HY.out.2.c2
            have d0 := HY.out.2.lt
            have df := HY.out.2.free 2
            have HZ : Hid (Turns (fun q => q = b) w (w2.setCell ⟨b, 2, none⟩ (.bool false)) ∧ TkB (w2.setCell ⟨b, 2, none⟩ (.bool false)) b s (a + 2) false) := ⟨HY.out.1.setCell (x := ⟨b, 2, none⟩) (Or.inr rfl) _, HY.out.2.set2 false⟩
            have HV : Hid ((x.toNat : Int) - 128 + 128 * (y.toNat : Int) = ((x.toNat - 128 + 128 * y.toNat : Nat) : Int)) := by show _ = _; omega
            go_wp2
            go_ret
            exact ⟨HZ.out.1, ret_int HV.out, HZ.out.2⟩
        · have hy2 : ¬ (y.toNat : Int) < 128 := by omega
          have k3 : Hid (∀ w1, TkB w1 b s (a + 2) false → Calls Tryz.prog 110 #[.pointer (some ⟨b, 0, none⟩)] w1 (OnePost w1 b s (a + 2))) := fun w1 h1 => one_any h1 hs
          unfold OnePost at k3
          cases e3 : s.data.toList[a + 2]? with
          | none =>
            rw [e3] at k3
            simp only at k3
            have e2 : Pu.cntR (x :: y :: s.data.toList.drop (a + 1 + 1)) = none := by rw [drop_none e3]; exact Pu.cntR_2n hlt hy1
            rw [e2]
            simp only
            clear h e0 e1 e2 e3
            go_enter Tryz.func111, Tryz.ntmps111
            go_wp2_with fail
            refine k.mono ?_
            rintro e w1 ⟨h1, rfl, h2⟩
            have HX : Hid (Turns (fun q => q = b) w w1 ∧ TkB w1 b s (a + 1) false) := ⟨h1, h2⟩
            clear k h1 h2
            go_wp2_with fail
            refine (k2.out w1 HX.out.2).mono ?_
            rintro e w2 ⟨h1, rfl, h2⟩
            have HY : Hid (Turns (fun q => q = b) w w2 ∧ TkB w2 b s (a + 2) false) := ⟨HX.out.1.trans h1, h2⟩
            clear k2 h1 h2 HX
            go_wp2_with fail
            refine (k3.out w2 HY.out.2).mono ?_
            rintro e w3 ⟨h1, rfl, h2⟩
            have HZ : Hid (Turns (fun q => q = b) w w3 ∧ TkB w3 b s (a + 2) true) := ⟨HY.out.1.trans h1, h2⟩
            have d2 := HZ.out.2.c2
            have d0 := HZ.out.2.lt
            have df := HZ.out.2.free 2
            clear k3 h1 h2 HY
            have HW : Hid (Turns (fun q => q = b) w (w3.setCell ⟨b, 2, none⟩ (.bool true)) ∧ TkB (w3.setCell ⟨b, 2, none⟩ (.bool true)) b s (a + 2) true) := ⟨HZ.out.1.setCell (x := ⟨b, 2, none⟩) (Or.inr rfl) _, HZ.out.2.set2 true⟩
            go_wp2
            go_ret
            exact ⟨HW.out.1, _, _, rfl, by omega, by omega, HW.out.2⟩
          | some z =>
            rw [e3] at k3
            simp only at k3
            have hz := z.toNat_lt
            rw [drop_cons e3]
            by_cases hz0 : z.toNat = 0 ∨ 127 < z.toNat
            · have e2 := Pu.cntR_3n (s.data.toList.drop (a + 2 + 1)) hlt hy1 hz0
              rw [e2]
              simp only
              have hz1 : ((z.toNat : Int) == 0) = true ∨ (((z.toNat : Int) == 0) = false ∧ (z.toNat : Int) > 127) := by
                by_cases c : z.toNat = 0
                · exact Or.inl (by simp; omega)
                · exact Or.inr ⟨by simp; omega, by omega⟩
              rcases hz1 with hz1 | ⟨hz1, hz2⟩
              all_goals
                clear h e0 e1 e2 e3 hz0
                go_enter Tryz.func111, Tryz.ntmps111
                go_wp2_with fail
                refine k.mono ?_
                rintro e w1 ⟨h1, rfl, h2⟩
                have HX : Hid (Turns (fun q => q = b) w w1 ∧ TkB w1 b s (a + 1) false) := ⟨h1, h2⟩
                clear k h1 h2
                go_wp2_with fail
                refine (k2.out w1 HX.out.2).mono ?_
                rintro e w2 ⟨h1, rfl, h2⟩
                have HY : Hid (Turns (fun q => q = b) w w2 ∧ TkB w2 b s (a + 2) false) := ⟨HX.out.1.trans h1, h2⟩
                clear k2 h1 h2 HX
                go_wp2_with fail
                refine (k3.out w2 HY.out.2).mono ?_
                rintro e w3 ⟨h1, rfl, h2⟩
                have HZ : Hid (Turns (fun q => q = b) w w3 ∧ TkB w3 b s (a + 2 + 1) false) := ⟨HY.out.1.trans h1, h2⟩
                have d2 := HZ.out.2.c2
                have d0 := HZ.out.2.lt
                have df := HZ.out.2.free 2
                clear k3 h1 h2 HY
                have HW : Hid (Turns (fun q => q = b) w (w3.setCell ⟨b, 2, none⟩ (.bool true)) ∧ TkB (w3.setCell ⟨b, 2, none⟩ (.bool true)) b s (a + 2 + 1) true) := ⟨HZ.out.1.setCell (x := ⟨b, 2, none⟩) (Or.inr rfl) _, HZ.out.2.set2 true⟩
                go_wp2
                go_ret
                exact ⟨HW.out.1, _, _, rfl, by omega, by omega, HW.out.2⟩
            · have e2 := Pu.cntR_3 (s.data.toList.drop (a + 2 + 1)) hlt hy1 (fun c => hz0 (Or.inl c)) (fun c => hz0 (Or.inr c))
              rw [e2]
              simp only
              have hz1 : ((z.toNat : Int) == 0) = false := by simp; omega
              have hz2 : ¬ (z.toNat : Int) > 127 := by omega
              clear h e0 e1 e2 e3 hz0
              go_enter Tryz.func111, Tryz.ntmps111
              go_wp2_with fail
              refine k.mono ?_
              rintro e w1 ⟨h1, rfl, h2⟩
              have HX : Hid (Turns (fun q => q = b) w w1 ∧ TkB w1 b s (a + 1) false) := ⟨h1, h2⟩
              clear k h1 h2
              go_wp2_with fail
              refine (k2.out w1 HX.out.2).mono ?_
              rintro e w2 ⟨h1, rfl, h2⟩
              have HY : Hid (Turns (fun q => q = b) w w2 ∧ TkB w2 b s (a + 2) false) := ⟨HX.out.1.trans h1, h2⟩
              clear k2 h1 h2 HX
              go_wp2_with fail
              refine (k3.out w2 HY.out.2).mono ?_
              rintro e w3 ⟨h1, rfl, h2⟩
              have HZ : Hid (Turns (fun q => q = b) w w3 ∧ TkB w3 b s (a + 2 + 1) false) := ⟨HY.out.1.trans h1, h2⟩
              have d2 := HZ.out.2.c2
              have d0 := HZ.out.2.lt
              have df := HZ.out.2.free 2
              clear k3 h1 h2 HY
              have HW : Hid (Turns (fun q => q = b) w (w3.setCell ⟨b, 2, none⟩ (.bool false)) ∧ TkB (w3.setCell ⟨b, 2, none⟩ (.bool false)) b s (a + 2 + 1) false) := ⟨HZ.out.1.setCell (x := ⟨b, 2, none⟩) (Or.inr rfl) _, HZ.out.2.set2 false⟩
              have HV : Hid ((x.toNat : Int) - 128 + 128 * ((y.toNat : Int) - 128) + 16384 * (z.toNat : Int) = ((x.toNat - 128 + 128 * (y.toNat - 128) + 16384 * z.toNat : Nat) : Int)) := by show _ = _; omega
              go_wp2
              go_ret
              rw [show decide ((127 : Int) < (z.toNat : Int)) = false from decide_eq_false (by omega)]
              exact ⟨HW.out.1, ret_int HV.out, HW.out.2⟩
end Go.Proofs.YtdogncjcainhlaaGreatDoor
/- A store as the document's own answer reads it, byte by byte; what it reads is a store's bytes: no walk in it. -/
namespace Go.Proofs.YtdogncjcainhlaaGreatDoor
open Go.RowKit Go.Deep
open Mem

namespace Pu
/-- So many hubs in a row, of a rank, so many places being ahead; what is behind them. -/
def tkHubs (rank : Nat) : Nat → Nat → List UInt8 → Option (List (Nat × Int) × List UInt8)
  | 0, _, l => some ([], l)
  | k + 1, x, l => match cntR l with
    | none => none
    | some (g, a) => match cntR (l.drop a) with
      | none => none
      | some (f, b) => if rank < x + g ∨ (decide (x + g = rank) != decide (k = 0)) = true ∨ (decide (f = 0) != decide (k = 0)) = true ∨ 39000 < f then none else
        match tkHubs rank k (x + g + 1) ((l.drop a).drop b) with
        | none => none
        | some (H, r) => some ((x + g, (f : Int)) :: H, r)
/-- A label of a rank, and what is behind it. -/
def tkLab (rank : Nat) (l : List UInt8) : Option (List (Nat × Int) × List UInt8) := match cntR l with
  | none => none
  | some (n, a) => if n = 0 then none else tkHubs rank n 0 (l.drop a)
theorem tkHubs_some {rank : Nat} : ∀ (k x : Nat) {l r : List UInt8} {H : List (Nat × Int)}, tkHubs rank k x l = some (H, r) → l = hubsB x H ++ r ∧ H.length = k ∧ (1 ≤ k → HubsOk rank x H)
  | 0, x, l, r, H, h => by
    rw [tkHubs] at h
    injection h with h
    injection h with h1 h2
    subst h1 h2
    exact ⟨rfl, rfl, fun c => by omega⟩
  | k + 1, x, l, r, H, h => by
    rw [tkHubs] at h
    split at h
    · cases h
    · rename_i g a hc1
      split at h
      · cases h
      · rename_i f b hc2
        split at h
        · cases h
        · rename_i hno
          split at h
          · cases h
          · rename_i H' r' ht
            injection h with h
            injection h with h1 h2
            subst h1 h2
            obtain ⟨i1, i2, i3⟩ := tkHubs_some k (x + g + 1) ht
            obtain ⟨a1, a2, a3⟩ := cntR_some hc1
            obtain ⟨b1, b2, b3⟩ := cntR_some hc2
            refine ⟨?_, by rw [List.length_cons, i2], fun _ => ?_⟩
            · rw [hubsB, show x + g - x = g by omega, Int.toNat_natCast, List.append_assoc, List.append_assoc, ← i1, ← b3]
              exact a3
            · have q1 : ¬ rank < x + g := fun c => hno (Or.inl c)
              have q2 : (decide (x + g = rank) != decide (k = 0)) = false := by
                cases e : (decide (x + g = rank) != decide (k = 0)) with
                | false => rfl
                | true => exact absurd (Or.inr (Or.inl e)) hno
              have q3 : (decide (f = 0) != decide (k = 0)) = false := by
                cases e : (decide (f = 0) != decide (k = 0)) with
                | false => rfl
                | true => exact absurd (Or.inr (Or.inr (Or.inl e))) hno
              have q4 : ¬ 39000 < f := fun c => hno (Or.inr (Or.inr (Or.inr c)))
              rw [bne_eq_false_iff_eq, decide_eq_decide] at q2 q3
              match H', i2, i3 with
              | [], i2, _ =>
                have hk : k = 0 := by simpa using i2.symm
                exact ⟨by omega, q2.2 hk, by have := q3.2 hk; omega⟩
              | y :: t, i2, i3 =>
                have hk : ¬ k = 0 := by rw [← i2]; simp
                have c1 : ¬ x + g = rank := fun c => hk (q2.1 c)
                have c2 : ¬ f = 0 := fun c => hk (q3.1 c)
                exact ⟨by omega, by omega, by omega, by omega, i3 (by omega)⟩
theorem tkHubs_back {rank : Nat} (hr : rank < 40) : ∀ (H : List (Nat × Int)) (x : Nat) (r : List UInt8), HubsOk rank x H → tkHubs rank H.length x (hubsB x H ++ r) = some (H, r)
  | [], _, _, h => h.elim
  | [(q, f)], x, r, ⟨h1, h2, h3⟩ => by
    subst h2 h3
    have e : hubsB x [(q, (0 : Int))] ++ r = countB (q - x) ++ (countB 0 ++ r) := by simp [hubsB]
    rw [e, List.length_singleton, tkHubs, cntR_back (by omega)]
    simp only [List.drop_left]
    rw [cntR_back (by omega)]
    simp only [List.drop_left]
    rw [show x + (q - x) = q by omega, if_neg (by simp), tkHubs]
    simp
  | (q, f) :: y :: t, x, r, ⟨h1, h2, h3, h4, h5⟩ => by
    have ih := tkHubs_back hr (y :: t) (q + 1) r h5
    have e : hubsB x ((q, f) :: y :: t) ++ r = countB (q - x) ++ (countB f.toNat ++ (hubsB (q + 1) (y :: t) ++ r)) := by
      rw [hubsB]; simp only [List.append_assoc]
    have hl : (y :: t).length ≠ 0 := by simp
    rw [e, List.length_cons, tkHubs, cntR_back (by omega)]
    simp only [List.drop_left]
    rw [cntR_back (by omega)]
    simp only [List.drop_left]
    have c1 : ¬ q = rank := by omega
    have c2 : ¬ f.toNat = 0 := by omega
    rw [show x + (q - x) = q by omega, if_neg (by rw [decide_eq_false c1, decide_eq_false c2, decide_eq_false hl]; simp; omega), ih]
    simp only [Option.some.injEq, Prod.mk.injEq, List.cons.injEq, true_and, and_true]
    omega
theorem tkLab_some {rank : Nat} {l r : List UInt8} {H : List (Nat × Int)} (h : tkLab rank l = some (H, r)) : l = labB H ++ r ∧ HubsOk rank 0 H := by
  unfold tkLab at h
  split at h
  · cases h
  · rename_i n a hc
    split at h
    · cases h
    · obtain ⟨i1, i2, i3⟩ := tkHubs_some n 0 h
      obtain ⟨a1, a2, a3⟩ := cntR_some hc
      refine ⟨?_, i3 (by omega)⟩
      rw [labB, i2, List.append_assoc, ← i1]; exact a3
theorem tkLab_back {rank : Nat} (hr : rank < 40) {H : List (Nat × Int)} (h : HubsOk rank 0 H) (r : List UInt8) : tkLab rank (labB H ++ r) = some (H, r) := by
  have hl := h.len
  unfold tkLab
  rw [labB, List.append_assoc, cntR_back (by omega)]
  simp only [List.drop_left]
  rw [if_neg (by omega), tkHubs_back hr H 0 r h]
theorem rise_ok {rank : Nat} : ∀ (l : List (Nat × Int)) (x : Nat), Rise x (l ++ [(rank, (0 : Int))]) → (∀ y ∈ l, 1 ≤ y.2 ∧ y.2 ≤ 39000) → HubsOk rank x (l ++ [(rank, 0)])
  | [], x, h, _ => ⟨h.1, rfl, rfl⟩
  | (r, f) :: t, x, h, hl => by
    have h0 := hl (r, f) (by simp)
    have h1 := Rise.below h (r, f) (by simp)
    have ih := rise_ok t (r + 1) h.2.2.2.2 (fun y hy => hl y (by simp [hy]))
    cases t with
    | nil => exact ⟨h.1, h1, h0.1, h0.2, ih⟩
    | cons y t => exact ⟨h.1, h1, h0.1, h0.2, ih⟩
/-- A label that is read byte by byte is one. -/
theorem tk_ok {s : List UInt8} {O : List Nat} {st : Nat → Nat} {v q z : Nat} {H : List (Nat × Int)} {r : List UInt8} (hO : O[q]? = some v) (hq : q < 40) (_hs : st v ≤ s.length) (hz : st (v + 1) = st v + z) (h : tkLab q (s.drop (st v)) = some (H, r)) (hr : r.length + z = s.length - st v) : labAt s O st v = true ∧ labF s st v = H ∧ st (v + 1) ≤ s.length ∧ r = s.drop (st (v + 1)) := by
  obtain ⟨h1, h2⟩ := tkLab_some h
  have hl := congrArg List.length h1
  rw [List.length_drop, List.length_append] at hl
  have e1 : (s.take (st (v + 1))).drop (st v) = labB H := by
    rw [List.drop_take, h1, show st (v + 1) - st v = (labB H).length by omega, List.take_left]
  have hlen := h2.len
  have e2 : labOf ((s.take (st (v + 1))).drop (st v)) = some H := by rw [e1]; exact labOf_eq.2 ⟨rfl, h2.rise hq, by omega⟩
  refine ⟨by unfold labAt; rw [e2]; exact h2.isLab hO, by unfold labF; rw [e2]; rfl, by omega, ?_⟩
  rw [hz, ← List.drop_drop, h1, show z = (labB H).length by omega, List.drop_left]
/-- What is no label byte by byte is none. -/
theorem tk_yes {s : List UInt8} {O : List Nat} {st : Nat → Nat} {v q z : Nat} (hO : O[q]? = some v) (hnd : O.Nodup) (hq : q < 40) (hz : st (v + 1) = st v + z) (_hs : st (v + 1) ≤ s.length) (h : labAt s O st v = true) : tkLab q (s.drop (st v)) = some (labF s st v, s.drop (st (v + 1))) := by
  obtain ⟨h1, h2⟩ := labAt_some h
  obtain ⟨H0, r, e, hr, hl⟩ := isLab_some h2
  obtain ⟨k1, k2, k3⟩ := labOf_eq.1 h1
  have hrq := nodup_get hnd hr hO
  subst hrq
  have hok : HubsOk r 0 (labF s st v) := by
    rw [e] at k2 ⊢
    exact rise_ok H0 0 k2 hl
  have hsp : s.drop (st v) = labB (labF s st v) ++ s.drop (st (v + 1)) := by
    rw [← k1, List.drop_take, hz, ← List.drop_drop, Nat.add_sub_cancel_left, List.take_append_drop]
  rw [hsp]
  exact tkLab_back hq hok _
end Pu
end Go.Proofs.YtdogncjcainhlaaGreatDoor
