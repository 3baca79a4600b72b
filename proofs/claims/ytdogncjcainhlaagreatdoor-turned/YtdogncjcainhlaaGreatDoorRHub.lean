/- The walk of the reference's hub. -/
import Derived.Test.YtdogncjcainhlaaGreatDoorHubL
import Derived.Test.YtdogncjcainhlaaGreatDoorPlain
namespace Go.Proofs.YtdogncjcainhlaaGreatDoor
open Go.RowKit Go.Deep
open Mem
namespace Pu
/-- The reference's number for how far it is. -/
def far9 (D : Nat → Nat → Int) (a b : Nat) : Int := if D a b = -1 then 1000000000 else D a b
theorem far9_lies {n : Nat} {len D : Nat → Nat → Int} {O : List Nat} (C : Cov n len D O) {v x h : Nat} (hv : v < n) (hx : x < n) (hh : h < n) (hd : D h v ≠ -1) : (far9 D h x + far9 D x v = far9 D h v) ↔ lies D v x h = true := by
  have r1 := C.rng hh hx
  have r2 := C.rng hx hv
  have r3 := C.rng hh hv
  have e3 : far9 D h v = D h v := by unfold far9; rw [if_neg hd]
  rw [e3]
  constructor
  · intro h1
    have k1 : D h x ≠ -1 := by
      intro c
      unfold far9 at h1
      rw [if_pos c] at h1
      split at h1 <;> omega
    have k2 : D x v ≠ -1 := by
      intro c
      unfold far9 at h1
      rw [if_pos c] at h1
      split at h1 <;> omega
    unfold far9 at h1
    rw [if_neg k1, if_neg k2] at h1
    exact C.back hh hx hv (lies_iff.2 ⟨k1, k2, h1⟩)
  · intro h1
    have h2 := lies_iff.1 (C.back hv hx hh h1)
    unfold far9
    rw [if_neg h2.1, if_neg h2.2.1]; exact h2.2.2
theorem far9_bd {n : Nat} {len D : Nat → Nat → Int} {O : List Nat} (C : Cov n len D O) {a b : Nat} (ha : a < n) (hb : b < n) : 0 ≤ far9 D a b ∧ far9 D a b ≤ 1000000000 := by
  have := C.rng ha hb
  unfold far9; split <;> omega
end Pu

set_option maxRecDepth 100000 in
set_option maxHeartbeats 1000000 in
theorem rhub_any (w : World) (b n fg fcap ob ocap v j h : Nat) (R : Int) (lv : Value) (len D : Nat → Nat → Int) (O : List Nat) (C : Pu.Cov n len D O) (hB : RB w b n R lv (.slice (some ⟨fg, 0, none⟩) n fcap)) (hT : Tab w fg n (Pu.far9 D)) (hO : Ord w ob n O) (hn : n ≤ 40) (hv : v < n) (hj : O[j]? = some h) :
    Calls Tryz.prog 108 #[.pointer (some ⟨b, 0, none⟩), .slice (some ⟨ob, 0, none⟩) n ocap, .int .i64 v, .int .i64 h] w fun e w' => e = .returned (.bool (Pu.isHub D v h (O.take j))) ∧ ∃ q, w' = w.drewN q := by
  have hh := (hO.2 j h hj).1
  have hjl := (List.getElem?_eq_some_iff.1 hj).1
  have hOl := hO.1
  have c3 := hB.c3
  obtain ⟨rh, t1, t2⟩ := hT h hh
  have t3 := t2 v hv
  have hhi : (h : Int) < (n : Int) := by omega
  have hvi : (v : Int) < (n : Int) := by omega
  have bd := Pu.far9_bd C hh hv
  by_cases hd : D h v = -1
  · have HR : Hid (Pu.isHub D v h (O.take j) = false) := by
      show Pu.isHub D v h (O.take j) = false
      unfold Pu.isHub; rw [← C.sym hh hv, hd]; simp
    have e : Pu.far9 D h v = 1000000000 := by unfold Pu.far9; rw [if_pos hd]
    rw [e] at t3
    generalize Pu.isHub D v h (O.take j) = res at *
    clear hd bd e t2 hT hO hB C
    go_enter Tryz.func108, Tryz.ntmps108
    go_wp2
    go_ret
    exact ⟨by rw [HR.out]; rfl, 0, rfl⟩
  · have r3 := C.rng hh hv
    have e : Pu.far9 D h v = D h v := by unfold Pu.far9; rw [if_neg hd]
    have HI : Hid (∀ i x, i < j → O[i]? = some x → Pu.lies D v x h = true → Pu.isHub D v h (O.take j) = false) := by
      intro i x hi hx hl
      by_cases c : Pu.isHub D v h (O.take j) = true
      · have := (Pu.isHub_iff.1 c).2 x (Pu.mem_take.2 ⟨i, hi, hx⟩); rw [hl] at this; cases this
      · simpa using c
    have HE : Hid ((∀ (i x : Nat), i < j → O[i]? = some x → Pu.lies D v x h = false) → Pu.isHub D v h (O.take j) = true) := by
      intro hall
      refine Pu.isHub_iff.2 ⟨by rw [← C.sym hh hv]; exact hd, fun m hm => ?_⟩
      obtain ⟨i, h1, h2⟩ := Pu.mem_take.1 hm
      exact hall i m h1 h2
    have HL : Hid (∀ x, x < n → ((Pu.far9 D h x + Pu.far9 D x v = D h v) ↔ Pu.lies D v x h = true)) := fun x hx => by rw [← e]; exact Pu.far9_lies C hv hx hh hd
    have HBD : Hid (∀ x, x < n → (0 ≤ Pu.far9 D h x ∧ Pu.far9 D h x ≤ 1000000000) ∧ (0 ≤ Pu.far9 D x v ∧ Pu.far9 D x v ≤ 1000000000)) := fun x hx => ⟨Pu.far9_bd C hh hx, Pu.far9_bd C hx hv⟩
    have HND : Hid (O.Nodup) := C.perm.nodup
    have HT : Hid (Tab w fg n (Pu.far9 D)) := hT
    have HO : Hid (Ord w ob n O) := hO
    rw [e] at t3
    have hlow : D h v < 1000000000 := by omega
    generalize hdx : D h v = dd at *
    generalize Pu.isHub D v h (O.take j) = res at *
    clear hd bd e t2 hT hO hB C hdx
    go_enter Tryz.func108, Tryz.ntmps108
    go_wp2
    go_loopw [9] (fun iv wr => ∃ i q : Nat, iv = .int .i64 i ∧ i ≤ j ∧ (∀ (i' x : Nat), i' < i → O[i']? = some x → Pu.lies D v x h = false) ∧ wr = w.drewN q) (fun iv _ => j - (intOf iv).toNat)
    case atStart => exact ⟨0, 0, rfl, Nat.zero_le _, fun i' x hi => by omega, rfl⟩
    case round =>
      obtain ⟨i, q, rfl, hi, hno, hwr⟩ := hrel
      obtain ⟨x, hx⟩ : ∃ x, O[i]? = some x := ⟨_, List.getElem?_eq_getElem (by omega)⟩
      obtain ⟨hxn, hcx⟩ := HO.out.2 i x hx
      have HWR : Hid (wr = w.drewN q) := hwr
      have y0 : wr.cell? ⟨ob, i, none⟩ = some (.int .i64 (x : Int)) := by rw [hwr]; exact hcx
      have hii : (i : Int) < (n : Int) := by omega
      by_cases hij : i = j
      · have hxh : x = h := by rw [hij, hj] at hx; exact (Option.some.inj hx).symm
        have hne : ((x : Int) != (h : Int)) = false := by simp; omega
        have HR : Hid (res = true) := HE.out (fun i' x' h1 h2 => hno i' x' (by omega) h2)
        clear hno hwr hx HI HE HL HBD HND HT HO hcx hij hxh
        go_wp2
        go_ret
        exact ⟨by rw [HR.out]; rfl, q, HWR.out⟩
      · have hxh : x ≠ h := by
          rintro rfl
          exact hij (Pu.nodup_get HND.out hx hj)
        have hne : ((x : Int) != (h : Int)) = true := by simp; omega
        obtain ⟨rx, s1, s2⟩ := HT.out x hxn
        obtain ⟨rh', s3, s4⟩ := HT.out h hh
        obtain rfl : rh' = rh := by rw [t1] at s3; injection s3 with s3; injection s3 with s3; injection s3 with s3; injection s3 with s3; exact s3.symm
        have y1 : wr.cell? ⟨fg, x, none⟩ = some (.slice (some ⟨rx, 0, none⟩) n n) := by rw [hwr]; exact s1
        have y2 : wr.cell? ⟨rx, v, none⟩ = some (.int .i64 (Pu.far9 D x v)) := by rw [hwr]; exact s2 v hv
        have y3 : wr.cell? ⟨fg, h, none⟩ = some (.slice (some ⟨rh', 0, none⟩) n n) := by rw [hwr]; exact t1
        have y4 : wr.cell? ⟨rh', x, none⟩ = some (.int .i64 (Pu.far9 D h x)) := by rw [hwr]; exact s4 x hxn
        have y5 : wr.cell? ⟨rh', v, none⟩ = some (.int .i64 dd) := by rw [hwr]; exact t3
        have y6 : wr.cell? ⟨b, 3, none⟩ = some (.slice (some ⟨fg, 0, none⟩) n fcap) := by rw [hwr]; exact c3
        have bb := HBD.out x hxn
        have hxi : (x : Int) < (n : Int) := by omega
        have HLX := HL.out x hxn
        have HLY : Hid ((Pu.far9 D h x + Pu.far9 D x v = dd) ↔ Pu.lies D v x h = true) := HLX
        have HXX : Hid (O[i]? = some x) := hx
        have hiv : i < j := by omega
        by_cases hs : Pu.far9 D h x + Pu.far9 D x v = dd
        · have hb : (Pu.far9 D h x + Pu.far9 D x v == dd) = true := by simp [hs]
          have HR : Hid (res = false) := HI.out i x hiv HXX.out (HLY.out.1 hs)
          clear hno hwr hx HI HE HL HBD HND HT HO hcx hs HLX HLY s1 s2 s3 s4 t1 t3 c3
          generalize Pu.far9 D h x = A at *
          generalize Pu.far9 D x v = B' at *
          go_wp2
          go_quiet (fail)
          go_wp2
          go_ret
          exact ⟨by rw [HR.out]; rfl, q + _, by rw [HWR.out, World.drewN_drewN]⟩
        · have hb : (Pu.far9 D h x + Pu.far9 D x v == dd) = false := by simp [hs]
          have HX : Hid (∀ nq, ∃ i' q' : Nat, (Value.int .i64 ((i : Int) + 1)) = .int .i64 i' ∧ i' ≤ j ∧ (∀ (i'' x : Nat), i'' < i' → O[i'']? = some x → Pu.lies D v x h = false) ∧ wr.drewN nq = w.drewN q') := by
            intro nq
            refine ⟨i + 1, q + nq, by go_num, by omega, fun i'' x' h1 h2 => ?_, by rw [hwr, World.drewN_drewN]⟩
            by_cases c : i'' = i
            · subst c
              rw [HXX.out] at h2
              cases h2
              cases e : Pu.lies D v x h with
              | false => rfl
              | true => exact absurd (HLY.out.2 e) hs
            · exact hno i'' x' (by omega) h2
          clear hno hwr hx HI HE HL HBD HND HT HO hcx hs HLX HLY s1 s2 s3 s4 t1 t3 c3
          generalize Pu.far9 D h x = A at *
          generalize Pu.far9 D x v = B' at *
          go_wp2
          go_quiet (fail)
          go_wp2
          go_roundw
          case measure => simp [intOf]; omega
          case rel => exact HX.out _
#print axioms rhub_any
end Go.Proofs.YtdogncjcainhlaaGreatDoor
