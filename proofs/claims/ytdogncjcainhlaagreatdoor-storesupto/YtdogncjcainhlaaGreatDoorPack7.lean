/- Pack7: texts of one proof, one behind the other. -/
import Derived.Test.YtdogncjcainhlaaGreatDoorPack6
import Derived.Deep.QuietTactic
import Derived.BigQuiet
import Derived.Test.YtdogncjcainhlaaGreatDoorProg
import Derived.Conc.RwLib
import Derived.Conc.MuData
import Derived.KernelRfl
import Derived.Conc.MuLone
import Derived.Deep.RegionHeld3
import Derived.Test.YtdogncjcainhlaaGreatDoorPack2
/- The walk of joins.Best. -/
namespace Go.Proofs.YtdogncjcainhlaaGreatDoor
open Go.RowKit Go.Deep
open Mem

/-- Hubs, wherever in a row they begin. -/
def HubsAt (w : World) (v : Value) (L : List (Nat × Int)) : Prop := ∃ a c, v = .slice a L.length c ∧ L.length ≤ c ∧ ∀ (i r : Nat) (f : Int), L[i]? = some (r, f) → ∃ g o, a = some ⟨g, o, none⟩ ∧ w.cell? ⟨g, o + i * 2, none⟩ = some (.int .i64 (r : Int)) ∧ w.cell? ⟨g, o + i * 2 + 1, none⟩ = some (.int .i64 f)
theorem HubsAt.of {w : World} {a : Option Addr} {L : List (Nat × Int)} {c : Nat} (h : HubAt w a L) (hc : L.length ≤ c) : HubsAt w (.slice a L.length c) L :=
  ⟨a, c, rfl, hc, fun i r f hi => by
    obtain ⟨g, h0, h1, h2⟩ := h i r f hi
    exact ⟨g, 0, h0, by rw [Nat.zero_add]; exact h1, by rw [Nat.zero_add]; exact h2⟩⟩
theorem HubsAt.turns {w w' : World} {v : Value} {L : List (Nat × Int)} (h : HubsAt w v L) (t : Turns (fun _ => False) w w') : HubsAt w' v L := by
  obtain ⟨a, c, h1, h2, h3⟩ := h
  refine ⟨a, c, h1, h2, fun i r f hi => ?_⟩
  obtain ⟨g, o, e, d1, d2⟩ := h3 i r f hi
  exact ⟨g, o, e, (t.cell (World.block_lt_of_cell? _ _ d1) (fun x => x)).trans d1, (t.cell (World.block_lt_of_cell? _ _ d2) (fun x => x)).trans d2⟩
/-- The front one, and what is behind it. -/
theorem HubsAt.front {w : World} {v : Value} {r : Nat} {f : Int} {L : List (Nat × Int)} (h : HubsAt w v ((r, f) :: L)) : ∃ g o c A, v = .slice (some ⟨g, o, none⟩) (L.length + 1) c ∧ L.length + 1 ≤ c ∧ w.cell? ⟨g, o, none⟩ = some (.int .i64 (r : Int)) ∧ w.cell? ⟨g, o + 1, none⟩ = some (.int .i64 f) ∧ (if c = 1 then some (⟨g, o, none⟩ : Addr) else some ⟨g, o + 2, none⟩) = some A ∧ HubsAt w (.slice (some A) L.length (c - 1)) L := by
  obtain ⟨a, c, h1, h2, h3⟩ := h
  obtain ⟨g, o, rfl, d1, d2⟩ := h3 0 r f rfl
  rw [Nat.zero_mul, Nat.add_zero] at d1 d2
  rw [List.length_cons] at h1 h2
  by_cases hc : c = 1
  · refine ⟨g, o, c, ⟨g, o, none⟩, h1, h2, d1, d2, by rw [if_pos hc], ⟨_, _, rfl, by omega, fun i r' f' hi => ?_⟩⟩
    have := (List.getElem?_eq_some_iff.1 hi).1
    omega
  · refine ⟨g, o, c, ⟨g, o + 2, none⟩, h1, h2, d1, d2, by rw [if_neg hc], ⟨_, _, rfl, by omega, fun i r' f' hi => ?_⟩⟩
    obtain ⟨g', o', e, c1, c2⟩ := h3 (i + 1) r' f' (by rw [List.getElem?_cons_succ]; exact hi)
    injection e with e
    injection e with e1 e2
    subst e1 e2
    exact ⟨g, o + 2, rfl, by rw [show o + 2 + i * 2 = o + (i + 1) * 2 by omega]; exact c1, by rw [show o + 2 + i * 2 = o + (i + 1) * 2 by omega]; exact c2⟩
def hubO : Option (Nat × Int) → Int × Int × Bool
  | none => (0, 0, false)
  | some (r, x) => ((r : Int), x, true)
def lenV : Value → Nat
  | .slice _ n _ => n
  | _ => 0
theorem HubsAt.form {w : World} {v : Value} {L : List (Nat × Int)} (h : HubsAt w v L) : ∃ a c, v = .slice a L.length c := by
  obtain ⟨a, c, h1, _⟩ := h
  exact ⟨a, c, h1⟩
/-- What holds ahead of each round of joins.Best. -/
structure JnAt (w : World) (av bv : Value) (A B : List (Nat × Int)) (o : Option (Nat × Int)) (R : Option (Nat × Int)) (wr : World) : Prop where
  a : HubsAt w av A
  b : HubsAt w bv B
  ra : ∃ x, Pu.Rise x A
  rb : ∃ y, Pu.Rise y B
  eq : R = Pu.best o A B
  c0 : wr.cell? ⟨w.heap.size + 1, 0, none⟩ = some (.int .i64 (hubO o).1)
  c1 : wr.cell? ⟨w.heap.size + 1, 1, none⟩ = some (.int .i64 (hubO o).2.1)
  f0 : wr.frozen? ⟨w.heap.size + 1, 0, none⟩ = false
  f1 : wr.frozen? ⟨w.heap.size + 1, 1, none⟩ = false
  r0 : wr.cell? ⟨w.heap.size, 0, none⟩ = some (.int .i64 0)
  r1 : wr.cell? ⟨w.heap.size, 1, none⟩ = some (.int .i64 0)
  g0 : wr.frozen? ⟨w.heap.size, 0, none⟩ = false
  g1 : wr.frozen? ⟨w.heap.size, 1, none⟩ = false
  t : Turns (fun _ => False) w wr
theorem JnAt.drewN {w : World} {av bv : Value} {A B : List (Nat × Int)} {o R : Option (Nat × Int)} {wr : World} (h : JnAt w av bv A B o R wr) (q : Nat) : JnAt w av bv A B o R (wr.drewN q) :=
  ⟨h.a, h.b, h.ra, h.rb, h.eq, h.c0, h.c1, h.f0, h.f1, h.r0, h.r1, h.g0, h.g1, h.t.drewN q⟩
set_option maxRecDepth 100000 in
set_option maxHeartbeats 1000000 in
theorem best_any (w : World) (av bv : Value) (A B : List (Nat × Int)) (x y : Nat) (hA : HubsAt w av A) (hB : HubsAt w bv B) (ra : Pu.Rise x A) (rb : Pu.Rise y B) :
    Calls Tryz.prog 46 #[av, bv] w fun e w' => e = .returned (.tuple #[.agg #[.int .i64 (hubO (Pu.best none A B)).1, .int .i64 (hubO (Pu.best none A B)).2.1], .bool (hubO (Pu.best none A B)).2.2]) ∧ Turns (fun _ => False) w w' := by
  obtain ⟨R, hR⟩ : ∃ R, R = Pu.best none A B := ⟨_, rfl⟩
  rw [← hR]
  obtain ⟨w1, hw1⟩ : ∃ w1, w1 = (w.alloc (.cells #[.int .i64 0, .int .i64 0] 131)).alloc (.cells #[.int .i64 0, .int .i64 0] 131) := ⟨_, rfl⟩
  have HW1 : Hid ((w.alloc (.cells #[.int .i64 0, .int .i64 0] 131)).alloc (.cells #[.int .i64 0, .int .i64 0] 131) = w1) := hw1.symm
  have H0 : Hid (JnAt w av bv A B none R w1) := by
    have t : Turns (fun _ => False) w w1 := by rw [hw1]; exact ((Turns.refl _ _).alloc _).alloc _
    refine ⟨hA, hB, ⟨x, ra⟩, ⟨y, rb⟩, hR, ?_, ?_, ?_, ?_, ?_, ?_, ?_, ?_, t⟩
    all_goals (rw [hw1]; simp [hubO])
  obtain ⟨aa, ac, rfl⟩ := hA.form
  obtain ⟨ba, bc, rfl⟩ := hB.form
  clear hw1 hA hB ra rb hR
  go_enter Tryz.func46, Tryz.ntmps46
  go_wp2
  rw [HW1.out]
  go_loopw [0, 1, 7] (fun av bv fv wr => ∃ (A' B' : List (Nat × Int)) (o : Option (Nat × Int)) (v1 v2 : Value) (wy : World), v1 = av ∧ v2 = bv ∧ fv = .bool (hubO o).2.2 ∧ wy = wr ∧ Hid (JnAt w v1 v2 A' B' o R wy)) (fun av bv _ _ => lenV av + lenV bv)
  case atStart => exact ⟨A, B, none, _, _, _, rfl, rfl, rfl, rfl, H0.out⟩
  case round =>
    clear H0 HW1
    obtain ⟨A', B', o, v1, v2, wr, h1, h2, rfl, hwy, HI⟩ := hrel
    subst hwy
    have hI := HI.out
    have c0 := hI.c0
    have c1 := hI.c1
    have f0 := hI.f0
    have f1 := hI.f1
    have r0 := hI.r0
    have r1 := hI.r1
    have g0 := hI.g0
    have g1 := hI.g1
    have hbl : w.heap.size + 1 < wr.heap.size := World.block_lt_of_cell? _ _ c0
    have HEND : Hid (Pu.best o A' B' = o → R = o) := fun e => by rw [hI.eq, e]
    have HTE : Hid (∀ u v, Turns (fun _ => False) w ((wr.setCell ⟨w.heap.size, 0, none⟩ u).setCell ⟨w.heap.size, 1, none⟩ v)) := fun u v => (hI.t.setCell (Or.inl (Nat.le_refl _)) u).setCell (Or.inl (Nat.le_refl _)) v
    match A', B', HI, hI with
    | [], B', HI, hI =>
      obtain ⟨aa', ac', e1⟩ := hI.a.form
      obtain ⟨ba', bc', e2⟩ := hI.b.form
      rw [e1] at h1
      rw [e2] at h2
      subst h1 h2
      have HRo : Hid (R = o) := HEND.out (Pu.best_nil _ _)
      clear HEND HI hI e1 e2
      obtain ⟨⟨o1, o2, o3⟩, ho⟩ : ∃ z, z = hubO o := ⟨_, rfl⟩
      have HO : Hid (hubO R = (o1, o2, o3)) := by rw [HRo.out]; exact ho.symm
      rw [← ho] at c0 c1 ⊢
      have HF : Hid (∀ u v, (Ending.returned (.tuple #[.agg #[.int .i64 o1, .int .i64 o2], .bool o3])) = .returned (.tuple #[.agg #[.int .i64 (hubO R).1, .int .i64 (hubO R).2.1], .bool (hubO R).2.2]) ∧ Turns (fun _ => False) w ((wr.setCell ⟨w.heap.size, 0, none⟩ u).setCell ⟨w.heap.size, 1, none⟩ v)) := fun u v => ⟨by rw [HO.out], HTE.out u v⟩
      clear ho HTE HRo HO
      simp only at c0 c1
      go_wp2
      exact bodyPost_ret (v := .tuple #[.agg #[.int .i64 o1, .int .i64 o2], .bool o3]) (by simp [results, Tryz.results46, go_sem, r0, r1]) rfl (HF.out _ _)
    | a :: A'', [], HI, hI =>
      obtain ⟨aa', ac', e1⟩ := hI.a.form
      obtain ⟨ba', bc', e2⟩ := hI.b.form
      rw [e1] at h1
      rw [e2] at h2
      subst h1 h2
      have HRo : Hid (R = o) := HEND.out (Pu.best_end _ _)
      clear HEND HI hI e1 e2
      obtain ⟨⟨o1, o2, o3⟩, ho⟩ : ∃ z, z = hubO o := ⟨_, rfl⟩
      have HO : Hid (hubO R = (o1, o2, o3)) := by rw [HRo.out]; exact ho.symm
      rw [← ho] at c0 c1 ⊢
      have HF : Hid (∀ u v, (Ending.returned (.tuple #[.agg #[.int .i64 o1, .int .i64 o2], .bool o3])) = .returned (.tuple #[.agg #[.int .i64 (hubO R).1, .int .i64 (hubO R).2.1], .bool (hubO R).2.2]) ∧ Turns (fun _ => False) w ((wr.setCell ⟨w.heap.size, 0, none⟩ u).setCell ⟨w.heap.size, 1, none⟩ v)) := fun u v => ⟨by rw [HO.out], HTE.out u v⟩
      clear ho HTE HRo HO
      simp only at c0 c1
      go_wp2
      exact bodyPost_ret (v := .tuple #[.agg #[.int .i64 o1, .int .i64 o2], .bool o3]) (by simp [results, Tryz.results46, go_sem, r0, r1]) rfl (HF.out _ _)
    | (r, f) :: A'', (q, g) :: B'', HI, hI =>
      obtain ⟨ga, oa, ca, Aa, e1, hca, d1, d2, hAa, hAt⟩ := hI.a.front
      obtain ⟨gb, ob, cb, Ab, e2, hcb, d3, d4, hAb, hBt⟩ := hI.b.front
      replace d1 := (hI.t.cell (a := ⟨ga, oa, none⟩) (World.block_lt_of_cell? _ _ d1) (fun x => x)).trans d1
      replace d2 := (hI.t.cell (a := ⟨ga, oa + 1, none⟩) (World.block_lt_of_cell? _ _ d2) (fun x => x)).trans d2
      replace d3 := (hI.t.cell (a := ⟨gb, ob, none⟩) (World.block_lt_of_cell? _ _ d3) (fun x => x)).trans d3
      replace d4 := (hI.t.cell (a := ⟨gb, ob + 1, none⟩) (World.block_lt_of_cell? _ _ d4) (fun x => x)).trans d4
      have hAd := hI.a
      have hBd := hI.b
      rw [e1] at h1 hAd
      rw [e2] at h2 hBd
      subst h1 h2
      obtain ⟨xa, hra⟩ := hI.ra
      obtain ⟨xb, hrb⟩ := hI.rb
      have hf := hra.far (r, f) (by simp)
      have hg := hrb.far (q, g) (by simp)
      simp only at hf hg
      clear HEND HTE e1 e2
      obtain ⟨na, hna⟩ : ∃ na, na = A''.length := ⟨_, rfl⟩
      obtain ⟨nb, hnb⟩ : ∃ nb, nb = B''.length := ⟨_, rfl⟩
      rw [← hna] at hca hAt
      rw [← hnb] at hcb hBt
      rw [← hna] at hAd
      rw [← hnb] at hBd
      rw [← hna, ← hnb]
      have HI2 : Hid (JnAt w v1 v2 ((r, f) :: A'') ((q, g) :: B'') o R wr) := HI.out
      clear hna hnb HI
      by_cases hlo : r < q
      · have hli : (r : Int) < (q : Int) := by omega
        have HN : Hid (∀ i, JnAt w (.slice (some Aa) na (ca - 1)) (.slice (some ⟨gb, ob, none⟩) (nb + 1) cb) A'' ((q, g) :: B'') o R (wr.drewN i)) := fun i => by
          have h := HI2.out
          refine JnAt.drewN ⟨hAt, hBd, ⟨_, hra.2.2.2.2⟩, h.rb, ?_, h.c0, h.c1, h.f0, h.f1, h.r0, h.r1, h.g0, h.g1, h.t⟩ i
          rw [h.eq, Pu.best_lo hlo]
        clear HI2 hI hAt hBt hAd hBd hra hrb
        go_wp2_with fail
        go_quiet (fail)
        go_wp2
        go_roundw
        case rel => exact ⟨A'', (q, g) :: B'', o, _, _, _, rfl, rfl, rfl, rfl, HN.out _⟩
        case measure => simp [lenV]
      · have hli : ¬ (r : Int) < (q : Int) := by omega
        by_cases hhi : q < r
        · have hhj : (q : Int) < (r : Int) := by omega
          have HN : Hid (∀ i, JnAt w (.slice (some ⟨ga, oa, none⟩) (na + 1) ca) (.slice (some Ab) nb (cb - 1)) ((r, f) :: A'') B'' o R (wr.drewN i)) := fun i => by
            have h := HI2.out
            refine JnAt.drewN ⟨hAd, hBt, h.ra, ⟨_, hrb.2.2.2.2⟩, ?_, h.c0, h.c1, h.f0, h.f1, h.r0, h.r1, h.g0, h.g1, h.t⟩ i
            rw [h.eq, Pu.best_hi hhi]
          clear HI2 hI hAt hBt hAd hBd hra hrb
          go_wp2_with fail
          go_quiet (fail)
          go_wp2_with fail
          go_quiet (fail)
          go_wp2
          go_roundw
          case rel => exact ⟨(r, f) :: A'', B'', o, _, _, _, rfl, rfl, rfl, rfl, HN.out _⟩
          case measure => simp [lenV]
        · have hhj : ¬ (q : Int) < (r : Int) := by omega
          have hrq : q = r := by omega
          subst hrq
          obtain ⟨o1, ho1⟩ : ∃ z, z = (hubO o).1 := ⟨_, rfl⟩
          obtain ⟨o2, ho2⟩ : ∃ z, z = (hubO o).2.1 := ⟨_, rfl⟩
          obtain ⟨o3, ho3⟩ : ∃ z, z = (hubO o).2.2 := ⟨_, rfl⟩
          have hsum : IntKind.i64.wrap (f + g) = f + g := by rw [IntKind.wrap_i64]; omega
          rw [← ho1] at c0
          rw [← ho2] at c1
          rw [← ho3]
          by_cases hbt : o3 = false ∨ f + g < o2
          · have HBB : Hid (Pu.better q (f + g) o = some (q, f + g)) := by
              show _ = _
              cases o with
              | none => rfl
              | some z =>
                obtain ⟨z1, z2⟩ := z
                rw [Pu.better, if_pos]
                rcases hbt with c | c
                · rw [ho3] at c; cases c
                · rw [ho2] at c; exact c
            have HN : Hid (∀ i j, JnAt w (.slice (some Aa) na (ca - 1)) (.slice (some Ab) nb (cb - 1)) A'' B'' (some (q, f + g)) R ((((wr.drewN i).setCell ⟨w.heap.size + 1, 0, none⟩ (.int .i64 (q : Int))).setCell ⟨w.heap.size + 1, 1, none⟩ (.int .i64 (f + g))).drewN j)) := by
              intro i j
              have h := HI2.out
              refine JnAt.drewN ⟨hAt, hBt, ⟨_, hra.2.2.2.2⟩, ⟨_, hrb.2.2.2.2⟩, ?_, ?_, ?_, ?_, ?_, ?_, ?_, ?_, ?_, ((h.t.drewN i).setCell (x := ⟨w.heap.size + 1, 0, none⟩) (Or.inl (Nat.le_succ _)) _).setCell (x := ⟨w.heap.size + 1, 1, none⟩) (Or.inl (Nat.le_succ _)) _⟩ j
              · rw [h.eq, Pu.best_eq, HBB.out]
              all_goals simp [go_sem, hubO, h.c0, h.c1, h.f0, h.f1, h.r0, h.r1, h.g0, h.g1]
            clear HI2 hI hAt hBt hAd hBd hra hrb ho1 ho2 ho3 HBB
            cases o3 with
            | false =>
              clear hbt
              go_wp2_with fail
              go_quiet (fail)
              go_wp2_with fail
              go_quiet (fail)
              go_wp2_with fail
              go_quiet (fail)
              go_wp2_with fail
              go_quiet (fail)
              go_wp2
              go_roundw
              case rel => exact ⟨A'', B'', _, _, _, _, rfl, rfl, rfl, rfl, HN.out _ _⟩
              case measure => simp [lenV]; omega
            | true =>
              have hb2 : f + g < o2 := by rcases hbt with c | c; cases c; exact c
              clear hbt
              go_wp2_with fail
              go_quiet (fail)
              go_wp2_with fail
              go_quiet (fail)
              go_wp2_with fail
              go_quiet (fail)
              go_wp2_with fail
              go_quiet (fail)
              go_wp2
              go_roundw
              case rel => exact ⟨A'', B'', _, _, _, _, rfl, rfl, rfl, rfl, HN.out _ _⟩
              case measure => simp [lenV]; omega
          · have ho3t : o3 = true := by
              cases o3 with
              | true => rfl
              | false => exact absurd (Or.inl rfl) hbt
            have hb2 : ¬ f + g < o2 := fun c => hbt (Or.inr c)
            have HBB : Hid (Pu.better q (f + g) o = o) := by
              show _ = _
              cases o with
              | none => rw [ho3] at ho3t; cases ho3t
              | some z =>
                obtain ⟨z1, z2⟩ := z
                rw [Pu.better, if_neg]
                rw [ho2] at hb2
                exact hb2
            have HN : Hid (∀ i j, JnAt w (.slice (some Aa) na (ca - 1)) (.slice (some Ab) nb (cb - 1)) A'' B'' o R ((wr.drewN i).drewN j)) := by
              intro i j
              have h := HI2.out
              refine JnAt.drewN (JnAt.drewN ⟨hAt, hBt, ⟨_, hra.2.2.2.2⟩, ⟨_, hrb.2.2.2.2⟩, ?_, h.c0, h.c1, h.f0, h.f1, h.r0, h.r1, h.g0, h.g1, h.t⟩ i) j
              rw [h.eq, Pu.best_eq, HBB.out]
            have HO3 : Hid (true = (hubO o).2.2) := by show _ = _; rw [← ho3, ho3t]
            clear HI2 hI hAt hBt hAd hBd hra hrb ho1 ho2 ho3 HBB hbt
            subst ho3t
            go_wp2_with fail
            go_quiet (fail)
            go_wp2_with fail
            go_quiet (fail)
            go_wp2_with fail
            go_quiet (fail)
            go_wp2_with fail
            go_quiet (fail)
            go_wp2
            go_roundw
            case rel => exact ⟨A'', B'', o, _, _, _, rfl, rfl, by rw [← HO3.out], rfl, HN.out _ _⟩
            case measure => simp [lenV]; omega
end Go.Proofs.YtdogncjcainhlaaGreatDoor
/- Under which numbers this translation holds the lock's functions and types. -/
namespace Go.Proofs.YtdogncjcainhlaaGreatDoor
abbrev muLink : Go.Conc.Locks.MuLink := { lock := 38, unlock := 39, ilock := 73, iunlock := 74, lockSlow := 117, unlockSlow := 120, disable := 113, enable := 115, acquire := 116, relMerge := 118, cas32 := 114, add32 := 119, tMutex := 92, tIMutex := 90, tPMutex := 169, tPIMutex := 221, tPI32 := 223, tUP := 225, tNoCopy := 87, tU32 := 88 }
theorem muLib : Go.Conc.Locks.MuLib Tryz.prog muLink :=
  ⟨Tryz.func38, Tryz.func39, Tryz.func73, Tryz.func74, Tryz.func113, Tryz.func115, Tryz.func116, Tryz.func118, Tryz.func114, Tryz.func119, Tryz.underlying90, Tryz.runUnderlying90, Tryz.sizeOf90, Tryz.isAgg90, Tryz.zeroValue90, Tryz.underlying92, Tryz.runUnderlying92, Tryz.sizeOf92, Tryz.isAgg92, Tryz.zeroValue92, Tryz.underlying169, Tryz.runUnderlying169, Tryz.sizeOf169, Tryz.isAgg169, Tryz.zeroValue169, Tryz.underlying221, Tryz.runUnderlying221, Tryz.sizeOf221, Tryz.isAgg221, Tryz.zeroValue221, Tryz.underlying223, Tryz.runUnderlying223, Tryz.sizeOf223, Tryz.isAgg223, Tryz.zeroValue223, Tryz.underlying225, Tryz.runUnderlying225, Tryz.sizeOf225, Tryz.isAgg225, Tryz.zeroValue225, Tryz.underlying87, Tryz.runUnderlying87, Tryz.sizeOf87, Tryz.isAgg87, Tryz.zeroValue87, Tryz.underlying21, Tryz.runUnderlying21, Tryz.sizeOf21, Tryz.isAgg21, Tryz.zeroValue21, (by kernel_rfl)⟩
end Go.Proofs.YtdogncjcainhlaaGreatDoor
/- The walks of a store's Reads and Far. -/
namespace Go.Proofs.YtdogncjcainhlaaGreatDoor
open Go.RowKit Go.Deep Go.MuLone
open Mem

theorem StoreAt.locked {w : World} {b og oc sg sc : Nat} {O : List Nat} {st : Nat → Nat} {S : ByteArray} {c : Nat} {m : Int} {kv : Value} {K : List Nat} {r : Nat} (h : StoreAt w b og oc sg sc O st S c m kv K r) (x : Int) : StoreAt (w.setCell ⟨b, 0, none⟩ (.int .i32 x)) b og oc sg sc O st S c x kv K r := by
  have t : Turns (fun q => q = b) w (w.setCell ⟨b, 0, none⟩ (.int .i32 x)) := (Turns.refl (fun q => q = b) w).setCell (x := ⟨b, 0, none⟩) (Or.inr rfl) _
  exact ⟨h.box.set0 x, h.ord.turns_p t h.og, fun j hj => (t.cell (a := ⟨sg, j, none⟩) (World.block_lt_of_cell? _ _ (h.sts j hj)) h.sg).trans (h.sts j hj), owns_turns_p h.kept t (fun q hq => (h.ne q hq).1), h.ne, h.og, h.sg⟩
set_option maxRecDepth 100000 in
set_option maxHeartbeats 1000000 in
theorem stReads_any {w : World} {b og oc sg sc : Nat} {O : List Nat} {st : Nat → Nat} {S : ByteArray} {c : Nat} {kv : Value} {K : List Nat} {r : Nat} (h : StoreAt w b og oc sg sc O st S c 0 kv K r) :
    Calls Tryz.prog 18 #[.pointer (some ⟨b, 0, none⟩)] w fun e w' => e = .returned (.int .i64 (r : Int)) ∧ StoreAt w' b og oc sg sc O st S c 0 kv K r ∧ Turns (fun q => q = b) w w' := by
  have c0 := h.box.c0
  have f0 := h.box.free 0
  have H1 : Hid (StoreAt (w.setCell ⟨b, 0, none⟩ (.int .i32 1)) b og oc sg sc O st S c 1 kv K r) := h.locked 1
  have H2 : Hid (StoreAt ((w.setCell ⟨b, 0, none⟩ (.int .i32 1)).setCell ⟨b, 0, none⟩ (.int .i32 0)) b og oc sg sc O st S c 0 kv K r ∧ Turns (fun q => q = b) w ((w.setCell ⟨b, 0, none⟩ (.int .i32 1)).setCell ⟨b, 0, none⟩ (.int .i32 0))) := ⟨(h.locked 1).locked 0, ((Turns.refl (fun q => q = b) w).setCell (x := ⟨b, 0, none⟩) (Or.inr rfl) _).setCell (x := ⟨b, 0, none⟩) (Or.inr rfl) _⟩
  clear h
  go_enter_defers Tryz.func18, Tryz.ntmps18
  go_wp2_with (go_at_call 38; refine (lock_free muLib ⟨b, 0, none⟩ _ c0 f0).mono ?_; rintro e w' ⟨rfl, rfl⟩)
  refine (shReads_any H1.out.box).mono ?_
  rintro e w2 ⟨rfl, hw2⟩
  subst hw2
  go_wp2
  refine leaves_cons (f := 39) (args := #[.pointer (some ⟨b, 0, none⟩)]) (by simp) (by simp [go_sem]) ?_
  refine (unlock_deferred muLib ⟨b, 0, none⟩ .returning _ H1.out.box.c0 (H1.out.box.free 0)).mono ?_
  rintro e u' w'' ⟨rfl, rfl, rfl⟩
  exact ⟨_, results_tmp rfl _ _ _, rfl, H2.out⟩
end Go.Proofs.YtdogncjcainhlaaGreatDoor
/- The walks of Head.Has, Head.PlaceOf, Head.Places. -/
namespace Go.Proofs.YtdogncjcainhlaaGreatDoor
open Go.RowKit Go.Deep
open Mem

set_option maxRecDepth 100000 in
set_option maxHeartbeats 1000000 in
theorem has_any (w : World) (og oc n : Nat) (sv1 : Option Addr) (sn sc : Nat) (p : Int) :
    Calls Tryz.prog 44 #[.agg #[.slice (some ⟨og, 0, none⟩) n oc, .slice sv1 sn sc], .int .i64 p] w fun e w' => e = .returned (.bool (decide (0 ≤ p ∧ p < (n : Int)))) ∧ Turns (fun _ => False) w w' := by
  have HT : Hid (∀ o q, Turns (fun _ => False) w ((w.alloc o).drewN q)) := fun o q => ((Turns.refl _ _).alloc o).drewN q
  obtain ⟨RES, hRES⟩ : ∃ RES, RES = decide (0 ≤ p ∧ p < (n : Int)) := ⟨_, rfl⟩
  rw [← hRES]
  by_cases h0 : 0 ≤ p
  · by_cases h1 : p < (n : Int)
    · have HR : Hid (RES = true) := hRES.trans (decide_eq_true ⟨h0, h1⟩)
      clear hRES
      go_enter Tryz.func44, Tryz.ntmps44
      go_wp2
      go_ret
      exact ⟨by rw [HR.out]; rfl, HT.out _ 0⟩
    · have HR : Hid (RES = false) := hRES.trans (decide_eq_false (fun c => h1 c.2))
      clear hRES
      go_enter Tryz.func44, Tryz.ntmps44
      go_wp2
      go_ret
      exact ⟨by rw [HR.out]; rfl, HT.out _ 0⟩
  · have HR : Hid (RES = false) := hRES.trans (decide_eq_false (fun c => h0 c.1))
    clear hRES
    go_enter Tryz.func44, Tryz.ntmps44
    go_wp2
    go_ret
    exact ⟨by rw [HR.out]; rfl, HT.out _ 0⟩
set_option maxRecDepth 100000 in
set_option maxHeartbeats 1000000 in
theorem placeOf_any (w : World) (og oc n r v : Nat) (sv1 : Option Addr) (sn sc : Nat) (hr : r < n) (hc : w.cell? ⟨og, r, none⟩ = some (.int .i64 (v : Int))) :
    Calls Tryz.prog 47 #[.agg #[.slice (some ⟨og, 0, none⟩) n oc, .slice sv1 sn sc], .int .i64 (r : Int)] w fun e w' => e = .returned (.int .i64 (v : Int)) ∧ Turns (fun _ => False) w w' := by
  have hri : (r : Int) < (n : Int) := by omega
  have hol : og < w.heap.size := World.block_lt_of_cell? _ _ hc
  have HT : Hid (∀ o q, Turns (fun _ => False) w ((w.alloc o).drewN q)) := fun o q => ((Turns.refl _ _).alloc o).drewN q
  go_enter Tryz.func47, Tryz.ntmps47
  go_wp2
  go_ret
  exact ⟨rfl, HT.out _ 0⟩
set_option maxRecDepth 100000 in
theorem places_any (w : World) (og oc n : Nat) (sv1 : Option Addr) (sn sc : Nat) :
    Calls Tryz.prog 85 #[.agg #[.slice (some ⟨og, 0, none⟩) n oc, .slice sv1 sn sc]] w fun e w' => e = .returned (.int .i64 (n : Int)) ∧ Turns (fun _ => False) w w' := by
  have HT : Hid (∀ o q, Turns (fun _ => False) w ((w.alloc o).drewN q)) := fun o q => ((Turns.refl _ _).alloc o).drewN q
  go_enter Tryz.func85, Tryz.ntmps85
  go_wp2
  go_ret
  exact ⟨rfl, HT.out _ 0⟩
end Go.Proofs.YtdogncjcainhlaaGreatDoor
/- The walk of a store's Far. -/
namespace Go.Proofs.YtdogncjcainhlaaGreatDoor
open Go.RowKit Go.Deep Go.MuLone
open Mem

set_option maxRecDepth 100000 in
set_option maxHeartbeats 1000000 in
/-- No place. -/
theorem stFar_node {w : World} {b og oc sg sc : Nat} {O : List Nat} {st : Nat → Nat} {S : ByteArray} {c : Nat} {kv : Value} {K : List Nat} {r : Nat} (p q : Int) (h : StoreAt w b og oc sg sc O st S c 0 kv K r) (hpq : ¬ (0 ≤ p ∧ p < (O.length : Int) ∧ 0 ≤ q ∧ q < (O.length : Int))) :
    Calls Tryz.prog 20 #[.pointer (some ⟨b, 0, none⟩), .int .i64 p, .int .i64 q] w fun e w' => e = .returned (.tuple #[.int .i64 0, .int .i64 0, .int .i64 5]) ∧ StoreAt w' b og oc sg sc O st S c 0 kv K r ∧ Turns (fun x => x = b) w w' := by
  have c0 := h.box.c0
  have f0 := h.box.free 0
  obtain ⟨w1, hw1⟩ : ∃ w1, w1 = w.setCell ⟨b, 0, none⟩ (.int .i32 1) := ⟨_, rfl⟩
  have H1 : Hid (StoreAt w1 b og oc sg sc O st S c 1 kv K r) := by show StoreAt _ _ _ _ _ _ _ _ _ _ _ _ _ _; rw [hw1]; exact h.locked 1
  have HT1 : Hid (Turns (fun x => x = b) w w1) := by show Turns _ _ _; rw [hw1]; exact (Turns.refl (fun x => x = b) w).setCell (x := ⟨b, 0, none⟩) (Or.inr rfl) _
  have HW1 : Hid (w.setCell ⟨b, 0, none⟩ (.int .i32 1) = w1) := hw1.symm
  have e2 := H1.out.box.c2
  have e3 := H1.out.box.c3
  have hbl := H1.out.box.lt
  clear h hw1
  have HP : Hid (∀ w2 x, Calls Tryz.prog 44 #[.agg #[.slice (some ⟨og, 0, none⟩) O.length oc, .slice (some ⟨sg, 0, none⟩) (O.length + 1) sc], .int .i64 x] w2 fun e w' => e = .returned (.bool (decide (0 ≤ x ∧ x < (O.length : Int)))) ∧ Turns (fun _ => False) w2 w') := fun w2 x => has_any w2 og oc O.length _ _ _ x
  by_cases hp : 0 ≤ p ∧ p < (O.length : Int)
  · have hq : ¬ (0 ≤ q ∧ q < (O.length : Int)) := fun c => hpq ⟨hp.1, hp.2, c.1, c.2⟩
    have hpd : decide (0 ≤ p ∧ p < (O.length : Int)) = true := decide_eq_true hp
    have hqd : decide (0 ≤ q ∧ q < (O.length : Int)) = false := decide_eq_false hq
    have HPp := HP.out w1 p
    have HPq := fun w2 => HP.out w2 q
    rw [hpd] at HPp
    simp only [hqd] at HPq
    clear hp hq hpq hpd hqd HP
    go_enter_defers Tryz.func20, Tryz.ntmps20
    go_wp2_with (go_at_call 38; refine (lock_free muLib ⟨b, 0, none⟩ _ c0 f0).mono ?_; rintro e w' ⟨rfl, rfl⟩; rw [HW1.out])
    refine HPp.mono ?_
    rintro e w2 ⟨rfl, hT2⟩
    have H2 : Hid (StoreAt w2 b og oc sg sc O st S c 1 kv K r) := H1.out.turns0 hT2
    have HT2 : Hid (Turns (fun x => x = b) w w2) := HT1.out.trans (hT2.mono (fun _ _ x => x.elim))
    have k2 := H2.out.box.c2
    have k3 := H2.out.box.c3
    have hbl2 := H2.out.box.lt
    clear hT2 HPp e2 e3
    go_wp2_with fail
    refine (HPq w2).mono ?_
    rintro e w3 ⟨rfl, hT3⟩
    have H3 : Hid (StoreAt w3 b og oc sg sc O st S c 1 kv K r) := H2.out.turns0 hT3
    have HT3 : Hid (Turns (fun x => x = b) w w3) := HT2.out.trans (hT3.mono (fun _ _ x => x.elim))
    have m2 := H3.out.box.c2
    have m3 := H3.out.box.c3
    have hbl3 := H3.out.box.lt
    clear hT3 HPq k2 k3
    go_wp2
    refine leaves_cons (f := 39) (args := #[.pointer (some ⟨b, 0, none⟩)]) (by simp) (by simp [go_sem]) ?_
    refine (unlock_deferred muLib ⟨b, 0, none⟩ .returning _ H3.out.box.c0 (H3.out.box.free 0)).mono ?_
    rintro e u' w'' ⟨rfl, rfl, rfl⟩
    exact ⟨.tuple #[.int .i64 0, .int .i64 0, .int .i64 5], by simp [results, Tryz.results20, go_sem], rfl, H3.out.locked 0, HT3.out.setCell (x := ⟨b, 0, none⟩) (Or.inr rfl) _⟩
  · have hpd : decide (0 ≤ p ∧ p < (O.length : Int)) = false := decide_eq_false hp
    have HPp := HP.out w1 p
    rw [hpd] at HPp
    clear hp hpq hpd HP
    go_enter_defers Tryz.func20, Tryz.ntmps20
    go_wp2_with (go_at_call 38; refine (lock_free muLib ⟨b, 0, none⟩ _ c0 f0).mono ?_; rintro e w' ⟨rfl, rfl⟩; rw [HW1.out])
    refine HPp.mono ?_
    rintro e w2 ⟨rfl, hT2⟩
    have H2 : Hid (StoreAt w2 b og oc sg sc O st S c 1 kv K r) := H1.out.turns0 hT2
    have HT2 : Hid (Turns (fun x => x = b) w w2) := HT1.out.trans (hT2.mono (fun _ _ x => x.elim))
    have k2 := H2.out.box.c2
    have k3 := H2.out.box.c3
    have hbl2 := H2.out.box.lt
    clear hT2 HPp e2 e3
    go_wp2
    refine leaves_cons (f := 39) (args := #[.pointer (some ⟨b, 0, none⟩)]) (by simp) (by simp [go_sem]) ?_
    refine (unlock_deferred muLib ⟨b, 0, none⟩ .returning _ H2.out.box.c0 (H2.out.box.free 0)).mono ?_
    rintro e u' w'' ⟨rfl, rfl, rfl⟩
    exact ⟨.tuple #[.int .i64 0, .int .i64 0, .int .i64 5], by simp [results, Tryz.results20, go_sem], rfl, H2.out.locked 0, HT2.out.setCell (x := ⟨b, 0, none⟩) (Or.inr rfl) _⟩
end Go.Proofs.YtdogncjcainhlaaGreatDoor
/- The walk of a store's Far between places. -/
namespace Go.Proofs.YtdogncjcainhlaaGreatDoor
open Go.RowKit Go.Deep Go.MuLone
open Mem

namespace Pu
theorem best_mem {P : Nat → Prop} : ∀ (n : Nat) (a b : List (Nat × Int)) (o : Option (Nat × Int)), a.length + b.length ≤ n → (∀ r s, o = some (r, s) → P r) → (∀ y ∈ a, P y.1) → ∀ r s, best o a b = some (r, s) → P r
  | n, [], b, o, _, ho, _, r, s, h => by rw [best_nil] at h; exact ho r s h
  | n, x :: a, [], o, _, ho, _, r, s, h => by rw [best_end] at h; exact ho r s h
  | 0, x :: a, y :: b, o, hn, _, _, _, _, _ => by simp at hn
  | n + 1, (r1, f) :: a, (q, g) :: b, o, hn, ho, ha, r, s, h => by
    simp only [List.length_cons] at hn
    by_cases h1 : r1 < q
    · rw [best_lo h1] at h
      exact best_mem n a ((q, g) :: b) o (by simp only [List.length_cons]; omega) ho (fun y hy => ha y (by simp [hy])) r s h
    · by_cases h2 : q < r1
      · rw [best_hi h2] at h
        exact best_mem n ((r1, f) :: a) b o (by simp only [List.length_cons]; omega) ho ha r s h
      · have e : r1 = q := by omega
        subst e
        rw [best_eq] at h
        refine best_mem n a b _ (by omega) ?_ (fun y hy => ha y (by simp [hy])) r s h
        intro r' s' hb
        cases o with
        | none =>
          injection hb with hb
          injection hb with e1 e2
          subst e1
          exact ha (r1, f) (by simp)
        | some z =>
          obtain ⟨z1, z2⟩ := z
          rw [better] at hb
          split at hb
          · injection hb with hb
            injection hb with e1 e2
            subst e1
            exact ha (r1, f) (by simp)
          · injection hb with hb
            injection hb with e1 e2
            subst e1
            exact ho z1 z2 rfl
/-- The pages of a label are looked at. -/
def lookP (c : Nat) (st : Nat → Nat) (s : List Nat × Nat) (v : Nat) : List Nat × Nat := looks c s (st v / 28) ((st (v + 1) + 27) / 28 - st v / 28)
theorem looks_le (c : Nat) : ∀ (k : Nat) (s : List Nat × Nat) (p : Nat), (looks c s p k).2 ≤ s.2 + k
  | 0, _, _ => Nat.le_refl _
  | k + 1, (K, r), p => by
    have h1 := looks_le c k (lookK c K p, r + lookR K p) (p + 1)
    have h2 := lookR_le K p
    rw [looks]
    simp only at h1 ⊢
    omega
end Pu
/-- What is known of the labels of a store that was opened. -/
structure Labs (S : ByteArray) (O : List Nat) (st : Nat → Nat) (lab : Nat → List (Nat × Int)) : Prop where
  n1 : 1 ≤ O.length
  n40 : O.length ≤ 40
  size : S.size ≤ 60000
  s28 : S.size % 28 = 0
  lt : ∀ v, v < O.length → st v < st (v + 1)
  le : ∀ v, v < O.length → st (v + 1) ≤ S.size
  of : ∀ v, v < O.length → Pu.labOf ((S.data.toList.take (st (v + 1))).drop (st v)) = some (lab v)
  rank : ∀ v, v < O.length → ∀ y ∈ lab v, y.1 < O.length
  ord : ∀ m ∈ O, m < O.length
  ne : ∀ v, v < O.length → lab v ≠ []
theorem Labs.rise {S : ByteArray} {O : List Nat} {st : Nat → Nat} {lab : Nat → List (Nat × Int)} (h : Labs S O st lab) {v : Nat} (hv : v < O.length) : Pu.Rise 0 (lab v) := (Pu.labOf_eq.1 (h.of v hv)).2.1
theorem Labs.looks {S : ByteArray} {O : List Nat} {st : Nat → Nat} {lab : Nat → List (Nat × Int)} (h : Labs S O st lab) {v c r : Nat} {K : List Nat} (hv : v < O.length) (hc : 1 ≤ c) (hK : Pu.Keeps c K) : Pu.Keeps c (Pu.lookP c st (K, r) v).1 ∧ (Pu.lookP c st (K, r) v).2 ≤ r + 2200 := by
  have h1 := Pu.looks_le c ((st (v + 1) + 27) / 28 - st v / 28) (K, r) (st v / 28)
  have h2 := h.le v hv
  have h3 := h.size
  refine ⟨Pu.Keeps.looks hc _ _ hK, ?_⟩
  unfold Pu.lookP
  simp only at h1
  omega
end Go.Proofs.YtdogncjcainhlaaGreatDoor
/- The walk of a store's Far between places. -/
namespace Go.Proofs.YtdogncjcainhlaaGreatDoor
open Go.RowKit Go.Deep Go.MuLone
open Mem

/-- What Far hands back. -/
def farV (O : List Nat) : Option (Nat × Int) → Value
  | none => .tuple #[.int .i64 0, .int .i64 0, .int .i64 6]
  | some (r, x) => .tuple #[.int .i64 x, .int .i64 ((O[r]?.getD 0 : Nat) : Int), .int .i64 0]
theorem HubAt.turns_p {p : Nat → Prop} {w w' : World} {a : Option Addr} {L : List (Nat × Int)} {n c : Nat} (h : HubAt w a L) (t : Turns p w w') (hp : ∀ q, (Value.slice a n c).ownBlock = some q → ¬ p q) : HubAt w' a L := by
  intro i r f hi
  obtain ⟨g, h0, h1, h2⟩ := h i r f hi
  have hg : ¬ p g := hp g (by rw [h0]; rfl)
  exact ⟨g, h0, (t.cell (a := ⟨g, i * 2, none⟩) (World.block_lt_of_cell? _ _ h1) hg).trans h1, (t.cell (a := ⟨g, i * 2 + 1, none⟩) (World.block_lt_of_cell? _ _ h2) hg).trans h2⟩
theorem first_drew {p : Nat → Prop} {w w' : World} (h : Turns p w.drew w') : Turns p w w' := ((Turns.refl p w).drew).trans h
set_option maxRecDepth 100000 in
set_option maxHeartbeats 2000000 in
theorem stFar_any {w : World} {b og oc sg sc : Nat} {O : List Nat} {st : Nat → Nat} {S : ByteArray} {c : Nat} {kv : Value} {K : List Nat} {r p q : Nat} {lab : Nat → List (Nat × Int)} (L : Labs S O st lab) (h : StoreAt w b og oc sg sc O st S c 0 kv K r) (hp : p < O.length) (hq : q < O.length) (hc1 : 1 ≤ c) (hc8 : c ≤ 8) (hK : Pu.Keeps c K) (hr : r ≤ 9000000000000000) :
    Calls Tryz.prog 20 #[.pointer (some ⟨b, 0, none⟩), .int .i64 (p : Int), .int .i64 (q : Int)] w fun e w' => e = .returned (farV O (Pu.best none (lab p) (lab q))) ∧ ∃ kv', StoreAt w' b og oc sg sc O st S c 0 kv' (Pu.lookP c st (Pu.lookP c st (K, r) p) q).1 (Pu.lookP c st (Pu.lookP c st (K, r) p) q).2 ∧ (∀ x, kv'.ownBlock = some x → kv.ownBlock = some x ∨ w.heap.size ≤ x) ∧ Turns (fun x => x = b ∨ kv.ownBlock = some x) w w' := by
  have c0 := h.box.c0
  have f0 := h.box.free 0
  obtain ⟨w1, hw1⟩ : ∃ w1, w1 = w.setCell ⟨b, 0, none⟩ (.int .i32 1) := ⟨_, rfl⟩
  have H1 : Hid (StoreAt w1 b og oc sg sc O st S c 1 kv K r) := by show StoreAt _ _ _ _ _ _ _ _ _ _ _ _ _ _; rw [hw1]; exact h.locked 1
  have HT1 : Hid (Turns (fun x => x = b ∨ kv.ownBlock = some x) w w1) := by show Turns _ _ _; rw [hw1]; exact (Turns.refl _ w).setCell (x := ⟨b, 0, none⟩) (Or.inr (Or.inl rfl)) _
  have HW1 : Hid (w.setCell ⟨b, 0, none⟩ (.int .i32 1) = w1) := hw1.symm
  have e2 := H1.out.box.c2
  have e3 := H1.out.box.c3
  have hbl := H1.out.box.lt
  have HPp : Hid (∀ w2, Calls Tryz.prog 44 #[.agg #[.slice (some ⟨og, 0, none⟩) O.length oc, .slice (some ⟨sg, 0, none⟩) (O.length + 1) sc], .int .i64 (p : Int)] w2 fun e w' => e = .returned (.bool true) ∧ Turns (fun _ => False) w2 w') := fun w2 => by
    have := has_any w2 og oc O.length (some ⟨sg, 0, none⟩) (O.length + 1) sc (p : Int)
    rw [decide_eq_true (by omega)] at this
    exact this
  have HPq : Hid (∀ w2, Calls Tryz.prog 44 #[.agg #[.slice (some ⟨og, 0, none⟩) O.length oc, .slice (some ⟨sg, 0, none⟩) (O.length + 1) sc], .int .i64 (q : Int)] w2 fun e w' => e = .returned (.bool true) ∧ Turns (fun _ => False) w2 w') := fun w2 => by
    have := has_any w2 og oc O.length (some ⟨sg, 0, none⟩) (O.length + 1) sc (q : Int)
    rw [decide_eq_true (by omega)] at this
    exact this
  have HL : Hid (Labs S O st lab) := L
  have HK1 : Hid (Pu.Keeps c (Pu.lookP c st (K, r) p).1 ∧ (Pu.lookP c st (K, r) p).2 ≤ r + 2200) := L.looks hp hc1 hK
  have HC1 : Hid (∀ w2, StoreAt w2 b og oc sg sc O st S c 1 kv K r → Calls Tryz.prog 45 #[.pointer (some ⟨b, 0, none⟩), .int .i64 (p : Int)] w2 fun e w' => ∃ a hc kv', e = .returned (.slice a (lab p).length hc) ∧ HubAt w' a (lab p) ∧ (lab p).length ≤ hc ∧ (∀ x, (Value.slice a (lab p).length hc).ownBlock = some x → w2.heap.size ≤ x ∧ kv'.ownBlock ≠ some x) ∧ StoreAt w' b og oc sg sc O st S c 1 kv' (Pu.lookP c st (K, r) p).1 (Pu.lookP c st (K, r) p).2 ∧ (∀ x, kv'.ownBlock = some x → kv.ownBlock = some x ∨ w2.heap.size ≤ x) ∧ Turns (fun x => x = b ∨ kv.ownBlock = some x) w2 w') := fun w2 h2 => label_any h2 L.n1 L.n40 hp hc1 hc8 hK (by omega) (L.lt p hp) (L.le p hp) L.size L.s28 (L.of p hp)
  have HC2 : Hid (∀ w2 kv2, StoreAt w2 b og oc sg sc O st S c 1 kv2 (Pu.lookP c st (K, r) p).1 (Pu.lookP c st (K, r) p).2 → Calls Tryz.prog 45 #[.pointer (some ⟨b, 0, none⟩), .int .i64 (q : Int)] w2 fun e w' => ∃ a hc kv', e = .returned (.slice a (lab q).length hc) ∧ HubAt w' a (lab q) ∧ (lab q).length ≤ hc ∧ (∀ x, (Value.slice a (lab q).length hc).ownBlock = some x → w2.heap.size ≤ x ∧ kv'.ownBlock ≠ some x) ∧ StoreAt w' b og oc sg sc O st S c 1 kv' (Pu.lookP c st (Pu.lookP c st (K, r) p) q).1 (Pu.lookP c st (Pu.lookP c st (K, r) p) q).2 ∧ (∀ x, kv'.ownBlock = some x → kv2.ownBlock = some x ∨ w2.heap.size ≤ x) ∧ Turns (fun x => x = b ∨ kv2.ownBlock = some x) w2 w') := fun w2 kv2 h2 => label_any h2 L.n1 L.n40 hq hc1 hc8 HK1.out.1 (by have h9 := HK1.out.2; unfold Pu.lookP at h9; omega) (L.lt q hq) (L.le q hq) L.size L.s28 (L.of q hq)
  obtain ⟨BB, hBB⟩ : ∃ BB, BB = Pu.best none (lab p) (lab q) := ⟨_, rfl⟩
  rw [← hBB]
  have HBB : Hid (BB = Pu.best none (lab p) (lab q)) := hBB
  clear hBB
  generalize Pu.lookP c st (Pu.lookP c st (K, r) p) q = LQ at *
  generalize Pu.lookP c st (K, r) p = LP at *
  clear h hw1 HK1 hK
  go_enter_defers Tryz.func20, Tryz.ntmps20
  go_wp2_with (go_at_call 38; refine (lock_free muLib ⟨b, 0, none⟩ _ c0 f0).mono ?_; rintro e w' ⟨rfl, rfl⟩; rw [HW1.out])
  refine (HPp.out w1).mono ?_
  rintro e w2 ⟨rfl, hT2⟩
  have H2 : Hid (StoreAt w2 b og oc sg sc O st S c 1 kv K r) := H1.out.turns0 hT2
  have HT2 : Hid (Turns (fun x => x = b ∨ kv.ownBlock = some x) w w2) := HT1.out.trans (hT2.mono (fun _ _ x => x.elim))
  have k2 := H2.out.box.c2
  have k3 := H2.out.box.c3
  have hbl2 := H2.out.box.lt
  clear hT2 e2 e3 HPp
  go_wp2_with fail
  refine (HPq.out w2).mono ?_
  rintro e w3 ⟨rfl, hT3⟩
  have H3 : Hid (StoreAt w3 b og oc sg sc O st S c 1 kv K r) := H2.out.turns0 hT3
  have HT3 : Hid (Turns (fun x => x = b ∨ kv.ownBlock = some x) w w3) := HT2.out.trans (hT3.mono (fun _ _ x => x.elim))
  clear hT3 k2 k3 HPq H2 HT2 H1 HT1
  go_wp2_with fail
  refine (HC1.out w3 H3.out).mono ?_
  rintro e w4 ⟨a1, hc1', kv1, rfl, hA1, hl1, ho1, hS1, hq1, hT4⟩
  have HA1 : Hid (HubAt w4 a1 (lab p) ∧ (lab p).length ≤ hc1' ∧ (∀ x, (Value.slice a1 (lab p).length hc1').ownBlock = some x → w3.heap.size ≤ x ∧ kv1.ownBlock ≠ some x)) := ⟨hA1, hl1, ho1⟩
  have HS1 : Hid (StoreAt w4 b og oc sg sc O st S c 1 kv1 LP.1 LP.2) := hS1
  have HQ1 : Hid (∀ x, kv1.ownBlock = some x → kv.ownBlock = some x ∨ w.heap.size ≤ x) := fun x hx => (hq1 x hx).imp id (fun y => Nat.le_trans HT3.out.size y)
  have HT4 : Hid (Turns (fun x => x = b ∨ kv.ownBlock = some x) w w4) := HT3.out.trans hT4
  clear hA1 hl1 ho1 hS1 hq1 hT4 HC1
  go_wp2_with fail
  refine (HC2.out w4 kv1 HS1.out).mono ?_
  rintro e w5 ⟨a2, hc2', kv2, rfl, hA2, hl2, ho2, hS2, hq2, hT5⟩
  have HH1 : Hid (HubsAt w5 (.slice a1 (lab p).length hc1') (lab p)) := HubsAt.of (HA1.out.1.turns_p hT5 (fun x hx => by
    rintro (e | e)
    · have h1 := (HA1.out.2.2 x hx).1
      have h2 := H3.out.box.lt
      omega
    · exact (HA1.out.2.2 x hx).2 e)) HA1.out.2.1
  have HH2 : Hid (HubsAt w5 (.slice a2 (lab q).length hc2') (lab q)) := HubsAt.of hA2 hl2
  have HS2 : Hid (StoreAt w5 b og oc sg sc O st S c 1 kv2 LQ.1 LQ.2) := hS2
  have HQ2 : Hid (∀ x, kv2.ownBlock = some x → kv.ownBlock = some x ∨ w.heap.size ≤ x) := fun x hx => by
    rcases hq2 x hx with e | e
    · exact HQ1.out x e
    · exact Or.inr (Nat.le_trans HT4.out.size e)
  have HT5 : Hid (Turns (fun x => x = b ∨ kv.ownBlock = some x) w w5) := HT4.out.join hT5 (fun x hx hp => by
    rintro (e | e)
    · exact hp (Or.inl e)
    · rcases HQ1.out x e with e | e
      · exact hp (Or.inr e)
      · omega)
  have cb := best_any w5 _ _ (lab p) (lab q) 0 0 HH1.out HH2.out (HL.out.rise hp) (HL.out.rise hq)
  have HBM : Hid (∀ rk x, Pu.best none (lab p) (lab q) = some (rk, x) → rk < O.length) := fun rk x hb => Pu.best_mem (P := fun z => z < O.length) _ (lab p) (lab q) none (Nat.le_refl _) (fun _ _ z => by cases z) (HL.out.rank p hp) rk x hb
  rw [← HBB.out] at cb HBM
  clear HBB
  generalize (lab p).length = l1 at *
  generalize (lab q).length = l2 at *
  clear hA2 hl2 ho2 hS2 hq2 hT5 HC2 HA1 HS1 HQ1 HT4 HT3 H3 HH1 HH2
  go_wp2_with fail
  refine cb.mono ?_
  rintro e w6 ⟨rfl, hT6⟩
  have H6 : Hid (StoreAt w6 b og oc sg sc O st S c 1 kv2 LQ.1 LQ.2) := HS2.out.turns0 hT6
  have HT6 : Hid (Turns (fun x => x = b ∨ kv.ownBlock = some x) w w6) := HT5.out.trans (hT6.mono (fun _ _ x => x.elim))
  have m2 := H6.out.box.c2
  have m3 := H6.out.box.c3
  have hbl6 := H6.out.box.lt
  clear cb hT6 HS2 HT5
  cases BB with
  | none =>
    simp only [hubO]
    go_wp2
    refine leaves_cons (f := 39) (args := #[.pointer (some ⟨b, 0, none⟩)]) (by simp) (by simp [go_sem]) ?_
    have H7 := H6.out.turns0 ((Turns.refl (fun _ => False) w6).alloc (.cells #[.int .i64 0, .int .i64 0] 131))
    refine (unlock_deferred muLib ⟨b, 0, none⟩ .returning _ H7.box.c0 (H7.box.free 0)).mono ?_
    rintro e u' w'' ⟨rfl, rfl, rfl⟩
    exact ⟨.tuple #[.int .i64 0, .int .i64 0, .int .i64 6], by simp [results, Tryz.results20, go_sem], rfl, kv2, H7.locked 0, HQ2.out, (HT6.out.alloc _).setCell (x := ⟨b, 0, none⟩) (Or.inr (Or.inl rfl)) _⟩
  | some z =>
    obtain ⟨rk, x⟩ := z
    simp only [hubO]
    have hrk := HBM.out rk x rfl
    obtain ⟨v, hv⟩ : ∃ v, O[rk]? = some v := ⟨_, List.getElem?_eq_getElem hrk⟩
    have HFV : Hid (farV O (some (rk, x)) = .tuple #[.int .i64 x, .int .i64 (v : Int), .int .i64 0]) := by show _ = _; rw [farV, hv]; rfl
    have HPO : Hid (∀ w7, StoreAt w7 b og oc sg sc O st S c 1 kv2 LQ.1 LQ.2 → Calls Tryz.prog 47 #[.agg #[.slice (some ⟨og, 0, none⟩) O.length oc, .slice (some ⟨sg, 0, none⟩) (O.length + 1) sc], .int .i64 (rk : Int)] w7 fun e w' => e = .returned (.int .i64 (v : Int)) ∧ Turns (fun _ => False) w7 w') := fun w7 h7 => placeOf_any w7 og oc O.length rk v _ _ _ hrk (h7.ord.2 rk v hv).2
    have H7 : Hid (StoreAt (w6.alloc (.cells #[.int .i64 (rk : Int), .int .i64 x] 131)) b og oc sg sc O st S c 1 kv2 LQ.1 LQ.2) := H6.out.turns0 ((Turns.refl (fun _ => False) w6).alloc _)
    obtain ⟨w7, hw7⟩ : ∃ w7, w7 = w6.alloc (.cells #[.int .i64 (rk : Int), .int .i64 x] 131) := ⟨_, rfl⟩
    have HW7 : Hid (w6.alloc (.cells #[.int .i64 (rk : Int), .int .i64 x] 131) = w7) := hw7.symm
    have HT7 : Hid (Turns (fun x => x = b ∨ kv.ownBlock = some x) w w7) := by show Turns _ _ _; rw [hw7]; exact HT6.out.alloc _
    have s0 : w7.cell? ⟨w6.heap.size, 0, none⟩ = some (.int .i64 (rk : Int)) := by rw [hw7]; simp
    have s1 : w7.cell? ⟨w6.heap.size, 1, none⟩ = some (.int .i64 x) := by rw [hw7]; simp
    rw [← hw7] at H7
    have j2 := H7.out.box.c2
    have j3 := H7.out.box.c3
    have hb7 := H7.out.box.lt
    have hs7 : w6.heap.size < w7.heap.size := World.block_lt_of_cell? _ _ s0
    clear HBM hv hw7
    go_wp2_with fail
    rw [HW7.out]
    clear m2 m3 HW7
    go_region_held3 (fun w' => w'.cell? ⟨b, 2, none⟩ = some (.slice (some ⟨og, 0, none⟩) O.length oc) ∧ w'.cell? ⟨b, 3, none⟩ = some (.slice (some ⟨sg, 0, none⟩) (O.length + 1) sc) ∧ w'.cell? ⟨w6.heap.size, 0, none⟩ = some (.int .i64 (rk : Int)) ∧ w'.cell? ⟨w6.heap.size, 1, none⟩ = some (.int .i64 x)) (go_keep)
      (first | (go_at_call 47; refine (HPO.out _ (by first | exact H7.out | exact H7.out.turns0 (Turns.refl (fun _ => False) _).drew)).mono ?_; rintro e w8 ⟨rfl, hT8⟩; have n2 : w8.cell? ⟨b, 2, none⟩ = some (.slice (some ⟨og, 0, none⟩) O.length oc) := (hT8.cell (a := ⟨b, 2, none⟩) hb7 (fun x => x)).trans j2; have n3 : w8.cell? ⟨b, 3, none⟩ = some (.slice (some ⟨sg, 0, none⟩) (O.length + 1) sc) := (hT8.cell (a := ⟨b, 3, none⟩) hb7 (fun x => x)).trans j3; have n4 : w8.cell? ⟨w6.heap.size, 0, none⟩ = some (.int .i64 (rk : Int)) := (hT8.cell (a := ⟨w6.heap.size, 0, none⟩) hs7 (fun x => x)).trans s0; have n5 : w8.cell? ⟨w6.heap.size, 1, none⟩ = some (.int .i64 x) := (hT8.cell (a := ⟨w6.heap.size, 1, none⟩) hs7 (fun x => x)).trans s1))
    all_goals
      have t78 : Turns (fun _ => False) w7 w8 := first_drew hT8
      have H8 : Hid (StoreAt w8 b og oc sg sc O st S c 1 kv2 LQ.1 LQ.2) := H7.out.turns0 t78
      have HT8 : Hid (Turns (fun x => x = b ∨ kv.ownBlock = some x) w w8) := HT7.out.trans (t78.mono (fun _ _ x => x.elim))
      clear hT8 t78 n2 n3 n4 n5 j2 j3 s0 s1 HPO
      go_wp2
      refine leaves_cons (f := 39) (args := #[.pointer (some ⟨b, 0, none⟩)]) (by simp) (by simp [go_sem]) ?_
      refine (unlock_deferred muLib ⟨b, 0, none⟩ .returning _ H8.out.box.c0 (H8.out.box.free 0)).mono ?_
      rintro e u' w'' ⟨rfl, rfl, rfl⟩
      exact ⟨.tuple #[.int .i64 x, .int .i64 (v : Int), .int .i64 0], by simp [results, Tryz.results20, go_sem], by rw [HFV.out], kv2, H8.out.locked 0, HQ2.out, HT8.out.setCell (x := ⟨b, 0, none⟩) (Or.inr (Or.inl rfl)) _⟩
end Go.Proofs.YtdogncjcainhlaaGreatDoor
/- The walk of a store's others. -/
namespace Go.Proofs.YtdogncjcainhlaaGreatDoor
open Go.RowKit Go.Deep
open Mem

namespace Pu
/-- How far the first places are from a place, those that a hub joins with it. -/
def nearL (lab : Nat → List (Nat × Int)) (f : Nat) : Nat → List (Nat × Int)
  | 0 => []
  | v + 1 => nearL lab f v ++ (if v = f then [] else match best none (lab f) (lab v) with
    | none => []
    | some (_, x) => [(v, x)])
/-- The pages of the first places' labels are looked at, but for one place's. -/
def lookA (c : Nat) (st : Nat → Nat) (f : Nat) (s : List Nat × Nat) : Nat → List Nat × Nat
  | 0 => s
  | v + 1 => if v = f then lookA c st f s v else lookP c st (lookA c st f s v) v
theorem nearL_len (lab : Nat → List (Nat × Int)) (f : Nat) : ∀ n, (nearL lab f n).length ≤ n
  | 0 => Nat.le_refl _
  | v + 1 => by
    have := nearL_len lab f v
    rw [nearL, List.length_append]
    split
    · simp; omega
    · split
      · simp; omega
      · simp; omega
end Pu
theorem owns_apart {w : World} {b1 b2 : Nat} {e1 e2 : TypeId} {s1 s2 : Nat} {v1 v2 : Value} {n1 n2 : Nat} {xs1 xs2 : List Value} (h1 : w.ownsRow b1 e1 s1 v1 n1 xs1) (h2 : w.ownsRow b2 e2 s2 v2 n2 xs2) (he : e1 ≠ e2) : ∀ q, v1.ownBlock = some q → v2.ownBlock ≠ some q := by
  intro q hq hq2
  rcases h1.2 with ⟨c, _⟩ | ⟨g, cap, cur, hv, _, hb, _⟩
  · rw [c] at hq; cases hq
  · rcases h2.2 with ⟨c, _⟩ | ⟨g', cap', cur', hv', _, hb', _⟩
    · rw [c] at hq2; cases hq2
    · rw [hv] at hq
      rw [hv'] at hq2
      have hq : some g = some q := hq
      have hq2 : some g' = some q := hq2
      injection hq with hq
      injection hq2 with hq2
      subst hq hq2
      rw [hb] at hb'
      injection hb' with hb'
      injection hb' with _ hb'
      exact he hb'
theorem infoNear : (Tryz.prog.info? 66).map (fun i => (i.zero, i.size, i.bytes)) = some (some (.agg #[.int .i64 0, .int .i64 0]), 2, 16) := by kernel_rfl
/-- What holds ahead of each round. -/
structure OthAt (w : World) (b og oc sg sc : Nat) (O : List Nat) (st : Nat → Nat) (S : ByteArray) (c : Nat) (kv : Value) (lab : Nat → List (Nat × Int)) (f g1 : Nat) (LK : List Nat × Nat) (N : List (Nat × Int)) (x kv' : Value) (wr : World) : Prop where
  s : StoreAt wr b og oc sg sc O st S c 1 kv' LK.1 LK.2
  k : Pu.Keeps c LK.1
  row : wr.ownsRow w.heap.size 66 2 x N.length (hubV N)
  h : HubAt wr (some ⟨g1, 0, none⟩) (lab f)
  g : g1 < wr.heap.size
  gk : kv'.ownBlock ≠ some g1
  gx : x.ownBlock ≠ some g1
  q : ∀ q, kv'.ownBlock = some q → kv.ownBlock = some q ∨ w.heap.size ≤ q
  t : Turns (fun q => q = b ∨ kv.ownBlock = some q) w wr
theorem OthAt.turns0 {w : World} {b og oc sg sc : Nat} {O : List Nat} {st : Nat → Nat} {S : ByteArray} {c : Nat} {kv : Value} {lab : Nat → List (Nat × Int)} {f g1 : Nat} {LK : List Nat × Nat} {N : List (Nat × Int)} {x kv' : Value} {wr w' : World} (h : OthAt w b og oc sg sc O st S c kv lab f g1 LK N x kv' wr) (t : Turns (fun _ => False) wr w') : OthAt w b og oc sg sc O st S c kv lab f g1 LK N x kv' w' :=
  ⟨h.s.turns0 t, h.k, owns_turns h.row t, h.h.turns t, Nat.lt_of_lt_of_le h.g t.size, h.gk, h.gx, h.q, h.t.trans (t.mono (fun _ _ x => x.elim))⟩
end Go.Proofs.YtdogncjcainhlaaGreatDoor
/- The walk of (*Held).nears: a list of places is written full of a mark, and three more behind it, and held at each step. -/
namespace Go.Proofs.YtdogncjcainhlaaGreatDoor
open Go.RowKit
open Mem

/-- The block of the world of stores: its two rows, how many lists came, the row of held lists. -/
def WB (w : World) (h : Nat) (k : Int) (u : Value × Value) (v : Value) : Prop := w.heap[h]? = some (.cells #[u.1, u.2, .int .i64 k, .slice none 0 0, .slice none 0 0, v] 47 (0, 0))
section
variable {w : World} {h : Nat} {k : Int} {u : Value × Value} {v : Value}
theorem WB.lt (H : WB w h k u v) : h < w.heap.size := lt_of_block H
theorem WB.cs (H : WB w h k u v) : w.cell? ⟨h, 0, none⟩ = some u.1 := by unfold WB at H; simp [World.cell?, H]
theorem WB.cr (H : WB w h k u v) : w.cell? ⟨h, 1, none⟩ = some u.2 := by unfold WB at H; simp [World.cell?, H]
theorem WB.c0 (H : WB w h k u v) : w.cell? ⟨h, 2, none⟩ = some (.int .i64 k) := by unfold WB at H; simp [World.cell?, H]
theorem WB.ci (H : WB w h k u v) : w.cell? ⟨h, 3, none⟩ = some (.slice none 0 0) := by unfold WB at H; simp [World.cell?, H]
theorem WB.cl (H : WB w h k u v) : w.cell? ⟨h, 4, none⟩ = some (.slice none 0 0) := by unfold WB at H; simp [World.cell?, H]
theorem WB.c2 (H : WB w h k u v) : w.cell? ⟨h, 5, none⟩ = some v := by unfold WB at H; simp [World.cell?, H]
theorem WB.free (H : WB w h k u v) (j : Nat) : w.frozen? ⟨h, j, none⟩ = false := by unfold WB at H; simp [World.frozen?, H]
theorem WB.turns {p : Nat → Prop} {w' : World} (H : WB w h k u v) (t : Turns p w w') (hp : ¬ p h) : WB w' h k u v := (t.block h H.lt hp).trans H
theorem WB.sets (H : WB w h k u v) (x : Value) : WB (w.setCell ⟨h, 0, none⟩ x) h k (x, u.2) v := Mem.heap_setCell_same H _
theorem WB.setr (H : WB w h k u v) (x : Value) : WB (w.setCell ⟨h, 1, none⟩ x) h k (u.1, x) v := Mem.heap_setCell_same H _
theorem WB.set0 (H : WB w h k u v) (x : Int) : WB (w.setCell ⟨h, 2, none⟩ (.int .i64 x)) h x u v := Mem.heap_setCell_same H _
theorem WB.set2 (H : WB w h k u v) (x : Value) : WB (w.setCell ⟨h, 5, none⟩ x) h k u x := Mem.heap_setCell_same H _
end
theorem infoH69 : (Tryz.prog.info? 122).map (fun i => (i.zero, i.size, i.bytes)) = some (some (.agg #[.slice none 0 0, .int .i64 0]), 2, 32) := by kernel_rfl
/-- Where the blocks lie: in what was there, in the list that came, or new. -/
structure Fr (w : World) (v lv : Value) (E : List (Value × Int)) (v' gs : Value) (E' : List (Value × Int)) : Prop where
  v : ∀ q, v'.ownBlock = some q → v.ownBlock = some q ∨ w.heap.size ≤ q
  g : ∀ q, gs.ownBlock = some q → lv.ownBlock = some q ∨ w.heap.size ≤ q
  e : ∀ e ∈ E', ∀ q, e.1.ownBlock = some q → (∃ e0 ∈ E, e0.1.ownBlock = some q) ∨ lv.ownBlock = some q ∨ w.heap.size ≤ q
theorem Fr.refl (w : World) (v lv : Value) (E : List (Value × Int)) : Fr w v lv E v lv E := ⟨fun _ h => Or.inl h, fun _ h => Or.inl h, fun e he _ h => Or.inl ⟨e, he, h⟩⟩
theorem Fr.list {w wr : World} {v lv : Value} {E : List (Value × Int)} {v' gs : Value} {E' : List (Value × Int)} (h : Fr w v lv E v' gs E') {g n c : Nat} (hat : v'.ownBlock = some g ∨ g = wr.heap.size + 1) (hs : w.heap.size ≤ wr.heap.size) (m : Int) : Fr w v lv E (.slice (some ⟨g, 0, none⟩) n c) gs (E' ++ [(gs, m)]) := by
  refine ⟨fun q hq => ?_, h.g, fun e he q hq => ?_⟩
  · have e : g = q := by injection hq
    subst e
    rcases hat with a | a
    · exact h.v g a
    · exact Or.inr (by omega)
  · rcases List.mem_append.1 he with he | he
    · exact h.e e he q hq
    · rw [List.mem_singleton] at he
      subst he
      exact Or.inr (h.g q hq)
theorem Fr.grow {w wr : World} {v lv : Value} {E : List (Value × Int)} {v' gs : Value} {E' : List (Value × Int)} (h : Fr w v lv E v' gs E') {g n c : Nat} (hat : gs.ownBlock = some g ∨ g = wr.heap.size + 1) (hs : w.heap.size ≤ wr.heap.size) : Fr w v lv E v' (.slice (some ⟨g, 0, none⟩) n c) E' := by
  refine ⟨h.v, fun q hq => ?_, h.e⟩
  have e : g = q := by injection hq
  subst e
  rcases hat with a | a
  · exact h.g g a
  · exact Or.inr (by omega)
/-- What holds ahead of each round of the loop that holds the list. -/
def HLoopN (v lv : Value) (E : List (Value × Int)) (p : Nat → Prop) (w : World) (h B n : Nat) (k m : Int) (u : Value × Value) (c : Nat) (gs iv : Value) (wr : World) : Prop :=
  ∃ (i : Nat) (v' : Value) (E' : List (Value × Int)), iv = .int .i64 i ∧ i ≤ 3 ∧ WB wr h k u v' ∧ HS 2 122 66 p w B (n + i) m v' gs E' wr ∧ E'.length = c + i ∧ Fr w v lv E v' gs E'

set_option maxRecDepth 100000 in
set_option maxHeartbeats 1000000 in
theorem nears_nil (w : World) (h B n : Nat) (k : Int) (v : Value) (u : Value × Value) (E : List (Value × Int)) (hk0 : 0 ≤ k) (hk1 : k ≤ 1000000000) (hn : n ≤ 1000000) (hE : E.length ≤ 4000000000) (hHB : WB w h k u v) (hL : Lists 2 122 w B v E) (hn0 : n = 0)
    (hhB : h < B) (hBw : B ≤ w.heap.size) :
    Calls Tryz.prog 37 #[.pointer (some ⟨h, 2, none⟩), .slice none 0 0] w fun e w' => e = .returned (.tuple #[]) ∧ Turns (fun q => q = h ∨ v.ownBlock = some q ∨ (.slice none 0 0 : Value).ownBlock = some q) w w' ∧ ∃ v' E', WB w' h (k + 1) u v' ∧ Lists 2 122 w' B v' E' ∧ E'.length = E.length + 4 ∧ ∃ gs, Fr w v (.slice none 0 0) E v' gs E' := by
  obtain ⟨i0, hi, hz0, hz1, hz2⟩ := info_parts infoH69
  obtain ⟨i1, hj, hy0, hy1, hy2⟩ := info_parts infoNear
  obtain ⟨p, hpdef⟩ : ∃ p : Nat → Prop, p = fun q => q = h ∨ v.ownBlock = some q ∨ (.slice none 0 0 : Value).ownBlock = some q := ⟨_, rfl⟩
  have hph : p h := by rw [hpdef]; exact Or.inl rfl
  have hpv : ∀ q, v.ownBlock = some q → p q := fun q hq => by rw [hpdef]; exact Or.inr (Or.inl hq)
  have hpl : ∀ q, (.slice none 0 0 : Value).ownBlock = some q → p q := fun q hq => by rw [hpdef]; exact Or.inr (Or.inr hq)
  rw [← hpdef]
  have c0 := hHB.c0
  have f0 := hHB.free 2
  have s0 : ∀ y, (w.setCell ⟨h, 2, none⟩ y).cell? ⟨h, 2, none⟩ = some y := fun y => World.cell?_setCell_same _ _ _ c0
  obtain ⟨m, hm⟩ : ∃ m : Int, -1000 - (k + 1) = m := ⟨_, rfl⟩
  have hS0 : Turns (· = h) w (w.setCell ⟨h, 2, none⟩ (.int .i64 (k + 1))) := (Turns.refl (· = h) w).setCell (Or.inr rfl) _
  have hB1 := hHB.set0 (k + 1)
  have hL1 : Lists 2 122 (w.setCell ⟨h, 2, none⟩ (.int .i64 (k + 1))) B v E := hL.turns hS0 (fun q hq => by have := (hL.own.lt q hq).1; omega) (fun e he q hq => by have := ((hL.full e he).lt q hq).1; omega)
  have hT1 : Turns p w (w.setCell ⟨h, 2, none⟩ (.int .i64 (k + 1))) := (Turns.refl p w).setCell (Or.inr hph) _
  have HST : Hid (HLoopN v (.slice none 0 0) E p w h B n (k + 1) m u E.length (.slice none 0 0) (.int .i64 0) (w.setCell ⟨h, 2, none⟩ (.int .i64 (k + 1)))) :=
    ⟨0, v, E, rfl, by omega, hB1, ⟨hL1, ⟨[], by rw [hn0]; exact World.ownsRow_nil _ _ _ _, fun j hj => by omega⟩, fun q hq => (by cases hq), fun q hq => Or.inl (hpv q hq), fun q hq => (by cases hq), hT1⟩, rfl, Fr.refl _ _ _ _⟩
  have HN : Hid (n = 0) := hn0
  clear hn0
  clear hB1 hL1 hT1 hS0 hL hHB hpdef hpv hpl
  go_enter Tryz.func37, Tryz.ntmps37
  go_wp2
  go_loopw [5] (fun iv wr => iv = .int .i64 0 ∧ wr = w.setCell ⟨h, 2, none⟩ (.int .i64 (k + 1))) (fun iv _ => 0)
  case atStart => exact ⟨rfl, rfl⟩
  case round =>
    obtain ⟨rfl, hwr⟩ := hrel
    subst hwr
    go_wp2
    go_loopw [6, 7] (fun gs iv wr => HLoopN v (.slice none 0 0) E p w h B n (k + 1) m u E.length gs iv wr) (fun _ iv _ => 3 - (intOf iv).toNat)
    case atStart => exact HST.out
    case round =>
      clear HST
      obtain ⟨i, v', E', rfl, hi3, hB, hS, hEl, hFr⟩ := hrel
      rename_i gs
      obtain ⟨ga, gl, gc, hgs⟩ := hS.form
      subst hgs
      have HEl : Hid (E'.length = E.length + i) := hEl
      have hEb : E'.length ≤ 4000000003 := by omega
      clear hEl
      have hsz := hS.t.size
      have HFr : Hid (Fr w v (.slice none 0 0) E v' (.slice ga gl gc) E') := hFr
      clear hFr
      have c1 := hB.c2
      have hown := hS.ls.own
      have hone := hS.one
      have HA : Hid (WB wr h (k + 1) u v' ∧ HS 2 122 66 p w B (n + i) m v' (.slice ga gl gc) E' wr) := ⟨hB, hS⟩
      clear hB hS
      by_cases hlt : i < 3
      · go_wp2_with (at_builtin; refine wpList_append_own_at _ rfl _ _ 43 rfl B 122 i0 _ 2 32 Tryz.underlying43 hi hz0 hz1 hz2 rfl (by decide) _ _ _ rfl (hown.alloc _) ⟨wr.heap.size, 0, none⟩ 1 1 [.slice ga gl gc, .int .i64 m] rfl rfl ?c1 ?c2 ?c3 ?c4 ?c5 ?_)
        case c1 => exact World.news_of_block (cs := #[.slice ga gl gc, .int .i64 m]) (heap_alloc_new wr _)
        case c2 => intro x hx; simp at hx; rcases hx with rfl | rfl; · exact hone
                   · rfl
        case c3 => unfold maxLen; omega
        case c4 => omega
        case c5 => simp; omega
        intro v'' w3 hown3 hgrow _ hat
        obtain ⟨g', cap', hv'⟩ := owns_form hown3
        subst hv'
        have hat' : v'.ownBlock = some g' ∨ g' = wr.heap.size + 1 := by
          rcases hat with h' | h'
          · left; rw [← h']; rfl
          · right; simpa [Value.ownBlock] using h'
        have hT3 : Turns (fun q => v'.ownBlock = some q) wr w3 := ((Turns.refl _ wr).alloc _).grown hgrow (fun q hq => Or.inr hq)
        have hB3 := HA.out.1.turns hT3 (fun c => by have := (hown.lt _ c).1; omega)
        have d1 := hB3.c2
        have e1 := hB3.free 5
        have hS4 := HA.out.2.list (slot := 5) hhB hph rfl hown3 hgrow hat' (.slice (some ⟨g', 0, none⟩) (E'.length + 1) cap')
        have hB4 := hB3.set2 (.slice (some ⟨g', 0, none⟩) (E'.length + 1) cap')
        have HF4 : Hid (Fr w v (.slice none 0 0) E (.slice (some ⟨g', 0, none⟩) (E'.length + 1) cap') (.slice ga gl gc) (E' ++ [(.slice ga gl gc, m)])) := HFr.out.list hat' hsz m
        obtain ⟨w4, hw4⟩ : ∃ w4, w3.setCell ⟨h, 5, none⟩ (.slice (some ⟨g', 0, none⟩) (E'.length + 1) cap') = w4 := ⟨_, rfl⟩
        rw [hw4] at hS4 hB4
        obtain ⟨ys, hrow, hfull⟩ := hS4.row
        have hsz4 := hS4.t.size
        have HC : Hid (WB w4 h (k + 1) u (.slice (some ⟨g', 0, none⟩) (E'.length + 1) cap') ∧ HS 2 122 66 p w B (n + i) m (.slice (some ⟨g', 0, none⟩) (E'.length + 1) cap') (.slice ga gl gc) (E' ++ [(.slice ga gl gc, m)]) w4) := ⟨hB4, hS4⟩
        clear hown3 hgrow hat hat' hT3 hB3 hS4 hB4 HA hown c1
        go_wp2_with (at_builtin; refine wpList_append_stays _ rfl _ _ 62 rfl B 66 i1 _ 2 16 Tryz.underlying62 hj hy0 hy1 hy2 rfl (by decide) _ _ _ rfl (hrow.alloc _) ⟨w4.heap.size, 0, none⟩ 1 1 [.int .i64 m, .int .i64 m] rfl rfl ?k1 ?k2 ?k3 ?k4 ?k5 ?k6 ?_)
        case k1 => exact World.news_of_block (cs := #[.int .i64 m, .int .i64 m]) (heap_alloc_new w4 _)
        case k2 => intro x hx; simp at hx; subst hx; rfl
        case k3 => omega
        case k4 => unfold maxLen; omega
        case k5 => omega
        case k6 => simp; omega
        intro g5 cap5 w5 hown5 hgrow5 hat5 hst5
        have hS5 := HC.out.2.grow hrow hfull rfl (fun x hx => by simpa using hx) hown5 hgrow5 (by simpa using hat5) (fun b hb j hj => hst5 b hb j (by omega))
        have HF5 : Hid (Fr w v (.slice none 0 0) E (.slice (some ⟨g', 0, none⟩) (E'.length + 1) cap') (.slice (some ⟨g5, 0, none⟩) (n + i + 1) cap5) (E' ++ [(.slice ga gl gc, m)])) := HF4.out.grow (wr := w4) (by simpa using hat5) hsz4
        have hT5 : Turns (fun q => (Value.slice ga gl gc).ownBlock = some q) w4 w5 := ((Turns.refl _ w4).alloc _).grown hgrow5 (fun q hq => Or.inr hq)
        have hB5 := HC.out.1.turns hT5 (fun c => by have := (hrow.lt _ c).1; omega)
        have HX : Hid (HLoopN v (.slice none 0 0) E p w h B n (k + 1) m u E.length (.slice (some ⟨g5, 0, none⟩) (n + i + 1) cap5) (.int .i64 ((i : Int) + 1)) w5) :=
          ⟨i + 1, _, _, by go_num, by omega, hB5, hS5, by have := HEl.out; simp; omega, HF5.out⟩
        clear hS5 hT5 hB5 HC hown5 hgrow5 hat5 hst5 hrow hfull
        go_wp2
        go_roundw
        case measure => simp [intOf]; omega
        case rel => exact HX.out
      · have hie : i = 3 := by omega
        subst hie
        go_wp2_with (at_builtin; refine wpList_append_own_at _ rfl _ _ 43 rfl B 122 i0 _ 2 32 Tryz.underlying43 hi hz0 hz1 hz2 rfl (by decide) _ _ _ rfl (hown.alloc _) ⟨wr.heap.size, 0, none⟩ 1 1 [.slice ga gl gc, .int .i64 m] rfl rfl ?c1 ?c2 ?c3 ?c4 ?c5 ?_)
        case c1 => exact World.news_of_block (cs := #[.slice ga gl gc, .int .i64 m]) (heap_alloc_new wr _)
        case c2 => intro x hx; simp at hx; rcases hx with rfl | rfl; · exact hone
                   · rfl
        case c3 => unfold maxLen; omega
        case c4 => omega
        case c5 => simp; omega
        intro v'' w3 hown3 hgrow _ hat
        obtain ⟨g', cap', hv'⟩ := owns_form hown3
        subst hv'
        have hat' : v'.ownBlock = some g' ∨ g' = wr.heap.size + 1 := by
          rcases hat with h' | h'
          · left; rw [← h']; rfl
          · right; simpa [Value.ownBlock] using h'
        have hT3 : Turns (fun q => v'.ownBlock = some q) wr w3 := ((Turns.refl _ wr).alloc _).grown hgrow (fun q hq => Or.inr hq)
        have hB3 := HA.out.1.turns hT3 (fun c => by have := (hown.lt _ c).1; omega)
        have d1 := hB3.c2
        have e1 := hB3.free 5
        have hS4 := HA.out.2.list (slot := 5) hhB hph rfl hown3 hgrow hat' (.slice (some ⟨g', 0, none⟩) (E'.length + 1) cap')
        have hB4 := hB3.set2 (.slice (some ⟨g', 0, none⟩) (E'.length + 1) cap')
        have HF4 : Hid (Fr w v (.slice none 0 0) E (.slice (some ⟨g', 0, none⟩) (E'.length + 1) cap') (.slice ga gl gc) (E' ++ [(.slice ga gl gc, m)])) := HFr.out.list hat' hsz m
        have HX : Hid (Turns p w (w3.setCell ⟨h, 5, none⟩ (.slice (some ⟨g', 0, none⟩) (E'.length + 1) cap')) ∧ ∃ v' E'', WB (w3.setCell ⟨h, 5, none⟩ (.slice (some ⟨g', 0, none⟩) (E'.length + 1) cap')) h (k + 1) u v' ∧ Lists 2 122 (w3.setCell ⟨h, 5, none⟩ (.slice (some ⟨g', 0, none⟩) (E'.length + 1) cap')) B v' E'' ∧ E''.length = E.length + 4 ∧ ∃ gs, Fr w v (.slice none 0 0) E v' gs E'') :=
          ⟨hS4.t, _, _, hB4, hS4.ls, by have := HEl.out; simp; omega, _, HF4.out⟩
        clear hown3 hgrow hat hat' hT3 hB3 hS4 hB4 HA hown c1
        go_wp2
        go_end0
        exact ⟨rfl, HX.out⟩
set_option maxRecDepth 100000 in
set_option maxHeartbeats 1000000 in
theorem nears_some (w : World) (h B n g cap : Nat) (k : Int) (v : Value) (u : Value × Value) (E : List (Value × Int)) (hk0 : 0 ≤ k) (hk1 : k ≤ 1000000000) (hn : n ≤ 1000000) (hE : E.length ≤ 4000000000) (hHB : WB w h k u v) (hL : Lists 2 122 w B v E) (xs : List Value) (hl : w.ownsRow B 66 2 (.slice (some ⟨g, 0, none⟩) n cap) n xs)
    (hhB : h < B) (hBw : B ≤ w.heap.size) (hap : ∀ q, (.slice (some ⟨g, 0, none⟩) n cap : Value).ownBlock = some q → v.ownBlock ≠ some q ∧ ∀ e ∈ E, e.1.ownBlock ≠ some q) :
    Calls Tryz.prog 37 #[.pointer (some ⟨h, 2, none⟩), .slice (some ⟨g, 0, none⟩) n cap] w fun e w' => e = .returned (.tuple #[]) ∧ Turns (fun q => q = h ∨ v.ownBlock = some q ∨ (.slice (some ⟨g, 0, none⟩) n cap : Value).ownBlock = some q) w w' ∧ ∃ v' E', WB w' h (k + 1) u v' ∧ Lists 2 122 w' B v' E' ∧ E'.length = E.length + 4 ∧ ∃ gs, Fr w v (.slice (some ⟨g, 0, none⟩) n cap) E v' gs E' := by
  obtain ⟨i0, hi, hz0, hz1, hz2⟩ := info_parts infoH69
  obtain ⟨i1, hj, hy0, hy1, hy2⟩ := info_parts infoNear
  obtain ⟨p, hpdef⟩ : ∃ p : Nat → Prop, p = fun q => q = h ∨ v.ownBlock = some q ∨ (.slice (some ⟨g, 0, none⟩) n cap : Value).ownBlock = some q := ⟨_, rfl⟩
  have hph : p h := by rw [hpdef]; exact Or.inl rfl
  have hpv : ∀ q, v.ownBlock = some q → p q := fun q hq => by rw [hpdef]; exact Or.inr (Or.inl hq)
  have hpl : ∀ q, (.slice (some ⟨g, 0, none⟩) n cap : Value).ownBlock = some q → p q := fun q hq => by rw [hpdef]; exact Or.inr (Or.inr hq)
  rw [← hpdef]
  have c0 := hHB.c0
  have f0 := hHB.free 2
  have s0 : ∀ y, (w.setCell ⟨h, 2, none⟩ y).cell? ⟨h, 2, none⟩ = some y := fun y => World.cell?_setCell_same _ _ _ c0
  obtain ⟨m, hm⟩ : ∃ m : Int, -1000 - (k + 1) = m := ⟨_, rfl⟩
  have hS0 : Turns (· = h) w (w.setCell ⟨h, 2, none⟩ (.int .i64 (k + 1))) := (Turns.refl (· = h) w).setCell (Or.inr rfl) _
  have hB1 := hHB.set0 (k + 1)
  have hL1 : Lists 2 122 (w.setCell ⟨h, 2, none⟩ (.int .i64 (k + 1))) B v E := hL.turns hS0 (fun q hq => by have := (hL.own.lt q hq).1; omega) (fun e he q hq => by have := ((hL.full e he).lt q hq).1; omega)
  have hT1 : Turns p w (w.setCell ⟨h, 2, none⟩ (.int .i64 (k + 1))) := (Turns.refl p w).setCell (Or.inr hph) _
  have hgB := (hl.lt g rfl).1
  have hR0 : (w.setCell ⟨h, 2, none⟩ (.int .i64 (k + 1))).ownsRow B 66 2 (.slice (some ⟨g, 0, none⟩) n cap) n xs := ownsRow_setCell_other hl (fun c => by simp [Value.ownBlock] at c; omega) _
  have HPV : Hid (∀ q, v.ownBlock = some q → p q) := hpv
  have HPL : Hid (p g) := hpl g rfl
  have HAP : Hid (v.ownBlock ≠ some g ∧ ∀ e ∈ E, e.1.ownBlock ≠ some g) := hap g rfl
  have HPH : Hid (p h) := hph
  have HR0 : Hid (∃ ys, (w.setCell ⟨h, 2, none⟩ (.int .i64 (k + 1))).ownsRow B 66 2 (.slice (some ⟨g, 0, none⟩) n cap) n ys ∧ (∀ j, j < 0 * 2 → ys[j]? = some (.int .i64 m)) ∧ WB (w.setCell ⟨h, 2, none⟩ (.int .i64 (k + 1))) h (k + 1) u v ∧ Lists 2 122 (w.setCell ⟨h, 2, none⟩ (.int .i64 (k + 1))) B v E ∧ Turns p w (w.setCell ⟨h, 2, none⟩ (.int .i64 (k + 1)))) :=
    ⟨xs, hR0, fun j hj => by omega, hB1, hL1, hT1⟩
  clear hB1 hL1 hT1 hS0 hL hHB hap hpdef hpv hpl hl hR0
  go_enter Tryz.func37, Tryz.ntmps37
  go_wp2
  go_loopw [5] (fun iv wr => ∃ i : Nat, iv = .int .i64 i ∧ i ≤ n ∧ ∃ ys, wr.ownsRow B 66 2 (.slice (some ⟨g, 0, none⟩) n cap) n ys ∧ (∀ j, j < i * 2 → ys[j]? = some (.int .i64 m)) ∧ WB wr h (k + 1) u v ∧ Lists 2 122 wr B v E ∧ Turns p w wr) (fun iv _ => n - (intOf iv).toNat)
  case atStart => exact ⟨0, rfl, Nat.zero_le _, HR0.out⟩
  case round =>
    clear HR0
    obtain ⟨i, rfl, hin, ys, hrow, hys, hB, hL, hT⟩ := hrel
    by_cases hlt : i < n
    · have hyl : ys.length = n * 2 := hrow.1
      obtain ⟨y0, hy0⟩ : ∃ y, ys[i * 2]? = some y := ⟨_, List.getElem?_eq_getElem (by omega)⟩
      obtain ⟨y1, hy1⟩ : ∃ y, ys[i * 2 + 1]? = some y := ⟨_, List.getElem?_eq_getElem (by omega)⟩
      have hc0 : wr.cell? ⟨g, i * 2, none⟩ = some y0 := by rw [hrow.cellAt _ (by omega)]; exact hy0
      have hc1 : wr.cell? ⟨g, i * 2 + 1, none⟩ = some y1 := by rw [hrow.cellAt _ (by omega)]; exact hy1
      have hf0 := hrow.frozenAt (i * 2)
      have hf1 := hrow.frozenAt (i * 2 + 1)
      have hS1 : Turns (· = g) wr ((wr.setCell ⟨g, i * 2, none⟩ (.int .i64 m)).setCell ⟨g, i * 2 + 1, none⟩ (.int .i64 m)) := ((Turns.refl (· = g) wr).setCell (Or.inr rfl) _).setCell (Or.inr rfl) _
      have HX : Hid (∃ i' : Nat, (Value.int .i64 ((i : Int) + 1)) = .int .i64 i' ∧ i' ≤ n ∧ ∃ ys, ((wr.setCell ⟨g, i * 2, none⟩ (.int .i64 m)).setCell ⟨g, i * 2 + 1, none⟩ (.int .i64 m)).ownsRow B 66 2 (.slice (some ⟨g, 0, none⟩) n cap) n ys ∧ (∀ j, j < i' * 2 → ys[j]? = some (.int .i64 m)) ∧ WB ((wr.setCell ⟨g, i * 2, none⟩ (.int .i64 m)).setCell ⟨g, i * 2 + 1, none⟩ (.int .i64 m)) h (k + 1) u v ∧ Lists 2 122 ((wr.setCell ⟨g, i * 2, none⟩ (.int .i64 m)).setCell ⟨g, i * 2 + 1, none⟩ (.int .i64 m)) B v E ∧ Turns p w ((wr.setCell ⟨g, i * 2, none⟩ (.int .i64 m)).setCell ⟨g, i * 2 + 1, none⟩ (.int .i64 m))) := by
        refine ⟨i + 1, by go_num, by omega, (ys.set (i * 2) (.int .i64 m)).set (i * 2 + 1) (.int .i64 m), owns_set (owns_set hrow _ _) _ _, fun j hj => ?_, hB.turns hS1 (by omega), hL.turns hS1 (fun q hq c => HAP.out.1 (by rw [← c]; exact hq)) (fun e he q hq c => HAP.out.2 e he (by rw [← c]; exact hq)), (hT.setCell (Or.inr HPL.out) _).setCell (Or.inr HPL.out) _⟩
        rw [List.getElem?_set, List.getElem?_set]
        by_cases c1 : i * 2 + 1 = j
        · rw [if_pos c1, if_pos (by simp; omega)]
        · rw [if_neg c1]
          by_cases c0 : i * 2 = j
          · rw [if_pos c0, if_pos (by omega)]
          · rw [if_neg c0]; exact hys j (by omega)
      clear hrow hys hB hL hT hS1 hy0 hy1
      have hli : (i : Int) < (n : Int) := by omega
      go_wp2
      go_roundw
      case measure => simp [intOf]; omega
      case rel => exact HX.out
    · have hie : n = i := by omega
      have HST : Hid (HLoopN v (.slice (some ⟨g, 0, none⟩) n cap) E p w h B n (k + 1) m u E.length (.slice (some ⟨g, 0, none⟩) n cap) (.int .i64 0) wr) :=
        ⟨0, v, E, rfl, by omega, hB, ⟨hL, ⟨ys, hrow, fun j hj => hys j (by omega)⟩, fun q hq => (by cases hq; exact ⟨HAP.out.1, fun e he hb => absurd hb (HAP.out.2 e he)⟩), fun q hq => Or.inl (HPV.out q hq), fun q hq => (by cases hq; exact Or.inl HPL.out), hT⟩, rfl, Fr.refl _ _ _ _⟩
      clear hrow hys hB hL hT hin
      subst hie
      go_wp2
      go_loopw [6, 7] (fun gs iv wr => HLoopN v (.slice (some ⟨g, 0, none⟩) n cap) E p w h B n (k + 1) m u E.length gs iv wr) (fun _ iv _ => 3 - (intOf iv).toNat)
      case atStart => exact HST.out
      case round =>
        clear HST
        obtain ⟨i, v', E', rfl, hi3, hB, hS, hEl, hFr⟩ := hrel
        rename_i gs
        obtain ⟨ga, gl, gc, hgs⟩ := hS.form
        subst hgs
        have HEl : Hid (E'.length = E.length + i) := hEl
        have hEb : E'.length ≤ 4000000003 := by omega
        clear hEl
        have hsz := hS.t.size
        have HFr : Hid (Fr w v (.slice (some ⟨g, 0, none⟩) n cap) E v' (.slice ga gl gc) E') := hFr
        clear hFr
        have c1 := hB.c2
        have hown := hS.ls.own
        have hone := hS.one
        have HA : Hid (WB wr h (k + 1) u v' ∧ HS 2 122 66 p w B (n + i) m v' (.slice ga gl gc) E' wr) := ⟨hB, hS⟩
        clear hB hS
        by_cases hlt : i < 3
        · go_wp2_with (at_builtin; refine wpList_append_own_at _ rfl _ _ 43 rfl B 122 i0 _ 2 32 Tryz.underlying43 hi hz0 hz1 hz2 rfl (by decide) _ _ _ rfl (hown.alloc _) ⟨wr.heap.size, 0, none⟩ 1 1 [.slice ga gl gc, .int .i64 m] rfl rfl ?c1 ?c2 ?c3 ?c4 ?c5 ?_)
          case c1 => exact World.news_of_block (cs := #[.slice ga gl gc, .int .i64 m]) (heap_alloc_new wr _)
          case c2 => intro x hx; simp at hx; rcases hx with rfl | rfl; · exact hone
                     · rfl
          case c3 => unfold maxLen; omega
          case c4 => omega
          case c5 => simp; omega
          intro v'' w3 hown3 hgrow _ hat
          obtain ⟨g', cap', hv'⟩ := owns_form hown3
          subst hv'
          have hat' : v'.ownBlock = some g' ∨ g' = wr.heap.size + 1 := by
            rcases hat with h' | h'
            · left; rw [← h']; rfl
            · right; simpa [Value.ownBlock] using h'
          have hT3 : Turns (fun q => v'.ownBlock = some q) wr w3 := ((Turns.refl _ wr).alloc _).grown hgrow (fun q hq => Or.inr hq)
          have hB3 := HA.out.1.turns hT3 (fun c => by have := (hown.lt _ c).1; omega)
          have d1 := hB3.c2
          have e1 := hB3.free 5
          have hS4 := HA.out.2.list (slot := 5) hhB hph rfl hown3 hgrow hat' (.slice (some ⟨g', 0, none⟩) (E'.length + 1) cap')
          have hB4 := hB3.set2 (.slice (some ⟨g', 0, none⟩) (E'.length + 1) cap')
          have HF4 : Hid (Fr w v (.slice (some ⟨g, 0, none⟩) n cap) E (.slice (some ⟨g', 0, none⟩) (E'.length + 1) cap') (.slice ga gl gc) (E' ++ [(.slice ga gl gc, m)])) := HFr.out.list hat' hsz m
          obtain ⟨w4, hw4⟩ : ∃ w4, w3.setCell ⟨h, 5, none⟩ (.slice (some ⟨g', 0, none⟩) (E'.length + 1) cap') = w4 := ⟨_, rfl⟩
          rw [hw4] at hS4 hB4
          obtain ⟨ys, hrow, hfull⟩ := hS4.row
          have hsz4 := hS4.t.size
          have HC : Hid (WB w4 h (k + 1) u (.slice (some ⟨g', 0, none⟩) (E'.length + 1) cap') ∧ HS 2 122 66 p w B (n + i) m (.slice (some ⟨g', 0, none⟩) (E'.length + 1) cap') (.slice ga gl gc) (E' ++ [(.slice ga gl gc, m)]) w4) := ⟨hB4, hS4⟩
          clear hown3 hgrow hat hat' hT3 hB3 hS4 hB4 HA hown c1
          go_wp2_with (at_builtin; refine wpList_append_stays _ rfl _ _ 62 rfl B 66 i1 _ 2 16 Tryz.underlying62 hj hy0 hy1 hy2 rfl (by decide) _ _ _ rfl (hrow.alloc _) ⟨w4.heap.size, 0, none⟩ 1 1 [.int .i64 m, .int .i64 m] rfl rfl ?k1 ?k2 ?k3 ?k4 ?k5 ?k6 ?_)
          case k1 => exact World.news_of_block (cs := #[.int .i64 m, .int .i64 m]) (heap_alloc_new w4 _)
          case k2 => intro x hx; simp at hx; subst hx; rfl
          case k3 => omega
          case k4 => unfold maxLen; omega
          case k5 => omega
          case k6 => simp; omega
          intro g5 cap5 w5 hown5 hgrow5 hat5 hst5
          have hS5 := HC.out.2.grow hrow hfull rfl (fun x hx => by simpa using hx) hown5 hgrow5 (by simpa using hat5) (fun b hb j hj => hst5 b hb j (by omega))
          have HF5 : Hid (Fr w v (.slice (some ⟨g, 0, none⟩) n cap) E (.slice (some ⟨g', 0, none⟩) (E'.length + 1) cap') (.slice (some ⟨g5, 0, none⟩) (n + i + 1) cap5) (E' ++ [(.slice ga gl gc, m)])) := HF4.out.grow (wr := w4) (by simpa using hat5) hsz4
          have hT5 : Turns (fun q => (Value.slice ga gl gc).ownBlock = some q) w4 w5 := ((Turns.refl _ w4).alloc _).grown hgrow5 (fun q hq => Or.inr hq)
          have hB5 := HC.out.1.turns hT5 (fun c => by have := (hrow.lt _ c).1; omega)
          have HX : Hid (HLoopN v (.slice (some ⟨g, 0, none⟩) n cap) E p w h B n (k + 1) m u E.length (.slice (some ⟨g5, 0, none⟩) (n + i + 1) cap5) (.int .i64 ((i : Int) + 1)) w5) :=
            ⟨i + 1, _, _, by go_num, by omega, hB5, hS5, by have := HEl.out; simp; omega, HF5.out⟩
          clear hS5 hT5 hB5 HC hown5 hgrow5 hat5 hst5 hrow hfull
          go_wp2
          go_roundw
          case measure => simp [intOf]; omega
          case rel => exact HX.out
        · have hie : i = 3 := by omega
          subst hie
          go_wp2_with (at_builtin; refine wpList_append_own_at _ rfl _ _ 43 rfl B 122 i0 _ 2 32 Tryz.underlying43 hi hz0 hz1 hz2 rfl (by decide) _ _ _ rfl (hown.alloc _) ⟨wr.heap.size, 0, none⟩ 1 1 [.slice ga gl gc, .int .i64 m] rfl rfl ?c1 ?c2 ?c3 ?c4 ?c5 ?_)
          case c1 => exact World.news_of_block (cs := #[.slice ga gl gc, .int .i64 m]) (heap_alloc_new wr _)
          case c2 => intro x hx; simp at hx; rcases hx with rfl | rfl; · exact hone
                     · rfl
          case c3 => unfold maxLen; omega
          case c4 => omega
          case c5 => simp; omega
          intro v'' w3 hown3 hgrow _ hat
          obtain ⟨g', cap', hv'⟩ := owns_form hown3
          subst hv'
          have hat' : v'.ownBlock = some g' ∨ g' = wr.heap.size + 1 := by
            rcases hat with h' | h'
            · left; rw [← h']; rfl
            · right; simpa [Value.ownBlock] using h'
          have hT3 : Turns (fun q => v'.ownBlock = some q) wr w3 := ((Turns.refl _ wr).alloc _).grown hgrow (fun q hq => Or.inr hq)
          have hB3 := HA.out.1.turns hT3 (fun c => by have := (hown.lt _ c).1; omega)
          have d1 := hB3.c2
          have e1 := hB3.free 5
          have hS4 := HA.out.2.list (slot := 5) hhB hph rfl hown3 hgrow hat' (.slice (some ⟨g', 0, none⟩) (E'.length + 1) cap')
          have hB4 := hB3.set2 (.slice (some ⟨g', 0, none⟩) (E'.length + 1) cap')
          have HF4 : Hid (Fr w v (.slice (some ⟨g, 0, none⟩) n cap) E (.slice (some ⟨g', 0, none⟩) (E'.length + 1) cap') (.slice ga gl gc) (E' ++ [(.slice ga gl gc, m)])) := HFr.out.list hat' hsz m
          have HX : Hid (Turns p w (w3.setCell ⟨h, 5, none⟩ (.slice (some ⟨g', 0, none⟩) (E'.length + 1) cap')) ∧ ∃ v' E'', WB (w3.setCell ⟨h, 5, none⟩ (.slice (some ⟨g', 0, none⟩) (E'.length + 1) cap')) h (k + 1) u v' ∧ Lists 2 122 (w3.setCell ⟨h, 5, none⟩ (.slice (some ⟨g', 0, none⟩) (E'.length + 1) cap')) B v' E'' ∧ E''.length = E.length + 4 ∧ ∃ gs, Fr w v (.slice (some ⟨g, 0, none⟩) n cap) E v' gs E'') :=
            ⟨hS4.t, _, _, hB4, hS4.ls, by have := HEl.out; simp; omega, _, HF4.out⟩
          clear hown3 hgrow hat hat' hT3 hB3 hS4 hB4 HA hown c1
          go_wp2
          go_end0
          exact ⟨rfl, HX.out⟩
theorem nears_any (w : World) (h B n : Nat) (k : Int) (v lv : Value) (u : Value × Value) (E : List (Value × Int)) (xs : List Value) (hk0 : 0 ≤ k) (hk1 : k ≤ 1000000000) (hn : n ≤ 1000000) (hE : E.length ≤ 4000000000) (hHB : WB w h k u v) (hL : Lists 2 122 w B v E) (hl : w.ownsRow B 66 2 lv n xs)
    (hhB : h < B) (hBw : B ≤ w.heap.size) (hap : ∀ q, lv.ownBlock = some q → v.ownBlock ≠ some q ∧ ∀ e ∈ E, e.1.ownBlock ≠ some q) :
    Calls Tryz.prog 37 #[.pointer (some ⟨h, 2, none⟩), lv] w fun e w' => e = .returned (.tuple #[]) ∧ Turns (fun q => q = h ∨ v.ownBlock = some q ∨ lv.ownBlock = some q) w w' ∧ ∃ v' E', WB w' h (k + 1) u v' ∧ Lists 2 122 w' B v' E' ∧ E'.length = E.length + 4 ∧ ∃ gs, Fr w v lv E v' gs E' := by
  rcases hl.2 with ⟨h1, h2⟩ | ⟨g, cap, _, h1, _⟩
  · subst h1
    exact nears_nil w h B n k v u E hk0 hk1 hn hE hHB hL h2 hhB hBw
  · subst h1
    exact nears_some w h B n g cap k v u E hk0 hk1 hn hE hHB hL xs hl hhB hBw hap
#print axioms nears_any
end Go.Proofs.YtdogncjcainhlaaGreatDoor
/- The walk of (*Held).dry where places are held. -/
namespace Go.Proofs.YtdogncjcainhlaaGreatDoor
open Go.RowKit
open Mem

theorem Mem.Lists.at' {sz et : Nat} {w : World} {B g cap : Nat} {E : List (Value × Int)} (h : Lists sz et w B (.slice (some ⟨g, 0, none⟩) E.length cap) E) {i : Nat} {L : Value} {m : Int} (hi : E[i]? = some (L, m)) :
    w.cell? ⟨g, i * 2, none⟩ = some L ∧ w.cell? ⟨g, i * 2 + 1, none⟩ = some (.int .i64 m) := by
  have hl := (List.getElem?_eq_some_iff.1 hi).1
  obtain ⟨h1, h2⟩ := hvals_get E i L m hi
  exact ⟨by rw [h.own.cellAt (i * 2) (by omega)]; exact h1, by rw [h.own.cellAt (i * 2 + 1) (by omega)]; exact h2⟩

set_option maxRecDepth 100000 in
set_option maxHeartbeats 1000000 in
theorem dry_none (w : World) (h : Nat) (k : Int) (u : Value × Value) (hHB : WB w h k u (.slice none 0 0)) :
    Calls Tryz.prog 16 #[.pointer (some ⟨h, 2, none⟩)] w fun e w' => e = .returned (.bool true) ∧ Turns (fun _ => False) w w' := by
  have hhl := hHB.lt
  have ci := hHB.ci
  have cl := hHB.cl
  have c2 := hHB.c2
  clear hHB
  go_enter Tryz.func16, Tryz.ntmps16
  go_wp2
  go_loopw [3] (fun kv wx => kv = .int .i64 0 ∧ w = wx) (fun _ _ => 0)
  case atStart => exact ⟨rfl, rfl⟩
  case round =>
   obtain ⟨rfl, hwx⟩ := hrel
   subst hwx
   go_wp2
   go_loopw [6] (fun kv wx => kv = .int .i64 0 ∧ w = wx) (fun _ _ => 0)
   case atStart => exact ⟨rfl, rfl⟩
   case round =>
    obtain ⟨rfl, hwx⟩ := hrel
    subst hwx
    go_wp2
    go_loopw [9] (fun kv wx => kv = .int .i64 0 ∧ w = wx) (fun _ _ => 0)
    case atStart => exact ⟨rfl, rfl⟩
    case round =>
     obtain ⟨rfl, hwx⟩ := hrel
     subst hwx
     go_wp2
     go_ret
     exact ⟨rfl, Turns.refl _ _⟩
set_option maxRecDepth 100000 in
set_option maxHeartbeats 1000000 in
theorem dry_nears (w : World) (h B : Nat) (k : Int) (u : Value × Value) (v : Value) (E : List (Value × Int)) (hHB : WB w h k u v) (hL : Lists 2 122 w B v E) (hv0 : ∃ g cap, v = .slice (some ⟨g, 0, none⟩) E.length cap) (hE : E.length ≤ 5000000000) :
    Calls Tryz.prog 16 #[.pointer (some ⟨h, 2, none⟩)] w fun e w' => e = .returned (.bool true) ∧ Turns (fun _ => False) w w' := by
  obtain ⟨g, cap, hv⟩ := hv0
  subst hv
  have hhl := hHB.lt
  go_enter Tryz.func16, Tryz.ntmps16
  have ci := hHB.ci
  have cl := hHB.cl
  go_wp2
  go_loopw [3] (fun kv wx => kv = .int .i64 0 ∧ w = wx) (fun _ _ => 0)
  case atStart => exact ⟨rfl, rfl⟩
  case round =>
   obtain ⟨rfl, hwx⟩ := hrel
   subst hwx
   go_wp2
   go_loopw [6] (fun kv wx => kv = .int .i64 0 ∧ w = wx) (fun _ _ => 0)
   case atStart => exact ⟨rfl, rfl⟩
   case round =>
   obtain ⟨rfl, hwx⟩ := hrel
   subst hwx
   go_wp2
   go_loopw [9] (fun iv wr => ∃ i : Nat, iv = .int .i64 i ∧ i ≤ E.length ∧ Turns (fun _ => False) w wr) (fun iv _ => E.length - (intOf iv).toNat)
   case atStart => exact ⟨0, rfl, Nat.zero_le _, Turns.refl _ _⟩
   case round =>
     obtain ⟨i, rfl, hi, hT⟩ := hrel
     have hB := hHB.turns hT (fun x => x)
     have hLr := hL.turns hT (fun _ _ x => x) (fun _ _ _ _ x => x)
     have c2 := hB.c2
     by_cases hlt : i < E.length
     · obtain ⟨L, m, hLm⟩ : ∃ L m, E[i]? = some (L, m) := ⟨E[i].1, E[i].2, List.getElem?_eq_getElem hlt⟩
       obtain ⟨d0, d1⟩ := hLr.at' hLm
       have hH := hLr.full (L, m) (List.mem_of_getElem? hLm)
       have hli : (i : Int) < (E.length : Int) := by omega
       have HTr : Hid (Turns (fun _ => False) w wr) := hT
       have HX : Hid (∀ wx, Turns (fun _ => False) wr wx → ∃ i' : Nat, (Value.int .i64 ((i : Int) + 1)) = .int .i64 i' ∧ i' ≤ E.length ∧ Turns (fun _ => False) w wx) := fun wx hx => ⟨i + 1, by go_num, by omega, HTr.out.trans hx⟩
       rcases hH with hn | ⟨q, len, lcap, hq, hBq, hql, _, hlc, hcm, hcell⟩
       · simp only at hn
         subst hn
         clear hB hLr hT
         have hTa : Turns (fun _ => False) wr (wr.alloc (.cells #[.slice none 0 0, .int .i64 m] 122)) := (Turns.refl _ _).alloc _
         have x0 : (wr.alloc (.cells #[.slice none 0 0, .int .i64 m] 122)).cell? ⟨wr.heap.size, 0, none⟩ = some (.slice none 0 0) := by rw [World.cell?_alloc_new]; rfl
         have x1 : (wr.alloc (.cells #[.slice none 0 0, .int .i64 m] 122)).cell? ⟨wr.heap.size, 1, none⟩ = some (.int .i64 m) := by rw [World.cell?_alloc_new]; rfl
         go_wp2
         generalize wr.alloc (.cells #[.slice none 0 0, .int .i64 m] 122) = wo at *
         go_loopw [11] (fun kv wx => kv = .int .i64 0 ∧ wx = wo) (fun _ _ => 0)
         case atStart => exact ⟨rfl, rfl⟩
         case round =>
           obtain ⟨rfl, hwx⟩ := hrel
           subst hwx
           go_wp2
           go_roundw
           case measure => simp [intOf]; omega
           case rel => exact HX.out _ hTa
       · simp only at hq hcell
         subst hq
         clear hB hLr hT
         have hTa : Turns (fun _ => False) wr (wr.alloc (.cells #[.slice (some ⟨q, 0, none⟩) len lcap, .int .i64 m] 122)) := (Turns.refl _ _).alloc _
         have x0 : (wr.alloc (.cells #[.slice (some ⟨q, 0, none⟩) len lcap, .int .i64 m] 122)).cell? ⟨wr.heap.size, 0, none⟩ = some (.slice (some ⟨q, 0, none⟩) len lcap) := by rw [World.cell?_alloc_new]; rfl
         have x1 : (wr.alloc (.cells #[.slice (some ⟨q, 0, none⟩) len lcap, .int .i64 m] 122)).cell? ⟨wr.heap.size, 1, none⟩ = some (.int .i64 m) := by rw [World.cell?_alloc_new]; rfl
         have HC : Hid (∀ j, j < len * 2 → (wr.alloc (.cells #[.slice (some ⟨q, 0, none⟩) len lcap, .int .i64 m] 122)).cell? ⟨q, j, none⟩ = some (.int .i64 m)) := fun j hj => (World.cell?_alloc_lt _ _ _ hql).trans (hcell j (by omega))
         have hlm : len ≤ 9223372036854775807 := by unfold maxLen at hcm; omega
         obtain ⟨xb, hxb⟩ : ∃ xb, wr.heap.size = xb := ⟨_, rfl⟩
         clear hcell hql hBq
         go_wp2
         generalize wr.alloc (.cells #[.slice (some ⟨q, 0, none⟩) len lcap, .int .i64 m] 122) = wo at *
         rw [hxb] at x0 x1
         clear hxb d0 d1 c2
         go_loopw [11] (fun kv wx => ∃ j nq : Nat, kv = .int .i64 j ∧ j ≤ len ∧ wx = wo.drewN nq) (fun kv _ => len - (intOf kv).toNat)
         case atStart => exact ⟨0, 0, rfl, Nat.zero_le _, rfl⟩
         case round =>
           obtain ⟨j, nq, rfl, hj, hwx⟩ := hrel
           have y0 : wr.cell? ⟨xb, 0, none⟩ = some (.slice (some ⟨q, 0, none⟩) len lcap) := by rw [hwx]; exact x0
           have y1 : wr.cell? ⟨xb, 1, none⟩ = some (.int .i64 m) := by rw [hwx]; exact x1
           have HWX : Hid (wr = wo.drewN nq) := hwx
           clear hwx
           by_cases hjl : j < len
           · have yc0 : wr.cell? ⟨q, j * 2, none⟩ = some (.int .i64 m) := by rw [HWX.out]; exact HC.out _ (by omega)
             have yc1 : wr.cell? ⟨q, j * 2 + 1, none⟩ = some (.int .i64 m) := by rw [HWX.out]; exact HC.out _ (by omega)
             have hji : (j : Int) < (len : Int) := by omega
             have hmm : (m != m) = false := by simp
             have HY : Hid (∀ n', ∃ j' nq' : Nat, (Value.int .i64 ((j : Int) + 1)) = .int .i64 j' ∧ j' ≤ len ∧ wr.drewN n' = wo.drewN nq') := fun n' => ⟨j + 1, nq + n', by go_num, by omega, by rw [HWX.out, World.drewN_drewN]⟩
             go_wp2
             go_quiet (fail)
             go_wp2
             go_roundw
             case measure => simp [intOf]; omega
             case rel => exact HY.out _
           · go_wp2
             go_roundw
             case measure => simp [intOf]; omega
             case rel => exact HX.out _ (by rw [HWX.out]; exact hTa.drewN _)
     · have hie : i = E.length := by omega
       subst hie
       clear hLr hB
       go_wp2
       go_ret
       exact ⟨rfl, hT⟩
#print axioms dry_nears
end Go.Proofs.YtdogncjcainhlaaGreatDoor
