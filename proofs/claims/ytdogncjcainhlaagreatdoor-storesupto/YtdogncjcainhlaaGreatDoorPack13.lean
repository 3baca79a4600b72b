/- Pack13: texts of one proof, one behind the other. -/
import Derived.Test.YtdogncjcainhlaaGreatDoorPack12
import Derived.Test.YtdogncjcainhlaaGreatDoorPack10
import Derived.Test.YtdogncjcainhlaaGreatDoorPack2
import Derived.Test.YtdogncjcainhlaaGreatDoorPack6
import Derived.Test.YtdogncjcainhlaaGreatDoorPack11
import Derived.Test.YtdogncjcainhlaaGreatDoorPack7
import Derived.Deep.QuietTactic
import Derived.BigQuiet
import Derived.Deep.RegionHeld3
/- The walk of the reference's Around, between places. -/
namespace Go.Proofs.YtdogncjcainhlaaGreatDoor
open Go.RowKit Go.Deep
open Mem

/-- What holds ahead of each round. -/
structure RAt (w : World) (s0 s1 b og oc lg lc fg fc hg hc : Nat) (O : List Nat) (lab : Nat → List (Nat × Int)) (st : Nat → Nat) (c : Nat) (kv : Value) (f g1 : Nat) (LK : List Nat × Nat) (N : List (Nat × Int)) (x kv' : Value) (wr : World) : Prop where
  s : RSt wr s0 s1 b og oc lg lc fg fc hg hc O lab st c kv' LK.1 LK.2
  k : Pu.Keeps c LK.1
  row : wr.ownsRow w.heap.size 110 2 x N.length (hubV N)
  h : HubAt wr (some ⟨g1, 0, none⟩) (lab f)
  g : g1 ≠ b
  q : ∀ q, kv'.ownBlock = some q → kv.ownBlock = some q ∨ w.heap.size ≤ q
  t : Turns (fun q => q = b) w wr
theorem RAt.look {w : World} {s0 s1 b og oc lg lc fg fc hg hc : Nat} {O : List Nat} {lab : Nat → List (Nat × Int)} {st : Nat → Nat} {c : Nat} {kv : Value} {f g1 : Nat} {LK LK' : List Nat × Nat} {N : List (Nat × Int)} {x kv' kv'' : Value} {wr w' : World} (h : RAt w s0 s1 b og oc lg lc fg fc hg hc O lab st c kv f g1 LK N x kv' wr) (hb : b < w.heap.size) (hS : RSt w' s0 s1 b og oc lg lc fg fc hg hc O lab st c kv'' LK'.1 LK'.2) (hk : Pu.Keeps c LK'.1) (hq : ∀ q, kv''.ownBlock = some q → kv'.ownBlock = some q ∨ wr.heap.size ≤ q) (t : Turns (fun q => q = b) wr w') : RAt w s0 s1 b og oc lg lc fg fc hg hc O lab st c kv f g1 LK' N x kv'' w' :=
  ⟨hS, hk, owns_turns_p h.row t (fun q hq c => by have := (World.ownsRow.lt h.row q hq).1; omega), h.h.turns_p (n := 0) (c := 0) t (fun q hq c => by
    have e : g1 = q := by injection hq
    have := h.g
    omega), h.g, fun q hq' => by
    have hs := h.t.size
    rcases hq q hq' with e | e
    · exact h.q q e
    · exact Or.inr (Nat.le_trans hs e), h.t.trans t⟩
theorem RAt.turns0 {w : World} {s0 s1 b og oc lg lc fg fc hg hc : Nat} {O : List Nat} {lab : Nat → List (Nat × Int)} {st : Nat → Nat} {c : Nat} {kv : Value} {f g1 : Nat} {LK : List Nat × Nat} {N : List (Nat × Int)} {x kv' : Value} {wr w' : World} (h : RAt w s0 s1 b og oc lg lc fg fc hg hc O lab st c kv f g1 LK N x kv' wr) (t : Turns (fun _ => False) wr w') : RAt w s0 s1 b og oc lg lc fg fc hg hc O lab st c kv f g1 LK N x kv' w' :=
  ⟨h.s.turns t (fun _ _ _ x => x) (fun _ _ x => x), h.k, owns_turns h.row t, h.h.turns t, h.g, h.q, h.t.trans (t.mono (fun _ _ x => x.elim))⟩
/-- Another list. -/
theorem RAt.row' {w : World} {s0 s1 b og oc lg lc fg fc hg hc : Nat} {O : List Nat} {lab : Nat → List (Nat × Int)} {st : Nat → Nat} {c : Nat} {kv : Value} {f g1 : Nat} {LK : List Nat × Nat} {N N' : List (Nat × Int)} {x x' kv' : Value} {wr : World} (h : RAt w s0 s1 b og oc lg lc fg fc hg hc O lab st c kv f g1 LK N x kv' wr) (hr : wr.ownsRow w.heap.size 110 2 x' N'.length (hubV N')) : RAt w s0 s1 b og oc lg lc fg fc hg hc O lab st c kv f g1 LK N' x' kv' wr :=
  ⟨h.s, h.k, hr, h.h, h.g, h.q, h.t⟩
theorem hubV_one : ∀ (l : List (Nat × Int)), ∀ u ∈ hubV l, u.oneCell' = true
  | [], u, h => by simp [hubV] at h
  | (a, b) :: t, u, h => by
    have h : u ∈ (.int .i64 (a : Int) : Value) :: .int .i64 b :: hubV t := h
    rcases List.mem_cons.1 h with rfl | h
    · rfl
    · rcases List.mem_cons.1 h with rfl | h
      · rfl
      · exact hubV_one t u h
/-- The cells of a row that is cut in two. -/
theorem row_cut {w : World} {base g cap : Nat} {e : TypeId} {N : List (Nat × Int)} (h : w.ownsRow base e 2 (.slice (some ⟨g, 0, none⟩) N.length cap) N.length (hubV N)) (p : Nat) (hp : p ≤ N.length) :
    (∀ j u, (hubV (N.take p))[j]? = some u → w.cell? ⟨g, j, none⟩ = some u) ∧ ∀ j u, (hubV (N.drop p))[j]? = some u → w.cell? ⟨g, p * 2 + j, none⟩ = some u := by
  have e1 : hubV N = hubV (N.take p) ++ hubV (N.drop p) := by rw [← hubV_append, List.take_append_drop]
  have l1 : (hubV (N.take p)).length = p * 2 := by rw [hubV_len, List.length_take]; omega
  have l2 : (hubV (N.drop p)).length = (N.length - p) * 2 := by rw [hubV_len, List.length_drop]
  refine ⟨fun j u hj => ?_, fun j u hj => ?_⟩
  · have hl := (List.getElem?_eq_some_iff.1 hj).1
    rw [World.ownsRow.cellAt h j (by omega), e1, List.getElem?_append_left hl]; exact hj
  · have hl := (List.getElem?_eq_some_iff.1 hj).1
    rw [World.ownsRow.cellAt h (p * 2 + j) (by omega), e1, List.getElem?_append_right (by omega), show p * 2 + j - (hubV (N.take p)).length = j by omega]; exact hj
theorem addr_add2 (g o j : Nat) : (⟨g, o, none⟩ : Addr).add j = ⟨g, o + j, none⟩ := by
  unfold Addr.add
  by_cases e : j = 0
  · subst e; simp
  · simp [e]
theorem nearAt_own {w : World} {base : Nat} {e : TypeId} {v : Value} {L : List (Nat × Int)} (h : w.ownsRow base e 2 v L.length (hubV L)) : ∃ a c, v = .slice a L.length c ∧ HubAt w a L ∧ L.length ≤ c ∧ ((a = none ∧ L.length = 0) ∨ ∃ g, a = some ⟨g, 0, none⟩) := by
  rcases h.2 with ⟨h1, h2⟩ | ⟨g, cap, _, h1, _, _, h3, _⟩
  · refine ⟨none, 0, by rw [h1, h2], fun i r f hi => ?_, by omega, Or.inl ⟨rfl, h2⟩⟩
    have := (List.getElem?_eq_some_iff.1 hi).1
    omega
  · refine ⟨some ⟨g, 0, none⟩, cap, h1, fun i r f hi => ?_, h3, Or.inr ⟨g, rfl⟩⟩
    subst h1
    have hil := (List.getElem?_eq_some_iff.1 hi).1
    obtain ⟨r1, r2⟩ := hubV_get _ i r f hi
    exact ⟨g, rfl, by rw [h.cellAt _ (by omega)]; exact r1, by rw [h.cellAt _ (by omega)]; exact r2⟩
theorem HubAt.take {w : World} {a : Option Addr} {L : List (Nat × Int)} (h : HubAt w a L) (k : Nat) : HubAt w a (L.take k) := fun i r f hi => h i r f (by
  have hl := (List.getElem?_eq_some_iff.1 hi).1
  rw [List.length_take] at hl
  rw [List.getElem?_take_of_lt (by omega)] at hi
  exact hi)
/-- What Around hands back between places. -/
def RArPost (w : World) (s0 s1 b og oc lg lc fg fc hg hc : Nat) (O : List Nat) (lab : Nat → List (Nat × Int)) (st : Nat → Nat) (c : Nat) (kv : Value) (LA : List Nat × Nat) (A : List (Nat × Int)) (e : Ending) (w' : World) : Prop :=
  ∃ a cp kv', e = .returned (.tuple #[.slice a A.length cp, .int .i64 0]) ∧ HubAt w' a A ∧ RSt w' s0 s1 b og oc lg lc fg fc hg hc O lab st c kv' LA.1 LA.2 ∧ (∀ q, kv'.ownBlock = some q → kv.ownBlock = some q ∨ w.heap.size ≤ q) ∧ Turns (fun q => q = b) w w'
set_option maxRecDepth 100000 in
set_option maxHeartbeats 8000000 in
theorem raround_any {w : World} {s0 s1 b og oc lg lc fg fc hg hc : Nat} {O : List Nat} {lab : Nat → List (Nat × Int)} {st : Nat → Nat} {c : Nat} {kv : Value} {K : List Nat} {r f k : Nat} (L : LabsP lab st O.length) (h : RSt w s0 s1 b og oc lg lc fg fc hg hc O lab st c kv K r) (hf : f < O.length) (hk : k ≤ 40) (hc1 : 1 ≤ c) (hc8 : c ≤ 8) (hK : Pu.Keeps c K) (hr : r ≤ 8000000000000000) (hs1 : s1 ≤ w.heap.size) :
    Calls Tryz.prog 36 #[.pointer (some ⟨b, 0, none⟩), .int .i64 (f : Int), .int .i64 (k : Int)] w (RArPost w s0 s1 b og oc lg lc fg fc hg hc O lab st c kv (Pu.lookA c st f (Pu.lookP c st (K, r) f) O.length) (Pu.arN lab O.length f k)) := by
  have HL : Hid (LabsP lab st O.length) := L
  have HC : Hid (∀ (i : Nat) (LK : List Nat × Nat) (w2 : World) (kv2 : Value), i < O.length → Pu.Keeps c LK.1 → LK.2 ≤ 9000000000000000 → s1 ≤ w2.heap.size → RSt w2 s0 s1 b og oc lg lc fg fc hg hc O lab st c kv2 LK.1 LK.2 → Calls Tryz.prog 71 #[.pointer (some ⟨b, 0, none⟩), .int .i64 (i : Int)] w2 fun e w' => ∃ g cap kv', e = .returned (.slice (some ⟨g, 0, none⟩) (lab i).length cap) ∧ HubAt w' (some ⟨g, 0, none⟩) (lab i) ∧ g ≠ b ∧ RSt w' s0 s1 b og oc lg lc fg fc hg hc O lab st c kv' (Pu.lookP c st LK i).1 (Pu.lookP c st LK i).2 ∧ (∀ q, kv'.ownBlock = some q → kv2.ownBlock = some q ∨ w2.heap.size ≤ q) ∧ Turns (fun q => q = b) w2 w') := fun i LK w2 kv2 hi hk hl hs h2 => rlook_any (K := LK.1) (r := LK.2) h2 hi hc1 hc8 hk hl (L.sts i hi).1 (L.sts i hi).2 hs
  have HK2 : Hid (∀ (i : Nat) (LK : List Nat × Nat), i < O.length → Pu.Keeps c LK.1 → Pu.Keeps c (Pu.lookP c st LK i).1 ∧ (Pu.lookP c st LK i).2 ≤ LK.2 + 2200) := fun i LK hi hk => looks_ok L hc1 hk hi
  have HK1 : Hid (Pu.Keeps c (Pu.lookP c st (K, r) f).1 ∧ (Pu.lookP c st (K, r) f).2 ≤ r + 2200) := looks_ok L hc1 (s := (K, r)) hK hf
  have CF := HC.out f (K, r) w kv hf hK (by omega) hs1 h
  have HM : Hid (∀ q w2 a1 b1 c1 c2, q < O.length → HubAt w2 a1 (lab f) → HubAt w2 b1 (lab q) → Calls Tryz.prog 72 #[.slice a1 (lab f).length c1, .slice b1 (lab q).length c2] w2 fun e w' => e = .returned (.tuple #[.int .i64 (Pu.encO (Pu.best none (lab f) (lab q))).1, .int .i64 ((Pu.encO (Pu.best none (lab f) (lab q))).2 : Int)]) ∧ Turns (fun _ => False) w2 w') := fun q w2 a1 b1 c1 c2 hq h1 h2 => by
    have := met_any w2 a1 b1 (lab f) (lab q) c1 c2 h1 h2 (L.len f hf) (L.len q hq) (L.far hf) (L.far hq)
    rw [← Pu.met_best (lab f) (lab q) none 0 0 (L.rise f hf) (L.rise q hq)]
    exact this
  have HB1 : Hid (∀ q rk x, q < O.length → Pu.best none (lab f) (lab q) = some (rk, x) → x < 1000000000) := fun q rk x hq hb => Pu.best_lt (lab f) (lab q) none 0 0 (L.rise f hf) (L.rise q hq) (fun _ _ z => by cases z) rk x hb
  have hn40 := L.n40
  have hbl : b < w.heap.size := h.box.lt
  obtain ⟨LP, hLP⟩ : ∃ LP, LP = Pu.lookP c st (K, r) f := ⟨_, rfl⟩
  rw [← hLP] at HK1 CF ⊢
  have c0 := h.box.c0
  obtain ⟨n, hn⟩ : ∃ n, n = O.length := ⟨_, rfl⟩
  have HN : Hid (n = O.length) := hn
  have hfn : f < n := by omega
  have hn40' : n ≤ 40 := by omega
  obtain ⟨l1, hl1⟩ : ∃ l, l = (lab f).length := ⟨_, rfl⟩
  have HL1 : Hid (l1 = (lab f).length) := hl1
  rw [← hl1] at CF HM
  rw [← hn] at c0 ⊢
  have q1 : ¬ (f : Int) < 0 := by omega
  have q2 : ¬ (n : Int) ≤ (f : Int) := by omega
  have q3 : ¬ (k : Int) < 0 := by omega
  have q4 : ¬ (k : Int) > 40 := by omega
  have q5 : ¬ (40 : Int) < (k : Int) := by omega
  clear h L hK hLP hl1 hn hf hn40
  go_enter Tryz.func36, Tryz.ntmps36
  go_wp2_with fail
  refine CF.mono ?_
  rintro e w1 ⟨g1, cp1, kv1, rfl, hA1, hg1, hS1, hq1, hT1⟩
  have H1 : Hid (RAt w s0 s1 b og oc lg lc fg fc hg hc O lab st c kv f g1 (Pu.lookA c st f LP 0) (Pu.insL lab f 0) (.slice none 0 0) kv1 w1 ∧ (Pu.lookA c st f LP 0).2 ≤ r + 2200 * (0 + 1)) :=
    ⟨⟨hS1, HK1.out.1, World.ownsRow_nil _ _ _ _, hA1, hg1, hq1, hT1⟩, by have := HK1.out.2; rw [Pu.lookA]; omega⟩
  clear hA1 hg1 hS1 hq1 hT1 CF HK1 c0
  go_wp2_with fail
  go_loopw [9, 10] (fun xv iv wr => ∃ (i : Nat) (x kv' : Value) (wy : World), x = xv ∧ iv = .int .i64 (i : Int) ∧ i ≤ n ∧ wy = wr ∧ Hid (RAt w s0 s1 b og oc lg lc fg fc hg hc O lab st c kv f g1 (Pu.lookA c st f LP i) (Pu.insL lab f i) x kv' wy ∧ (Pu.lookA c st f LP i).2 ≤ r + 2200 * (i + 1))) (fun _ iv _ => n - (intOf iv).toNat)
  case atStart => exact ⟨0, _, kv1, w1, rfl, rfl, by omega, rfl, H1.out⟩
  case round =>
    clear H1
    obtain ⟨i, x, kv2, wr, hx, rfl, hin, hwy, HI⟩ := hrel
    subst hwy hx
    have c0 := HI.out.1.s.box.c0
    rw [← HN.out] at c0
    have d0 := HI.out.1.s.box.lt
    by_cases hlt : i < n
    · have hii : (i : Int) < (n : Int) := by omega
      by_cases hif : i = f
      · have hie : ((i : Int) == (f : Int)) = true := by simp; omega
        have HI' : Hid (RAt w s0 s1 b og oc lg lc fg fc hg hc O lab st c kv f g1 (Pu.lookA c st f LP (i + 1)) (Pu.insL lab f (i + 1)) x kv2 wr ∧ (Pu.lookA c st f LP (i + 1)).2 ≤ r + 2200 * (i + 1 + 1)) := by
          have h1 : Pu.lookA c st f LP (i + 1) = Pu.lookA c st f LP i := by rw [Pu.lookA, if_pos hif]
          have h2 : Pu.insL lab f (i + 1) = Pu.insL lab f i := by rw [Pu.insL, if_pos hif]
          rw [h1, h2]
          exact ⟨HI.out.1, by have := HI.out.2; omega⟩
        clear HI
        go_wp2
        go_roundw
        case rel => exact ⟨i + 1, x, kv2, wr, rfl, by go_num, by omega, rfl, HI'.out⟩
        case measure => simp [intOf]; omega
      · have hie : ((i : Int) == (f : Int)) = false := by simp; omega
        have hio : i < O.length := by rw [← HN.out]; exact hlt
        have HKI : Hid (Pu.Keeps c (Pu.lookA c st f LP (i + 1)).1 ∧ (Pu.lookA c st f LP (i + 1)).2 ≤ r + 2200 * (i + 1 + 1)) := by
          have h1 : Pu.lookA c st f LP (i + 1) = Pu.lookP c st (Pu.lookA c st f LP i) i := by rw [Pu.lookA, if_neg hif]
          have h2 := HK2.out i (Pu.lookA c st f LP i) hio HI.out.1.k
          rw [h1]
          exact ⟨h2.1, by have := HI.out.2; omega⟩
        have CI := HC.out i (Pu.lookA c st f LP i) wr kv2 hio HI.out.1.k (by have := HI.out.2; omega) (Nat.le_trans hs1 HI.out.1.t.size) HI.out.1.s
        have HLA : Hid (Pu.lookA c st f LP (i + 1) = Pu.lookP c st (Pu.lookA c st f LP i) i) := by show _ = _; rw [Pu.lookA, if_neg hif]
        have HIN : Hid (Pu.insL lab f (i + 1) = match Pu.best none (lab f) (lab i) with
            | none => Pu.insL lab f i
            | some (_, x) => Pu.insN i x (Pu.insL lab f i)) := by show _ = _; rw [Pu.insL, if_neg hif]; rfl
        obtain ⟨l2, hl2⟩ : ∃ l, l = (lab i).length := ⟨_, rfl⟩
        have HL2 : Hid (l2 = (lab i).length) := hl2
        rw [← hl2] at CI
        have CM0 := HM.out i
        rw [← hl2] at CM0
        have HM1 : Hid (∀ w2 a1 b1 c1 c2, HubAt w2 a1 (lab f) → HubAt w2 b1 (lab i) → Calls Tryz.prog 72 #[.slice a1 l1 c1, .slice b1 l2 c2] w2 fun e w' => e = .returned (.tuple #[.int .i64 (Pu.encO (Pu.best none (lab f) (lab i))).1, .int .i64 ((Pu.encO (Pu.best none (lab f) (lab i))).2 : Int)]) ∧ Turns (fun _ => False) w2 w') := fun w2 a1 b1 c1 c2 h1 h2 => CM0 w2 a1 b1 c1 c2 hio h1 h2
        clear hl2 CM0
        go_wp2_with fail
        refine CI.mono ?_
        rintro e w3 ⟨g2, cp2, kv3, rfl, hA2, hg2, hS3, hq3, hT3⟩
        have H3 : Hid (RAt w s0 s1 b og oc lg lc fg fc hg hc O lab st c kv f g1 (Pu.lookA c st f LP (i + 1)) (Pu.insL lab f i) x kv3 w3) := HI.out.1.look hbl (by rw [HLA.out]; exact hS3) HKI.out.1 hq3 hT3
        have CM := HM1.out w3 (some ⟨g1, 0, none⟩) (some ⟨g2, 0, none⟩) cp1 cp2 H3.out.h hA2
        clear hA2 hg2 hS3 hq3 hT3 CI HM1 HI c0 d0 HLA
        cases hbest : Pu.best none (lab f) (lab i) with
        | none =>
          rw [hbest] at CM HIN
          simp only [Pu.encO] at CM
          have HIN' : Hid (Pu.insL lab f (i + 1) = Pu.insL lab f i) := HIN
          clear hbest HIN
          go_wp2_with fail
          refine CM.mono ?_
          rintro e w4 ⟨rfl, hT4⟩
          have H4 : Hid (RAt w s0 s1 b og oc lg lc fg fc hg hc O lab st c kv f g1 (Pu.lookA c st f LP (i + 1)) (Pu.insL lab f (i + 1)) x kv3 w4 ∧ (Pu.lookA c st f LP (i + 1)).2 ≤ r + 2200 * (i + 1 + 1)) := ⟨by rw [HIN'.out]; exact H3.out.turns0 hT4, HKI.out.2⟩
          clear CM hT4 H3
          go_wp2
          go_roundw
          case rel => exact ⟨i + 1, x, kv3, w4, rfl, by go_num, by omega, rfl, H4.out⟩
          case measure => simp [intOf]; omega
        | some z =>
          obtain ⟨rk, y⟩ := z
          have hy := HB1.out i rk y hio hbest
          rw [hbest] at CM HIN
          simp only [Pu.encO] at CM
          have q6 : ¬ (1000000000 : Int) ≤ y := by omega
          have HIN' : Hid (Pu.insL lab f (i + 1) = Pu.insN i y (Pu.insL lab f i)) := HIN
          obtain ⟨N, hN⟩ : ∃ N, N = Pu.insL lab f i := ⟨_, rfl⟩
          have hNl : N.length ≤ i := by rw [hN]; exact Pu.insL_len _ _ _
          rw [← hN] at HIN' H3
          clear hbest HIN hN
          obtain ⟨a, ac, hxa, hac, hag⟩ : ∃ a ac, x = .slice a N.length ac ∧ N.length ≤ ac ∧ ((a = none ∧ N.length = 0) ∨ ∃ g, a = some ⟨g, 0, none⟩) := by
            rcases H3.out.row.2 with ⟨h1, h2⟩ | ⟨g, cap, cur, h1, _, _, h2, _⟩
            · have hn0 : N.length = 0 := h2
              exact ⟨none, 0, by rw [h1, hn0], by omega, Or.inl ⟨rfl, hn0⟩⟩
            · exact ⟨_, cap, h1, h2, Or.inr ⟨g, rfl⟩⟩
          subst hxa
          obtain ⟨lN, hlN⟩ : ∃ lN, lN = N.length := ⟨_, rfl⟩
          rw [← hlN] at H3
          have HLN : Hid (lN = N.length) := hlN
          have hlN40 : lN ≤ 40 := by omega
          have hlac : lN ≤ ac := by omega
          have hag' : (a = none ∧ lN = 0) ∨ ∃ g, a = some ⟨g, 0, none⟩ := by rw [hlN]; exact hag
          rw [← hlN]
          clear hag hac hNl hlN
          go_wp2_with fail
          refine CM.mono ?_
          rintro e w4 ⟨rfl, hT4⟩
          have H4 : Hid (RAt w s0 s1 b og oc lg lc fg fc hg hc O lab st c kv f g1 (Pu.lookA c st f LP (i + 1)) N (.slice a lN ac) kv3 w4) := H3.out.turns0 hT4
          clear CM hT4 H3
          have HCE : Hid (∀ (j v : Nat) (z : Int), N[j]? = some (v, z) → ∃ g, a = some ⟨g, 0, none⟩ ∧ w4.cell? ⟨g, j * 2 + 1, none⟩ = some (.int .i64 z) ∧ g < w4.heap.size) := fun j v z hj => by
            have hrow := H4.out.row
            have hjl := (List.getElem?_eq_some_iff.1 hj).1
            rcases hag' with ⟨_, h0⟩ | ⟨g, rfl⟩
            · have := HLN.out; omega
            · rw [HLN.out] at hrow
              have h2 := (World.ownsRow.cellAt hrow (j * 2 + 1) (by omega)).trans (hubV_get N j v z hj).2
              exact ⟨g, rfl, h2, World.block_lt_of_cell? _ _ h2⟩
          go_wp2_with fail
          go_loopw [14] (fun av wr' => ∃ (j nq : Nat), av = .int .i64 (j : Int) ∧ j ≤ lN ∧ Hid (wr' = w4.drewN nq) ∧ Hid (Pu.backN y N j = Pu.backN y N lN)) (fun av _ => (intOf av).toNat)
          case atStart => exact ⟨lN, 0, rfl, Nat.le_refl _, rfl, rfl⟩
          case round =>
            obtain ⟨j, nq, rfl, hjl, HWR, HBK⟩ := hrel
            have H5 : Hid (RAt w s0 s1 b og oc lg lc fg fc hg hc O lab st c kv f g1 (Pu.lookA c st f LP (i + 1)) N (.slice a lN ac) kv3 wr) := by show RAt _ _ _ _ _ _ _ _ _ _ _ _ _ _ _ _ _ _ _ _ _ _ _ _; rw [HWR.out]; exact H4.out.turns0 ((Turns.refl _ w4).drewN nq)
            by_cases hgo : 0 < j ∧ ∃ v z, N[j - 1]? = some (v, z) ∧ y < z
            · obtain ⟨hj0, v, z, hNz, hyz⟩ := hgo
              obtain ⟨j', hj'⟩ : ∃ j', j' = j - 1 := ⟨_, rfl⟩
              rw [← hj'] at hNz
              obtain ⟨g, hga, hce, hgl⟩ := HCE.out j' v z hNz
              have hce' : wr.cell? ⟨g, j' * 2 + 1, none⟩ = some (.int .i64 z) := by rw [HWR.out]; exact hce
              have hgl' : g < wr.heap.size := World.block_lt_of_cell? _ _ hce'
              subst hga
              have b1 : (0 : Int) < (j : Int) := by omega
              have b2 : decide ((0 : Int) < (j : Int)) = true := decide_eq_true b1
              have b3 : decide (y < z) = true := decide_eq_true hyz
              have hw1 : IntKind.i64.wrap ((j : Int) - 1) = (j' : Int) := by rw [IntKind.wrap_i64]; omega
              have hj1 : (j' : Int) < (lN : Int) := by omega
              have HY : Hid (∃ (j1 nq : Nat), (Value.int .i64 (j' : Int)) = .int .i64 (j1 : Int) ∧ j1 ≤ lN ∧ Hid (wr = w4.drewN nq) ∧ Hid (Pu.backN y N j1 = Pu.backN y N lN)) := ⟨j', nq, rfl, by omega, HWR, by
                show _ = _
                rw [← HBK.out, show j = j' + 1 by omega, Pu.backN, hNz]
                dsimp only
                rw [if_pos hyz]⟩
              have hjm : j' < j := by omega
              clear hNz HCE hce hgl HWR HBK hj' hag'
              go_wp2
              go_roundw
              case rel => exact HY.out
              case measure => simp [intOf]; omega
            · have HP : Hid (Pu.backN y N lN = j) := by
                show _ = _
                rw [← HBK.out]
                cases j with
                | zero => rfl
                | succ j' =>
                  obtain ⟨u, hu⟩ : ∃ u, N[j']? = some u := ⟨_, List.getElem?_eq_getElem (by have := HLN.out; omega)⟩
                  rw [Pu.backN, hu]
                  dsimp only
                  rw [if_neg (fun c => hgo ⟨by omega, u.1, u.2, by rw [Nat.add_sub_cancel]; exact hu, c⟩)]
              obtain ⟨T1, hT1⟩ : ∃ T1, T1 = hubV (N.take j) := ⟨_, rfl⟩
              obtain ⟨T2, hT2⟩ : ∃ T2, T2 = hubV (N.drop j) := ⟨_, rfl⟩
              have HT12 : Hid (T1 = hubV (N.take j) ∧ T2 = hubV (N.drop j)) := ⟨hT1, hT2⟩
              have lT1 : T1.length = j * 2 := by rw [hT1, hubV_len, List.length_take]; have := HLN.out; omega
              have lT2 : T2.length = (lN - j) * 2 := by rw [hT2, hubV_len, List.length_drop]; have := HLN.out; omega
              have oT1 : ∀ u ∈ T1, u.oneCell' = true := by rw [hT1]; exact hubV_one _
              have oT2 : ∀ u ∈ T2, u.oneCell' = true := by rw [hT2]; exact hubV_one _
              have HTT : Hid (T1 ++ [.int .i64 (i : Int), .int .i64 y] ++ T2 = hubV (Pu.insL lab f (i + 1)) ∧ (Pu.insL lab f (i + 1)).length = lN + 1) := by
                rw [HIN'.out]
                unfold Pu.insN
                rw [← HLN.out, HP.out, hubV_append, hT1, hT2]
                refine ⟨?_, ?_⟩
                · rw [List.append_assoc]; rfl
                · rw [List.length_append, List.length_cons, List.length_take, List.length_drop]; have := HLN.out; omega
              have hjc : (j : Int) ≤ (ac : Int) := by omega
              have hjn : ¬ (j : Int) < 0 := by omega
              have hjL : (j : Int) ≤ (lN : Int) := by omega
              clear hT1 hT2
              have hcs : (j = 0 ∧ decide ((0 : Int) < (j : Int)) = false ∧ ¬ (0 : Int) < (j : Int)) ∨ ∃ (g j' : Nat) (z : Int), a = some ⟨g, 0, none⟩ ∧ wr.cell? ⟨g, j' * 2 + 1, none⟩ = some (.int .i64 z) ∧ g < wr.heap.size ∧ decide ((0 : Int) < (j : Int)) = true ∧ (0 : Int) < (j : Int) ∧ decide (y < z) = false ∧ ¬ y < z ∧ IntKind.i64.wrap ((j : Int) - 1) = (j' : Int) ∧ (j' : Int) < (lN : Int) := by
                by_cases c : j = 0
                · exact Or.inl ⟨c, decide_eq_false (by omega), by omega⟩
                · right
                  obtain ⟨u, hu⟩ : ∃ u, N[j - 1]? = some u := ⟨_, List.getElem?_eq_getElem (by have := HLN.out; omega)⟩
                  obtain ⟨v, z⟩ := u
                  have hnz : ¬ y < z := fun c' => hgo ⟨by omega, v, z, hu, c'⟩
                  obtain ⟨g, h1, h2, h3⟩ := HCE.out (j - 1) v z hu
                  have h2' : wr.cell? ⟨g, (j - 1) * 2 + 1, none⟩ = some (.int .i64 z) := by rw [HWR.out]; exact h2
                  exact ⟨g, j - 1, z, h1, h2', World.block_lt_of_cell? _ _ h2', decide_eq_true (by omega), by omega, decide_eq_false hnz, hnz, by rw [IntKind.wrap_i64]; omega, by omega⟩
              clear hgo HCE HBK HWR HP H4 HIN'
              rcases hcs with ⟨hj0, b1, b2⟩ | ⟨g, j', z, hga, hce, hgl, b1, b2, b3, b4, hw1, hj1⟩
              · have H6 := H5
                have HJ0 : Hid (j = 0) := hj0
                clear H5 hj0
                rcases hag' with ⟨ha, h0⟩ | ⟨g, ha⟩
                · subst ha
                  have HL0 : Hid (lN = 0) := h0
                  clear h0
                  have HCT : Hid ((∀ q u, T1[q]? = some u → ∃ g', (none : Option Addr) = some ⟨g', 0, none⟩ ∧ wr.cell? ⟨g', q, none⟩ = some u) ∧ ∀ q u, T2[q]? = some u → ∃ g', (none : Option Addr) = some ⟨g', 0, none⟩ ∧ wr.cell? ⟨g', j * 2 + q, none⟩ = some u) := by
                    refine ⟨fun q u hq => ?_, fun q u hq => ?_⟩
                    · have := (List.getElem?_eq_some_iff.1 hq).1; have := HL0.out; omega
                    · have := (List.getElem?_eq_some_iff.1 hq).1; have := HL0.out; omega
                  have hsz : w.heap.size ≤ wr.heap.size := H6.out.t.size
                  go_wp2_with (at_builtin; refine wpList_append_row rfl _ _ 107 rfl 110 2 16 _ Tryz.underlying107 infoRNear rfl (by decide) wr wr (.slice none 0 0) (.slice none 0 0) w.heap.size 0 [] _ _ _ T1 (by first | exact lT1 | (simp [lT1]; done) | (simp [lT1]; omega)) (fun q u hq => by obtain ⟨g', e1, e2⟩ := HCT.out.1 q u hq; exact ⟨⟨g', 0, none⟩, e1, by rw [addr_add]; exact e2⟩) oT1 (OwnG.nil wr _ _ _) hsz (by omega) (by omega) rfl rfl ?_)
                  intro v1 w6 hB1
                  have HO1 : Hid (OwnG wr (.slice none 0 0) w.heap.size 110 2 v1 j T1 w6) := by show OwnG _ _ _ _ _ _ _ _ _; simpa using hB1
                  have hsz6 : w.heap.size ≤ w6.heap.size := Nat.le_trans hsz HO1.out.turns.size
                  clear hB1
                  go_wp2_with (at_builtin; refine wpList_append_one rfl _ _ 107 rfl 110 2 16 _ Tryz.underlying107 infoRNear rfl (by decide) wr w6 (.slice none 0 0) v1 w.heap.size j T1 #[.int .i64 (i : Int), .int .i64 y] rfl (by intro u hu; simp at hu; rcases hu with rfl | rfl <;> rfl) HO1.out hsz6 (by omega) (by omega) rfl _ rfl rfl ?_)
                  intro v2 w7 hB2
                  obtain ⟨T3, hT3⟩ : ∃ T3, T3 = T1 ++ [.int .i64 (i : Int), .int .i64 y] := ⟨_, rfl⟩
                  have HT3 : Hid (T3 = T1 ++ [.int .i64 (i : Int), .int .i64 y]) := hT3
                  have HO2 : Hid (OwnG wr (.slice none 0 0) w.heap.size 110 2 v2 (j + 1) T3 w7) := by show OwnG _ _ _ _ _ _ _ _ _; rw [hT3]; exact hB2
                  have hsz7 : w.heap.size ≤ w7.heap.size := Nat.le_trans hsz HO2.out.turns.size
                  clear hB2 hT3 HO1
                  have HC2 : Hid (∀ q u, T2[q]? = some u → ∃ g', (none : Option Addr) = some ⟨g', 0, none⟩ ∧ w7.cell? ⟨g', j * 2 + q, none⟩ = some u) := fun q u hq => by
                    obtain ⟨g', e1, e2⟩ := HCT.out.2 q u hq
                    exact ⟨g', e1, (HO2.out.turns0.cell (a := ⟨g', j * 2 + q, none⟩) (World.block_lt_of_cell? _ _ e2) (fun x => x)).trans e2⟩
                  go_wp2_with (at_builtin; refine wpList_append_row rfl _ _ 107 rfl 110 2 16 _ Tryz.underlying107 infoRNear rfl (by decide) wr w7 (.slice none 0 0) v2 w.heap.size (j + 1) T3 _ _ _ T2 (by first | exact lT2 | (simp [lT2]; done) | (simp [lT2]; omega)) (fun q u hq => by obtain ⟨g', e1, e2⟩ := HC2.out q u hq; first | (injection e1 with e1; injection e1 with e1; subst e1; exact ⟨⟨_, j * 2, none⟩, rfl, by rw [addr_add2]; exact e2⟩) | (exfalso; have := (List.getElem?_eq_some_iff.1 hq).1; omega) | (cases e1; done)) oT2 HO2.out hsz7 (by omega) (by omega) rfl rfl ?_)
                  intro v3 w8 hB3
                  have H8 : Hid (RAt w s0 s1 b og oc lg lc fg fc hg hc O lab st c kv f g1 (Pu.lookA c st f LP (i + 1)) (Pu.insL lab f (i + 1)) v3 kv3 w8 ∧ (Pu.lookA c st f LP (i + 1)).2 ≤ r + 2200 * (i + 1 + 1)) := by
                    refine ⟨(H6.out.turns0 hB3.turns0).row' ?_, HKI.out.2⟩
                    have h9 := hB3.own
                    rw [HT3.out, HTT.out.1] at h9
                    rw [HTT.out.2]
                    first | exact h9 | simpa using h9 | (have e9 : j + 1 + (lN - j) = lN + 1 := by omega
                                                         rw [e9] at h9
                                                         exact h9)
                  clear hB3 HO2 HCT H6
                  go_wp2
                  go_roundw
                  case rel => exact ⟨i + 1, v3, kv3, w8, rfl, by go_num, by omega, rfl, H8.out⟩
                  case measure => simp [intOf]; omega
                · subst ha
                  have HCT : Hid ((∀ q u, T1[q]? = some u → ∃ g', (some ⟨g, 0, none⟩ : Option Addr) = some ⟨g', 0, none⟩ ∧ wr.cell? ⟨g', q, none⟩ = some u) ∧ ∀ q u, T2[q]? = some u → ∃ g', (some ⟨g, 0, none⟩ : Option Addr) = some ⟨g', 0, none⟩ ∧ wr.cell? ⟨g', j * 2 + q, none⟩ = some u) := by
                    have hr := H6.out.row
                    rw [HLN.out] at hr
                    obtain ⟨h1, h2⟩ := row_cut hr j (by have := HLN.out; omega)
                    exact ⟨fun q u hq => ⟨g, rfl, h1 q u (by rw [← HT12.out.1]; exact hq)⟩, fun q u hq => ⟨g, rfl, h2 q u (by rw [← HT12.out.2]; exact hq)⟩⟩
                  have hsz : w.heap.size ≤ wr.heap.size := H6.out.t.size
                  go_wp2_with (at_builtin; refine wpList_append_row rfl _ _ 107 rfl 110 2 16 _ Tryz.underlying107 infoRNear rfl (by decide) wr wr (.slice none 0 0) (.slice none 0 0) w.heap.size 0 [] _ _ _ T1 (by first | exact lT1 | (simp [lT1]; done) | (simp [lT1]; omega)) (fun q u hq => by obtain ⟨g', e1, e2⟩ := HCT.out.1 q u hq; exact ⟨⟨g', 0, none⟩, e1, by rw [addr_add]; exact e2⟩) oT1 (OwnG.nil wr _ _ _) hsz (by omega) (by omega) rfl rfl ?_)
                  intro v1 w6 hB1
                  have HO1 : Hid (OwnG wr (.slice none 0 0) w.heap.size 110 2 v1 j T1 w6) := by show OwnG _ _ _ _ _ _ _ _ _; simpa using hB1
                  have hsz6 : w.heap.size ≤ w6.heap.size := Nat.le_trans hsz HO1.out.turns.size
                  clear hB1
                  go_wp2_with (at_builtin; refine wpList_append_one rfl _ _ 107 rfl 110 2 16 _ Tryz.underlying107 infoRNear rfl (by decide) wr w6 (.slice none 0 0) v1 w.heap.size j T1 #[.int .i64 (i : Int), .int .i64 y] rfl (by intro u hu; simp at hu; rcases hu with rfl | rfl <;> rfl) HO1.out hsz6 (by omega) (by omega) rfl _ rfl rfl ?_)
                  intro v2 w7 hB2
                  obtain ⟨T3, hT3⟩ : ∃ T3, T3 = T1 ++ [.int .i64 (i : Int), .int .i64 y] := ⟨_, rfl⟩
                  have HT3 : Hid (T3 = T1 ++ [.int .i64 (i : Int), .int .i64 y]) := hT3
                  have HO2 : Hid (OwnG wr (.slice none 0 0) w.heap.size 110 2 v2 (j + 1) T3 w7) := by show OwnG _ _ _ _ _ _ _ _ _; rw [hT3]; exact hB2
                  have hsz7 : w.heap.size ≤ w7.heap.size := Nat.le_trans hsz HO2.out.turns.size
                  clear hB2 hT3 HO1
                  have HC2 : Hid (∀ q u, T2[q]? = some u → ∃ g', (some ⟨g, 0, none⟩ : Option Addr) = some ⟨g', 0, none⟩ ∧ w7.cell? ⟨g', j * 2 + q, none⟩ = some u) := fun q u hq => by
                    obtain ⟨g', e1, e2⟩ := HCT.out.2 q u hq
                    exact ⟨g', e1, (HO2.out.turns0.cell (a := ⟨g', j * 2 + q, none⟩) (World.block_lt_of_cell? _ _ e2) (fun x => x)).trans e2⟩
                  by_cases hja : j < ac
                  · have hjaI : (j : Int) < (ac : Int) := by omega
                    go_wp2_with (at_builtin; refine wpList_append_row rfl _ _ 107 rfl 110 2 16 _ Tryz.underlying107 infoRNear rfl (by decide) wr w7 (.slice none 0 0) v2 w.heap.size (j + 1) T3 _ _ _ T2 (by first | exact lT2 | (simp [lT2]; done) | (simp [lT2]; omega)) (fun q u hq => by obtain ⟨g', e1, e2⟩ := HC2.out q u hq; first | (injection e1 with e1; injection e1 with e1; subst e1; exact ⟨⟨_, j * 2, none⟩, rfl, by rw [addr_add2]; exact e2⟩) | (exfalso; have := (List.getElem?_eq_some_iff.1 hq).1; omega) | (cases e1; done)) oT2 HO2.out hsz7 (by omega) (by omega) rfl rfl ?_)
                    intro v3 w8 hB3
                    have H8 : Hid (RAt w s0 s1 b og oc lg lc fg fc hg hc O lab st c kv f g1 (Pu.lookA c st f LP (i + 1)) (Pu.insL lab f (i + 1)) v3 kv3 w8 ∧ (Pu.lookA c st f LP (i + 1)).2 ≤ r + 2200 * (i + 1 + 1)) := by
                      refine ⟨(H6.out.turns0 hB3.turns0).row' ?_, HKI.out.2⟩
                      have h9 := hB3.own
                      rw [HT3.out, HTT.out.1] at h9
                      rw [HTT.out.2]
                      first | exact h9 | simpa using h9 | (have e9 : j + 1 + (lN - j) = lN + 1 := by omega
                                                           rw [e9] at h9
                                                           exact h9)
                    clear hB3 HO2 HCT H6
                    go_wp2
                    go_roundw
                    case rel => exact ⟨i + 1, v3, kv3, w8, rfl, by go_num, by omega, rfl, H8.out⟩
                    case measure => simp [intOf]; omega
                  · have hjaI : ¬ (j : Int) < (ac : Int) := by omega
                    go_wp2_with (at_builtin; refine wpList_append_row rfl _ _ 107 rfl 110 2 16 _ Tryz.underlying107 infoRNear rfl (by decide) wr w7 (.slice none 0 0) v2 w.heap.size (j + 1) T3 _ _ _ T2 (by first | exact lT2 | (simp [lT2]; done) | (simp [lT2]; omega)) (fun q u hq => by obtain ⟨g', e1, e2⟩ := HC2.out q u hq; first | (injection e1 with e1; injection e1 with e1; subst e1; exact ⟨⟨_, j * 2, none⟩, rfl, by rw [addr_add2]; exact e2⟩) | (exfalso; have := (List.getElem?_eq_some_iff.1 hq).1; omega) | (cases e1; done)) oT2 HO2.out hsz7 (by omega) (by omega) rfl rfl ?_)
                    intro v3 w8 hB3
                    have H8 : Hid (RAt w s0 s1 b og oc lg lc fg fc hg hc O lab st c kv f g1 (Pu.lookA c st f LP (i + 1)) (Pu.insL lab f (i + 1)) v3 kv3 w8 ∧ (Pu.lookA c st f LP (i + 1)).2 ≤ r + 2200 * (i + 1 + 1)) := by
                      refine ⟨(H6.out.turns0 hB3.turns0).row' ?_, HKI.out.2⟩
                      have h9 := hB3.own
                      rw [HT3.out, HTT.out.1] at h9
                      rw [HTT.out.2]
                      first | exact h9 | simpa using h9 | (have e9 : j + 1 + (lN - j) = lN + 1 := by omega
                                                           rw [e9] at h9
                                                           exact h9)
                    clear hB3 HO2 HCT H6
                    go_wp2
                    go_roundw
                    case rel => exact ⟨i + 1, v3, kv3, w8, rfl, by go_num, by omega, rfl, H8.out⟩
                    case measure => simp [intOf]; omega
              · subst hga
                have H6 := H5
                clear H5
                have HCT : Hid ((∀ q u, T1[q]? = some u → ∃ g', (some ⟨g, 0, none⟩ : Option Addr) = some ⟨g', 0, none⟩ ∧ wr.cell? ⟨g', q, none⟩ = some u) ∧ ∀ q u, T2[q]? = some u → ∃ g', (some ⟨g, 0, none⟩ : Option Addr) = some ⟨g', 0, none⟩ ∧ wr.cell? ⟨g', j * 2 + q, none⟩ = some u) := by
                  have hr := H6.out.row
                  rw [HLN.out] at hr
                  obtain ⟨h1, h2⟩ := row_cut hr j (by have := HLN.out; omega)
                  exact ⟨fun q u hq => ⟨g, rfl, h1 q u (by rw [← HT12.out.1]; exact hq)⟩, fun q u hq => ⟨g, rfl, h2 q u (by rw [← HT12.out.2]; exact hq)⟩⟩
                have hsz : w.heap.size ≤ wr.heap.size := H6.out.t.size
                go_wp2_with (at_builtin; refine wpList_append_row rfl _ _ 107 rfl 110 2 16 _ Tryz.underlying107 infoRNear rfl (by decide) wr wr (.slice none 0 0) (.slice none 0 0) w.heap.size 0 [] _ _ _ T1 (by first | exact lT1 | (simp [lT1]; done) | (simp [lT1]; omega)) (fun q u hq => by obtain ⟨g', e1, e2⟩ := HCT.out.1 q u hq; exact ⟨⟨g', 0, none⟩, e1, by rw [addr_add]; exact e2⟩) oT1 (OwnG.nil wr _ _ _) hsz (by omega) (by omega) rfl rfl ?_)
                intro v1 w6 hB1
                have HO1 : Hid (OwnG wr (.slice none 0 0) w.heap.size 110 2 v1 j T1 w6) := by show OwnG _ _ _ _ _ _ _ _ _; simpa using hB1
                have hsz6 : w.heap.size ≤ w6.heap.size := Nat.le_trans hsz HO1.out.turns.size
                clear hB1
                go_wp2_with (at_builtin; refine wpList_append_one rfl _ _ 107 rfl 110 2 16 _ Tryz.underlying107 infoRNear rfl (by decide) wr w6 (.slice none 0 0) v1 w.heap.size j T1 #[.int .i64 (i : Int), .int .i64 y] rfl (by intro u hu; simp at hu; rcases hu with rfl | rfl <;> rfl) HO1.out hsz6 (by omega) (by omega) rfl _ rfl rfl ?_)
                intro v2 w7 hB2
                obtain ⟨T3, hT3⟩ : ∃ T3, T3 = T1 ++ [.int .i64 (i : Int), .int .i64 y] := ⟨_, rfl⟩
                have HT3 : Hid (T3 = T1 ++ [.int .i64 (i : Int), .int .i64 y]) := hT3
                have HO2 : Hid (OwnG wr (.slice none 0 0) w.heap.size 110 2 v2 (j + 1) T3 w7) := by show OwnG _ _ _ _ _ _ _ _ _; rw [hT3]; exact hB2
                have hsz7 : w.heap.size ≤ w7.heap.size := Nat.le_trans hsz HO2.out.turns.size
                clear hB2 hT3 HO1
                have HC2 : Hid (∀ q u, T2[q]? = some u → ∃ g', (some ⟨g, 0, none⟩ : Option Addr) = some ⟨g', 0, none⟩ ∧ w7.cell? ⟨g', j * 2 + q, none⟩ = some u) := fun q u hq => by
                  obtain ⟨g', e1, e2⟩ := HCT.out.2 q u hq
                  exact ⟨g', e1, (HO2.out.turns0.cell (a := ⟨g', j * 2 + q, none⟩) (World.block_lt_of_cell? _ _ e2) (fun x => x)).trans e2⟩
                by_cases hja : j < ac
                · have hjaI : (j : Int) < (ac : Int) := by omega
                  go_wp2_with (at_builtin; refine wpList_append_row rfl _ _ 107 rfl 110 2 16 _ Tryz.underlying107 infoRNear rfl (by decide) wr w7 (.slice none 0 0) v2 w.heap.size (j + 1) T3 _ _ _ T2 (by first | exact lT2 | (simp [lT2]; done) | (simp [lT2]; omega)) (fun q u hq => by obtain ⟨g', e1, e2⟩ := HC2.out q u hq; first | (injection e1 with e1; injection e1 with e1; subst e1; exact ⟨⟨_, j * 2, none⟩, rfl, by rw [addr_add2]; exact e2⟩) | (exfalso; have := (List.getElem?_eq_some_iff.1 hq).1; omega) | (cases e1; done)) oT2 HO2.out hsz7 (by omega) (by omega) rfl rfl ?_)
                  intro v3 w8 hB3
                  have H8 : Hid (RAt w s0 s1 b og oc lg lc fg fc hg hc O lab st c kv f g1 (Pu.lookA c st f LP (i + 1)) (Pu.insL lab f (i + 1)) v3 kv3 w8 ∧ (Pu.lookA c st f LP (i + 1)).2 ≤ r + 2200 * (i + 1 + 1)) := by
                    refine ⟨(H6.out.turns0 hB3.turns0).row' ?_, HKI.out.2⟩
                    have h9 := hB3.own
                    rw [HT3.out, HTT.out.1] at h9
                    rw [HTT.out.2]
                    first | exact h9 | simpa using h9 | (have e9 : j + 1 + (lN - j) = lN + 1 := by omega
                                                         rw [e9] at h9
                                                         exact h9)
                  clear hB3 HO2 HCT H6
                  go_wp2
                  go_roundw
                  case rel => exact ⟨i + 1, v3, kv3, w8, rfl, by go_num, by omega, rfl, H8.out⟩
                  case measure => simp [intOf]; omega
                · have hjaI : ¬ (j : Int) < (ac : Int) := by omega
                  go_wp2_with (at_builtin; refine wpList_append_row rfl _ _ 107 rfl 110 2 16 _ Tryz.underlying107 infoRNear rfl (by decide) wr w7 (.slice none 0 0) v2 w.heap.size (j + 1) T3 _ _ _ T2 (by first | exact lT2 | (simp [lT2]; done) | (simp [lT2]; omega)) (fun q u hq => by obtain ⟨g', e1, e2⟩ := HC2.out q u hq; first | (injection e1 with e1; injection e1 with e1; subst e1; exact ⟨⟨_, j * 2, none⟩, rfl, by rw [addr_add2]; exact e2⟩) | (exfalso; have := (List.getElem?_eq_some_iff.1 hq).1; omega) | (cases e1; done)) oT2 HO2.out hsz7 (by omega) (by omega) rfl rfl ?_)
                  intro v3 w8 hB3
                  have H8 : Hid (RAt w s0 s1 b og oc lg lc fg fc hg hc O lab st c kv f g1 (Pu.lookA c st f LP (i + 1)) (Pu.insL lab f (i + 1)) v3 kv3 w8 ∧ (Pu.lookA c st f LP (i + 1)).2 ≤ r + 2200 * (i + 1 + 1)) := by
                    refine ⟨(H6.out.turns0 hB3.turns0).row' ?_, HKI.out.2⟩
                    have h9 := hB3.own
                    rw [HT3.out, HTT.out.1] at h9
                    rw [HTT.out.2]
                    first | exact h9 | simpa using h9 | (have e9 : j + 1 + (lN - j) = lN + 1 := by omega
                                                         rw [e9] at h9
                                                         exact h9)
                  clear hB3 HO2 HCT H6
                  go_wp2
                  go_roundw
                  case rel => exact ⟨i + 1, v3, kv3, w8, rfl, by go_num, by omega, rfl, H8.out⟩
                  case measure => simp [intOf]; omega
    · have hii : ¬ (i : Int) < (n : Int) := by omega
      have hie : i = n := by omega
      obtain ⟨N, hN⟩ : ∃ N, N = Pu.insL lab f n := ⟨_, rfl⟩
      have HAR : Hid (Pu.arN lab n f k = N.take k) := by show _ = _; unfold Pu.arN; rw [hN, Pu.insL_srt]
      have HI2 : Hid (RAt w s0 s1 b og oc lg lc fg fc hg hc O lab st c kv f g1 (Pu.lookA c st f LP n) N x kv2 wr) := by show RAt _ _ _ _ _ _ _ _ _ _ _ _ _ _ _ _ _ _ _ _ _ _ _ _; rw [hN, ← hie]; exact HI.out.1
      obtain ⟨a, ac, hxa, hHA, hac, _⟩ := nearAt_own HI2.out.row
      subst hxa
      have HHA : Hid (HubAt wr a (N.take k)) := hHA.take k
      obtain ⟨lN, hlN⟩ : ∃ lN, lN = N.length := ⟨_, rfl⟩
      have HLN : Hid (lN = N.length) := hlN
      have HTL : Hid ((N.take k).length = min k lN) := by show _ = _; rw [List.length_take, hlN]
      rw [← hlN] at HI2 hac ⊢
      clear hN hHA hlN HI hie
      by_cases hkl : k < lN
      · have hkl1 : (k : Int) < (lN : Int) := by omega
        have hkl2 : (k : Int) ≤ (ac : Int) := by omega
        have HMN : Hid ((N.take k).length = k) := by show _ = _; rw [HTL.out]; omega
        go_wp2
        exact bodyPost_ret (v := .tuple #[.slice a k ac, .int .i64 0]) (by simp [results, Tryz.results36, go_sem]) rfl ⟨a, ac, kv2, by rw [HAR.out, HMN.out], by rw [HAR.out]; exact HHA.out, HI2.out.s, HI2.out.q, HI2.out.t⟩
      · have hkl1 : ¬ (k : Int) < (lN : Int) := by omega
        have HMN : Hid ((N.take k).length = lN) := by show _ = _; rw [HTL.out]; omega
        go_wp2
        exact bodyPost_ret (v := .tuple #[.slice a lN ac, .int .i64 0]) (by simp [results, Tryz.results36, go_sem]) rfl ⟨a, ac, kv2, by rw [HAR.out, HMN.out], by rw [HAR.out]; exact HHA.out, HI2.out.s, HI2.out.q, HI2.out.t⟩
end Go.Proofs.YtdogncjcainhlaaGreatDoor
/- The walk of the reference's Open. -/
namespace Go.Proofs.YtdogncjcainhlaaGreatDoor
open Go.RowKit Go.Deep
open Mem

set_option maxRecDepth 100000 in
set_option maxHeartbeats 1000000 in
theorem ropen_conf (d : ByteArray) (c : Int) (w : World) (hc : c < 1 ∨ 8 < c) :
    Calls Tryz.prog 33 #[.string d, .int .i64 c] w fun e w' => e = .returned (.tuple #[.pointer none, .int .i64 7, .int .i64 0]) ∧ w' = w := by
  by_cases h : c < 1
  · go_enter Tryz.func33, Tryz.ntmps33
    go_wp2
    exact bodyPost_ret (v := .tuple #[.pointer none, .int .i64 7, .int .i64 0]) (by simp [results, Tryz.results33, go_sem]) rfl ⟨rfl, rfl⟩
  · have h2 : c > 8 := by omega
    have h3 : (8 : Int) < c := by omega
    go_enter Tryz.func33, Tryz.ntmps33
    go_wp2
    exact bodyPost_ret (v := .tuple #[.pointer none, .int .i64 7, .int .i64 0]) (by simp [results, Tryz.results33, go_sem]) rfl ⟨rfl, rfl⟩
set_option maxRecDepth 100000 in
set_option maxHeartbeats 1000000 in
/-- Too long. -/
theorem ropen_long (d : ByteArray) (c : Int) (w : World) (h1 : 1 ≤ c) (h2 : c ≤ 8) (hd : 60000 < d.size) :
    Calls Tryz.prog 33 #[.string d, .int .i64 c] w fun e w' => e = .returned (.tuple #[.pointer none, .int .i64 1, .int .i64 0]) ∧ w' = w := by
  have h3 : ¬ c < 1 := by omega
  have h4 : ¬ c > 8 := by omega
  have h5 : ¬ (8 : Int) < c := by omega
  have h6 : (d.size : Int) > 60000 := by omega
  have h7 : (60000 : Int) < (d.size : Int) := by omega
  go_enter Tryz.func33, Tryz.ntmps33
  go_wp2
  exact bodyPost_ret (v := .tuple #[.pointer none, .int .i64 1, .int .i64 0]) (by simp [results, Tryz.results33, go_sem]) rfl ⟨rfl, rfl⟩
set_option maxRecDepth 100000 in
set_option maxHeartbeats 1000000 in
/-- Not of whole pages. -/
theorem ropen_part (d : ByteArray) (c : Int) (w : World) (h1 : 1 ≤ c) (h2 : c ≤ 8) (hd : d.size ≤ 60000) (hp : d.size = 0 ∨ d.size % 32 ≠ 0) :
    Calls Tryz.prog 33 #[.string d, .int .i64 c] w fun e w' => e = .returned (.tuple #[.pointer none, .int .i64 9, .int .i64 0]) ∧ w' = w := by
  have h3 : ¬ c < 1 := by omega
  have h4 : ¬ c > 8 := by omega
  have h5 : ¬ (8 : Int) < c := by omega
  have h6 : ¬ (d.size : Int) > 60000 := by omega
  have h7 : ¬ (60000 : Int) < (d.size : Int) := by omega
  by_cases hz : d.size = 0
  · have he := empty_of hz
    go_enter Tryz.func33, Tryz.ntmps33
    go_wp2
    exact bodyPost_ret (v := .tuple #[.pointer none, .int .i64 9, .int .i64 0]) (by simp [results, Tryz.results33, go_sem]) rfl ⟨rfl, rfl⟩
  · have hne2 := not_empty hz
    have hr : ((d.size : Int) % 32 != 0) = true := by simp; omega
    go_enter Tryz.func33, Tryz.ntmps33
    go_wp2
    exact bodyPost_ret (v := .tuple #[.pointer none, .int .i64 9, .int .i64 0]) (by simp [results, Tryz.results33, go_sem]) rfl ⟨rfl, rfl⟩
set_option maxRecDepth 100000 in
/-- Its cache is set. -/
theorem RSt.cache {w : World} {s0 s1 b og oc lg lc fg fc hg hc : Nat} {O : List Nat} {lab : Nat → List (Nat × Int)} {st : Nat → Nat} {c0 : Nat} {kv : Value} {K : List Nat} {r : Nat} (h : RSt w s0 s1 b og oc lg lc fg fc hg hc O lab st c0 kv K r) (c : Nat) : RSt (w.setCell ⟨b, 4, none⟩ (.int .i64 (c : Int))) s0 s1 b og oc lg lc fg fc hg hc O lab st c kv K r := by
  have t2 : Turns (fun q => q = b) w (w.setCell ⟨b, 4, none⟩ (.int .i64 (c : Int))) := (Turns.refl (fun q => q = b) w).setCell (x := ⟨b, 4, none⟩) (Or.inr rfl) _
  have hf : ∀ q, q = og ∨ q = lg ∨ q = fg ∨ q = hg → ¬ (q = b) := fun q hq => h.ne q hq
  refine ⟨h.box.set4 (c : Int), h.ord.turns_p t2 (hf og (by simp)), fun v hv => ?_, fun v hv => ?_, fun v hv => ?_, owns_turns_p h.kept t2 (fun q hq c => ?_), h.rng, h.ne⟩
  · obtain ⟨g, cap, h1, h2, h3, h4, h5⟩ := h.labs v hv
    refine ⟨g, cap, (t2.cell (a := ⟨lg, v, none⟩) (World.block_lt_of_cell? _ _ h1) (hf lg (by simp))).trans h1, ?_, h3, h4, h5⟩
    intro i r f hi
    obtain ⟨g', e1, e2, e3⟩ := h2 i r f hi
    injection e1 with e1
    injection e1 with e1
    subst e1
    exact ⟨g, rfl, (t2.cell (a := ⟨g, i * 2, none⟩) (World.block_lt_of_cell? _ _ e2) h5).trans e2, (t2.cell (a := ⟨g, i * 2 + 1, none⟩) (World.block_lt_of_cell? _ _ e3) h5).trans e3⟩
  · exact (t2.cell (a := ⟨fg, v, none⟩) (World.block_lt_of_cell? _ _ (h.fst v hv)) (hf fg (by simp))).trans (h.fst v hv)
  · exact (t2.cell (a := ⟨hg, v, none⟩) (World.block_lt_of_cell? _ _ (h.lst v hv)) (hf hg (by simp))).trans (h.lst v hv)
  · have h1 := (World.ownsRow.lt h.kept q hq).1
    have h2 := (h.rng b (Or.inl rfl)).2
    omega
/-- What held hands back: a store of these bytes, or none. -/
def HeldPost (w : World) (s : ByteArray) (e : Ending) (w' : World) : Prop := Turns (fun _ => False) w w' ∧ match Pu.rdOf s.data.toList with
  | none => e = .returned (.tuple #[.pointer none, .bool false])
  | some (O, Z, a) => ∃ b og oc lg lc fg fc hg hc, e = .returned (.tuple #[.pointer (some ⟨b, 0, none⟩), .bool true]) ∧ RSt w' w.heap.size w'.heap.size b og oc lg lc fg fc hg hc O (Pu.labF s.data.toList (Pu.stF a Z)) (Pu.stF a Z) 0 (.slice none 0 0) [] 0
def HeldSaid : Prop := ∀ (s : ByteArray) (w : World), s.size ≤ 60000 → s.size % 28 = 0 → Calls Tryz.prog 70 #[.string s] w (HeldPost w s)
/-- What Open hands back of whole pages. -/
def ROpPost (w : World) (d : ByteArray) (c p : Nat) (e : Ending) (w' : World) : Prop := Turns (fun _ => False) w w' ∧ ((∃ q : Nat, Pu.FW d.data.toList (q : Int) ∧ e = .returned (.tuple #[.pointer none, .int .i64 8, .int .i64 (q : Int)])) ∨ (Pu.FW d.data.toList (-1) ∧ match Pu.rdOf (Pu.heldK d.data.toList p) with
      | none => e = .returned (.tuple #[.pointer none, .int .i64 9, .int .i64 0])
      | some (O, Z, a) => ∃ s0 s1 b og oc lg lc fg fc hg hc, e = .returned (.tuple #[.pointer (some ⟨b, 0, none⟩), .int .i64 0, .int .i64 0]) ∧ w.heap.size ≤ s0 ∧ s1 ≤ w'.heap.size ∧ RSt w' s0 s1 b og oc lg lc fg fc hg hc O (Pu.labF (Pu.heldK d.data.toList p) (Pu.stF a Z)) (Pu.stF a Z) c (.slice none 0 0) [] 0))
set_option maxRecDepth 100000 in
set_option maxHeartbeats 2000000 in
theorem ropen_pages (hH : HeldSaid) (d : ByteArray) (c : Nat) (w : World) (p : Nat) (h1 : 1 ≤ c) (h2 : c ≤ 8) (hd : d.size = 32 * p) (hp1 : 1 ≤ p) (hp : p ≤ 1875) :
    Calls Tryz.prog 33 #[.string d, .int .i64 (c : Int)] w (ROpPost w d c p) := by
  have h3 : ¬ (c : Int) < 1 := by omega
  have h4 : ¬ (c : Int) > 8 := by omega
  have h5 : ¬ (8 : Int) < (c : Int) := by omega
  have h6 : ¬ (d.size : Int) > 60000 := by omega
  have h7 : ¬ (60000 : Int) < (d.size : Int) := by omega
  have hne2 := not_empty (s := d) (by omega)
  have h8 : (d.size : Int) % 32 = 0 := by omega
  go_enter Tryz.func33, Tryz.ntmps33
  have HHS : Hid HeldSaid := hH
  have hdl : d.data.toList.length = d.size := (size_list d).symm
  clear hH
  go_wp2_with fail
  go_loopw [7, 8] (fun sv iv wr => ∃ (k j : Nat) (s : ByteArray) (wy : World), sv = .string s ∧ iv = .int .i64 (j : Int) ∧ j ≤ d.size ∧ s.size ≤ 60000 ∧ wy = wr ∧ Hid (j = 32 * k ∧ k ≤ p ∧ s.data.toList = Pu.heldK d.data.toList k ∧ (∀ q, q < k → Pu.okPg q (Pu.pgAt d.data.toList q)) ∧ Turns (fun _ => False) w wy)) (fun _ iv _ => d.size - (intOf iv).toNat)
  case atStart => exact ⟨0, 0, ⟨#[]⟩, w, rfl, rfl, by omega, by decide, rfl, rfl, by omega, rfl, fun q hq => by omega, Turns.refl _ _⟩
  case round =>
    obtain ⟨k, j, s, wr, rfl, rfl, hjd, hss, hwy, HI⟩ := hrel
    subst hwy
    by_cases hlt : j < d.size
    · have hji : (j : Int) < (d.size : Int) := by omega
      have hj1 : j + 32 ≤ d.size := by have := HI.out.1; omega
      obtain ⟨C, hC⟩ : ∃ C : ByteArray, C = d.extract j (j + 28) := ⟨_, rfl⟩
      obtain ⟨G, hG⟩ : ∃ G : ByteArray, G = d.extract j (j + 32) := ⟨_, rfl⟩
      have hCs : C.size = 28 := by rw [hC, ByteArray.size_extract]; omega
      have hCl : C.data.toList = (Pu.pgAt d.data.toList k).take 28 := by
        rw [hC, extract_list, HI.out.1, List.drop_take, Pu.pgAt, List.take_take]
        congr 1; omega
      have hGl : G.data.toList = Pu.pgAt d.data.toList k := by
        rw [hG, extract_list, HI.out.1, List.drop_take, Pu.pgAt]
        congr 1; omega
      have hkp : k < p := by have := HI.out.1; omega
      have hdv : (j : Int) / 32 = (k : Int) := by have := HI.out.1; omega
      have cs := rseal_any k C wr (by omega) (by omega)
      have hGk : Pu.okPg k (Pu.pgAt d.data.toList k) ↔ (⟨(Pu.sealB k C.data.toList).toArray⟩ : ByteArray) = G := by
        have e1 : (⟨(Pu.sealB k C.data.toList).toArray⟩ : ByteArray) = G ↔ Pu.sealB k C.data.toList = G.data.toList := by
          constructor
          · intro e; rw [← e]
          · intro e
            refine of_list ?_
            rw [← e]
        rw [e1, hCl, hGl, Pu.sealB, Pu.okPg]
        constructor
        · intro e; rw [← e, List.take_append_drop]
        · intro e
          have e2 := congrArg (List.drop 28) e
          have hl : ((Pu.pgAt d.data.toList k).take 28).length = 28 := by
            rw [List.length_take, Pu.pgAt_len (by have := HI.out.1; omega)]; rfl
          rw [List.drop_append_of_le_length (by omega), List.drop_eq_nil_of_le (by omega), List.nil_append] at e2
          exact e2.symm
      obtain ⟨SB, hSB⟩ : ∃ SB : ByteArray, SB = ⟨(Pu.sealB k C.data.toList).toArray⟩ := ⟨_, rfl⟩
      rw [← hSB] at cs hGk
      have HC : Hid (d.extract j (j + 28) = C) := hC.symm
      have HG : Hid (d.extract j (j + 32) = G) := hG.symm
      clear hSB hC hG hGl
      have HI2 : Hid (j = 32 * k ∧ k ≤ p ∧ s.data.toList = Pu.heldK d.data.toList k ∧ (∀ q, q < k → Pu.okPg q (Pu.pgAt d.data.toList q)) ∧ Turns (fun _ => False) w wr) := HI.out
      have HCL : Hid (C.data.toList = (Pu.pgAt d.data.toList k).take 28) := hCl
      have HGK : Hid (Pu.okPg k (Pu.pgAt d.data.toList k) ↔ SB = G) := hGk
      clear hCl hGk HI
      go_wp2_with fail
      rw [HC.out]
      refine cs.mono ?_
      rintro e w1 ⟨rfl, hT1⟩
      have HT1 : Hid (Turns (fun _ => False) w w1) := HI2.out.2.2.2.2.trans hT1
      clear cs hT1
      by_cases hok : SB = G
      · have HOK : Hid (SB = G) := hok
        have HE : Hid (d.extract j (j + 32) = SB) := by show _ = _; rw [HG.out, hok]
        have hs1 : s.size + 28 ≤ 60000 := by
          have e1 := HI2.out.2.2.1
          have e2 := congrArg List.length e1
          rw [← size_list, Pu.heldK_len _ _ (by have := HI2.out.1; omega)] at e2
          omega
        have b1 : (9223372036854775807 < s.size + C.size) = False := by simp; omega
        have HN : Hid (∃ (k' j' : Nat) (s' : ByteArray) (wy : World), (Value.string (s ++ C)) = .string s' ∧ (Value.int .i64 ((j : Int) + 32)) = .int .i64 (j' : Int) ∧ j' ≤ d.size ∧ s'.size ≤ 60000 ∧ wy = w1 ∧ Hid (j' = 32 * k' ∧ k' ≤ p ∧ s'.data.toList = Pu.heldK d.data.toList k' ∧ (∀ q, q < k' → Pu.okPg q (Pu.pgAt d.data.toList q)) ∧ Turns (fun _ => False) w wy)) := by
          refine ⟨k + 1, j + 32, s ++ C, w1, rfl, by go_num, by omega, by rw [ByteArray.size_append]; omega, rfl, by have := HI2.out.1; omega, by omega, ?_, fun q hq => ?_, HT1.out⟩
          · rw [cat_list, HI2.out.2.2.1, HCL.out, Pu.heldK, Pu.pgAt, List.take_take]; rfl
          · by_cases e : q = k
            · rw [e]; exact HGK.out.2 hok
            · exact HI2.out.2.2.2.1 q (by omega)
        have n1 : (!SB.toList == (d.extract j (j + 32)).toList) = false := by rw [HE.out]; simp
        clear hok HI2 HGK HCL HG HC
        go_wp2
        go_roundw
        case measure => simp [intOf]; omega
        case rel => exact HN.out
      · have HNE : Hid (¬ d.extract j (j + 32) = SB) := by
          intro e
          rw [HG.out] at e
          exact hok e.symm
        have n1 : (!SB.toList == (d.extract j (j + 32)).toList) = true := by
          rw [bytes_ne (fun e => HNE.out e.symm)]; rfl
        have HX : Hid (ROpPost w d c p (.returned (.tuple #[.pointer none, .int .i64 8, .int .i64 (k : Int)])) w1) := ⟨HT1.out, Or.inl ⟨k, Or.inr ⟨k, rfl, by have := HI2.out.1; omega, fun e => hok (HGK.out.1 e), HI2.out.2.2.2.1⟩, rfl⟩⟩
        clear hok HI2 HGK HCL HG HC
        go_wp2
        exact bodyPost_ret (v := .tuple #[.pointer none, .int .i64 8, .int .i64 (k : Int)]) (by simp [results, Tryz.results33, go_sem]) rfl HX.out
    · have hji : ¬ (j : Int) < (d.size : Int) := by omega
      have hkp : k = p := by have := HI.out.1; omega
      have hsl : s.data.toList = Pu.heldK d.data.toList p := by rw [← hkp]; exact HI.out.2.2.1
      have hsz : s.size = 28 * p := by rw [size_list, hsl, Pu.heldK_len _ _ (by omega)]
      have HFW : Hid (Pu.FW d.data.toList (-1)) := Or.inl ⟨rfl, fun q hq => HI.out.2.2.2.1 q (by omega)⟩
      have CH := HHS.out s wr (by omega) (by omega)
      unfold HeldPost at CH
      rw [hsl] at CH
      have HT : Hid (Turns (fun _ => False) w wr) := HI.out.2.2.2.2
      clear HI hsl hsz HHS
      cases hrd : Pu.rdOf (Pu.heldK d.data.toList p) with
      | none =>
        rw [hrd] at CH
        simp only at CH
        go_wp2_with fail
        refine CH.mono ?_
        rintro e w1 ⟨hT1, rfl⟩
        have HX : Hid (ROpPost w d c p (.returned (.tuple #[.pointer none, .int .i64 9, .int .i64 0])) w1) := ⟨HT.out.trans hT1, Or.inr ⟨HFW.out, by rw [hrd]⟩⟩
        clear CH hT1 hrd
        go_wp2
        exact bodyPost_ret (v := .tuple #[.pointer none, .int .i64 9, .int .i64 0]) (by simp [results, Tryz.results33, go_sem]) rfl HX.out
      | some z =>
        obtain ⟨O, Z, a⟩ := z
        rw [hrd] at CH
        simp only at CH
        go_wp2_with fail
        refine CH.mono ?_
        rintro e w1 ⟨hT1, b, og, oc, lg, lc, fg, fc, hg, hc, rfl, hS⟩
        have d0 := hS.box.lt
        have d4 := hS.box.c4
        have f4 := hS.box.free 4
        have HX : Hid (ROpPost w d c p (.returned (.tuple #[.pointer (some ⟨b, 0, none⟩), .int .i64 0, .int .i64 0])) (w1.setCell ⟨b, 4, none⟩ (.int .i64 (c : Int)))) := by
          have hb : w.heap.size ≤ b := Nat.le_trans HT.out.size (hS.rng b (Or.inl rfl)).1
          refine ⟨(HT.out.trans hT1).setCell (x := ⟨b, 4, none⟩) (Or.inl hb) _, Or.inr ⟨HFW.out, ?_⟩⟩
          rw [hrd]
          refine ⟨wr.heap.size, w1.heap.size, b, og, oc, lg, lc, fg, fc, hg, hc, rfl, HT.out.size, by simp, ?_⟩
          exact hS.cache c
        clear CH hT1 hS hrd
        go_wp2
        exact bodyPost_ret (v := .tuple #[.pointer (some ⟨b, 0, none⟩), .int .i64 0, .int .i64 0]) (by simp [results, Tryz.results33, go_sem]) rfl HX.out
end Go.Proofs.YtdogncjcainhlaaGreatDoor
/- Two stores side by side answer the same: Open, Far, Around. -/
namespace Go.Proofs.YtdogncjcainhlaaGreatDoor
open Go.RowKit Go.Deep
open Mem

/-- Both refuse with the same. -/
def RefuseAt (d : ByteArray) (c code at' : Int) : Prop :=
  (∀ w, Calls Tryz.prog 11 #[.string d, .int .i64 c] w fun e w' => e = .returned (.tuple #[.pointer none, .int .i64 code, .int .i64 at']) ∧ Turns (fun _ => False) w w') ∧
  ∀ w, Calls Tryz.prog 33 #[.string d, .int .i64 c] w fun e w' => e = .returned (.tuple #[.pointer none, .int .i64 code, .int .i64 at']) ∧ Turns (fun _ => False) w w'
/-- Both open. -/
def Opens (d : ByteArray) (c : Int) : Prop := ∃ (n : Nat) (O : List Nat) (st : Nat → Nat) (S : ByteArray) (lab : Nat → List (Nat × Int)), 1 ≤ n ∧ n ≤ 8 ∧ Labs S O st lab ∧
  (∀ w, Calls Tryz.prog 11 #[.string d, .int .i64 c] w fun e w' => ∃ b og oc sg sc, e = .returned (.tuple #[.pointer (some ⟨b, 0, none⟩), .int .i64 0, .int .i64 0]) ∧ StoreAt w' b og oc sg sc O st S n 0 (.slice none 0 0) [] 0 ∧ (w.heap.size ≤ b ∧ w.heap.size ≤ og ∧ w.heap.size ≤ sg) ∧ Turns (fun _ => False) w w') ∧
  ∀ w, Calls Tryz.prog 33 #[.string d, .int .i64 c] w fun e w' => ∃ s0 s1 b og oc lg lc fg fc hg hc, e = .returned (.tuple #[.pointer (some ⟨b, 0, none⟩), .int .i64 0, .int .i64 0]) ∧ w.heap.size ≤ s0 ∧ s1 ≤ w'.heap.size ∧ RSt w' s0 s1 b og oc lg lc fg fc hg hc O lab st n (.slice none 0 0) [] 0 ∧ Turns (fun _ => False) w w'
theorem Pu.FW.total (d : List UInt8) : (∃ q : Nat, Pu.FW d (q : Int)) ∨ Pu.FW d (-1) := by
  by_cases h : ∃ p, 32 * p < d.length ∧ ¬ Pu.okPg p (Pu.pgAt d p)
  · left
    obtain ⟨p, hp⟩ := h
    induction p using Nat.strongRecOn with
    | _ p ih =>
      by_cases g : ∃ q, q < p ∧ ¬ Pu.okPg q (Pu.pgAt d q)
      · obtain ⟨q, h1, h2⟩ := g
        exact ih q h1 ⟨by omega, h2⟩
      · exact ⟨p, Or.inr ⟨p, rfl, hp.1, hp.2, fun q hq => Classical.byContradiction fun c => g ⟨q, hq, c⟩⟩⟩
  · right
    exact Or.inl ⟨rfl, fun q hq => Classical.byContradiction fun c => h ⟨q, hq, c⟩⟩
theorem opens_of (hH : HeldSaid) (d : ByteArray) (n p : Nat) (h1 : 1 ≤ n) (h2 : n ≤ 8) (hp : d.size = 32 * p) (hp1 : 1 ≤ p) (hp2 : p ≤ 1875) (hq : Pu.FW d.data.toList (-1)) {O Z : List Nat} {a : Nat} (hr : Pu.rdOf (Pu.heldK d.data.toList p) = some (O, Z, a)) : Opens d (n : Int) := by
  have R := fun w => ropen_pages hH d n w p h1 h2 hp hp1 hp2
  have hkl : (Pu.heldK d.data.toList p).length = 28 * p := by
    have hdl : d.data.toList.length = d.size := (size_list d).symm
    exact Pu.heldK_len _ _ (by omega)
  have L : Labs ⟨(Pu.heldK d.data.toList p).toArray⟩ O (Pu.stF a Z) (Pu.labF (Pu.heldK d.data.toList p) (Pu.stF a Z)) := rd_labs (S := ⟨(Pu.heldK d.data.toList p).toArray⟩) (by simpa using hr) (by rw [size_list]; simp only; rw [hkl]; omega) (by rw [size_list]; simp only; rw [hkl]; omega)
  refine ⟨n, O, Pu.stF a Z, ⟨(Pu.heldK d.data.toList p).toArray⟩, Pu.labF (Pu.heldK d.data.toList p) (Pu.stF a Z), by omega, by omega, L, fun w => (open_ok d n w p O Z a (by omega) (by omega) hp (by omega) (by omega) hq hr).mono ?_, fun w => (R w).mono ?_⟩
  · rintro e w' ⟨b, og, oc, sg, sc, h4, h5, h6, h7, h8, _, _, _, t⟩
    exact ⟨b, og, oc, sg, sc, h4, h5, ⟨h6, h7, h8⟩, t⟩
  · rintro e w' ⟨t, h | h⟩
    · obtain ⟨q', h4, rfl⟩ := h
      have := h4.one hq
      omega
    · have h5 := h.2
      rw [hr] at h5
      obtain ⟨s0, s1, b, og, oc, lg, lc, fg, fc, hg, hc, g1, g2, g3, g4⟩ := h5
      exact ⟨s0, s1, b, og, oc, lg, lc, fg, fc, hg, hc, g1, g2, g3, g4, t⟩
theorem open_cases (hH : HeldSaid) (d : ByteArray) (c : Int) : (∃ code at', RefuseAt d c code at') ∨ Opens d c := by
  by_cases h1 : c < 1 ∨ 8 < c
  · exact Or.inl ⟨7, 0, fun w => (open_conf d c w h1).mono (by rintro e w' ⟨rfl, rfl⟩; exact ⟨rfl, Turns.refl _ _⟩), fun w => (ropen_conf d c w h1).mono (by rintro e w' ⟨rfl, rfl⟩; exact ⟨rfl, Turns.refl _ _⟩)⟩
  by_cases h2 : 60000 < d.size
  · exact Or.inl ⟨1, 0, fun w => (open_long d c w (by omega) (by omega) h2).mono (by rintro e w' ⟨rfl, rfl⟩; exact ⟨rfl, Turns.refl _ _⟩), fun w => (ropen_long d c w (by omega) (by omega) h2).mono (by rintro e w' ⟨rfl, rfl⟩; exact ⟨rfl, Turns.refl _ _⟩)⟩
  by_cases h3 : d.size = 0 ∨ d.size % 32 ≠ 0
  · exact Or.inl ⟨9, 0, fun w => (open_part d c w (by omega) (by omega) (by omega) h3).mono (by rintro e w' ⟨rfl, rfl⟩; exact ⟨rfl, Turns.refl _ _⟩), fun w => (ropen_part d c w (by omega) (by omega) (by omega) h3).mono (by rintro e w' ⟨rfl, rfl⟩; exact ⟨rfl, Turns.refl _ _⟩)⟩
  obtain ⟨n, rfl⟩ : ∃ n : Nat, c = n := ⟨c.toNat, by omega⟩
  obtain ⟨p, hp⟩ : ∃ p, d.size = 32 * p := ⟨d.size / 32, by omega⟩
  have R := fun w => ropen_pages hH d n w p (by omega) (by omega) hp (by omega) (by omega)
  rcases Pu.FW.total d.data.toList with ⟨q, hq⟩ | hq
  · refine Or.inl ⟨8, q, fun w => open_sum d n w q (by omega) (by omega) (by omega) (by omega) (by omega) hq, fun w => (R w).mono ?_⟩
    rintro e w' ⟨t, h | h⟩
    · obtain ⟨q', h4, rfl⟩ := h
      have := h4.one hq
      rw [this]
      exact ⟨rfl, t⟩
    · have := h.1.one hq
      omega
  · cases hr : Pu.rdOf (Pu.heldK d.data.toList p) with
    | none =>
      refine Or.inl ⟨9, 0, fun w => open_bad d n w p (by omega) (by omega) hp (by omega) (by omega) hq hr, fun w => (R w).mono ?_⟩
      rintro e w' ⟨t, h | h⟩
      · obtain ⟨q', h4, rfl⟩ := h
        have := h4.one hq
        omega
      · have h5 := h.2
        rw [hr] at h5
        exact ⟨h5, t⟩
    | some z =>
      obtain ⟨O, Z, a⟩ := z
      exact Or.inr (opens_of hH d n p (by omega) (by omega) hp (by omega) (by omega) hq hr)
theorem lookA_ok {c : Nat} {st : Nat → Nat} {n : Nat} {lab : Nat → List (Nat × Int)} (h : LabsP lab st n) (hc : 1 ≤ c) (f : Nat) {s : List Nat × Nat} (hK : Pu.Keeps c s.1) : ∀ v, v ≤ n → Pu.Keeps c (Pu.lookA c st f s v).1 ∧ (Pu.lookA c st f s v).2 ≤ s.2 + 2200 * v
  | 0, _ => ⟨hK, Nat.le_refl _⟩
  | v + 1, hv => by
    have ih := lookA_ok h hc f hK v (by omega)
    rw [Pu.lookA]
    split
    · exact ⟨ih.1, by omega⟩
    · have := looks_ok h hc ih.1 (v := v) (by omega)
      exact ⟨this.1, by omega⟩
section
variable {w : World} {col : Nat → Nat} {k : Nat} {D : PS} {kv kr : Value} {K : List Nat} {r : Nat}
/-- Far, of both. -/
theorem far_two (P : PairI w col k D kv kr K r) (hr : r ≤ 8000000000000000) (p q : Int) : ∃ (x y z : Int) (K' : List Nat) (r' : Nat), Pu.Keeps D.c K' ∧ r' ≤ r + 100000 ∧
    (Calls Tryz.prog 20 #[.pointer (some ⟨D.sb, 0, none⟩), .int .i64 p, .int .i64 q] w fun e w' => e = .returned (.tuple #[.int .i64 x, .int .i64 y, .int .i64 z]) ∧ ∃ kv', StoreAt w' D.sb D.og D.oc D.sg D.sc D.O D.st D.S D.c 0 kv' K' r' ∧ (∀ x, kv'.ownBlock = some x → kv.ownBlock = some x ∨ w.heap.size ≤ x) ∧ Turns (fun x => x = D.sb ∨ kv.ownBlock = some x) w w') ∧
    ∀ w1, RSt w1 D.s0 D.s1 D.rb D.go D.co D.lg D.lc D.fg D.fc D.hg D.hc D.O D.lab D.st D.c kr K r → D.s1 ≤ w1.heap.size → Calls Tryz.prog 35 #[.pointer (some ⟨D.rb, 0, none⟩), .int .i64 p, .int .i64 q] w1 fun e w' => e = .returned (.tuple #[.int .i64 x, .int .i64 y, .int .i64 z]) ∧ ∃ kr', RSt w' D.s0 D.s1 D.rb D.go D.co D.lg D.lc D.fg D.fc D.hg D.hc D.O D.lab D.st D.c kr' K' r' ∧ (∀ x, kr'.ownBlock = some x → kr.ownBlock = some x ∨ w1.heap.size ≤ x) ∧ Turns (fun x => x = D.rb) w1 w' := by
  by_cases h : 0 ≤ p ∧ p < (D.O.length : Int) ∧ 0 ≤ q ∧ q < (D.O.length : Int)
  · obtain ⟨p', rfl⟩ : ∃ p' : Nat, p = p' := ⟨p.toNat, by omega⟩
    obtain ⟨q', rfl⟩ : ∃ q' : Nat, q = q' := ⟨q.toNat, by omega⟩
    have LP := P.l.p
    have k1 := looks_ok LP P.c1 (s := (K, r)) P.k (v := p') (by omega)
    have k2 := looks_ok LP P.c1 k1.1 (v := q') (by omega)
    have A := stFar_any P.l P.a (p := p') (q := q') (by omega) (by omega) P.c1 P.c8 P.k (by omega)
    have B := fun w1 (h1 : RSt w1 D.s0 D.s1 D.rb D.go D.co D.lg D.lc D.fg D.fc D.hg D.hc D.O D.lab D.st D.c kr K r) h2 => rfar_any LP h1 (p := p') (q := q') (by omega) (by omega) P.c1 P.c8 P.k hr h2
    obtain ⟨x, y, z, hz⟩ : ∃ x y z, farV D.O (Pu.best none (D.lab p') (D.lab q')) = .tuple #[.int .i64 x, .int .i64 y, .int .i64 z] := by
      cases Pu.best none (D.lab p') (D.lab q') with
      | none => exact ⟨_, _, _, rfl⟩
      | some u => exact ⟨_, _, _, rfl⟩
    rw [hz] at A B
    exact ⟨x, y, z, _, _, k2.1, by have := k1.2; have := k2.2; simp only at *; omega, A, B⟩
  · refine ⟨0, 0, 5, K, r, P.k, by omega, (stFar_node p q P.a h).mono ?_, fun w1 h1 h2 => (rfar_node p q h1 h).mono ?_⟩
    · rintro e w' ⟨rfl, h3, h4⟩
      exact ⟨rfl, kv, h3, fun _ g => Or.inl g, h4.mono (fun _ _ g => Or.inl g)⟩
    · rintro e w' ⟨rfl, rfl⟩
      exact ⟨rfl, kr, h1, fun _ g => Or.inl g, Turns.refl _ _⟩
/-- Around, of both. -/
theorem around_two (P : PairI w col k D kv kr K r) (hr : r ≤ 8000000000000000) (p q : Int) : ∃ (A : List (Nat × Int)) (z : Int) (K' : List Nat) (r' : Nat), A.length ≤ 40 ∧ Pu.Keeps D.c K' ∧ r' ≤ r + 100000 ∧
    (Calls Tryz.prog 21 #[.pointer (some ⟨D.sb, 0, none⟩), .int .i64 p, .int .i64 q] w fun e w' => ∃ x kv', e = .returned (.tuple #[x, .int .i64 z]) ∧ w'.ownsRow w.heap.size 66 2 x A.length (hubV A) ∧ StoreAt w' D.sb D.og D.oc D.sg D.sc D.O D.st D.S D.c 0 kv' K' r' ∧ (∀ x, kv'.ownBlock = some x → kv.ownBlock = some x ∨ w.heap.size ≤ x) ∧ Turns (fun x => x = D.sb ∨ kv.ownBlock = some x) w w') ∧
    ∀ w1, RSt w1 D.s0 D.s1 D.rb D.go D.co D.lg D.lc D.fg D.fc D.hg D.hc D.O D.lab D.st D.c kr K r → D.s1 ≤ w1.heap.size → Calls Tryz.prog 36 #[.pointer (some ⟨D.rb, 0, none⟩), .int .i64 p, .int .i64 q] w1 fun e w' => ∃ a cp kr', e = .returned (.tuple #[.slice a A.length cp, .int .i64 z]) ∧ HubAt w' a A ∧ RSt w' D.s0 D.s1 D.rb D.go D.co D.lg D.lc D.fg D.fc D.hg D.hc D.O D.lab D.st D.c kr' K' r' ∧ (∀ x, kr'.ownBlock = some x → kr.ownBlock = some x ∨ w1.heap.size ≤ x) ∧ Turns (fun x => x = D.rb) w1 w' := by
  have none' : ∀ (z : Int), (∀ {w1 : World}, RSt w1 D.s0 D.s1 D.rb D.go D.co D.lg D.lc D.fg D.fc D.hg D.hc D.O D.lab D.st D.c kr K r → Calls Tryz.prog 36 #[.pointer (some ⟨D.rb, 0, none⟩), .int .i64 p, .int .i64 q] w1 fun e w' => e = .returned (.tuple #[.slice none 0 0, .int .i64 z]) ∧ w' = w1) → (Calls Tryz.prog 21 #[.pointer (some ⟨D.sb, 0, none⟩), .int .i64 p, .int .i64 q] w fun e w' => e = .returned (.tuple #[.slice none 0 0, .int .i64 z]) ∧ StoreAt w' D.sb D.og D.oc D.sg D.sc D.O D.st D.S D.c 0 kv K r ∧ Turns (fun x => x = D.sb) w w') → _ := fun z hB hA => (⟨[], z, K, r, Nat.zero_le _, P.k, by omega, hA.mono (by
      rintro e w' ⟨rfl, h3, h4⟩
      exact ⟨_, kv, rfl, World.ownsRow_nil _ _ _ _, h3, fun _ g => Or.inl g, h4.mono (fun _ _ g => Or.inl g)⟩), fun w1 h1 h2 => (hB h1).mono (by
      rintro e w' ⟨rfl, rfl⟩
      exact ⟨none, 0, kr, rfl, fun i r f hi => by simp at hi, h1, fun _ g => Or.inl g, Turns.refl _ _⟩)⟩ : ∃ (A : List (Nat × Int)) (z : Int) (K' : List Nat) (r' : Nat), A.length ≤ 40 ∧ Pu.Keeps D.c K' ∧ r' ≤ r + 100000 ∧
    (Calls Tryz.prog 21 #[.pointer (some ⟨D.sb, 0, none⟩), .int .i64 p, .int .i64 q] w fun e w' => ∃ x kv', e = .returned (.tuple #[x, .int .i64 z]) ∧ w'.ownsRow w.heap.size 66 2 x A.length (hubV A) ∧ StoreAt w' D.sb D.og D.oc D.sg D.sc D.O D.st D.S D.c 0 kv' K' r' ∧ (∀ x, kv'.ownBlock = some x → kv.ownBlock = some x ∨ w.heap.size ≤ x) ∧ Turns (fun x => x = D.sb ∨ kv.ownBlock = some x) w w') ∧
    ∀ w1, RSt w1 D.s0 D.s1 D.rb D.go D.co D.lg D.lc D.fg D.fc D.hg D.hc D.O D.lab D.st D.c kr K r → D.s1 ≤ w1.heap.size → Calls Tryz.prog 36 #[.pointer (some ⟨D.rb, 0, none⟩), .int .i64 p, .int .i64 q] w1 fun e w' => ∃ a cp kr', e = .returned (.tuple #[.slice a A.length cp, .int .i64 z]) ∧ HubAt w' a A ∧ RSt w' D.s0 D.s1 D.rb D.go D.co D.lg D.lc D.fg D.fc D.hg D.hc D.O D.lab D.st D.c kr' K' r' ∧ (∀ x, kr'.ownBlock = some x → kr.ownBlock = some x ∨ w1.heap.size ≤ x) ∧ Turns (fun x => x = D.rb) w1 w')
  by_cases h : 0 ≤ p ∧ p < (D.O.length : Int)
  · by_cases h2 : q < 0 ∨ 40 < q
    · exact none' 7 (fun h1 => raround_conf p q h1 h h2) (around_conf p q P.a h h2)
    · obtain ⟨p', rfl⟩ : ∃ p' : Nat, p = p' := ⟨p.toNat, by omega⟩
      obtain ⟨q', rfl⟩ : ∃ q' : Nat, q = q' := ⟨q.toNat, by omega⟩
      have LP := P.l.p
      have hn := P.l.n40
      have k1 := looks_ok LP P.c1 (s := (K, r)) P.k (v := p') (by omega)
      have k2 := lookA_ok LP P.c1 p' k1.1 D.O.length (Nat.le_refl _)
      have A := around_any P.l P.a (f := p') (k := q') (by omega) (by omega) P.c1 P.c8 P.k hr
      have B := fun w1 (h1 : RSt w1 D.s0 D.s1 D.rb D.go D.co D.lg D.lc D.fg D.fc D.hg D.hc D.O D.lab D.st D.c kr K r) h2 => raround_any LP h1 (f := p') (k := q') (by omega) (by omega) P.c1 P.c8 P.k hr h2
      refine ⟨Pu.arN D.lab D.O.length p' q', 0, _, _, ?_, k2.1, ?_, A, B⟩
      · unfold Pu.arN
        rw [List.length_take]
        omega
      · have := k1.2
        have := k2.2
        simp only at *
        omega
  · exact none' 5 (fun h1 => raround_node p q h1 h) (around_node p q P.a h)
end
end Go.Proofs.YtdogncjcainhlaaGreatDoor
/- The walk of (*World).open: one more store, if it is one. -/
namespace Go.Proofs.YtdogncjcainhlaaGreatDoor
open Go.RowKit Go.Deep
open Mem

theorem infoPS : (Tryz.prog.info? 33).map (fun i => (i.zero, i.size, i.bytes)) = some (some (.pointer none), 1, 8) := by kernel_rfl
theorem infoPR : (Tryz.prog.info? 101).map (fun i => (i.zero, i.size, i.bytes)) = some (some (.pointer none), 1, 8) := by kernel_rfl
set_option maxRecDepth 100000 in
set_option maxHeartbeats 1000000 in
theorem num_any (w : World) (x : Int) : Calls Tryz.prog 34 #[.int .i64 x] w fun e w' => e = .returned (.int .i64 x) ∧ w' = w := by
  go_enter Tryz.func34, Tryz.ntmps34
  go_wp2
  go_ret
  exact ⟨rfl, rfl⟩
/-- The world of stores, whatever lies where. -/
def InvE (w0 : World) (h m R e N : Nat) (w : World) : Prop := ∃ col u v E sb rb, Inv w0 h m R e N col u v E sb rb w
def LOpPost (w0 : World) (h m R e N : Nat) (must : Prop) (en : Ending) (w : World) : Prop := en = .returned (.bool true) ∧ ∃ m', m ≤ m' ∧ m' ≤ m + 1 ∧ (must → m' = m + 1) ∧ InvE w0 h m' R e N w
set_option maxRecDepth 100000 in
set_option maxHeartbeats 4000000 in
theorem lopen_any (hH : HeldSaid) {w0 w : World} {h m R e N : Nat} (I : InvE w0 h m R e N w) (d : ByteArray) (c : Int) (hm : m ≤ 1000000000) :
    Calls Tryz.prog 13 #[.pointer (some ⟨h, 0, none⟩), .string d, .int .i64 c] w (LOpPost w0 h m R e N (Opens d c)) := by
  obtain ⟨col, u, v, E, sb, rb, I⟩ := I
  have HI : Hid (Inv w0 h m R e N col u v E sb rb w) := I
  clear I
  by_cases hop : Opens d c
  · have HOP : Hid (Opens d c) := hop
    obtain ⟨n, O, st, S, lab, hn1, hn8, L, A, B⟩ := hop
    have HL : Hid (Labs S O st lab) := L
    have HB : Hid (∀ w, Calls Tryz.prog 33 #[.string d, .int .i64 c] w fun e w' => ∃ s0 s1 b og oc lg lc fg fc hg hc, e = .returned (.tuple #[.pointer (some ⟨b, 0, none⟩), .int .i64 0, .int .i64 0]) ∧ w.heap.size ≤ s0 ∧ s1 ≤ w'.heap.size ∧ RSt w' s0 s1 b og oc lg lc fg fc hg hc O lab st n (.slice none 0 0) [] 0 ∧ Turns (fun _ => False) w w') := B
    have CA := A w
    clear A B L
    go_enter Tryz.func13, Tryz.ntmps13
    go_wp2_with fail
    refine CA.mono ?_
    rintro en w1 ⟨b, og, oc, sg, sc, rfl, hA1, hf1, hT1⟩
    have H1 : Hid (StoreAt w1 b og oc sg sc O st S n 0 (.slice none 0 0) [] 0 ∧ (w.heap.size ≤ b ∧ w.heap.size ≤ og ∧ w.heap.size ≤ sg) ∧ Turns (fun _ => False) w w1) := ⟨hA1, hf1, hT1⟩
    have CB := HB.out w1
    clear CA hA1 hf1 hT1 HB
    go_wp2_with fail
    refine CB.mono ?_
    rintro en w2 ⟨s0, s1, rb1, go, co, lg, lc, fg, fc, hg, hc, rfl, hs0, hs1, hS2, hT2⟩
    obtain ⟨col2, hI2, hP2⟩ := HI.out.opened (D := ⟨b, og, oc, sg, sc, O, st, S, n, lab, s0, s1, rb1, go, co, lg, lc, fg, fc, hg, hc⟩) H1.out.2.2 H1.out.1 HL.out H1.out.2.1 hT2 hS2 hs0 hs1 hn1 hn8
    have HI2 : Hid (Inv w0 h m R e N col2 u v E sb rb w2 ∧ PairI w2 col2 m ⟨b, og, oc, sg, sc, O, st, S, n, lab, s0, s1, rb1, go, co, lg, lc, fg, fc, hg, hc⟩ (.slice none 0 0) (.slice none 0 0) [] 0) := ⟨hI2, hP2⟩
    have cs := hI2.box.cs
    have hlt := hI2.box.lt
    have HO : Hid (OwnG w2 u.1 (h + 1) 33 1 u.1 m (ptrV sb m) w2) := OwnG.refl hI2.ss
    have hsz : h + 1 ≤ w2.heap.size := hlt
    obtain ⟨xs, hxs⟩ : ∃ xs, xs = ptrV sb m := ⟨_, rfl⟩
    obtain ⟨ys, hys⟩ : ∃ ys, ys = ptrV rb m := ⟨_, rfl⟩
    rw [← hxs] at HO
    have HXS : Hid (xs = ptrV sb m ∧ ys = ptrV rb m) := ⟨hxs, hys⟩
    obtain ⟨u1, hu1⟩ : ∃ u1, u1 = u.1 := ⟨_, rfl⟩
    obtain ⟨u2, hu2⟩ : ∃ u2, u2 = u.2 := ⟨_, rfl⟩
    have HU : Hid (u1 = u.1 ∧ u2 = u.2) := ⟨hu1, hu2⟩
    rw [← hu1] at cs HO
    clear CB hS2 hT2 hs0 hs1 hI2 hP2 H1 HI HL hxs hys hu1 hu2
    go_wp2_with (first | (go_at_call 34; refine (num_any _ _).mono ?_; rintro en wq ⟨rfl, hwq⟩; subst wq) | (at_builtin; refine wpList_append_one rfl _ _ 39 rfl 33 1 8 _ Tryz.underlying39 infoPS rfl (by decide) w2 w2 u1 u1 (h + 1) m xs #[.pointer (some ⟨b, 0, none⟩)] rfl (by intro u hu; simp at hu; subst hu; rfl) HO.out hsz (by omega) (by omega) rfl _ rfl rfl ?_))
    intro v1 w3 hB1
    have HB1 : Hid (OwnG w2 u.1 (h + 1) 33 1 v1 (m + 1) (ptrV sb m ++ [.pointer (some ⟨b, 0, none⟩)]) w3) := by rw [← HXS.out.1, ← HU.out.1]; exact hB1
    obtain ⟨x1, x2, x3, x4, x5, x6⟩ := HI2.out.1.push1 HB1.out
    obtain ⟨g9, c9, hv9, _⟩ := own_some hB1.own (by omega)
    subst hv9
    rw [← HU.out.1] at x1
    rw [← HU.out.2] at x4
    have k2 := x5.cr
    simp only at k2
    rw [← HU.out.2] at k2
    obtain ⟨V1, hV1⟩ : ∃ V1, V1 = Value.slice (some ⟨g9, 0, none⟩) (m + 1) c9 := ⟨_, rfl⟩
    have HO2 : Hid (OwnG (w3.setCell ⟨h, 0, none⟩ (.slice (some ⟨g9, 0, none⟩) (m + 1) c9)) u2 (h + 1) 101 1 u2 m ys (w3.setCell ⟨h, 0, none⟩ (.slice (some ⟨g9, 0, none⟩) (m + 1) c9))) := OwnG.refl (by rw [HU.out.2, HXS.out.2]; exact x6)
    have hsz2 : h + 1 ≤ (w3.setCell ⟨h, 0, none⟩ (.slice (some ⟨g9, 0, none⟩) (m + 1) c9)).heap.size := x5.lt
    clear hB1 HO x5 x6 hV1 V1
    go_wp2_with (at_builtin; refine wpList_append_one rfl _ _ 40 rfl 101 1 8 _ Tryz.underlying40 infoPR rfl (by decide) (w3.setCell ⟨h, 0, none⟩ (.slice (some ⟨g9, 0, none⟩) (m + 1) c9)) (w3.setCell ⟨h, 0, none⟩ (.slice (some ⟨g9, 0, none⟩) (m + 1) c9)) u2 u2 (h + 1) m ys #[.pointer (some ⟨rb1, 0, none⟩)] rfl (by intro u hu; simp at hu; subst hu; rfl) HO2.out hsz2 (by omega) (by omega) rfl _ rfl (by first | rfl | simp) ?_)
    intro v2 w5 hB2
    have HB2 : Hid (OwnG (w3.setCell ⟨h, 0, none⟩ (.slice (some ⟨g9, 0, none⟩) (m + 1) c9)) u.2 (h + 1) 101 1 v2 (m + 1) (ptrV rb m ++ [.pointer (some ⟨rb1, 0, none⟩)]) w5) := by rw [← HXS.out.2, ← HU.out.2]; exact hB2
    obtain ⟨y1, y2, y3, col', sb', rb', hI'⟩ := HI2.out.1.push2 HI2.out.2 HB1.out HB2.out
    obtain ⟨g10, c10, hv10, _⟩ := own_some hB2.own (by omega)
    subst hv10
    rw [← HU.out.2] at y1
    have HX : Hid (LOpPost w0 h m R e N (Opens d c) (.returned (.bool true)) (w5.setCell ⟨h, 1, none⟩ (.slice (some ⟨g10, 0, none⟩) (m + 1) c10))) := ⟨rfl, m + 1, by omega, by omega, fun _ => rfl, _, _, _, _, _, _, hI'⟩
    clear hB2 HO2 hI' HI2 HB1 HB2 x1 x2 x3 x4 k2
    go_wp2
    go_ret
    exact HX.out
  · have hrf : ∃ code at', RefuseAt d c code at' := by
      rcases open_cases hH d c with h1 | h1
      · exact h1
      · exact absurd h1 hop
    have HNO : Hid (¬ Opens d c) := hop
    obtain ⟨code, at', A, B⟩ := hrf
    have HB : Hid (∀ w, Calls Tryz.prog 33 #[.string d, .int .i64 c] w fun e w' => e = .returned (.tuple #[.pointer none, .int .i64 code, .int .i64 at']) ∧ Turns (fun _ => False) w w') := B
    have CA := A w
    clear A B hop
    go_enter Tryz.func13, Tryz.ntmps13
    go_wp2_with fail
    refine CA.mono ?_
    rintro en w1 ⟨rfl, hT1⟩
    have CB := HB.out w1
    have HT1 : Hid (Turns (fun _ => False) w w1) := hT1
    clear CA hT1 HB
    go_wp2_with fail
    refine CB.mono ?_
    rintro en w2 ⟨rfl, hT2⟩
    have HX : Hid (LOpPost w0 h m R e N (Opens d c) (.returned (.bool true)) w2) := ⟨rfl, m, by omega, by omega, fun h => absurd h HNO.out, _, _, _, _, _, _, HI.out.turns0 (HT1.out.trans hT2)⟩
    have n1 : (code != code) = false := by simp
    have n2 : (at' != at') = false := by simp
    clear CB hT2 HI
    go_wp2_with (go_at_call 34; refine (num_any _ _).mono ?_; rintro en wq ⟨rfl, hwq⟩; subst wq)
    go_ret
    exact HX.out
end Go.Proofs.YtdogncjcainhlaaGreatDoor
