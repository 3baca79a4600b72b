/- Pack12: texts of one proof, one behind the other. -/
import Derived.Test.YtdogncjcainhlaaGreatDoorPack11
import Derived.Deep.RegionHeld3
import Derived.Test.YtdogncjcainhlaaGreatDoorPack2
import Derived.Test.YtdogncjcainhlaaGreatDoorPack10
import Derived.Test.YtdogncjcainhlaaGreatDoorPack9
import Derived.Test.YtdogncjcainhlaaGreatDoorPack5
import Derived.Test.YtdogncjcainhlaaGreatDoorPack6
import Derived.Test.YtdogncjcainhlaaGreatDoorPlain
import Derived.Test.YtdogncjcainhlaaGreatDoorPack7
import Derived.Maps.AppendAt
import Derived.Deep.AppendLies
/- The walk of a store's Around. -/
namespace Go.Proofs.YtdogncjcainhlaaGreatDoor
open Go.RowKit Go.Deep Go.MuLone
open Mem

set_option maxRecDepth 100000 in
set_option maxHeartbeats 2000000 in
theorem around_node {w : World} {b og oc sg sc : Nat} {O : List Nat} {st : Nat → Nat} {S : ByteArray} {c : Nat} {kv : Value} {K : List Nat} {r : Nat} (p q : Int) (h : StoreAt w b og oc sg sc O st S c 0 kv K r) (hp : ¬ (0 ≤ p ∧ p < (O.length : Int))) :
    Calls Tryz.prog 21 #[.pointer (some ⟨b, 0, none⟩), .int .i64 p, .int .i64 q] w fun e w' => e = .returned (.tuple #[.slice none 0 0, .int .i64 5]) ∧ StoreAt w' b og oc sg sc O st S c 0 kv K r ∧ Turns (fun x => x = b) w w' := by
  have c0 := h.box.c0
  have f0 := h.box.free 0
  obtain ⟨w1, hw1⟩ : ∃ w1, w1 = w.setCell ⟨b, 0, none⟩ (.int .i32 1) := ⟨_, rfl⟩
  have H1 : Hid (StoreAt w1 b og oc sg sc O st S c 1 kv K r) := by show StoreAt _ _ _ _ _ _ _ _ _ _ _ _ _ _; rw [hw1]; exact h.locked 1
  have HT1 : Hid (Turns (fun x => x = b) w w1) := by show Turns _ _ _; rw [hw1]; exact (Turns.refl (fun x => x = b) w).setCell (x := ⟨b, 0, none⟩) (Or.inr rfl) _
  have HW1 : Hid (w.setCell ⟨b, 0, none⟩ (.int .i32 1) = w1) := hw1.symm
  have e2 := H1.out.box.c2
  have e3 := H1.out.box.c3
  have hbl := H1.out.box.lt
  clear h hw1
  have HPp := has_any w1 og oc O.length (some ⟨sg, 0, none⟩) (O.length + 1) sc p
  rw [decide_eq_false hp] at HPp
  clear hp
  go_enter_defers Tryz.func21, Tryz.ntmps21
  go_wp2_with (go_at_call 38; refine (lock_free muLib ⟨b, 0, none⟩ _ c0 f0).mono ?_; rintro e w' ⟨rfl, rfl⟩; rw [HW1.out])
  refine HPp.mono ?_
  rintro e w2 ⟨rfl, hT2⟩
  have H2 : Hid (StoreAt w2 b og oc sg sc O st S c 1 kv K r) := H1.out.turns0 hT2
  have HT2 : Hid (Turns (fun x => x = b) w w2) := HT1.out.trans (hT2.mono (fun _ _ x => x.elim))
  have k2 := H2.out.box.c2
  have k3 := H2.out.box.c3
  have hbl2 := H2.out.box.lt
  clear hT2 HPp e2 e3
  go_wp2
  refine leaves_cons (f := 39) (args := #[.pointer (some ⟨b, 0, none⟩)]) (by simp) (by simp [go_sem]) ?_
  refine (unlock_deferred muLib ⟨b, 0, none⟩ .returning _ H2.out.box.c0 (H2.out.box.free 0)).mono ?_
  rintro e u' w'' ⟨rfl, rfl, rfl⟩
  exact ⟨.tuple #[.slice none 0 0, .int .i64 5], by simp [results, Tryz.results21, go_sem], rfl, H2.out.locked 0, HT2.out.setCell (x := ⟨b, 0, none⟩) (Or.inr rfl) _⟩
set_option maxRecDepth 100000 in
set_option maxHeartbeats 2000000 in
theorem around_conf {w : World} {b og oc sg sc : Nat} {O : List Nat} {st : Nat → Nat} {S : ByteArray} {c : Nat} {kv : Value} {K : List Nat} {r : Nat} (p q : Int) (h : StoreAt w b og oc sg sc O st S c 0 kv K r) (hp : 0 ≤ p ∧ p < (O.length : Int)) (hq : q < 0 ∨ 40 < q) :
    Calls Tryz.prog 21 #[.pointer (some ⟨b, 0, none⟩), .int .i64 p, .int .i64 q] w fun e w' => e = .returned (.tuple #[.slice none 0 0, .int .i64 7]) ∧ StoreAt w' b og oc sg sc O st S c 0 kv K r ∧ Turns (fun x => x = b) w w' := by
  have c0 := h.box.c0
  have f0 := h.box.free 0
  obtain ⟨w1, hw1⟩ : ∃ w1, w1 = w.setCell ⟨b, 0, none⟩ (.int .i32 1) := ⟨_, rfl⟩
  have H1 : Hid (StoreAt w1 b og oc sg sc O st S c 1 kv K r) := by show StoreAt _ _ _ _ _ _ _ _ _ _ _ _ _ _; rw [hw1]; exact h.locked 1
  have HT1 : Hid (Turns (fun x => x = b) w w1) := by show Turns _ _ _; rw [hw1]; exact (Turns.refl (fun x => x = b) w).setCell (x := ⟨b, 0, none⟩) (Or.inr rfl) _
  have HW1 : Hid (w.setCell ⟨b, 0, none⟩ (.int .i32 1) = w1) := hw1.symm
  have e2 := H1.out.box.c2
  have e3 := H1.out.box.c3
  have hbl := H1.out.box.lt
  clear h hw1
  have HPp := has_any w1 og oc O.length (some ⟨sg, 0, none⟩) (O.length + 1) sc p
  rw [decide_eq_true hp] at HPp
  clear hp
  have hq2 : q < 0 ∨ (¬ q < 0 ∧ q > 40) := by omega
  rcases hq2 with hq2 | ⟨hq2, hq3⟩
  all_goals
    clear hq
    go_enter_defers Tryz.func21, Tryz.ntmps21
    go_wp2_with (go_at_call 38; refine (lock_free muLib ⟨b, 0, none⟩ _ c0 f0).mono ?_; rintro e w' ⟨rfl, rfl⟩; rw [HW1.out])
    refine HPp.mono ?_
    rintro e w2 ⟨rfl, hT2⟩
    have H2 : Hid (StoreAt w2 b og oc sg sc O st S c 1 kv K r) := H1.out.turns0 hT2
    have HT2 : Hid (Turns (fun x => x = b) w w2) := HT1.out.trans (hT2.mono (fun _ _ x => x.elim))
    have k2 := H2.out.box.c2
    have k3 := H2.out.box.c3
    have hbl2 := H2.out.box.lt
    clear hT2 HPp e2 e3
    go_wp2
    refine leaves_cons (f := 39) (args := #[.pointer (some ⟨b, 0, none⟩)]) (by simp) (by simp [go_sem]) ?_
    refine (unlock_deferred muLib ⟨b, 0, none⟩ .returning _ H2.out.box.c0 (H2.out.box.free 0)).mono ?_
    rintro e u' w'' ⟨rfl, rfl, rfl⟩
    exact ⟨.tuple #[.slice none 0 0, .int .i64 7], by simp [results, Tryz.results21, go_sem], rfl, H2.out.locked 0, HT2.out.setCell (x := ⟨b, 0, none⟩) (Or.inr rfl) _⟩
/-- The places that Around tells. -/
def Pu.arN (lab : Nat → List (Nat × Int)) (n f k : Nat) : List (Nat × Int) := (Pu.srt (Pu.nearL lab f n)).take k
set_option maxRecDepth 100000 in
set_option maxHeartbeats 2000000 in
theorem around_any {w : World} {b og oc sg sc : Nat} {O : List Nat} {st : Nat → Nat} {S : ByteArray} {c : Nat} {kv : Value} {K : List Nat} {r f k : Nat} {lab : Nat → List (Nat × Int)} (L : Labs S O st lab) (h : StoreAt w b og oc sg sc O st S c 0 kv K r) (hf : f < O.length) (hk : k ≤ 40) (hc1 : 1 ≤ c) (hc8 : c ≤ 8) (hK : Pu.Keeps c K) (hr : r ≤ 80000000) :
    Calls Tryz.prog 21 #[.pointer (some ⟨b, 0, none⟩), .int .i64 (f : Int), .int .i64 (k : Int)] w fun e w' => ∃ x kv', e = .returned (.tuple #[x, .int .i64 0]) ∧ w'.ownsRow w.heap.size 66 2 x (Pu.arN lab O.length f k).length (hubV (Pu.arN lab O.length f k)) ∧ StoreAt w' b og oc sg sc O st S c 0 kv' (Pu.lookA c st f (Pu.lookP c st (K, r) f) O.length).1 (Pu.lookA c st f (Pu.lookP c st (K, r) f) O.length).2 ∧ (∀ q, kv'.ownBlock = some q → kv.ownBlock = some q ∨ w.heap.size ≤ q) ∧ Turns (fun q => q = b ∨ kv.ownBlock = some q) w w' := by
  have c0 := h.box.c0
  have f0 := h.box.free 0
  obtain ⟨w1, hw1⟩ : ∃ w1, w1 = w.setCell ⟨b, 0, none⟩ (.int .i32 1) := ⟨_, rfl⟩
  have H1 : Hid (StoreAt w1 b og oc sg sc O st S c 1 kv K r) := by show StoreAt _ _ _ _ _ _ _ _ _ _ _ _ _ _; rw [hw1]; exact h.locked 1
  have HT1 : Hid (Turns (fun x => x = b ∨ kv.ownBlock = some x) w w1) := by show Turns _ _ _; rw [hw1]; exact (Turns.refl _ w).setCell (x := ⟨b, 0, none⟩) (Or.inr (Or.inl rfl)) _
  have HW1 : Hid (w.setCell ⟨b, 0, none⟩ (.int .i32 1) = w1) := hw1.symm
  have HFT : Hid (∀ q, Foot b og sg kv q → q < w.heap.size) := fun q hq => h.foot_lt L.n1 hq
  have e2 := H1.out.box.c2
  have e3 := H1.out.box.c3
  have hbl := H1.out.box.lt
  have HPp := has_any w1 og oc O.length (some ⟨sg, 0, none⟩) (O.length + 1) sc (f : Int)
  rw [decide_eq_true (by omega)] at HPp
  have HC : Hid (∀ w2, StoreAt w2 b og oc sg sc O st S c 1 kv K r → Calls Tryz.prog 48 #[.pointer (some ⟨b, 0, none⟩), .int .i64 (f : Int)] w2 fun e w' => ∃ x kv' g1, e = .returned x ∧ OthAt w2 b og oc sg sc O st S c kv lab f g1 (Pu.lookA c st f (Pu.lookP c st (K, r) f) O.length) (Pu.nearL lab f O.length) x kv' w') := fun w2 h2 => others_any L h2 hf hc1 hc8 hK hr
  have hnl := Pu.nearL_len lab f O.length
  have hn40 := L.n40
  unfold Pu.arN
  generalize Pu.lookA c st f (Pu.lookP c st (K, r) f) O.length = LA at *
  generalize Pu.nearL lab f O.length = N at *
  have hN40 : N.length ≤ 40 := by omega
  have hk1 : ¬ (k : Int) < 0 := by omega
  have hk2 : ¬ (k : Int) > 40 := by omega
  clear h hw1 hK hnl
  go_enter_defers Tryz.func21, Tryz.ntmps21
  go_wp2_with (go_at_call 38; refine (lock_free muLib ⟨b, 0, none⟩ _ c0 f0).mono ?_; rintro e w' ⟨rfl, rfl⟩; rw [HW1.out])
  refine HPp.mono ?_
  rintro e w2 ⟨rfl, hT2⟩
  have H2 : Hid (StoreAt w2 b og oc sg sc O st S c 1 kv K r) := H1.out.turns0 hT2
  have HT2 : Hid (Turns (fun x => x = b ∨ kv.ownBlock = some x) w w2) := HT1.out.trans (hT2.mono (fun _ _ x => x.elim))
  clear hT2 HPp e2 e3
  go_wp2_with fail
  refine (HC.out w2 H2.out).mono ?_
  rintro e w3 ⟨x, kv3, g1, rfl, hO3⟩
  have H3 : Hid (OthAt w2 b og oc sg sc O st S c kv lab f g1 LA N x kv3 w3) := hO3
  have CS := nearSort_any hO3.row (by omega)
  obtain ⟨a, ac, hxa, hac, hag⟩ : ∃ a ac, x = .slice a N.length ac ∧ N.length ≤ ac ∧ ((a = none ∧ N.length = 0) ∨ ∃ g, a = some ⟨g, 0, none⟩) := by
    rcases hO3.row.2 with ⟨h1, h2⟩ | ⟨g, cap, cur, h1, _, _, h2, _⟩
    · have hn0 : N.length = 0 := h2
      exact ⟨none, 0, by rw [h1, hn0], by omega, Or.inl ⟨rfl, hn0⟩⟩
    · exact ⟨_, cap, h1, h2, Or.inr ⟨g, rfl⟩⟩
  subst hxa
  clear hO3 HC
  go_wp2_with fail
  refine CS.mono ?_
  rintro e w4 ⟨rfl, hT4, hC4⟩
  have H4 : Hid (StoreAt w4 b og oc sg sc O st S c 1 kv3 LA.1 LA.2 ∧ Turns (fun x => x = b ∨ kv.ownBlock = some x) w w4 ∧ ∀ q, kv3.ownBlock = some q → kv.ownBlock = some q ∨ w.heap.size ≤ q) := by
    have h3 := H3.out
    have hxw : ∀ q, (Value.slice a N.length ac).ownBlock = some q → w2.heap.size ≤ q := fun q hq => (World.ownsRow.lt h3.row q hq).1
    have hap := owns_apart h3.row h3.s.kept (by decide)
    have hs2 := HT2.out.size
    refine ⟨h3.s.turns hT4 (fun c => ?_) (fun c => ?_) (fun c => ?_) (fun q hq c => hap q c hq), ?_, fun q hq => ?_⟩
    · have := hxw b c; have := HFT.out b (Or.inl rfl); omega
    · have := hxw og c; have := HFT.out og (Or.inr (Or.inl rfl)); omega
    · have := hxw sg c; have := HFT.out sg (Or.inr (Or.inr (Or.inl rfl))); omega
    · exact (HT2.out.join h3.t (fun q _ hp c => hp c)).join hT4 (fun q hq _ c => by have := hxw q c; omega)
    · rcases h3.q q hq with c | c
      · exact Or.inl c
      · exact Or.inr (Nat.le_trans hs2 c)
  have HC4 : Hid (∀ g, (Value.slice a N.length ac).ownBlock = some g → ∀ (j : Nat) (u : Value), (hubV (Pu.srt N))[j]? = some u → w4.cell? ⟨g, j, none⟩ = some u) := hC4
  clear hT4 hC4 CS H3 HT2 H2 HT1 H1
  obtain ⟨m, hm⟩ : ∃ m, m = min k N.length := ⟨_, rfl⟩
  have hmk : m ≤ 40 := by omega
  have HCL : Hid (Calls Tryz.prog 53 #[.slice a m ac] w4 fun e w' => ∃ v', e = .returned v' ∧ w'.ownsRow w4.heap.size 66 2 v' ((Pu.srt N).take k).length (hubV ((Pu.srt N).take k)) ∧ Turns (fun _ => False) w4 w') := by
    have hlen : ((Pu.srt N).take k).length = m := by rw [List.length_take, Pu.srt_len, hm]
    rcases hag with ⟨rfl, hn0⟩ | ⟨g, rfl⟩
    · refine (clone_nil m ac w4).mono ?_
      rintro e w' ⟨rfl, rfl⟩
      have h0 : (Pu.srt N).take k = [] := List.eq_nil_of_length_eq_zero (by omega)
      rw [h0]
      exact ⟨_, rfl, World.ownsRow_nil _ _ _ _, Turns.refl _ _⟩
    · rw [hlen]
      refine clone_row hlen (by omega) (fun j u hj => ?_)
      refine HC4.out g rfl j u ?_
      have e : hubV (Pu.srt N) = hubV ((Pu.srt N).take k) ++ hubV ((Pu.srt N).drop k) := by rw [← hubV_append, List.take_append_drop]
      rw [e, List.getElem?_append_left (List.getElem?_eq_some_iff.1 hj).1]
      exact hj
  have HMM : Hid ((min (k : Int) (N.length : Int)).toNat = m) := by show _ = _; omega
  clear hag HC4
  go_wp2_with fail
  rw [HMM.out]
  refine HCL.out.mono ?_
  rintro e w5 ⟨v', rfl, hv5, hT5⟩
  have H5 : Hid (StoreAt w5 b og oc sg sc O st S c 1 kv3 LA.1 LA.2 ∧ Turns (fun x => x = b ∨ kv.ownBlock = some x) w w5 ∧ w5.ownsRow w.heap.size 66 2 v' ((Pu.srt N).take k).length (hubV ((Pu.srt N).take k)) ∧ ∀ q, v'.ownBlock = some q → w4.heap.size ≤ q) := ⟨H4.out.1.turns0 hT5, H4.out.2.1.trans (hT5.mono (fun _ _ x => x.elim)), owns_low hv5 H4.out.2.1.size, fun q hq => (World.ownsRow.lt hv5 q hq).1⟩
  have hbl5 := H5.out.1.box.lt
  clear hT5 hv5 HCL
  go_wp2
  refine leaves_cons (f := 39) (args := #[.pointer (some ⟨b, 0, none⟩)]) (by simp) (by simp [go_sem]) ?_
  refine (unlock_deferred muLib ⟨b, 0, none⟩ .returning _ H5.out.1.box.c0 (H5.out.1.box.free 0)).mono ?_
  rintro e u' w'' ⟨rfl, rfl, rfl⟩
  refine ⟨.tuple #[v', .int .i64 0], by simp [results, Tryz.results21, go_sem], v', kv3, rfl, ?_, H5.out.1.locked 0, H4.out.2.2, H5.out.2.1.setCell (x := ⟨b, 0, none⟩) (Or.inr (Or.inl rfl)) _⟩
  refine owns_turns_p H5.out.2.2.1 ((Turns.refl (fun q => q = b) w5).setCell (x := ⟨b, 0, none⟩) (Or.inr rfl) _) (fun q hq c => ?_)
  have h1 := H5.out.2.2.2 q hq
  have h2 := H4.out.1.box.lt
  rw [c] at h1
  omega
end Go.Proofs.YtdogncjcainhlaaGreatDoor
/- Route of a town's text. -/
namespace Go.Proofs.YtdogncjcainhlaaGreatDoor
open Go.RowKit
open Mem

/-- The places of a first way, one behind the other. -/
theorem Way.get {n : Nat} {len : Nat → Nat → Int} {far : Nat → Int} {t s : Nat} {way : List Nat} (h : Way n len far t s way) (hs : s < n) :
    1 ≤ way.length ∧ way[0]? = some s ∧ way[way.length - 1]? = some t ∧ ∀ k, k + 1 < way.length → ∃ p q, way[k]? = some p ∧ way[k + 1]? = some q ∧ p < n ∧ q < n ∧ Least len far p q := by
  induction h with
  | done => exact ⟨by simp, by simp, by simp, fun k hk => by simp at hk⟩
  | step a j l hne hj hL hW ih =>
    obtain ⟨h1, h2, h3, h4⟩ := ih hj
    refine ⟨by simp, by simp, ?_, ?_⟩
    · have e : (a :: l).length - 1 = (l.length - 1) + 1 := by simp; omega
      rw [e]; simpa using h3
    · intro k hk
      cases k with
      | zero => exact ⟨a, j, by simp, by simpa using h2, hs, hj, hL⟩
      | succ k =>
        obtain ⟨p, q, hp, hq, r⟩ := h4 k (by simp at hk; omega)
        exact ⟨p, q, by simpa using hp, by simpa using hq, r⟩
theorem Dist_all {n : Nat} {len : Nat → Nat → Int} {far : Nat → Int} {t s : Nat} {way : List Nat} (hD : Pu.Dist n len t far) (h : Way n len far t s way) (hs : s < n) (h0 : 0 ≤ far s) : ∀ p ∈ way, 0 ≤ far p := by
  induction h with
  | done => intro p hp; rw [List.mem_singleton] at hp; subst hp; exact h0
  | step a j l hne hj hL hW ih =>
    intro p hp
    have hj0 := (hD.ed a j hs hj h0 hL.1.1).1
    rcases List.mem_cons.1 hp with rfl | hp
    · exact h0
    · exact ih hj hj0 p hp

/-- Route of a town's text between two of its places. -/
theorem route_town {w0 : World} {B : Nat} {txt : ByteArray} {n R : Nat} {v : Value} {rb : List Nat} {len : Nat → Nat → Int} (h : TownIs w0 B txt n R v rb len) (s t : Nat) (hs : s < n) (ht : t < n) (w : World) (hm : Ml w) :
    Calls Tryz.prog 19 #[.string txt, .int .i64 s, .int .i64 t] w fun e w' => Turns (fun _ => False) w w' ∧ ∃ far, Pu.Dist n len t far ∧
      ((far s = -1 ∧ e = .returned (.tuple #[.slice none 0 0, .int .i64 0, .int .i64 6, .int .i64 0])) ∨
       (0 ≤ far s ∧ ∃ way g cap, Way n len far t s way ∧ e = .returned (.tuple #[.slice (some ⟨g, 0, none⟩) way.length cap, .int .i64 (far s), .int .i64 0, .int .i64 0]) ∧ w'.ownsRow w.heap.size 3 1 (.slice (some ⟨g, 0, none⟩) way.length cap) way.length (vals way))) := by
  have k := route_any txt s t w (by have := h.size; unfold maxLen; omega) hm
  rw [h.parse] at k
  refine k.mono ?_
  rintro e w' ⟨hT, h3⟩
  refine ⟨hT, ?_⟩
  rcases h3 with ⟨hno, _⟩ | ⟨_, far, hD, h3⟩
  · exact absurd ⟨by omega, by omega, by omega, by omega⟩ hno
  · refine ⟨far, by simpa using hD, ?_⟩
    simp only [Int.toNat_natCast] at h3
    rcases h3 with h3 | ⟨h4, way, v, hW, he, hown⟩
    · exact Or.inl h3
    · obtain ⟨m, hml⟩ : ∃ m, way.length = m + 1 := ⟨way.length - 1, by have := (hW.get hs).1; omega⟩
      have hown' := hown
      rw [hml] at hown'
      obtain ⟨g, cap, hv⟩ := owns_form hown'
      rw [← hml] at hv
      subst hv
      exact Or.inr ⟨h4, way, g, cap, hW, he, hown⟩
end Go.Proofs.YtdogncjcainhlaaGreatDoor
/- What a saved store tells of two places: how far it is on the map, by a hub that lies between: no walk in it. -/
namespace Go.Proofs.YtdogncjcainhlaaGreatDoor
open Go.RowKit Go.Deep
open Mem

namespace Pu
theorem best_some : ∀ (n : Nat) (a b : List (Nat × Int)) (o : Option (Nat × Int)), a.length + b.length ≤ n → ∀ r s, best o a b = some (r, s) → o = some (r, s) ∨ ∃ f g, (r, f) ∈ a ∧ (r, g) ∈ b ∧ s = f + g
  | n, [], b, o, _, r, s, h => by rw [best_nil] at h; exact Or.inl h
  | n, x :: a, [], o, _, r, s, h => by rw [best_end] at h; exact Or.inl h
  | 0, x :: a, y :: b, o, hn, _, _, _ => by simp at hn
  | n + 1, (r1, f) :: a, (q, g) :: b, o, hn, r, s, h => by
    simp only [List.length_cons] at hn
    by_cases h1 : r1 < q
    · rw [best_lo h1] at h
      rcases best_some n a ((q, g) :: b) o (by simp only [List.length_cons]; omega) r s h with c | ⟨f', g', c1, c2, c3⟩
      · exact Or.inl c
      · exact Or.inr ⟨f', g', by simp [c1], c2, c3⟩
    · by_cases h2 : q < r1
      · rw [best_hi h2] at h
        rcases best_some n ((r1, f) :: a) b o (by simp only [List.length_cons]; omega) r s h with c | ⟨f', g', c1, c2, c3⟩
        · exact Or.inl c
        · exact Or.inr ⟨f', g', c1, by simp [c2], c3⟩
      · have e : r1 = q := by omega
        subst e
        rw [best_eq] at h
        rcases best_some n a b _ (by omega) r s h with c | ⟨f', g', c1, c2, c3⟩
        · cases o with
          | none =>
            injection c with c
            injection c with e1 e2
            subst e1
            exact Or.inr ⟨f, g, by simp, by simp, e2.symm⟩
          | some z =>
            obtain ⟨z1, z2⟩ := z
            rw [better] at c
            split at c
            · injection c with c
              injection c with e1 e2
              subst e1
              exact Or.inr ⟨f, g, by simp, by simp, e2.symm⟩
            · exact Or.inl c
        · exact Or.inr ⟨f', g', by simp [c1], by simp [c2], c3⟩
theorem Rise.from {x r : Nat} {f : Int} {t : List (Nat × Int)} (h : Rise x ((r, f) :: t)) : Rise r ((r, f) :: t) := ⟨Nat.le_refl _, by omega, h.2.2.1, h.2.2.2.1, h.2.2.2.2⟩
theorem best_low : ∀ (n : Nat) (a b : List (Nat × Int)) (o : Option (Nat × Int)) (x y : Nat), a.length + b.length ≤ n → Rise x a → Rise y b → (∀ r f g, (r, f) ∈ a → (r, g) ∈ b → ∃ z, best o a b = some z ∧ z.2 ≤ f + g) ∧ ∀ z0, o = some z0 → ∃ z, best o a b = some z ∧ z.2 ≤ z0.2
  | n, [], b, o, x, y, _, _, _ => ⟨fun r f g h => by simp at h, fun z0 h => ⟨z0, by rw [best_nil]; exact h, Int.le_refl _⟩⟩
  | n, p :: a, [], o, x, y, _, _, _ => ⟨fun r f g _ h => by simp at h, fun z0 h => ⟨z0, by rw [best_end]; exact h, Int.le_refl _⟩⟩
  | 0, p :: a, q :: b, o, _, _, hn, _, _ => by simp at hn
  | n + 1, (r1, f1) :: a, (q, g1) :: b, o, x, y, hn, ha, hb => by
    simp only [List.length_cons] at hn
    by_cases h1 : r1 < q
    · rw [best_lo h1]
      obtain ⟨i1, i2⟩ := best_low n a ((q, g1) :: b) o (r1 + 1) y (by simp only [List.length_cons]; omega) ha.2.2.2.2 hb
      refine ⟨fun r f g hf hg => ?_, i2⟩
      rcases List.mem_cons.1 hf with e | hf
      · injection e with e1 e2
        subst e1
        exact absurd rfl (Rise.up hb.from h1 (r, g) hg)
      · exact i1 r f g hf hg
    · by_cases h2 : q < r1
      · rw [best_hi h2]
        obtain ⟨i1, i2⟩ := best_low n ((r1, f1) :: a) b o x (q + 1) (by simp only [List.length_cons]; omega) ha hb.2.2.2.2
        refine ⟨fun r f g hf hg => ?_, i2⟩
        rcases List.mem_cons.1 hg with e | hg
        · injection e with e1 e2
          subst e1
          exact absurd rfl (Rise.up ha.from h2 (r, f) hf)
        · exact i1 r f g hf hg
      · have e : r1 = q := by omega
        subst e
        rw [best_eq]
        obtain ⟨i1, i2⟩ := best_low n a b (better r1 (f1 + g1) o) (r1 + 1) (r1 + 1) (by omega) ha.2.2.2.2 hb.2.2.2.2
        have hbt : ∃ z, better r1 (f1 + g1) o = some z ∧ z.2 ≤ f1 + g1 ∧ ∀ z0, o = some z0 → z.2 ≤ z0.2 := by
          cases o with
          | none => exact ⟨_, rfl, Int.le_refl _, fun z0 h => by cases h⟩
          | some z =>
            obtain ⟨z1, z2⟩ := z
            rw [better]
            split
            · refine ⟨_, rfl, Int.le_refl _, fun z0 h => ?_⟩
              injection h with h; subst h; simp only; omega
            · refine ⟨_, rfl, ?_, fun z0 h => ?_⟩
              · simp only; omega
              · injection h with h; subst h; exact Int.le_refl _
        obtain ⟨z, hz, hz1, hz2⟩ := hbt
        obtain ⟨z', hz', hz3⟩ := i2 z hz
        refine ⟨fun r f g hf hg => ?_, fun z0 h0 => ⟨z', hz', Int.le_trans hz3 (hz2 z0 h0)⟩⟩
        rcases List.mem_cons.1 hf with e1 | hf'
        · injection e1 with e1 e2
          subst e1 e2
          rcases List.mem_cons.1 hg with e3 | hg'
          · injection e3 with e3 e4
            subst e4
            exact ⟨z', hz', Int.le_trans hz3 hz1⟩
          · exact absurd rfl (Rise.up hb.2.2.2.2 (Nat.lt_succ_self r) (r, g) hg')
        · rcases List.mem_cons.1 hg with e3 | hg'
          · injection e3 with e3 e4
            subst e3
            exact absurd rfl (Rise.up ha.2.2.2.2 (Nat.lt_succ_self r) (r, f) hf')
          · exact i1 r f g hf' hg'
theorem hubK_in {D : Nat → Nat → Int} {O : List Nat} {v k h : Nat} (hk : O[k]? = some h) (hh : isHub D v h (O.take k) = true) : ∀ m, k < m → (k, D v h) ∈ hubK D O v m
  | 0, hm => by omega
  | m + 1, hm => by
    by_cases e : k = m
    · subst e; rw [hubK_hit hk hh]; simp
    · rw [hubK, List.mem_append]; exact Or.inl (hubK_in hk hh m (by omega))
variable {n : Nat} {len D : Nat → Nat → Int} {O : List Nat}
/-- What the labels of two places tell. -/
def Tells (n : Nat) (D : Nat → Nat → Int) (O : List Nat) (u v : Nat) : Option (Nat × Int) → Prop
  | none => D u v = -1
  | some (r, x) => x = D u v ∧ D u v ≠ -1 ∧ ∃ h : Nat, O[r]? = some h ∧ h < n ∧ D u h ≠ -1 ∧ D h v ≠ -1 ∧ D u h + D h v = D u v
theorem Cov.told (C : Cov n len D O) (hn : n ≤ 40) {u v : Nat} (hu : u < n) (hv : v < n) : Tells n D O u v (best none (hubK D O u n) (hubK D O v n)) := by
  have hl := C.perm.len
  obtain ⟨ru, eu, ou⟩ := C.hubsOk hn hu
  obtain ⟨rv, ev, ov⟩ := C.hubsOk hn hv
  have hru : ru < 40 := by have := (List.getElem?_eq_some_iff.1 eu).1; omega
  have hrv : rv < 40 := by have := (List.getElem?_eq_some_iff.1 ev).1; omega
  have R1 := ou.rise hru
  have R2 := ov.rise hrv
  have hmin := (best_low _ _ _ none 0 0 (Nat.le_refl _) R1 R2).1
  have hcom : D u v ≠ -1 → ∃ z, best none (hubK D O u n) (hubK D O v n) = some z ∧ z.2 ≤ D u v := by
    intro hd
    obtain ⟨i, j, g, f, f', h1, h2, _, _, h3⟩ := C.hits hu hv hd
    obtain ⟨v1, j1, g1, a1, a2, a3, a4, a5⟩ := C.lab.1 (List.mem_of_getElem? h1)
    obtain ⟨v2, j2, g2, b1, b2, b3, b4, b5⟩ := C.lab.1 (List.mem_of_getElem? h2)
    simp only [Prod.mk.injEq] at a5 b5
    obtain ⟨rfl, rfl, rfl⟩ := a5
    obtain ⟨rfl, rfl, rfl⟩ := b5
    have ej := nodup_get C.perm.nodup a3 b3
    subst ej
    have hj1 := (List.getElem?_eq_some_iff.1 a3).1
    obtain ⟨z, z1, z2⟩ := hmin j1 _ _ (hubK_in a3 a4 n (by omega)) (hubK_in b3 b4 n (by omega))
    exact ⟨z, z1, by omega⟩
  cases e : best none (hubK D O u n) (hubK D O v n) with
  | none =>
    show D u v = -1
    by_cases c : D u v = -1
    · exact c
    · obtain ⟨z, h1, _⟩ := hcom c
      rw [e] at h1; cases h1
  | some z =>
    obtain ⟨r, x⟩ := z
    rcases best_some _ _ _ none (Nat.le_refl _) r x e with c | ⟨f, g, h1, h2, h3⟩
    · cases c
    · obtain ⟨_, h, a1, a2, a3⟩ := hubK_mem2 n h1
      obtain ⟨_, h', b1, b2, b3⟩ := hubK_mem2 n h2
      rw [a1] at b1
      injection b1 with b1
      subst b1
      have hh := C.perm.lt h (List.mem_of_getElem? a1)
      have n1 := (isHub_iff.1 a3).1
      have n2 := (isHub_iff.1 b3).1
      have es := C.sym hv hh
      have t := C.tri hu hh hv n1 (by omega)
      obtain ⟨z, hz1, hz2⟩ := hcom (by omega)
      rw [e] at hz1
      injection hz1 with hz1
      subst hz1
      simp only at hz2
      exact ⟨by omega, by omega, h, a1, hh, n1, by omega, by omega⟩
end Pu
end Go.Proofs.YtdogncjcainhlaaGreatDoor
/- What the law bywaykeep.Kept is told: a store that goes on; ways of a town; how many places are apart: no walk in it. -/
namespace Go.Proofs.YtdogncjcainhlaaGreatDoor
open Go.RowKit Go.Deep
open Mem

/-- A store behind all that was there. -/
structure One (w0 w : World) (b og oc sg sc : Nat) (O : List Nat) (st : Nat → Nat) (S : ByteArray) (c : Nat) (kv : Value) (A : List Nat × Nat) : Prop where
  a : StoreAt w b og oc sg sc O st S c 0 kv A.1 A.2
  l : ∀ q, Foot b og sg kv q → w0.heap.size ≤ q
  t : Turns (fun _ => False) w0 w
  k : Pu.Keeps c A.1
section
variable {w0 w w' : World} {b og oc sg sc : Nat} {O : List Nat} {st : Nat → Nat} {S : ByteArray} {c : Nat} {kv kv' : Value} {A : List Nat × Nat} {lab : Nat → List (Nat × Int)}
theorem One.next (h : One w0 w b og oc sg sc O st S c kv A) {A' : List Nat × Nat} (hk : Pu.Keeps c A'.1) (s : StoreAt w' b og oc sg sc O st S c 0 kv' A'.1 A'.2) (hq : ∀ x, kv'.ownBlock = some x → kv.ownBlock = some x ∨ w.heap.size ≤ x) (t : Turns (fun x => x = b ∨ kv.ownBlock = some x) w w') : One w0 w' b og oc sg sc O st S c kv' A' := by
  have hp : ∀ x, (x = b ∨ kv.ownBlock = some x) → Foot b og sg kv x := fun x hx => hx.elim Or.inl (fun y => Or.inr (Or.inr (Or.inr y)))
  refine ⟨s, fun q h1 => ?_, h.t.join t (fun x hx _ hp2 => by have := h.l x (hp x hp2); omega), hk⟩
  rcases foot_next hq h1 with c | c
  · exact h.l q c
  · exact Nat.le_trans h.t.size c
theorem One.turns0 (h : One w0 w b og oc sg sc O st S c kv A) (t : Turns (fun _ => False) w w') : One w0 w' b og oc sg sc O st S c kv A := ⟨h.a.turns0 t, h.l, h.t.trans t, h.k⟩
theorem One.reads (h : One w0 w b og oc sg sc O st S c kv A) : Calls Tryz.prog 18 #[.pointer (some ⟨b, 0, none⟩)] w fun e w' => e = .returned (.int .i64 (A.2 : Int)) ∧ One w0 w' b og oc sg sc O st S c kv A :=
  (stReads_any h.a).mono fun _ _ ⟨h1, h2, h3⟩ => ⟨h1, h.next h.k h2 (fun _ hx => Or.inl hx) (h3.mono (fun _ _ hx => Or.inl hx))⟩
theorem One.far (h : One w0 w b og oc sg sc O st S c kv A) (L : Labs S O st lab) {u v : Nat} (hu : u < O.length) (hv : v < O.length) (hc1 : 1 ≤ c) (hc8 : c ≤ 8) (hr : A.2 ≤ 80000000) : Calls Tryz.prog 20 #[.pointer (some ⟨b, 0, none⟩), .int .i64 (u : Int), .int .i64 (v : Int)] w fun e w' => e = .returned (farV O (Pu.best none (lab u) (lab v))) ∧ ∃ kv' A', One w0 w' b og oc sg sc O st S c kv' A' ∧ A'.2 ≤ A.2 + 4400 := by
  have k1 := L.looks (K := A.1) (r := A.2) hu hc1 h.k
  have k2 := L.looks (K := (Pu.lookP c st (A.1, A.2) u).1) (r := (Pu.lookP c st (A.1, A.2) u).2) hv hc1 k1.1
  refine (stFar_any L h.a hu hv hc1 hc8 h.k (by omega)).mono fun e w' ⟨h1, kv', h2, h3, h4⟩ => ⟨h1, kv', _, h.next k2.1 h2 h3 h4, ?_⟩
  have a1 := k1.2
  have a2 := k2.2
  show (Pu.lookP c st (Pu.lookP c st (A.1, A.2) u) v).2 ≤ _
  have e : (((Pu.lookP c st (A.1, A.2) u).1, (Pu.lookP c st (A.1, A.2) u).2) : List Nat × Nat) = Pu.lookP c st (A.1, A.2) u := rfl
  rw [e] at a2
  omega
theorem Labs.lookA (L : Labs S O st lab) {f : Nat} (hc1 : 1 ≤ c) : ∀ (n : Nat) (s : List Nat × Nat), n ≤ O.length → Pu.Keeps c s.1 → Pu.Keeps c (Pu.lookA c st f s n).1 ∧ (Pu.lookA c st f s n).2 ≤ s.2 + 2200 * n
  | 0, s, _, h => ⟨h, by rw [Pu.lookA]; omega⟩
  | n + 1, s, hn, h => by
    obtain ⟨h1, h2⟩ := L.lookA (f := f) hc1 n s (by omega) h
    rw [Pu.lookA]
    split
    · exact ⟨h1, by omega⟩
    · have := L.looks (K := (Pu.lookA c st f s n).1) (r := (Pu.lookA c st f s n).2) (v := n) (by omega) hc1 h1
      generalize Pu.lookA c st f s n = X at *
      exact ⟨this.1, by have h3 : (Pu.lookP c st X n).2 ≤ X.2 + 2200 := this.2; rw [Nat.mul_succ, ← Nat.add_assoc]; exact Nat.le_trans h3 (Nat.add_le_add_right h2 2200)⟩
theorem One.around (h : One w0 w b og oc sg sc O st S c kv A) (L : Labs S O st lab) {f k : Nat} (hf : f < O.length) (hk : k ≤ 40) (hc1 : 1 ≤ c) (hc8 : c ≤ 8) (hr : A.2 ≤ 80000000) : Calls Tryz.prog 21 #[.pointer (some ⟨b, 0, none⟩), .int .i64 (f : Int), .int .i64 (k : Int)] w fun e w' => ∃ x, e = .returned (.tuple #[x, .int .i64 0]) ∧ w'.ownsRow w.heap.size 66 2 x (Pu.arN lab O.length f k).length (hubV (Pu.arN lab O.length f k)) ∧ Turns (fun q => Foot b og sg kv q) w w' ∧ ∃ kv' A', One w0 w' b og oc sg sc O st S c kv' A' ∧ A'.2 ≤ A.2 + 100000 ∧ ∀ q, x.ownBlock = some q → ¬ Foot b og sg kv' q := by
  have k1 := L.looks (K := A.1) (r := A.2) hf hc1 h.k
  have k2 := L.lookA (f := f) hc1 O.length (Pu.lookP c st (A.1, A.2) f) (Nat.le_refl _) k1.1
  have hn := L.n40
  refine (around_any L h.a hf hk hc1 hc8 h.k hr).mono fun e w' ⟨x, kv', h1, h2, h3, h4, h5⟩ => ⟨x, h1, h2, h5.mono (fun q _ hq => hq.elim Or.inl (fun y => Or.inr (Or.inr (Or.inr y)))), kv', _, h.next k2.1 h3 h4 h5, ?_, fun q hq hf' => ?_⟩
  · have a1 := k1.2
    have a2 := k2.2
    show (Pu.lookA c st f (Pu.lookP c st (A.1, A.2) f) O.length).2 ≤ _
    omega
  · have h6 := (World.ownsRow.lt h2 q hq).1
    rcases hf' with rfl | rfl | rfl | hf'
    · have := h.a.foot_lt L.n1 (Or.inl rfl); omega
    · have := h.a.foot_lt L.n1 (Or.inr (Or.inl rfl)); omega
    · have := h.a.foot_lt L.n1 (Or.inr (Or.inr (Or.inl rfl))); omega
    · exact owns_apart h2 h3.kept (by decide) q hq hf'
end
namespace Pu
/-- What Route tells of two places: how far, and how it ends. -/
def rtD (D : Nat → Nat → Int) (p q : Nat) : Int := if D p q = -1 then 0 else D p q
def rtE (D : Nat → Nat → Int) (p q : Nat) : Int := if D p q = -1 then 6 else 0
/-- How many of the first places are apart from a place. -/
def apN (D : Nat → Nat → Int) (u : Nat) : Nat → Nat
  | 0 => 0
  | v + 1 => apN D u v + if D u v = -1 then 1 else 0
theorem near_count {n : Nat} {len D : Nat → Nat → Int} {O : List Nat} (C : Cov n len D O) (hn : n ≤ 40) {u : Nat} (hu : u < n) : ∀ v, v ≤ n → (nearL (fun v => hubK D O v n) u v).length + apN D u v + (if u < v then 1 else 0) = v
  | 0, _ => by simp [nearL, apN]
  | v + 1, hv => by
    have ih := near_count C hn hu v (by omega)
    rw [nearL, apN, List.length_append]
    by_cases e : v = u
    · subst e
      have h0 := (C.dist v hu).f0
      rw [if_pos rfl, if_neg (show ¬ D v v = -1 by omega), if_pos (by omega)]
      rw [if_neg (Nat.lt_irrefl v)] at ih
      simp; omega
    · rw [if_neg e]
      have ht := C.told hn hu (show v < n by omega)
      have hlt : (if u < v + 1 then 1 else 0) = (if u < v then 1 else 0) := by
        by_cases c : u < v
        · rw [if_pos c, if_pos (by omega)]
        · rw [if_neg c, if_neg (by omega)]
      rw [hlt]
      cases hb : best none (hubK D O u n) (hubK D O v n) with
      | none =>
        rw [hb] at ht
        have ht : D u v = -1 := ht
        simp only [ht, if_true, List.length_nil]
        omega
      | some z =>
        obtain ⟨r, x⟩ := z
        rw [hb] at ht
        have ht2 : D u v ≠ -1 := ht.2.1
        simp only [if_neg ht2, List.length_singleton]
        omega
theorem near_far {n : Nat} {len D : Nat → Nat → Int} {O : List Nat} (C : Cov n len D O) (hn : n ≤ 40) {u : Nat} (hu : u < n) : ∀ v, v ≤ n → ∀ y ∈ nearL (fun v => hubK D O v n) u v, y.1 < n ∧ y.1 ≠ u ∧ y.2 = D u y.1 ∧ D u y.1 ≠ -1
  | 0, _ => fun y hy => by simp [nearL] at hy
  | v + 1, hv => fun y hy => by
    rw [nearL, List.mem_append] at hy
    rcases hy with hy | hy
    · exact near_far C hn hu v (by omega) y hy
    · by_cases e : v = u
      · rw [if_pos e] at hy; simp at hy
      · rw [if_neg e] at hy
        have ht := C.told hn hu (show v < n by omega)
        cases hb : best none (hubK D O u n) (hubK D O v n) with
        | none => rw [hb] at hy; simp at hy
        | some z =>
          obtain ⟨r, x⟩ := z
          rw [hb] at ht hy
          rw [List.mem_singleton.1 hy]
          exact ⟨by simp only; omega, e, ht.1, ht.2.1⟩
end Pu
/-- Route of a town, by the table of a saved store. -/
theorem route_cov {w0 : World} {B : Nat} {txt : ByteArray} {n R : Nat} {v : Value} {rb : List Nat} {len D : Nat → Nat → Int} {O : List Nat} (h : TownIs w0 B txt n R v rb len) (C : Pu.Cov n len D O) {p q : Nat} (hp : p < n) (hq : q < n) (w : World) (hm : Ml w) :
    Calls Tryz.prog 19 #[.string txt, .int .i64 (p : Int), .int .i64 (q : Int)] w fun e w' => (∃ a len cap, e = .returned (.tuple #[.slice a len cap, .int .i64 (Pu.rtD D p q), .int .i64 (Pu.rtE D p q), .int .i64 0])) ∧ Turns (fun _ => False) w w' := by
  refine (route_town h p q hp hq w hm).mono ?_
  rintro e w' ⟨hT, far, hD, h5⟩
  have hfar : D p q = far p := Pu.Dist.sym C.net hq hp (C.dist p hp) hD
  refine ⟨?_, hT⟩
  unfold Pu.rtD Pu.rtE
  rcases h5 with ⟨h6, rfl⟩ | ⟨h6, way, g5, gc5, _, rfl, _⟩
  · rw [if_pos (by omega), if_pos (by omega)]; exact ⟨_, _, _, rfl⟩
  · rw [if_neg (by omega), if_neg (by omega), hfar]; exact ⟨_, _, _, rfl⟩
end Go.Proofs.YtdogncjcainhlaaGreatDoor
/- Plain: an order's text, written and read back. No program in it. -/
namespace Go.Proofs.YtdogncjcainhlaaGreatDoor.Pu

/-- Places behind a first one, a blank ahead of each. -/
def tailT : List Nat → List UInt8
  | [] => []
  | a :: r => 32 :: (dec a ++ tailT r)
/-- Places with a blank between each two. -/
def joinT : List Nat → List UInt8
  | [] => []
  | a :: r => dec a ++ tailT r
theorem tailT_snoc : ∀ (l : List Nat) (x : Nat), tailT (l ++ [x]) = tailT l ++ 32 :: dec x
  | [], x => by simp [tailT]
  | a :: r, x => by
    show 32 :: (dec a ++ tailT (r ++ [x])) = 32 :: (dec a ++ tailT r) ++ 32 :: dec x
    rw [tailT_snoc r x]; simp
theorem joinT_one (x : Nat) : joinT [x] = dec x := by simp [joinT, tailT]
theorem joinT_snoc {l : List Nat} (h : l ≠ []) (x : Nat) : joinT (l ++ [x]) = joinT l ++ 32 :: dec x := by
  cases l with
  | nil => exact absurd rfl h
  | cons a r =>
    show dec a ++ tailT (r ++ [x]) = dec a ++ tailT r ++ 32 :: dec x
    rw [tailT_snoc]; simp
theorem joinT_len : ∀ l : List Nat, (∀ m ∈ l, m < 100) → (joinT l).length ≤ 5 * l.length
  | [], _ => by simp [joinT]
  | a :: r, h => by
    have aux : ∀ l : List Nat, (∀ m ∈ l, m < 100) → (tailT l).length ≤ 5 * l.length := by
      intro l
      induction l with
      | nil => intro _; simp [tailT]
      | cons b r ih =>
        intro h
        have h1 := dec_len4 (n := b) (by have := h b (by simp); omega)
        have h2 := ih (fun m hm => h m (by simp [hm]))
        simp only [tailT, List.length_cons, List.length_append]; omega
    have h1 := dec_len4 (n := a) (by have := h a (by simp); omega)
    have h2 := aux r (fun m hm => h m (by simp [hm]))
    simp only [joinT, List.length_append, List.length_cons]; omega
theorem joinT_pos {l : List Nat} (h : l ≠ []) : 0 < (joinT l).length := by
  cases l with
  | nil => exact absurd rfl h
  | cons a r =>
    have := List.length_pos_iff.2 (dec_ne a)
    simp only [joinT, List.length_append]; omega
theorem cuts_join : ∀ (a : Nat) (r : List Nat), cuts 32 (joinT (a :: r)) = (a :: r).map dec
  | a, [] => by rw [joinT_one]; exact cuts_free _ (dec_no (by decide))
  | a, b :: r => by
    show cuts 32 (dec a ++ 32 :: (dec b ++ tailT r)) = _
    rw [cuts_step _ _ (dec_no (by decide))]
    rw [show dec b ++ tailT r = joinT (b :: r) from rfl, cuts_join b r]
    rfl
theorem ordGo_back {n : Nat} (hn : n ≤ 40) : ∀ (l acc : List Nat), (acc ++ l).Nodup → (∀ m ∈ l, m < n) → ordGo n (l.map dec) acc = some (acc ++ l)
  | [], acc, _, _ => by simp [ordGo]
  | a :: r, acc, hd, hlt => by
    have ha := hlt a (by simp)
    have hna : ¬ a ∈ acc := by
      intro c
      rw [List.nodup_append] at hd
      exact hd.2.2 a c a (by simp) rfl
    rw [List.map_cons, ordGo_next (x := a) (within_dec (by omega) (by omega) (by omega)) hna, ordGo_back hn r (acc ++ [a]) (by simpa using hd) (fun m hm => hlt m (by simp [hm]))]
    simp
/-- The text of an order is read back. -/
theorem order_back {n : Nat} {O : List Nat} (hn1 : 1 ≤ n) (hn : n ≤ 40) (h : Perm n O) : order n (joinT O) = some O := by
  cases O with
  | nil => have := h.len; simp at this; omega
  | cons a r =>
    unfold order
    rw [cuts_join, if_pos (by rw [List.length_map]; exact h.len), ordGo_back hn (a :: r) [] (by simpa using h.nodup) h.lt]
    rfl
/-- What is left when the place number k is taken out. -/
theorem take_out {l : List Nat} {k x : Nat} (hk : l[k]? = some x) : (l.take k ++ l.drop (k + 1)).length + 1 = l.length ∧ ∀ acc : List Nat, (acc ++ l).Nodup → (acc ++ [x] ++ (l.take k ++ l.drop (k + 1))).Nodup := by
  have hlt := (List.getElem?_eq_some_iff.1 hk).1
  have hx := (List.getElem?_eq_some_iff.1 hk).2
  have hl : l = l.take k ++ x :: l.drop (k + 1) := by rw [← hx, ← List.drop_eq_getElem_cons hlt, List.take_append_drop]
  refine ⟨by simp; omega, fun acc h => ?_⟩
  have hp : (acc ++ l).Perm (acc ++ [x] ++ (l.take k ++ l.drop (k + 1))) := by
    rw [List.append_assoc]
    refine List.Perm.append_left acc ?_
    have h2 : l.Perm (x :: (l.take k ++ l.drop (k + 1))) := by
      have h3 : (l.take k ++ x :: l.drop (k + 1)).Perm (x :: (l.take k ++ l.drop (k + 1))) := List.perm_middle
      rw [← hl] at h3; exact h3
    exact h2
  exact hp.nodup_iff.1 h
end Go.Proofs.YtdogncjcainhlaaGreatDoor.Pu
/- The walk of bywaykeep.order: an order's text out of raw numbers. -/
namespace Go.Proofs.YtdogncjcainhlaaGreatDoor
open Go.RowKit Go.Deep
open Mem

/-- Raw numbers that came in. -/
def Nums (w : World) (ra : Option Addr) (K : Nat) (raw : Nat → Int) : Prop :=
  (0 < K → ∃ b o, ra = some ⟨b, o, none⟩ ∧ b < w.heap.size ∧ ∀ i, i < K → w.cell? ⟨b, o + i, none⟩ = some (.int .i64 (raw i))) ∧ ∀ i, i < K → -9223372036854775808 ≤ raw i ∧ raw i ≤ 9223372036854775807

/-- What holds ahead of each round of order's second loop: the places acc are written, those of lft are left. -/
def OrdInv (w : World) (n : Nat) (lv sv iv : Value) (wr : World) : Prop :=
  ∃ (acc lft : List Nat) (sb : ByteArray) (la : Option Addr) (lc : Nat), iv = .int .i64 acc.length ∧ sv = .string sb ∧ lv = .slice la lft.length lc ∧ sb.data.toList = Pu.joinT acc ∧ wr.ownsRow w.heap.size 3 1 (.slice la lft.length lc) lft.length (vals lft) ∧
    (acc ++ lft).Nodup ∧ acc.length + lft.length = n ∧ (∀ m ∈ acc ++ lft, m < n) ∧ Turns (fun _ => False) w wr

/-- decimal's text under a name. -/
theorem dec_lit (x : Nat) (hx : x < 10000) : ∃ D : ByteArray, Hid (D.data.toList = Pu.dec x) ∧ D.size ≤ 4 ∧ Hid (∀ w, Calls Tryz.prog 22 #[.int .i64 (x : Int)] w fun e w' => e = .returned (.string D) ∧ Turns (fun _ => False) w w') :=
  ⟨⟨(Pu.dec x).toArray⟩, rfl, Pu.dec_len4 hx, dec_any x (by omega)⟩
theorem vals_range (k : Nat) : vals (List.range k) ++ [Value.int .i64 (k : Int)] = vals (List.range (k + 1)) := by rw [vals_snoc, List.range_succ]

theorem ord_txt1 {sb DX : ByteArray} {x : Nat} (h : DX.data.toList = Pu.dec x) : sb.data.toList = Pu.joinT [] → (sb ++ DX).data.toList = Pu.joinT ([] ++ [x]) := by
  intro h1
  rw [ByteArray.data_append, Array.toList_append, h, h1]
  simp [Pu.joinT, Pu.tailT]
theorem ord_txt2 {sb DX : ByteArray} {x : Nat} {acc : List Nat} (_ : sb.data.toList = Pu.joinT acc) (h : DX.data.toList = Pu.dec x) (hne : acc ≠ []) : sb.data.toList = Pu.joinT acc → (sb ++ ⟨#[32]⟩ ++ DX).data.toList = Pu.joinT (acc ++ [x]) := by
  intro h1
  rw [ByteArray.data_append, Array.toList_append, ByteArray.data_append, Array.toList_append, h, h1, Pu.joinT_snoc hne]
  simp
/-- The place number k is written, and no more left. -/
theorem ord_step {w w5 : World} {n k x : Nat} {acc lft : List Nat} {sb s' : ByteArray} {v5 : Value} {iv : Int} (h1 : sb.data.toList = Pu.joinT acc) (h2 : (acc ++ lft).Nodup) (h3 : acc.length + lft.length = n) (h4 : ∀ m ∈ acc ++ lft, m < n) (hk : lft[k]? = some x)
    (hown5 : w5.ownsRow w.heap.size 3 1 v5 (k + (lft.length - (k + 1))) (vals (lft.take k) ++ vals (lft.drop (k + 1)))) (hT5 : Turns (fun _ => False) w w5) (htx : sb.data.toList = Pu.joinT acc → s'.data.toList = Pu.joinT (acc ++ [x])) (hiv : iv = (acc.length : Int) + 1 := by simp) :
    OrdInv w n v5 (.string s') (.int .i64 iv) w5 := by
  obtain ⟨t1, t2⟩ := Pu.take_out hk
  have hkl := (List.getElem?_eq_some_iff.1 hk).1
  have hlen5 : (lft.take k ++ lft.drop (k + 1)).length = k + (lft.length - (k + 1)) := by rw [List.length_append, List.length_take, List.length_drop]; omega
  have hown5' : w5.ownsRow w.heap.size 3 1 v5 (lft.take k ++ lft.drop (k + 1)).length (vals (lft.take k ++ lft.drop (k + 1))) := by
    rw [hlen5, show vals (lft.take k ++ lft.drop (k + 1)) = vals (lft.take k) ++ vals (lft.drop (k + 1)) by simp [vals]]
    exact hown5
  obtain ⟨la, lc', hv⟩ : ∃ la lc', v5 = .slice la (lft.take k ++ lft.drop (k + 1)).length lc' := by
    rcases hown5'.2 with ⟨h5, h6⟩ | ⟨g', cap', _, h5, _⟩
    · exact ⟨none, 0, by rw [h5, h6]⟩
    · exact ⟨_, _, h5⟩
  subst hv
  refine ⟨acc ++ [x], lft.take k ++ lft.drop (k + 1), s', la, lc', by rw [hiv]; simp, rfl, rfl, htx h1, hown5', t2 acc h2, by rw [List.length_append, List.length_singleton]; omega, fun m hm => h4 m ?_, hT5⟩
  rcases List.mem_append.1 hm with hm | hm
  · rcases List.mem_append.1 hm with hm | hm
    · simp [hm]
    · rw [List.mem_singleton] at hm; subst hm; simp [List.mem_of_getElem? hk]
  · rcases List.mem_append.1 hm with hm | hm
    · simp [List.mem_of_mem_take hm]
    · simp [List.mem_of_mem_drop hm]

set_option maxRecDepth 100000 in
set_option maxHeartbeats 2000000 in
theorem order_any (w : World) (n K cap : Nat) (ra : Option Addr) (raw : Nat → Int) (hn1 : 1 ≤ n) (hn : n ≤ 14) (hK : K ≤ 9223372036854775807) (hR : Nums w ra K raw) :
    Calls Tryz.prog 17 #[.int .i64 n, .slice ra K cap] w fun e w' => Turns (fun _ => False) w w' ∧ ∃ (s : ByteArray) (O : List Nat), e = .returned (.string s) ∧ Pu.Perm n O ∧ s.data.toList = Pu.joinT O := by
  obtain ⟨i0, hi, hz0, hz1, hz2⟩ := info_parts info3
  have HR : Hid (Nums w ra K raw) := hR
  clear hR
  go_enter Tryz.func17, Tryz.ntmps17
  go_wp2
  go_loopw [5, 6] (fun lv iv wr => ∃ (k : Nat) (v : Value), v = lv ∧ iv = .int .i64 k ∧ k ≤ n ∧ wr.ownsRow w.heap.size 3 1 v k (vals (List.range k)) ∧ Turns (fun _ => False) w wr) (fun _ iv _ => n - (intOf iv).toNat)
  case atStart => exact ⟨0, _, rfl, rfl, Nat.zero_le _, World.ownsRow_nil _ _ _ _, Turns.refl _ _⟩
  case round =>
    obtain ⟨k, v, hv, rfl, hk, hown, hT⟩ := hrel
    subst hv
    have hsz := hT.size
    by_cases hlt : k < n
    · go_wp2_with (at_builtin; refine wpList_append_own _ rfl _ _ 55 rfl w.heap.size 3 i0 (.int .i64 0) 1 8 Tryz.underlying55 hi hz0 hz1 hz2 rfl (by decide) _ _ _ rfl (hown.alloc _) ⟨wr.heap.size, 0, none⟩ 1 1 [.int .i64 (k : Int)] rfl rfl ?c1 ?c2 ?c3 ?c4 ?c5 ?_)
      case c1 => exact cell_one_new _ _ _
      case c2 => intro u hu; simp at hu; subst hu; rfl
      case c3 => unfold maxLen; omega
      case c4 => omega
      case c5 => simp; omega
      intro v' w3 hown3 hgrow _
      have hT3 : Turns (fun _ => False) w w3 := (hT.alloc _).grown hgrow (fun q hq => Or.inl (hown.lt q hq).1)
      rw [vals_range] at hown3
      have HX : Hid (∃ (k' : Nat) (v : Value), v = v' ∧ (Value.int .i64 ((k : Int) + 1)) = .int .i64 k' ∧ k' ≤ n ∧ w3.ownsRow w.heap.size 3 1 v k' (vals (List.range k')) ∧ Turns (fun _ => False) w w3) := ⟨k + 1, v', rfl, by go_num, by omega, hown3, hT3⟩
      clear hown3 hgrow hT3 hown hT
      go_wp2
      go_roundw
      case measure => simp [intOf]; omega
      case rel => exact HX.out
    · have hkn : k = n := by omega
      have HS : Hid (OrdInv w n v (.string ⟨#[]⟩) (.int .i64 0) wr) := by
        obtain ⟨la, lc, hv⟩ : ∃ la lc, v = .slice la (List.range k).length lc := by
          rcases hown.2 with ⟨h3, h4⟩ | ⟨g, cap, _, h3, _⟩
          · exact ⟨none, 0, by rw [h3, List.length_range, h4]⟩
          · exact ⟨_, _, by rw [h3, List.length_range]⟩
        subst hv
        refine ⟨[], List.range k, ⟨#[]⟩, la, lc, rfl, rfl, rfl, rfl, by simpa using hown, by simpa using List.nodup_range, by simp [hkn], fun m hm => by simp at hm; omega, hT⟩
      clear hown hT hkn
      have hki : ¬ (k : Int) < (n : Int) := by omega
      go_wp2
      go_loopw [5, 7, 8] (fun lv sv iv wr => OrdInv w n lv sv iv wr) (fun _ _ iv _ => n - (intOf iv).toNat)
      case atStart => exact HS.out
      case round =>
        clear HS
        obtain ⟨acc, lft, sb, la, lc, rfl, rfl, rfl, hsb, hown, hnd, hlen, hlt', hT⟩ := hrel
        have hsz := hT.size
        by_cases h0 : lft.length = 0
        · have HX : Hid (Turns (fun _ => False) w wr ∧ Pu.Perm n acc ∧ sb.data.toList = Pu.joinT acc) := by
            have hl : lft = [] := List.eq_nil_of_length_eq_zero h0
            subst hl
            exact ⟨hT, ⟨by simpa using hlen, by simpa using hnd, fun m hm => hlt' m (by simp [hm])⟩, hsb⟩
          have h0i : ¬ (0 : Int) < (lft.length : Int) := by omega
          clear hsb hown hnd hlen hlt' hT
          go_wp2
          go_ret
          exact ⟨HX.out.1, sb, rfl, acc, HX.out.2⟩
        · obtain ⟨g, lcap, hg, hgl, hgh⟩ := World.ownsRow.form hown (by omega)
          injection hg with e1 _ e2
          subst e1 e2
          have h0i : (0 : Int) < (lft.length : Int) := by omega
          have hlcap : lft.length ≤ lc := by
            rcases hown.2 with ⟨h', _⟩ | ⟨_, _, _, h', _, _, h'', _⟩
            · cases h'
            · injection h' with _ _ h3; omega
          have hl14 : lft.length ≤ 14 := by omega
          have hcells : ∀ (j x : Nat), lft[j]? = some x → wr.cell? ⟨g, j, none⟩ = some (.int .i64 (x : Int)) := fun j x hx => by
            have := (List.getElem?_eq_some_iff.1 hx).1
            rw [World.ownsRow.cellAt hown j (by omega)]; simp [vals, hx]
          have HINV : Hid (sb.data.toList = Pu.joinT acc ∧ (acc ++ lft).Nodup ∧ acc.length + lft.length = n ∧ (∀ m ∈ acc ++ lft, m < n) ∧ Turns (fun _ => False) w wr) := ⟨hsb, hnd, hlen, hlt', hT⟩
          have hsbl : sb.size ≤ 100 := by
            have h1 := Pu.joinT_len acc (fun m hm => by have := hlt' m (by simp [hm]); omega)
            rw [← hsb] at h1
            simp at h1; omega
          have hal : acc.length ≤ 14 := by omega
          have HCELLS : Hid (∀ (j x : Nat), lft[j]? = some x → wr.cell? ⟨g, j, none⟩ = some (.int .i64 (x : Int))) := hcells
          have hlt'' : ∀ (k x : Nat), lft[k]? = some x → x < n := fun k x hx => hlt' x (by simp [List.mem_of_getElem? hx])
          have haln : acc.length < n := by omega
          clear hsb hnd hlen hlt' hT hcells hown
          by_cases hr : acc.length < K
          · obtain ⟨⟨rb, ro, hra, hrl, hrc⟩, hbd⟩ := And.intro (HR.out.1 (by omega)) (HR.out.2 acc.length hr)
            subst hra
            have hrc' : wr.cell? ⟨rb, ro + acc.length, none⟩ = some (.int .i64 (raw acc.length)) := (HINV.out.2.2.2.2.cell (a := ⟨rb, ro + acc.length, none⟩) hrl (fun x => x)).trans (hrc acc.length hr)
            have hri : (acc.length : Int) < (K : Int) := by omega
            have hpk := Pu.pick_lt (raw acc.length) (n := lft.length) (by omega)
            have cp := pick_any (raw acc.length) lft.length wr hbd.1 hbd.2 (by omega) (by omega)
            generalize Pu.pick (raw acc.length) lft.length = kk at *
            clear hrc hbd
            obtain ⟨x, hx⟩ : ∃ x, lft[kk]? = some x := ⟨_, List.getElem?_eq_getElem hpk⟩
            have hxn := hlt'' kk x hx
            have HXK : Hid (lft[kk]? = some x) := hx
            have hkki : (kk : Int) < (lft.length : Int) := by omega
            have hkc : (kk : Int) ≤ (lc : Int) := by omega
            have hk1 : (kk : Int) + 1 ≤ (lft.length : Int) := by omega
            have HLC : Hid (lft.length ≤ lc ∧ kk < lft.length ∧ acc.length < n) := ⟨hlcap, hpk, haln⟩
            clear hx hlt''
            by_cases hac : acc.length = 0
            · obtain rfl : acc = [] := List.eq_nil_of_length_eq_zero hac
              simp only [List.length_nil, Nat.add_zero] at hrc' cp hri hr hal ⊢
              have hri' : (0 : Int) < (K : Int) := by omega
              clear hac
              obtain ⟨DX, HDX, lDX, cd⟩ := dec_lit x (by omega)
              have hcx := HCELLS.out kk x HXK.out
              have b1 : (9223372036854775807 < sb.size + 1) = False := by simp; omega
              have b2 : (9223372036854775807 < sb.size + DX.size) = False := by simp; omega
              have b3 : (9223372036854775807 < sb.size + 1 + DX.size) = False := by simp; omega
              go_wp2_with (go_at_call 10; refine cp.mono ?_; rintro e w1 ⟨rfl, hw1⟩; subst w1)
              refine (cd.out _).mono ?_
              rintro e w3 ⟨rfl, hT3⟩
              have hs3 := hT3.size
              have hC3 : Hid (∀ (j x : Nat), lft[j]? = some x → w3.cell? ⟨g, j, none⟩ = some (.int .i64 (x : Int))) := fun j x hx => (hT3.cell (a := ⟨g, j, none⟩) hgh (fun x => x)).trans (HCELLS.out j x hx)
              have HT3 : Hid (Turns (fun _ => False) w w3) := HINV.out.2.2.2.2.trans hT3
              clear cd hT3 hcx
              go_wp2_with (at_builtin; refine wpList_append_own_at _ rfl _ _ 55 rfl w.heap.size 3 i0 (.int .i64 0) 1 8 Tryz.underlying55 hi hz0 hz1 hz2 rfl (by decide) _ 0 [] rfl (World.ownsRow_nil _ _ _ _) ⟨g, 0, none⟩ kk lc (vals (lft.take kk)) rfl ?c0X1 ?c1X1 ?c2X1 ?c3X1 ?c4X1 ?c5X1 ?_)
              case c0X1 => first | (rw [vals_length, List.length_take]; omega) | simp [vals]
              case c1X1 =>
                intro j y hy
                rw [vals, List.getElem?_map] at hy
                have hadd : (⟨g, 0, none⟩ : Addr).add j = ⟨g, j, none⟩ := by unfold Addr.add; split <;> simp_all
                rw [hadd]
                cases hj : (lft.take kk)[j]? with
                | none => rw [hj] at hy; simp at hy
                | some m =>
                  rw [hj] at hy
                  simp at hy
                  subst hy
                  have hjl := (List.getElem?_eq_some_iff.1 hj).1
                  rw [List.length_take] at hjl
                  rw [List.getElem?_take_of_lt (by omega)] at hj
                  exact hC3.out j m hj
              case c2X1 => intro y hy; rw [vals, List.mem_map] at hy; obtain ⟨m, _, rfl⟩ := hy; rfl
              case c3X1 => unfold maxLen; omega
              case c4X1 => omega
              case c5X1 => omega
              intro v4 w4 hown4 hgrow4 _ _
              have hT4 : Turns (fun _ => False) w3 w4 := (Turns.refl _ _).grown hgrow4 (fun q hq => by cases hq)
              have hs4 := hT4.size
              have hC4 : Hid (∀ (j x : Nat), lft[j]? = some x → w4.cell? ⟨g, j, none⟩ = some (.int .i64 (x : Int))) := fun j x hx => (hT4.cell (a := ⟨g, j, none⟩) (by show g < w3.heap.size; omega) (fun x => x)).trans (hC3.out j x hx)
              have HT4 : Hid (Turns (fun _ => False) w w4) := HT3.out.trans hT4
              have hown4' : w4.ownsRow w.heap.size 3 1 v4 kk (vals (lft.take kk)) := by simpa [vals] using hown4
              clear hown4 hgrow4 hT4 hC3 HT3
              rcases Nat.lt_or_ge (kk + 1) lc with hcz | hcz
              · have hlcx := HLC.out
                have hcz1 : (lc - (kk + 1) = 0) = False := by simp; omega
                have hcz2 : ¬ lc ≤ kk + 1 := by omega
                go_wp2_with (at_builtin; refine wpList_append_own_at _ rfl _ _ 55 rfl w.heap.size 3 i0 (.int .i64 0) 1 8 Tryz.underlying55 hi hz0 hz1 hz2 rfl (by decide) _ _ _ rfl hown4' ⟨g, kk + 1, none⟩ (lft.length - (kk + 1)) (lc - (kk + 1)) (vals (lft.drop (kk + 1))) rfl ?d0X2 ?d1X2 ?d2X2 ?d3X2 ?d4X2 ?d5X2 ?_)
                case d0X2 => rw [vals_length, List.length_drop]; omega
                case d1X2 =>
                  intro j y hy
                  rw [vals, List.getElem?_map, List.getElem?_drop] at hy
                  have hadd : (⟨g, kk + 1, none⟩ : Addr).add j = ⟨g, kk + 1 + j, none⟩ := by unfold Addr.add; split <;> simp_all
                  rw [hadd]
                  cases hj : lft[kk + 1 + j]? with
                  | none => rw [hj] at hy; simp at hy
                  | some m =>
                    rw [hj] at hy
                    simp at hy
                    subst hy
                    exact hC4.out _ m hj
                case d2X2 => intro y hy; rw [vals, List.mem_map] at hy; obtain ⟨m, _, rfl⟩ := hy; rfl
                case d3X2 => unfold maxLen; omega
                case d4X2 => omega
                case d5X2 => omega
                intro v5 w5 hown5 hgrow5 _ _
                have hT5 : Turns (fun _ => False) w w5 := HT4.out.grown hgrow5 (fun q hq => by first | exact Or.inl (hown4'.lt q hq).1 | cases hq)
                have HX : Hid (OrdInv w n v5 (.string (sb ++ DX)) (.int .i64 1) w5) := ord_step HINV.out.1 HINV.out.2.1 HINV.out.2.2.1 HINV.out.2.2.2.1 HXK.out (by first | exact hown5 | simpa [vals] using hown5 | (rw [show lft.length - (kk + 1) = 0 by omega]; simpa [vals] using hown5)) hT5 (ord_txt1 HDX.out)
                clear hown5 hgrow5 hT5 hown4' hC4 HT4 HINV HXK HDX HCELLS
                go_wp2
                go_roundw
                case measure => simp [intOf]; have := HLC.out; first | omega | (simp at this; omega)
                case rel => exact HX.out
              · have hlcx := HLC.out
                have hcz1 : lc = kk + 1 := by omega
                have hcz2 : lft.length = kk + 1 := by omega
                subst hcz1
                go_wp2_with (at_builtin; refine wpList_append_own_at _ rfl _ _ 55 rfl w.heap.size 3 i0 (.int .i64 0) 1 8 Tryz.underlying55 hi hz0 hz1 hz2 rfl (by decide) _ _ _ rfl hown4' ⟨g, 0, none⟩ 0 0 (vals (lft.drop (kk + 1))) rfl ?d0X3 ?d1X3 ?d2X3 ?d3X3 ?d4X3 ?d5X3 ?_)
                case d0X3 => rw [vals_length, List.length_drop]; omega
                case d1X3 =>
                  intro j y hy
                  rw [vals, List.getElem?_map, List.getElem?_drop, List.getElem?_eq_none (by omega)] at hy
                  simp at hy
                case d2X3 => intro y hy; rw [vals, List.mem_map] at hy; obtain ⟨m, _, rfl⟩ := hy; rfl
                case d3X3 => unfold maxLen; omega
                case d4X3 => omega
                case d5X3 => omega
                intro v5 w5 hown5 hgrow5 _ _
                have hT5 : Turns (fun _ => False) w w5 := HT4.out.grown hgrow5 (fun q hq => by first | exact Or.inl (hown4'.lt q hq).1 | cases hq)
                have HX : Hid (OrdInv w n v5 (.string (sb ++ DX)) (.int .i64 1) w5) := ord_step HINV.out.1 HINV.out.2.1 HINV.out.2.2.1 HINV.out.2.2.2.1 HXK.out (by first | exact hown5 | simpa [vals] using hown5 | (rw [show lft.length - (kk + 1) = 0 by omega]; simpa [vals] using hown5)) hT5 (ord_txt1 HDX.out)
                clear hown5 hgrow5 hT5 hown4' hC4 HT4 HINV HXK HDX HCELLS
                go_wp2
                go_roundw
                case measure => simp [intOf]; have := HLC.out; first | omega | (simp at this; omega)
                case rel => exact HX.out
            · have hai : (0 : Int) < (acc.length : Int) := by omega
              clear hac
              obtain ⟨DX, HDX, lDX, cd⟩ := dec_lit x (by omega)
              have hcx := HCELLS.out kk x HXK.out
              have b1 : (9223372036854775807 < sb.size + 1) = False := by simp; omega
              have b2 : (9223372036854775807 < sb.size + DX.size) = False := by simp; omega
              have b3 : (9223372036854775807 < sb.size + 1 + DX.size) = False := by simp; omega
              go_wp2_with (go_at_call 10; refine cp.mono ?_; rintro e w1 ⟨rfl, hw1⟩; subst w1)
              refine (cd.out _).mono ?_
              rintro e w3 ⟨rfl, hT3⟩
              have hs3 := hT3.size
              have hC3 : Hid (∀ (j x : Nat), lft[j]? = some x → w3.cell? ⟨g, j, none⟩ = some (.int .i64 (x : Int))) := fun j x hx => (hT3.cell (a := ⟨g, j, none⟩) hgh (fun x => x)).trans (HCELLS.out j x hx)
              have HT3 : Hid (Turns (fun _ => False) w w3) := HINV.out.2.2.2.2.trans hT3
              clear cd hT3 hcx
              go_wp2_with (at_builtin; refine wpList_append_own_at _ rfl _ _ 55 rfl w.heap.size 3 i0 (.int .i64 0) 1 8 Tryz.underlying55 hi hz0 hz1 hz2 rfl (by decide) _ 0 [] rfl (World.ownsRow_nil _ _ _ _) ⟨g, 0, none⟩ kk lc (vals (lft.take kk)) rfl ?c0X4 ?c1X4 ?c2X4 ?c3X4 ?c4X4 ?c5X4 ?_)
              case c0X4 => first | (rw [vals_length, List.length_take]; omega) | simp [vals]
              case c1X4 =>
                intro j y hy
                rw [vals, List.getElem?_map] at hy
                have hadd : (⟨g, 0, none⟩ : Addr).add j = ⟨g, j, none⟩ := by unfold Addr.add; split <;> simp_all
                rw [hadd]
                cases hj : (lft.take kk)[j]? with
                | none => rw [hj] at hy; simp at hy
                | some m =>
                  rw [hj] at hy
                  simp at hy
                  subst hy
                  have hjl := (List.getElem?_eq_some_iff.1 hj).1
                  rw [List.length_take] at hjl
                  rw [List.getElem?_take_of_lt (by omega)] at hj
                  exact hC3.out j m hj
              case c2X4 => intro y hy; rw [vals, List.mem_map] at hy; obtain ⟨m, _, rfl⟩ := hy; rfl
              case c3X4 => unfold maxLen; omega
              case c4X4 => omega
              case c5X4 => omega
              intro v4 w4 hown4 hgrow4 _ _
              have hT4 : Turns (fun _ => False) w3 w4 := (Turns.refl _ _).grown hgrow4 (fun q hq => by cases hq)
              have hs4 := hT4.size
              have hC4 : Hid (∀ (j x : Nat), lft[j]? = some x → w4.cell? ⟨g, j, none⟩ = some (.int .i64 (x : Int))) := fun j x hx => (hT4.cell (a := ⟨g, j, none⟩) (by show g < w3.heap.size; omega) (fun x => x)).trans (hC3.out j x hx)
              have HT4 : Hid (Turns (fun _ => False) w w4) := HT3.out.trans hT4
              have hown4' : w4.ownsRow w.heap.size 3 1 v4 kk (vals (lft.take kk)) := by simpa [vals] using hown4
              clear hown4 hgrow4 hT4 hC3 HT3
              rcases Nat.lt_or_ge (kk + 1) lc with hcz | hcz
              · have hlcx := HLC.out
                have hcz1 : (lc - (kk + 1) = 0) = False := by simp; omega
                have hcz2 : ¬ lc ≤ kk + 1 := by omega
                go_wp2_with (at_builtin; refine wpList_append_own_at _ rfl _ _ 55 rfl w.heap.size 3 i0 (.int .i64 0) 1 8 Tryz.underlying55 hi hz0 hz1 hz2 rfl (by decide) _ _ _ rfl hown4' ⟨g, kk + 1, none⟩ (lft.length - (kk + 1)) (lc - (kk + 1)) (vals (lft.drop (kk + 1))) rfl ?d0X5 ?d1X5 ?d2X5 ?d3X5 ?d4X5 ?d5X5 ?_)
                case d0X5 => rw [vals_length, List.length_drop]; omega
                case d1X5 =>
                  intro j y hy
                  rw [vals, List.getElem?_map, List.getElem?_drop] at hy
                  have hadd : (⟨g, kk + 1, none⟩ : Addr).add j = ⟨g, kk + 1 + j, none⟩ := by unfold Addr.add; split <;> simp_all
                  rw [hadd]
                  cases hj : lft[kk + 1 + j]? with
                  | none => rw [hj] at hy; simp at hy
                  | some m =>
                    rw [hj] at hy
                    simp at hy
                    subst hy
                    exact hC4.out _ m hj
                case d2X5 => intro y hy; rw [vals, List.mem_map] at hy; obtain ⟨m, _, rfl⟩ := hy; rfl
                case d3X5 => unfold maxLen; omega
                case d4X5 => omega
                case d5X5 => omega
                intro v5 w5 hown5 hgrow5 _ _
                have hT5 : Turns (fun _ => False) w w5 := HT4.out.grown hgrow5 (fun q hq => by first | exact Or.inl (hown4'.lt q hq).1 | cases hq)
                have HX : Hid (OrdInv w n v5 (.string ((sb ++ ⟨#[32]⟩) ++ DX)) (.int .i64 ((acc.length : Int) + 1)) w5) := ord_step HINV.out.1 HINV.out.2.1 HINV.out.2.2.1 HINV.out.2.2.2.1 HXK.out (by first | exact hown5 | simpa [vals] using hown5 | (rw [show lft.length - (kk + 1) = 0 by omega]; simpa [vals] using hown5)) hT5 (ord_txt2 HINV.out.1 HDX.out (by intro c; rw [c] at hai; simp at hai))
                clear hown5 hgrow5 hT5 hown4' hC4 HT4 HINV HXK HDX HCELLS
                go_wp2
                go_roundw
                case measure => simp [intOf]; have := HLC.out; first | omega | (simp at this; omega)
                case rel => exact HX.out
              · have hlcx := HLC.out
                have hcz1 : lc = kk + 1 := by omega
                have hcz2 : lft.length = kk + 1 := by omega
                subst hcz1
                go_wp2_with (at_builtin; refine wpList_append_own_at _ rfl _ _ 55 rfl w.heap.size 3 i0 (.int .i64 0) 1 8 Tryz.underlying55 hi hz0 hz1 hz2 rfl (by decide) _ _ _ rfl hown4' ⟨g, 0, none⟩ 0 0 (vals (lft.drop (kk + 1))) rfl ?d0X6 ?d1X6 ?d2X6 ?d3X6 ?d4X6 ?d5X6 ?_)
                case d0X6 => rw [vals_length, List.length_drop]; omega
                case d1X6 =>
                  intro j y hy
                  rw [vals, List.getElem?_map, List.getElem?_drop, List.getElem?_eq_none (by omega)] at hy
                  simp at hy
                case d2X6 => intro y hy; rw [vals, List.mem_map] at hy; obtain ⟨m, _, rfl⟩ := hy; rfl
                case d3X6 => unfold maxLen; omega
                case d4X6 => omega
                case d5X6 => omega
                intro v5 w5 hown5 hgrow5 _ _
                have hT5 : Turns (fun _ => False) w w5 := HT4.out.grown hgrow5 (fun q hq => by first | exact Or.inl (hown4'.lt q hq).1 | cases hq)
                have HX : Hid (OrdInv w n v5 (.string ((sb ++ ⟨#[32]⟩) ++ DX)) (.int .i64 ((acc.length : Int) + 1)) w5) := ord_step HINV.out.1 HINV.out.2.1 HINV.out.2.2.1 HINV.out.2.2.2.1 HXK.out (by first | exact hown5 | simpa [vals] using hown5 | (rw [show lft.length - (kk + 1) = 0 by omega]; simpa [vals] using hown5)) hT5 (ord_txt2 HINV.out.1 HDX.out (by intro c; rw [c] at hai; simp at hai))
                clear hown5 hgrow5 hT5 hown4' hC4 HT4 HINV HXK HDX HCELLS
                go_wp2
                go_roundw
                case measure => simp [intOf]; have := HLC.out; first | omega | (simp at this; omega)
                case rel => exact HX.out
          · have hri : ¬ (acc.length : Int) < (K : Int) := by omega
            obtain ⟨x, hx⟩ : ∃ x, lft[0]? = some x := ⟨_, List.getElem?_eq_getElem (by omega)⟩
            have hxn := hlt'' 0 x hx
            have HXK : Hid (lft[0]? = some x) := hx
            clear hx hlt''
            have hk1 : (1 : Int) ≤ (lft.length : Int) := by omega
            have HLC : Hid (lft.length ≤ lc ∧ 0 < lft.length ∧ acc.length < n) := ⟨hlcap, by omega, haln⟩
            by_cases hac : acc.length = 0
            · obtain rfl : acc = [] := List.eq_nil_of_length_eq_zero hac
              simp only [List.length_nil] at hri hr hal ⊢
              have hri' : ¬ (0 : Int) < (K : Int) := by omega
              clear hac
              obtain ⟨DX, HDX, lDX, cd⟩ := dec_lit x (by omega)
              have hcx := HCELLS.out 0 x HXK.out
              have b1 : (9223372036854775807 < sb.size + 1) = False := by simp; omega
              have b2 : (9223372036854775807 < sb.size + DX.size) = False := by simp; omega
              have b3 : (9223372036854775807 < sb.size + 1 + DX.size) = False := by simp; omega
              go_wp2_with fail
              refine (cd.out _).mono ?_
              rintro e w3 ⟨rfl, hT3⟩
              have hs3 := hT3.size
              have hC3 : Hid (∀ (j x : Nat), lft[j]? = some x → w3.cell? ⟨g, j, none⟩ = some (.int .i64 (x : Int))) := fun j x hx => (hT3.cell (a := ⟨g, j, none⟩) hgh (fun x => x)).trans (HCELLS.out j x hx)
              have HT3 : Hid (Turns (fun _ => False) w w3) := HINV.out.2.2.2.2.trans hT3
              clear cd hT3 hcx
              go_wp2_with (at_builtin; refine wpList_append_own_at _ rfl _ _ 55 rfl w.heap.size 3 i0 (.int .i64 0) 1 8 Tryz.underlying55 hi hz0 hz1 hz2 rfl (by decide) _ 0 [] rfl (World.ownsRow_nil _ _ _ _) ⟨g, 0, none⟩ 0 lc (vals (lft.take 0)) rfl ?c0X7 ?c1X7 ?c2X7 ?c3X7 ?c4X7 ?c5X7 ?_)
              case c0X7 => first | (rw [vals_length, List.length_take]; omega) | simp [vals]
              case c1X7 =>
                intro j y hy
                rw [vals, List.getElem?_map] at hy
                have hadd : (⟨g, 0, none⟩ : Addr).add j = ⟨g, j, none⟩ := by unfold Addr.add; split <;> simp_all
                rw [hadd]
                cases hj : (lft.take 0)[j]? with
                | none => rw [hj] at hy; simp at hy
                | some m =>
                  rw [hj] at hy
                  simp at hy
                  subst hy
                  have hjl := (List.getElem?_eq_some_iff.1 hj).1
                  rw [List.length_take] at hjl
                  rw [List.getElem?_take_of_lt (by omega)] at hj
                  exact hC3.out j m hj
              case c2X7 => intro y hy; rw [vals, List.mem_map] at hy; obtain ⟨m, _, rfl⟩ := hy; rfl
              case c3X7 => unfold maxLen; omega
              case c4X7 => omega
              case c5X7 => omega
              intro v4 w4 hown4 hgrow4 _ _
              have hT4 : Turns (fun _ => False) w3 w4 := (Turns.refl _ _).grown hgrow4 (fun q hq => by cases hq)
              have hs4 := hT4.size
              have hC4 : Hid (∀ (j x : Nat), lft[j]? = some x → w4.cell? ⟨g, j, none⟩ = some (.int .i64 (x : Int))) := fun j x hx => (hT4.cell (a := ⟨g, j, none⟩) (by show g < w3.heap.size; omega) (fun x => x)).trans (hC3.out j x hx)
              have HT4 : Hid (Turns (fun _ => False) w w4) := HT3.out.trans hT4
              have hown4' : w4.ownsRow w.heap.size 3 1 v4 0 (vals (lft.take 0)) := by simpa [vals] using hown4
              clear hown4 hgrow4 hT4 hC3 HT3
              rcases Nat.lt_or_ge (0 + 1) lc with hcz | hcz
              · have hlcx := HLC.out
                have hcz1 : (lc - (0 + 1) = 0) = False := by simp; omega
                have hcz2 : ¬ lc ≤ 0 + 1 := by omega
                go_wp2_with (at_builtin; refine wpList_append_own_at _ rfl _ _ 55 rfl w.heap.size 3 i0 (.int .i64 0) 1 8 Tryz.underlying55 hi hz0 hz1 hz2 rfl (by decide) _ _ _ rfl hown4' ⟨g, 0 + 1, none⟩ (lft.length - (0 + 1)) (lc - (0 + 1)) (vals (lft.drop (0 + 1))) rfl ?d0X8 ?d1X8 ?d2X8 ?d3X8 ?d4X8 ?d5X8 ?_)
                case d0X8 => rw [vals_length, List.length_drop]; omega
                case d1X8 =>
                  intro j y hy
                  rw [vals, List.getElem?_map, List.getElem?_drop] at hy
                  have hadd : (⟨g, 0 + 1, none⟩ : Addr).add j = ⟨g, 0 + 1 + j, none⟩ := by unfold Addr.add; split <;> simp_all
                  rw [hadd]
                  cases hj : lft[0 + 1 + j]? with
                  | none => rw [hj] at hy; simp at hy
                  | some m =>
                    rw [hj] at hy
                    simp at hy
                    subst hy
                    exact hC4.out _ m hj
                case d2X8 => intro y hy; rw [vals, List.mem_map] at hy; obtain ⟨m, _, rfl⟩ := hy; rfl
                case d3X8 => unfold maxLen; omega
                case d4X8 => omega
                case d5X8 => omega
                intro v5 w5 hown5 hgrow5 _ _
                have hT5 : Turns (fun _ => False) w w5 := HT4.out.grown hgrow5 (fun q hq => by first | exact Or.inl (hown4'.lt q hq).1 | cases hq)
                have HX : Hid (OrdInv w n v5 (.string (sb ++ DX)) (.int .i64 1) w5) := ord_step HINV.out.1 HINV.out.2.1 HINV.out.2.2.1 HINV.out.2.2.2.1 HXK.out (by first | exact hown5 | simpa [vals] using hown5 | (rw [show lft.length - (0 + 1) = 0 by omega]; simpa [vals] using hown5)) hT5 (ord_txt1 HDX.out)
                clear hown5 hgrow5 hT5 hown4' hC4 HT4 HINV HXK HDX HCELLS
                go_wp2
                go_roundw
                case measure => simp [intOf]; have := HLC.out; first | omega | (simp at this; omega)
                case rel => exact HX.out
              · have hlcx := HLC.out
                have hcz1 : lc = 0 + 1 := by omega
                have hcz2 : lft.length = 0 + 1 := by omega
                subst hcz1
                have HX : Hid (OrdInv w n (.slice none 0 0) (.string (sb ++ DX)) (.int .i64 1) w4) := ord_step HINV.out.1 HINV.out.2.1 HINV.out.2.2.1 HINV.out.2.2.2.1 HXK.out (by rw [List.drop_eq_nil_of_le (by omega), hcz2]; exact World.ownsRow_nil _ _ _ _) HT4.out (ord_txt1 HDX.out)
                clear hown4' hC4 HT4 HINV HXK HDX HCELLS
                go_wp2
                go_roundw
                case measure => simp [intOf]; have := HLC.out; first | omega | (simp at this; omega)
                case rel => exact HX.out
            · have hai : (0 : Int) < (acc.length : Int) := by omega
              clear hac
              obtain ⟨DX, HDX, lDX, cd⟩ := dec_lit x (by omega)
              have hcx := HCELLS.out 0 x HXK.out
              have b1 : (9223372036854775807 < sb.size + 1) = False := by simp; omega
              have b2 : (9223372036854775807 < sb.size + DX.size) = False := by simp; omega
              have b3 : (9223372036854775807 < sb.size + 1 + DX.size) = False := by simp; omega
              go_wp2_with fail
              refine (cd.out _).mono ?_
              rintro e w3 ⟨rfl, hT3⟩
              have hs3 := hT3.size
              have hC3 : Hid (∀ (j x : Nat), lft[j]? = some x → w3.cell? ⟨g, j, none⟩ = some (.int .i64 (x : Int))) := fun j x hx => (hT3.cell (a := ⟨g, j, none⟩) hgh (fun x => x)).trans (HCELLS.out j x hx)
              have HT3 : Hid (Turns (fun _ => False) w w3) := HINV.out.2.2.2.2.trans hT3
              clear cd hT3 hcx
              go_wp2_with (at_builtin; refine wpList_append_own_at _ rfl _ _ 55 rfl w.heap.size 3 i0 (.int .i64 0) 1 8 Tryz.underlying55 hi hz0 hz1 hz2 rfl (by decide) _ 0 [] rfl (World.ownsRow_nil _ _ _ _) ⟨g, 0, none⟩ 0 lc (vals (lft.take 0)) rfl ?c0X9 ?c1X9 ?c2X9 ?c3X9 ?c4X9 ?c5X9 ?_)
              case c0X9 => first | (rw [vals_length, List.length_take]; omega) | simp [vals]
              case c1X9 =>
                intro j y hy
                rw [vals, List.getElem?_map] at hy
                have hadd : (⟨g, 0, none⟩ : Addr).add j = ⟨g, j, none⟩ := by unfold Addr.add; split <;> simp_all
                rw [hadd]
                cases hj : (lft.take 0)[j]? with
                | none => rw [hj] at hy; simp at hy
                | some m =>
                  rw [hj] at hy
                  simp at hy
                  subst hy
                  have hjl := (List.getElem?_eq_some_iff.1 hj).1
                  rw [List.length_take] at hjl
                  rw [List.getElem?_take_of_lt (by omega)] at hj
                  exact hC3.out j m hj
              case c2X9 => intro y hy; rw [vals, List.mem_map] at hy; obtain ⟨m, _, rfl⟩ := hy; rfl
              case c3X9 => unfold maxLen; omega
              case c4X9 => omega
              case c5X9 => omega
              intro v4 w4 hown4 hgrow4 _ _
              have hT4 : Turns (fun _ => False) w3 w4 := (Turns.refl _ _).grown hgrow4 (fun q hq => by cases hq)
              have hs4 := hT4.size
              have hC4 : Hid (∀ (j x : Nat), lft[j]? = some x → w4.cell? ⟨g, j, none⟩ = some (.int .i64 (x : Int))) := fun j x hx => (hT4.cell (a := ⟨g, j, none⟩) (by show g < w3.heap.size; omega) (fun x => x)).trans (hC3.out j x hx)
              have HT4 : Hid (Turns (fun _ => False) w w4) := HT3.out.trans hT4
              have hown4' : w4.ownsRow w.heap.size 3 1 v4 0 (vals (lft.take 0)) := by simpa [vals] using hown4
              clear hown4 hgrow4 hT4 hC3 HT3
              rcases Nat.lt_or_ge (0 + 1) lc with hcz | hcz
              · have hlcx := HLC.out
                have hcz1 : (lc - (0 + 1) = 0) = False := by simp; omega
                have hcz2 : ¬ lc ≤ 0 + 1 := by omega
                go_wp2_with (at_builtin; refine wpList_append_own_at _ rfl _ _ 55 rfl w.heap.size 3 i0 (.int .i64 0) 1 8 Tryz.underlying55 hi hz0 hz1 hz2 rfl (by decide) _ _ _ rfl hown4' ⟨g, 0 + 1, none⟩ (lft.length - (0 + 1)) (lc - (0 + 1)) (vals (lft.drop (0 + 1))) rfl ?d0X10 ?d1X10 ?d2X10 ?d3X10 ?d4X10 ?d5X10 ?_)
                case d0X10 => rw [vals_length, List.length_drop]; omega
                case d1X10 =>
                  intro j y hy
                  rw [vals, List.getElem?_map, List.getElem?_drop] at hy
                  have hadd : (⟨g, 0 + 1, none⟩ : Addr).add j = ⟨g, 0 + 1 + j, none⟩ := by unfold Addr.add; split <;> simp_all
                  rw [hadd]
                  cases hj : lft[0 + 1 + j]? with
                  | none => rw [hj] at hy; simp at hy
                  | some m =>
                    rw [hj] at hy
                    simp at hy
                    subst hy
                    exact hC4.out _ m hj
                case d2X10 => intro y hy; rw [vals, List.mem_map] at hy; obtain ⟨m, _, rfl⟩ := hy; rfl
                case d3X10 => unfold maxLen; omega
                case d4X10 => omega
                case d5X10 => omega
                intro v5 w5 hown5 hgrow5 _ _
                have hT5 : Turns (fun _ => False) w w5 := HT4.out.grown hgrow5 (fun q hq => by first | exact Or.inl (hown4'.lt q hq).1 | cases hq)
                have HX : Hid (OrdInv w n v5 (.string ((sb ++ ⟨#[32]⟩) ++ DX)) (.int .i64 ((acc.length : Int) + 1)) w5) := ord_step HINV.out.1 HINV.out.2.1 HINV.out.2.2.1 HINV.out.2.2.2.1 HXK.out (by first | exact hown5 | simpa [vals] using hown5 | (rw [show lft.length - (0 + 1) = 0 by omega]; simpa [vals] using hown5)) hT5 (ord_txt2 HINV.out.1 HDX.out (by intro c; rw [c] at hai; simp at hai))
                clear hown5 hgrow5 hT5 hown4' hC4 HT4 HINV HXK HDX HCELLS
                go_wp2
                go_roundw
                case measure => simp [intOf]; have := HLC.out; first | omega | (simp at this; omega)
                case rel => exact HX.out
              · have hlcx := HLC.out
                have hcz1 : lc = 0 + 1 := by omega
                have hcz2 : lft.length = 0 + 1 := by omega
                subst hcz1
                have HX : Hid (OrdInv w n (.slice none 0 0) (.string ((sb ++ ⟨#[32]⟩) ++ DX)) (.int .i64 ((acc.length : Int) + 1)) w4) := ord_step HINV.out.1 HINV.out.2.1 HINV.out.2.2.1 HINV.out.2.2.2.1 HXK.out (by rw [List.drop_eq_nil_of_le (by omega), hcz2]; exact World.ownsRow_nil _ _ _ _) HT4.out (ord_txt2 HINV.out.1 HDX.out (by intro c; rw [c] at hai; simp at hai))
                clear hown4' hC4 HT4 HINV HXK HDX HCELLS
                go_wp2
                go_roundw
                case measure => simp [intOf]; have := HLC.out; first | omega | (simp at this; omega)
                case rel => exact HX.out
#print axioms order_any
end Go.Proofs.YtdogncjcainhlaaGreatDoor
