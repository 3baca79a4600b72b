/- Proved: for every input the law bywaykeep.Covered returns true, and each argument reads afterwards as it read before: of any town, by any order, the labels tell of any two places how far it is, each tells how far its hub is, and none can be left out. Conditions: none but the row's own (Go's two listed tables of unicode/utf8 start as their texts lay them, which the card ties). -/
import Derived.Test.YtdogncjcainhlaaDoorLaid
import Derived.Test.YtdogncjcainhlaaDoorCWalk
import Derived.Test.YtdogncjcainhlaaDoorTown
namespace Go.Proofs.YtdogncjcainhlaaDoor
open Go.ChangeShapes Go.WideShapes Go.ChangeAt Go.RowKit
open Mem

/-- A slice of numbers that came in, as the walk is told of it. -/
theorem nums_of {H : Type} {enc : TypeId × Value → H} {W : World} {ra : Option Addr} {K cap : Nat} {d : DataW H} {p : List MemPlace} (h : DataW.Trod enc Tryd.prog W 0 (fun _ => true) true 41 (Value.slice ra K cap) d p) : K ≤ 9223372036854775807 ∧ ∃ nums, Nums W ra K nums := by
  obtain ⟨fuel, hf⟩ := h
  rcases Deep.open_slice Tryd.underlying41 hf with ⟨hcs, _⟩ | ⟨a, len, cap', m, n, D, Pl, hcs, _, hl, hm, hmm, _, hx⟩
  · simp [Value.cells] at hcs
    obtain ⟨rfl, rfl, rfl⟩ := hcs
    exact ⟨by omega, fun _ => 0, fun h => absurd h (by omega), fun i h => absurd h (by omega)⟩
  · simp [Value.cells] at hcs
    obtain ⟨rfl, rfl, rfl⟩ := hcs
    have hlm : K ≤ m := by rw [hmm]; split <;> omega
    refine ⟨by unfold maxLen at hm; omega, ?_⟩
    rw [cells3] at hx
    have each : ∀ i, i < K → ∃ t : Int, W.cell? (a.add i) = some (.int .i64 t) ∧ (Lit.int .i64 t).wf = true := by
      intro i hi
      obtain ⟨cs', h1, h2⟩ := hx i (by omega)
      obtain ⟨_, hlen, hcell⟩ := World.cells?_some h1
      obtain ⟨x0, e0, _, w0⟩ := DataW.trod_int Tryd.underlying3 h2
      subst e0
      have c0 := hcell 0 (by simp)
      rw [Deep.add_add] at c0
      exact ⟨x0, by simpa using c0, w0⟩
    obtain ⟨nums, hr⟩ := Deep.choose_lt each
    refine ⟨nums, fun h0 => ?_, fun i hi => wf_i64 (hr i hi).2⟩
    have hsp := spot_none (hr 0 h0).1
    obtain ⟨b, o, sp⟩ := a
    simp [Addr.add] at hsp
    subst hsp
    refine ⟨b, o, rfl, World.block_lt_of_cell? W _ (hr 0 h0).1, fun i hi => ?_⟩
    have hh := (hr i hi).1
    rw [add_none] at hh
    exact hh

set_option maxRecDepth 100000 in
theorem covered_contract (ht : TownSaid) (H : Type) (enc : TypeId × Value → H) (W : World) (base : Nat) (args : Array Value) (ds gs : List (DataW H)) (before : List MemPlace)
    (hval : ∀ (j : Nat) t v, Tryd.f7.params[j]? = some t → args[j]? = some v → Value.okWide Tryd.prog W .any base t v)
    (hW : DataW.Whole enc Tryd.prog Tryd.f7.params.toList Rows.coveredSpec.vars false W args.toList ds gs before) (hsh : W.ShapedOpen Tryd.prog) :
    Calls Tryd.prog 7 args W fun e W' => ∃ v, e = .returned v ∧ Rows.coveredSpec.post enc Tryd.prog Tryd.f7 false true false false W args v W' := by
  have hW' := hW
  obtain ⟨p, q, hA0, hV, rfl, hfz, hnd⟩ := hW
  have hA : DataW.TrodAll enc Tryd.prog W 0 (fun _ => true) true Tryd.f7.params.toList args.toList ds p := hA0
  rw [Tryd.params7] at hA hval
  obtain ⟨v0, vs0, d0, ds0, p0, q0, hargs, rfl, rfl, h0, r0⟩ := trodAll_cons hA
  obtain ⟨v1, vs1, d1, ds1, p1, q1, rfl, rfl, rfl, h1, r1⟩ := trodAll_cons r0
  obtain ⟨v2, vs2, d2, ds2, p2, q2, rfl, rfl, rfl, h2, r2⟩ := trodAll_cons r1
  obtain ⟨v3, vs3, d3, ds3, p3, q3, rfl, rfl, rfl, h3, r3⟩ := trodAll_cons r2
  obtain ⟨rfl, rfl, rfl⟩ := trodAll_nil r3
  obtain rfl : args = #[v0, v1, v2, v3] := by cases args; simp_all
  obtain ⟨rfl, rfl⟩ := trodVars_none hV
  obtain ⟨ra, K, cap, rfl⟩ := okWide_slice Tryd.underlying32 (hval 1 32 v1 rfl rfl)
  obtain ⟨rn, KN, capN, rfl⟩ := okWide_slice Tryd.underlying41 (hval 2 41 v2 rfl rfl)
  have k1 := h1
  have lt1 : ∀ x ∈ p1, x.block < W.heap.size := by obtain ⟨m, hm⟩ := k1; exact DataW.trod_lt m _ _ _ hm
  have k2 := h2
  have lt2 : ∀ x ∈ p2, x.block < W.heap.size := by obtain ⟨m, hm⟩ := k2; exact DataW.trod_lt m _ _ _ hm
  obtain ⟨hK, raw, hRaw⟩ := raw_of h1
  obtain ⟨hKN, nums, hNums⟩ := nums_of h2
  obtain ⟨a0, rfl, rfl, rfl, w0⟩ := open_int Tryd.underlying3 (hval 0 3 v0 rfl rfl) h0
  obtain ⟨a3, rfl, rfl, rfl, w3⟩ := open_int Tryd.underlying3 (hval 3 3 v3 rfl rfl) h3
  clear hA0
  refine (covered_any ht W a0 a3 ra rn K cap KN capN raw nums (wf_i64 w0).1 (wf_i64 w0).2 hK hRaw hKN hNums (wf_i64 w3).1 (wf_i64 w3).2 (ml_of_shaped hsh)).mono fun e W' ⟨he, hT⟩ => ?_
  subst he
  have bel := hT.below
  exact ⟨_, rfl, _, _, _, [], _, [], hW', trodAll_mk1 (shut_bool Tryd.underlying4 _), (trodAll_cons_mk (shut_int Tryd.underlying3 w0) (trodAll_cons_mk (Below.trod laidOut (by kernel_rfl) (of_decide_eq_true (by kernel_rfl)) k1 bel lt1) (trodAll_cons_mk (Below.trod laidOut (by kernel_rfl) (of_decide_eq_true (by kernel_rfl)) k2 bel lt2) (trodAll_cons_mk (shut_int Tryd.underlying3 w3) trodAll_mk0)))), rfl, bel.frame _, fun h => by cases h⟩

theorem covered_laid (os : Os) : laidMet Tryd.prog Rows.coveredRow.laid ((laidWorld os).forCall (fun _ _ => 0) ⟨#[], #[.int .i64 0, .slice none 0 0, .slice none 0 0, .int .i64 0], []⟩).memory :=
  laidMet_of_run' 8 (by kernel_rfl) (by kernel_rfl)
theorem covered_reads (os : Os) {H : Type} (enc : TypeId × Value → H) : ∃ places, DataW.whole enc Tryd.prog ((laidWorld os).forCall (fun _ _ => 0) ⟨#[], #[.int .i64 0, .slice none 0 0, .slice none 0 0, .int .i64 0], []⟩).memory Tryd.f7.params.toList Rows.coveredSpec.vars false #[Value.int .i64 0, .slice none 0 0, .slice none 0 0, .int .i64 0].toList 8 = some ([.lit (.int .i64 0), .nil, .nil, .lit (.int .i64 0)], [], places) :=
  ⟨[], by kernel_rfl⟩

set_option maxRecDepth 100000 in
theorem covered_lifted (ht : TownSaid) (os : Os) (started : os.Started) (H : Type) (enc : TypeId × Value → H) (F : Stop.Interp) :
    ReturnsInHanded {} Tryd.checked os 7 .any ((OpenSpec.ofChange Rows.coveredSpec).preRow enc Tryd.prog Tryd.f7 Rows.coveredRow.domain false Rows.coveredRow.laid) (((OpenSpec.ofChange Rows.coveredSpec).at F).post enc Tryd.prog Tryd.f7 false true false false) := by
  obtain ⟨places, hx⟩ := covered_reads os enc
  refine returnsInHanded_of_row (C := Tryd.checked) (s := OpenSpec.ofChange Rows.coveredSpec) own started (by kernel_rfl) Tryd.func7
    (witness_row_at (enc := enc) (C := Tryd.checked) false (laidWorld os) #[.int .i64 0, .slice none 0 0, .slice none 0 0, .int .i64 0] rfl (by kernel_rfl) (by kernel_rfl) (by kernel_rfl)
      (OpenSpec.preRow_of_cond 8 hx (by kernel_rfl) (fun k hk => by cases hk) (by kernel_rfl) (covered_laid os))) ?_
  intro W base args ds gs before hval hW _ _ _ _ hsh _
  exact covered_contract ht H enc W base args ds gs before hval hW hsh

theorem covered_said (ht : TownSaid) : Rows.CoveredSaid :=
  OpenClaim.holds_of_cond 7 Tryd.f7 rfl rfl rfl rfl rfl rfl rfl ⟨rfl, rfl, rfl, rfl, rfl⟩ rfl rfl rfl rfl rfl (by kernel_rfl) Tryd.func7 (by kernel_rfl)
    (of_decide_eq_true (by kernel_rfl)) (by unfold Func.isWrapper; first | (rw [if_pos (by decide +kernel)]; kernel_rfl) | (rw [if_neg (by decide +kernel)]; exact ⟨rfl, rfl⟩))
    (fun os started H enc _ F => by rw [OpenClaim.pre_eq_preRow]; exact covered_lifted ht os started H enc F)

/-- No parameter wants a stand-in; the program's own looks are off. -/
theorem covered_plain (f : FuncId) (fn : Func) (hf : Tryd.pinned.checked.prog.funcNamed "byway/bywaykeep.Covered" = some f) (hfn : Tryd.pinned.checked.prog.funcs[f]? = some fn) :
    false = Tryd.pinned.checked.prog.looks [] ∧ ∀ (j : Nat) t, fn.params[j]? = some t → Tryd.pinned.checked.prog.wantsStandIn t = false := by
  obtain rfl : f = 7 := Option.some.inj ((show Tryd.prog.funcNamed "byway/bywaykeep.Covered" = some 7 by kernel_rfl).symm.trans hf) |>.symm
  obtain rfl : fn = Tryd.f7 := (Option.some.inj (Tryd.func7.symm.trans hfn)).symm
  refine ⟨by kernel_rfl, fun j t ht => ?_⟩
  rw [Tryd.params7] at ht
  have h : t = 3 ∨ t = 32 ∨ t = 41 ∨ t = 3 := by simpa using Array.mem_of_getElem? ht
  rcases h with rfl | rfl | rfl | rfl
  · exact (show Tryd.prog.wantsStandIn 3 = false by kernel_rfl)
  · exact (show Tryd.prog.wantsStandIn 32 = false by kernel_rfl)
  · exact (show Tryd.prog.wantsStandIn 41 = false by kernel_rfl)
  · exact (show Tryd.prog.wantsStandIn 3 = false by kernel_rfl)

theorem covered_card : Rows.CoveredCardSaid :=
  Claim7.holds_tied_plain_at .later [] _ _ _ _ (covered_said town_any) (fun _ h => by cases h) (by kernel_rfl) (fun _ h => by cases h) covered_row_tie rfl ⟨rfl, rfl⟩ (by kernel_rfl) rfl covered_plain (by kernel_rfl)
#print axioms covered_card
end Go.Proofs.YtdogncjcainhlaaDoor
