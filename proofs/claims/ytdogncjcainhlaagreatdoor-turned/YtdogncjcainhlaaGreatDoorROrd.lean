/- The walk of the reference's Order, where the text is not empty. -/
import Derived.Test.YtdogncjcainhlaaGreatDoorRank
import Derived.Test.YtdogncjcainhlaaGreatDoorRCut
import Derived.Test.YtdogncjcainhlaaGreatDoorPRef
import Derived.Test.YtdogncjcainhlaaGreatDoorRHub
namespace Go.Proofs.YtdogncjcainhlaaGreatDoor
open Go.RowKit Go.Deep
open Mem

/-- What the reference's Order hands back. -/
def ROrdPost (w : World) (n : Nat) (o : Option (List Nat)) (e : Ending) (w' : World) : Prop := Turns (fun _ => False) w w' ∧ match o with
  | none => ∃ v, e = .returned (.tuple #[v, .bool false])
  | some O => ∃ ob ocap, e = .returned (.tuple #[.slice (some ⟨ob, 0, none⟩) n ocap, .bool true]) ∧ Ord w' ob n O

/-- What holds ahead of each round: the places acc were read. -/
def ROrdInv (w1 : World) (n : Nat) (ps : List ByteArray) (res : Option (List Nat)) (v iv : Value) (wr : World) : Prop :=
  ∃ (la : Option Addr) (lc : Nat) (acc : List Nat) (q : World), iv = .int .i64 acc.length ∧ acc.length ≤ ps.length ∧ v = .slice la acc.length lc ∧ wr.ownsRow w1.heap.size 3 1 (.slice la acc.length lc) acc.length (vals acc) ∧
    (∀ m ∈ acc, m < n) ∧ acc.Nodup ∧ Pu.ordGo n ((ps.map (·.data.toList)).drop acc.length) acc = res ∧ Turns (fun _ => False) w1 wr ∧ q = wr

set_option maxRecDepth 100000 in
set_option maxHeartbeats 2000000 in
theorem rord_text (s : ByteArray) (w : World) (b n : Nat) (R : Int) (lv fv : Value) (hs0 : 0 < s.size) (hs : s.size ≤ 2000000) (hn1 : 1 ≤ n) (hn : n ≤ 40) (hB : RB w b n R lv fv) :
    Calls Tryz.prog 67 #[.pointer (some ⟨b, 0, none⟩), .string s] w (ROrdPost w n (Pu.order n s.data.toList)) := by
  have he := nonempty_of hs0
  obtain ⟨i0, hi, hz0, hz1, hz2⟩ := info_parts info3
  obtain ⟨RES, hRES⟩ : ∃ RES, Pu.order n s.data.toList = RES := ⟨_, rfl⟩
  rw [hRES]
  have HB : Hid (RB w b n R lv fv) := hB
  have hbl := hB.lt
  clear hB
  go_enter Tryz.func67, Tryz.ntmps67
  go_wp2_with fail
  refine (cut_any s 32 _ hs).mono ?_
  rintro e w1 ⟨hT1, g, cap, ps, rfl, hps, hown⟩
  have hpl : ps.length ≤ 2000001 := by
    have h1 : ps.length = (Pu.cuts 32 s.data.toList).length := by rw [← hps]; simp
    have h2 := Pu.cuts_length 32 s.data.toList
    have h3 := List.count_le_length (a := (32 : UInt8)) (l := s.data.toList)
    have h4 : s.data.toList.length = s.size := by simp
    omega
  have HPZ : Hid (∀ (j : Nat) q, ps[j]? = some q → q.size ≤ maxLen ∧ w1.cell? ⟨g, j, none⟩ = some (.string q)) := by
    intro j q hq
    have hjl := (List.getElem?_eq_some_iff.1 hq).1
    refine ⟨?_, by rw [hown.cellAt j (by omega)]; simp [hq]⟩
    have := Pu.cuts_le 32 s.data.toList q.data.toList (by rw [← hps]; exact List.mem_map_of_mem (f := fun x : ByteArray => x.data.toList) (List.mem_of_getElem? hq))
    simp at this; unfold maxLen; omega
  have HRES : Hid (RES = if ps.length = n then Pu.ordGo n (ps.map (·.data.toList)) [] else none) := by
    show RES = _
    rw [← hRES]; unfold Pu.order; rw [← hps, List.length_map]
  have hgl : 0 < ps.length → g < w1.heap.size := fun h => by
    obtain ⟨q, hq⟩ : ∃ q, ps[0]? = some q := ⟨_, List.getElem?_eq_getElem h⟩
    exact World.block_lt_of_cell? _ _ (HPZ.out 0 q hq).2
  obtain ⟨res, hres⟩ : ∃ res, Pu.ordGo n (ps.map (·.data.toList)) [] = res := ⟨_, rfl⟩
  rw [hres] at HRES
  have HS : Hid (ROrdInv w1 n ps res (.slice none 0 0) (.int .i64 0) w1) := ⟨none, 0, [], w1, rfl, Nat.zero_le _, rfl, World.ownsRow_nil _ _ _ _, fun m hm => (by cases hm), List.nodup_nil, hres, Turns.refl _ _, rfl⟩
  have HT1 : Hid (Turns (fun _ => False) w w1) := hT1
  clear hps hown hres hRES hT1
  go_wp2
  go_loopw [6, 8] (fun v iv wr => ROrdInv w1 n ps res v iv wr) (fun _ iv _ => ps.length - (intOf iv).toNat)
  case atStart => exact HS.out
  case round =>
    clear HS
    obtain ⟨la, lc, acc, wq, rfl, hal, rfl, hown, hlt, hnd, hgo, hT, hwq⟩ := hrel
    subst hwq
    have hTT := HT1.out.trans hT
    have hB2 := HB.out.turns hTT (fun x => x)
    have c0 := hB2.c0
    have hacc := Pu.nodup_le n acc hnd hlt
    have hsz := hT.size
    by_cases hk : acc.length < ps.length
    · obtain ⟨p, hp⟩ : ∃ p, ps[acc.length]? = some p := ⟨_, List.getElem?_eq_getElem hk⟩
      obtain ⟨hpz, hpc⟩ := HPZ.out _ p hp
      have hpc' : wq.cell? ⟨g, acc.length, none⟩ = some (.string p) := (hT.cell (a := ⟨g, acc.length, none⟩) (hgl (by omega)) (fun x => x)).trans hpc
      have hki : (acc.length : Int) < (ps.length : Int) := by omega
      have hdrop : (ps.map (·.data.toList)).drop acc.length = p.data.toList :: (ps.map (·.data.toList)).drop (acc.length + 1) := by
        rw [List.drop_eq_getElem_cons (by simp; omega)]
        congr 1
        rw [List.getElem_map]
        rw [(List.getElem?_eq_some_iff.1 hp).2]
      rw [hdrop] at hgo
      have hnum := fun w' => refnum_any p ((n : Int) - 1) w' hpz (by omega) (by omega)
      have bd := Pu.toRef_bd (l := p.data.toList) (most := (n : Int) - 1)
      obtain ⟨r, hr⟩ : ∃ r, Pu.toRef ((n : Int) - 1) (Pu.num p.data.toList) = r := ⟨_, rfl⟩
      have hwi := Pu.within_ref p.data.toList (lo := 0) (hi := (n : Int) - 1) (by omega) r hr
      simp only [hr] at hnum bd
      have HNUM : Hid (∀ w', Calls Tryz.prog 106 #[.string p, .int .i64 ((n : Int) - 1)] w' fun e w'' => e = .returned (.int .i64 r) ∧ w'' = w') := hnum
      have HTT : Hid (Turns (fun _ => False) w wq) := hTT
      have HOWN : Hid (wq.ownsRow w1.heap.size 3 1 (.slice la acc.length lc) acc.length (vals acc) ∧ (∀ m ∈ acc, m < n) ∧ acc.Nodup ∧ Turns (fun _ => False) w1 wq) := ⟨hown, hlt, hnd, hT⟩
      obtain ⟨al, halx⟩ : ∃ al, acc.length = al := ⟨_, rfl⟩
      have HAL : Hid (acc.length = al) := halx
      rw [halx] at hpc' hki hacc hk hal HOWN ⊢
      clear hdrop hr hnum hTT hB2 hlt hnd hT hp hpc hown
      by_cases hr0 : r < 0
      · rw [if_pos hr0] at hwi
        have HR : Hid (res = none) := by show res = none; rw [← hgo, Pu.ordGo_none hwi]
        have HX : Hid (∀ q, ROrdPost w n RES (.returned (.tuple #[.slice none 0 0, .bool false])) (wq.drewN q)) := fun q => by
          have : RES = none := by rw [HRES.out, HR.out]; split <;> rfl
          rw [this]; exact ⟨HTT.out.drewN q, _, rfl⟩
        clear hgo hwi bd halx
        go_wp2_with fail
        go_quiet ((go_at_call 106; exact Calls.quiet_of_same (HNUM.out _)))
        go_wp2
        exact bodyPost_ret (v := .tuple #[.slice none 0 0, .bool false]) (by simp [results, Tryz.results67, go_sem]) rfl (HX.out _)
      · rw [if_neg hr0] at hwi
        obtain ⟨x, rfl⟩ := Int.eq_ofNat_of_zero_le (show 0 ≤ r by omega)
        have hxn : x < n := by omega
        have hx0 : ¬ (x : Int) < 0 := hr0
        have HGO : Hid ((x ∈ acc → res = none) ∧ (¬ x ∈ acc → Pu.ordGo n ((ps.map (·.data.toList)).drop (al + 1)) (acc ++ [x]) = res)) :=
          ⟨fun c => by rw [← hgo, Pu.ordGo_twice hwi c], fun c => by rw [← hgo, Pu.ordGo_next hwi c, HAL.out]⟩
        clear hgo hwi bd hr0 halx
        go_wp2_with fail
        go_quiet ((go_at_call 106; exact Calls.quiet_of_same (HNUM.out _)))
        rename_i nq
        obtain ⟨w3, hw3⟩ : ∃ w3, wq.drewN nq = w3 := ⟨_, rfl⟩
        rw [hw3]
        have HO3 : Hid (w3.ownsRow w1.heap.size 3 1 (.slice la al lc) al (vals acc) ∧ (∀ m ∈ acc, m < n) ∧ acc.Nodup ∧ Turns (fun _ => False) w1 w3 ∧ Turns (fun _ => False) w w3) := by
          rw [← hw3]; exact ⟨HOWN.out.1, HOWN.out.2.1, HOWN.out.2.2.1, HOWN.out.2.2.2.drewN nq, HTT.out.drewN nq⟩
        have hsz3 : w1.heap.size ≤ w3.heap.size := by rw [← hw3]; exact hsz
        clear hw3 HOWN HTT HNUM hpc' c0
        go_wp2
        go_loopw [10] (fun jv wx => ∃ j : Nat, jv = .int .i64 j ∧ j ≤ al ∧ (∀ (i m : Nat), i < j → acc[i]? = some m → m ≠ x) ∧ wx = w3) (fun jv _ => al - (intOf jv).toNat)
        case atStart => exact ⟨0, rfl, Nat.zero_le _, fun i m hi => by omega, rfl⟩
        case round =>
          obtain ⟨j, rfl, hj, hno, hwx⟩ := hrel
          subst hwx
          by_cases hja : j < al
          · obtain ⟨m, hm⟩ : ∃ m, acc[j]? = some m := ⟨_, List.getElem?_eq_getElem (by have := HAL.out; omega)⟩
            obtain ⟨ga, gca, hga, _, _⟩ := World.ownsRow.form HO3.out.1 (by omega)
            injection hga with e1 _ e2
            subst e1 e2
            have hcm : wr.cell? ⟨ga, j, none⟩ = some (.int .i64 (m : Int)) := by
              rw [World.ownsRow.cellAt HO3.out.1 j (by omega)]; simp [vals, hm]
            have hji : (j : Int) < (al : Int) := by omega
            by_cases hmx : m = x
            · have hb : ((m : Int) == (x : Int)) = true := by simp; omega
              have HX : Hid (ROrdPost w n RES (.returned (.tuple #[.slice none 0 0, .bool false])) wr) := by
                have : RES = none := by rw [HRES.out, HGO.out.1 (by rw [← hmx]; exact List.mem_of_getElem? hm)]; split <;> rfl
                rw [this]; exact ⟨HO3.out.2.2.2.2, _, rfl⟩
              clear hno hm hmx HGO HO3
              go_wp2
              exact bodyPost_ret (v := .tuple #[.slice none 0 0, .bool false]) (by simp [results, Tryz.results67, go_sem]) rfl HX.out
            · have hb : ((m : Int) == (x : Int)) = false := by simp; omega
              have HX : Hid (∃ j' : Nat, (Value.int .i64 ((j : Int) + 1)) = .int .i64 j' ∧ j' ≤ al ∧ (∀ (i m : Nat), i < j' → acc[i]? = some m → m ≠ x) ∧ wr = wr) := by
                refine ⟨j + 1, by go_num, by omega, fun i m' h1 h2 => ?_, rfl⟩
                by_cases c : i = j
                · subst c; rw [hm] at h2; cases h2; exact hmx
                · exact hno i m' (by omega) h2
              clear hno hm hmx HGO HO3
              go_wp2
              go_roundw
              case measure => simp [intOf]; omega
              case rel => obtain ⟨j', h1, h2, h3, _⟩ := HX.out; exact ⟨j', h1, h2, h3, trivial⟩
          · have hji : ¬ (j : Int) < (al : Int) := by omega
            have hxa : ¬ x ∈ acc := fun c => by
              obtain ⟨i, hi⟩ := List.mem_iff_getElem?.1 c
              have := (List.getElem?_eq_some_iff.1 hi).1
              exact hno i x (by have := HAL.out; omega) hi rfl
            have HG := HGO.out.2 hxa
            have HG' : Hid (Pu.ordGo n ((ps.map (·.data.toList)).drop (al + 1)) (acc ++ [x]) = res) := HG
            have HXA : Hid (¬ x ∈ acc) := hxa
            have hown := HO3.out.1
            clear hno HG hxa HGO
            go_wp2_with (at_builtin; refine wpList_append_own _ rfl _ _ 55 rfl w1.heap.size 3 i0 (.int .i64 0) 1 8 Tryz.underlying55 hi hz0 hz1 hz2 rfl (by decide) _ _ _ rfl (hown.alloc _) ⟨wr.heap.size, 0, none⟩ 1 1 [.int .i64 (x : Int)] rfl rfl ?c1 ?c2 ?c3 ?c4 ?c5 ?_)
            case c2 => first | (intro u hu; simp at hu; subst hu; rfl) | rfl | trivial | simp [Value.oneCell']
            case c3 => unfold maxLen; omega
            case c4 => omega
            case c5 => first | omega | (simp; omega)
            intro v' w4 hown4 hgrow _
            obtain ⟨g', cap', hv'⟩ := owns_form hown4
            subst hv'
            rw [vals_snoc] at hown4
            have hT4 : Turns (fun _ => False) w1 w4 := (HO3.out.2.2.2.1.alloc _).grown hgrow (fun q hq => Or.inl (hown.lt q hq).1)
            have HX : Hid (ROrdInv w1 n ps res (.slice (some ⟨g', 0, none⟩) (al + 1) cap') (.int .i64 ((al : Int) + 1)) w4) := by
              have hl := HAL.out
              refine ⟨some ⟨g', 0, none⟩, cap', acc ++ [x], w4, by simp [hl], by simp; omega, by simp [hl], by simpa [hl] using hown4, fun m hm => ?_, ?_, by simpa [hl] using HG'.out, hT4, rfl⟩
              · rcases List.mem_append.1 hm with h' | h'
                · exact HO3.out.2.1 m h'
                · rw [List.mem_singleton] at h'; omega
              · rw [List.nodup_append]
                exact ⟨HO3.out.2.2.1, by simp, fun a ha b hb c => by rw [List.mem_singleton] at hb; subst hb; subst c; exact HXA.out ha⟩
            clear hown4 hgrow hT4 HO3 hown HG' HXA
            go_wp2
            go_roundw
            case measure => simp [intOf]; omega
            case rel => exact HX.out
    · have hki : ¬ (acc.length : Int) < (ps.length : Int) := by omega
      have hres : res = some acc := by rw [← hgo, List.drop_of_length_le (by simp; omega), Pu.ordGo]
      have HX : Hid (∀ q, (acc.length = n → ROrdPost w n RES (.returned (.tuple #[.slice la n lc, .bool true])) (wq.drewN q)) ∧ (acc.length ≠ n → ROrdPost w n RES (.returned (.tuple #[.slice la acc.length lc, .bool false])) (wq.drewN q))) := by
        intro q
        constructor
        · intro hl
          have : RES = some acc := by rw [HRES.out, hres, if_pos (by omega)]
          rw [this]
          obtain ⟨ga, gca, hga, _, _⟩ := World.ownsRow.form hown (by omega)
          injection hga with e1 _ e2
          subst e1 e2
          refine ⟨hTT.drewN q, ga, _, rfl, hl, fun j m hm => ⟨hlt m (List.mem_of_getElem? hm), ?_⟩⟩
          have hjl := (List.getElem?_eq_some_iff.1 hm).1
          show wq.cell? _ = _
          rw [World.ownsRow.cellAt hown j (by omega)]; simp [vals, hm]
        · intro hl
          have : RES = none := by rw [HRES.out, if_neg (by omega)]
          rw [this]
          exact ⟨hTT.drewN q, _, rfl⟩
      clear hres hgo hown hlt hnd hT hTT hB2
      by_cases hl : acc.length = n
      · have hle : ((n : Int) == (n : Int)) = true := by simp
        have HY : Hid (∀ q, ROrdPost w n RES (.returned (.tuple #[.slice la n lc, .bool true])) (wq.drewN q)) := fun q => (HX.out q).1 hl
        clear HX
        go_wp2
        go_quiet (fail)
        go_wp2
        exact bodyPost_ret (v := .tuple #[.slice la n lc, .bool true]) (by simp [results, Tryz.results67, go_sem]) rfl (HY.out _)
      · have hle : ((acc.length : Int) == (n : Int)) = false := by simp; omega
        have HY : Hid (∀ q, ROrdPost w n RES (.returned (.tuple #[.slice la acc.length lc, .bool false])) (wq.drewN q)) := fun q => (HX.out q).2 hl
        clear HX
        go_wp2
        go_quiet (fail)
        go_wp2
        exact bodyPost_ret (v := .tuple #[.slice la acc.length lc, .bool false]) (by simp [results, Tryz.results67, go_sem]) rfl (HY.out _)
#print axioms rord_text
end Go.Proofs.YtdogncjcainhlaaGreatDoor
