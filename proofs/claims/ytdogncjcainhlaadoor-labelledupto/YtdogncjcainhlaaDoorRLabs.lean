/- The walk of the reference's Labels. -/
import Derived.Test.YtdogncjcainhlaaDoorRLabd
namespace Go.Proofs.YtdogncjcainhlaaDoor
open Go.RowKit Go.Deep
open Mem

theorem infoR91 : (Tryd.prog.info? 91).map (fun i => (i.zero, i.size, i.bytes)) = some (some (.agg #[.int .i64 0, .int .i64 0, .int .i64 0]), 3, 24) := by kernel_rfl

namespace Pu
theorem hubK_mem {D : Nat → Nat → Int} {O : List Nat} {v k : Nat} {f : Int} : ∀ m, (k, f) ∈ hubK D O v m → k < m ∧ ∃ h : Nat, O[k]? = some h
  | 0, h => by simp [hubK] at h
  | m + 1, h => by
    rw [hubK, List.mem_append] at h
    rcases h with h | h
    · obtain ⟨h1, h2⟩ := hubK_mem m h; exact ⟨by omega, h2⟩
    · cases e : O[m]? with
      | none => rw [e] at h; simp at h
      | some y =>
        rw [e] at h
        simp only at h
        split at h
        · rw [List.mem_singleton] at h
          injection h with h1 h2
          subst h1
          exact ⟨by omega, y, e⟩
        · simp at h
/-- The labels of the places below v, and i labels of v. -/
def labT (D : Nat → Nat → Int) (O : List Nat) (n v i : Nat) : List Rd := labP D O v ++ ((hubK D O v n).take i).map fun x => (v, O.getD x.1 0, x.2)
theorem labT_zero (D : Nat → Nat → Int) (O : List Nat) (n v : Nat) : labT D O n v 0 = labP D O v := by simp [labT]
theorem labT_all {D : Nat → Nat → Int} {O : List Nat} {n : Nat} (hO : O.length = n) (v : Nat) : labT D O n v (hubK D O v n).length = labP D O (v + 1) := by
  rw [labT, labP, List.take_length, hO, hubK_lab]
theorem labT_next {D : Nat → Nat → Int} {O : List Nat} {n v i k h : Nat} {f : Int} (hi : (hubK D O v n)[i]? = some (k, f)) (hk : O[k]? = some h) : labT D O n v (i + 1) = labT D O n v i ++ [(v, h, f)] := by
  rw [labT, labT, List.take_add_one, hi, List.append_assoc, List.map_append]
  simp [List.getD, hk]
theorem labT_len {D : Nat → Nat → Int} {O : List Nat} {n : Nat} (hO : O.length = n) (v i : Nat) : (labT D O n v i).length ≤ v * n + n := by
  have h1 := labP_len D O v
  have h2 := hubK_len D O v n
  rw [hO] at h1
  rw [labT, List.length_append, List.length_map, List.length_take]
  omega
end Pu

/-- What the reference's Labels hands back. -/
def RLabsPost (w : World) (r : Pu.Res) (o : Nat → (Nat → Nat → Int) → Option (List Nat)) (e : Ending) (w' : World) : Prop := Turns (fun _ => False) w w' ∧ match r with
  | .err c p => e = .returned (.tuple #[.slice none 0 0, .int .i64 c, .int .i64 p])
  | .ok n _ len => match o n len with
    | none => e = .returned (.tuple #[.slice none 0 0, .int .i64 4, .int .i64 0])
    | some O => ∃ (D : Nat → Nat → Int) (v : Value), Pu.Cov n len D O ∧ e = .returned (.tuple #[v, .int .i64 0, .int .i64 0]) ∧ w'.ownsRow w.heap.size 91 3 v (Pu.labP D O n).length (Pu.rdVals (Pu.labP D O n))

set_option maxHeartbeats 400000 in
theorem rlabs_err (x s : ByteArray) (w : World) (c p : Int) (hne : (c != 0) = true)
    (k : Calls Tryd.prog 46 #[.string x, .string s] w fun e w' => Turns (fun _ => False) w w' ∧ e = .returned (.tuple #[.slice none 0 0, .slice none 0 0, .int .i64 c, .int .i64 p])) :
    Calls Tryd.prog 31 #[.string x, .string s] w fun e w' => Turns (fun _ => False) w w' ∧ e = .returned (.tuple #[.slice none 0 0, .int .i64 c, .int .i64 p]) := by
  go_enter Tryd.func31, Tryd.ntmps31
  go_wp2_with (go_at_call 46; refine k.mono ?_; rintro e w1 ⟨hT, rfl⟩)
  exact bodyPost_ret (v := .tuple #[.slice none 0 0, .int .i64 c, .int .i64 p]) (by simp [results, Tryd.results31, go_sem]) rfl ⟨‹_›, rfl⟩

set_option maxRecDepth 100000 in
set_option maxHeartbeats 2000000 in
theorem rlabs_ok (x s : ByteArray) (w : World) (n : Nat) (len : Nat → Nat → Int) (O : List Nat) (hn1 : 1 ≤ n) (hn : n ≤ 40)
    (k : Calls Tryd.prog 46 #[.string x, .string s] w fun e w' => Turns (fun _ => False) w w' ∧ ∃ (D : Nat → Nat → Int) (B ob ocap og oc : Nat) (hs : List Value), Pu.Cov n len D O ∧ e = .returned (.tuple #[.slice (some ⟨ob, 0, none⟩) n ocap, .slice (some ⟨og, 0, none⟩) n oc, .int .i64 0, .int .i64 0]) ∧
        Ord w' ob n O ∧ hs.length = n ∧ HubRows w' B (.slice (some ⟨og, 0, none⟩) n oc) hs (fun v => Pu.hubK D O v n)) :
    Calls Tryd.prog 31 #[.string x, .string s] w fun e w' => Turns (fun _ => False) w w' ∧ ∃ (D : Nat → Nat → Int) (v : Value), Pu.Cov n len D O ∧ e = .returned (.tuple #[v, .int .i64 0, .int .i64 0]) ∧ w'.ownsRow w.heap.size 91 3 v (Pu.labP D O n).length (Pu.rdVals (Pu.labP D O n)) := by
  obtain ⟨i0, hi, hz0, hz1, hz2⟩ := info_parts infoR91
  go_enter Tryd.func31, Tryd.ntmps31
  go_wp2_with fail
  refine k.mono ?_
  rintro e w1 ⟨hT1, D, B, ob, ocap, og, oc, hs, hC, rfl, hO, hl, hH⟩
  have HO : Hid (Ord w1 ob n O) := hO
  have HC : Hid (Pu.Cov n len D O) := hC
  have HT1 : Hid (Turns (fun _ => False) w w1) := hT1
  have HH : Hid (∀ v, v < n → ∃ (a : Option Addr) (c : Nat), w1.cell? ⟨og, v, none⟩ = some (.slice a (Pu.hubK D O v n).length c) ∧ ∀ (i k : Nat) (f : Int), (Pu.hubK D O v n)[i]? = some (k, f) → ∃ g, a = some ⟨g, 0, none⟩ ∧ w1.cell? ⟨g, i * 2, none⟩ = some (.int .i64 (k : Int)) ∧ w1.cell? ⟨g, i * 2 + 1, none⟩ = some (.int .i64 f)) := by
    intro v hv
    obtain ⟨y, hy⟩ : ∃ y, hs[v]? = some y := ⟨_, List.getElem?_eq_getElem (by omega)⟩
    obtain ⟨⟨a, c, h1, h2⟩, _⟩ := hH.row v y hy
    refine ⟨a, c, ?_, h2⟩
    have hown := hH.own
    rw [hl] at hown
    rw [World.ownsRow.cellAt hown v (by omega), hy, h1]
  clear k hT1 hC hO hH hl
  go_wp2
  go_loopw [11, 12] (fun ov vv wr => ∃ (o : Value) (v : Nat), o = ov ∧ vv = .int .i64 v ∧ v ≤ n ∧ wr.ownsRow w1.heap.size 91 3 o (Pu.labP D O v).length (Pu.rdVals (Pu.labP D O v)) ∧ Turns (fun _ => False) w1 wr) (fun _ vv _ => n - (intOf vv).toNat)
  case atStart => exact ⟨_, 0, rfl, rfl, Nat.zero_le _, World.ownsRow_nil _ _ _ _, Turns.refl _ _⟩
  case round =>
    obtain ⟨o, v, ho, rfl, hvl, hown, hTr⟩ := hrel
    subst ho
    by_cases hvn : v < n
    · have hvi : (v : Int) < (n : Int) := by omega
      obtain ⟨a, c, hca, hrow⟩ := HH.out v hvn
      have HR : Hid (∀ (i k : Nat) (f : Int), (Pu.hubK D O v n)[i]? = some (k, f) → ∃ g, a = some ⟨g, 0, none⟩ ∧ w1.cell? ⟨g, i * 2, none⟩ = some (.int .i64 (k : Int)) ∧ w1.cell? ⟨g, i * 2 + 1, none⟩ = some (.int .i64 f)) := hrow
      have HS : Hid (wr.ownsRow w1.heap.size 91 3 o (Pu.labT D O n v 0).length (Pu.rdVals (Pu.labT D O n v 0)) ∧ Turns (fun _ => False) w1 wr) := by rw [Pu.labT_zero]; exact ⟨hown, hTr⟩
      have HCA : Hid (w1.cell? ⟨og, v, none⟩ = some (.slice a (Pu.hubK D O v n).length c)) := hca
      have hLn := Pu.hubK_len D O v n
      have HLN : Hid ((Pu.hubK D O v n).length = (Pu.hubK D O v n).length) := rfl
      obtain ⟨ll, hll⟩ : ∃ ll, (Pu.hubK D O v n).length = ll := ⟨_, rfl⟩
      have HLL : Hid ((Pu.hubK D O v n).length = ll) := hll
      rw [hll] at HCA hLn
      clear hown hTr hca hrow hll HLN
      go_wp2
      go_loopw [11, 13] (fun ov iv wx => ∃ (o : Value) (i : Nat) (wz : World), o = ov ∧ iv = .int .i64 i ∧ i ≤ ll ∧ wx.ownsRow w1.heap.size 91 3 o (Pu.labT D O n v i).length (Pu.rdVals (Pu.labT D O n v i)) ∧ Turns (fun _ => False) w1 wx ∧ wz = wx) (fun _ iv _ => ll - (intOf iv).toNat)
      case atStart => exact ⟨_, 0, _, rfl, rfl, Nat.zero_le _, HS.out.1, HS.out.2, rfl⟩
      case round =>
        clear HS
        obtain ⟨o, i, w3, ho, rfl, hil, hown3, hT3, hwz⟩ := hrel
        subst ho hwz
        have e1 : w3.cell? ⟨og, v, none⟩ = some (.slice a ll c) := (hT3.cell (a := ⟨og, v, none⟩) (World.block_lt_of_cell? _ _ HCA.out) (fun x => x)).trans HCA.out
        have l1 : og < w1.heap.size := World.block_lt_of_cell? _ _ HCA.out
        have hs3 := hT3.size
        by_cases hii : i < ll
        · have hiii : (i : Int) < (ll : Int) := by omega
          obtain ⟨⟨k, f⟩, hkf⟩ : ∃ y, (Pu.hubK D O v n)[i]? = some y := ⟨_, List.getElem?_eq_getElem (by rw [HLL.out]; exact hii)⟩
          obtain ⟨g, hag, g1, g2⟩ := HR.out i k f hkf
          obtain ⟨hkn, h, hh⟩ := Pu.hubK_mem n (List.mem_of_getElem? hkf)
          obtain ⟨hhn, g3⟩ := HO.out.2 k h hh
          have l2 : g < w1.heap.size := World.block_lt_of_cell? _ _ g1
          have l3 : ob < w1.heap.size := World.block_lt_of_cell? _ _ g3
          have e2 := (hT3.cell (a := ⟨g, i * 2, none⟩) l2 (fun x => x)).trans g1
          have e3 := (hT3.cell (a := ⟨g, i * 2 + 1, none⟩) l2 (fun x => x)).trans g2
          have e4 := (hT3.cell (a := ⟨ob, k, none⟩) l3 (fun x => x)).trans g3
          have hki : (k : Int) < (n : Int) := by omega
          have hLb := Pu.labT_len (D := D) (n := n) HO.out.1 v i
          have hvm : v * n ≤ 40 * 40 := Nat.mul_le_mul (by omega) hn
          have HV1 : Hid (Pu.rdVals (Pu.labT D O n v i) ++ [.int .i64 (v : Int), .int .i64 (h : Int), .int .i64 f] = Pu.rdVals (Pu.labT D O n v (i + 1)) ∧ (Pu.labT D O n v (i + 1)).length = (Pu.labT D O n v i).length + 1) := by
            rw [Pu.labT_next hkf hh, Pu.rdVals_append]
            exact ⟨rfl, by simp⟩
          subst hag
          have hLc : (Pu.labT D O n v i).length ≤ 1640 := by omega
          generalize hLL : Pu.labT D O n v i = LL at *
          clear hLb hvm hkf g1 g2 g3 hh hLL
          go_wp2_with fail
          go_region_held3 (fun w' => w'.cell? ⟨og, v, none⟩ = some (.slice (some ⟨g, 0, none⟩) ll c) ∧ w'.cell? ⟨g, i * 2, none⟩ = some (.int .i64 (k : Int)) ∧ w'.cell? ⟨g, i * 2 + 1, none⟩ = some (.int .i64 f) ∧ w'.cell? ⟨ob, k, none⟩ = some (.int .i64 (h : Int))) (go_keep)
            ((refine step_append_lies _ (by rfl) _ _ _ (by rfl) w1.heap.size 91 i0 _ 3 24 Tryd.underlying88 hi hz0 hz1 hz2 rfl (by omega) o LL.length (Pu.rdVals LL) (by rfl) ((hown3.alloc _).drew)
                ⟨w3.heap.size, 0, none⟩ 1 1 [.int .i64 (v : Int), .int .i64 (h : Int), .int .i64 f] (by rfl) (by rfl) (World.news_of_block (cs := #[.int .i64 (v : Int), .int .i64 (h : Int), .int .i64 f]) (t := 91) (fr := (0, 0)) (heap_alloc_new w3 _)) (by simp [Value.oneCell'])
                (by omega) (by unfold maxLen; omega) (by omega) (by simp; omega) (w3.heap.size + 1) (by simp) ?_; intro g' cap' w4 hown4 hgrow hat hlt4; have hT4 : Turns (fun k => o.ownBlock = some k) w3 w4 := (((Turns.refl _ w3).alloc _).drew).grown hgrow (fun _ hk => Or.inr hk); have hlb : ∀ q, o.ownBlock = some q → w1.heap.size ≤ q := fun q hq => (hown3.lt q hq).1; have f1 : w4.cell? ⟨og, v, none⟩ = some (.slice (some ⟨g, 0, none⟩) ll c) := (hT4.cell (a := ⟨og, v, none⟩) (by show og < _; omega) (fun c => by have h9 : w1.heap.size ≤ og := hlb _ c; omega)).trans e1; have f2 : w4.cell? ⟨g, i * 2, none⟩ = some (.int .i64 (k : Int)) := (hT4.cell (a := ⟨g, i * 2, none⟩) (by show g < _; omega) (fun c => by have h9 : w1.heap.size ≤ g := hlb _ c; omega)).trans e2; have f3 : w4.cell? ⟨g, i * 2 + 1, none⟩ = some (.int .i64 f) := (hT4.cell (a := ⟨g, i * 2 + 1, none⟩) (by show g < _; omega) (fun c => by have h9 : w1.heap.size ≤ g := hlb _ c; omega)).trans e3; have f4 : w4.cell? ⟨ob, k, none⟩ = some (.int .i64 (h : Int)) := (hT4.cell (a := ⟨ob, k, none⟩) (by show ob < _; omega) (fun c => by have h9 : w1.heap.size ≤ ob := hlb _ c; omega)).trans e4))
          all_goals
            have HX : Hid (∃ (o' : Value) (i' : Nat) (wz : World), o' = .slice (some ⟨g', 0, none⟩) (LL.length + 1) cap' ∧ (Value.int .i64 ((i : Int) + 1)) = .int .i64 i' ∧ i' ≤ ll ∧ w4.ownsRow w1.heap.size 91 3 o' (Pu.labT D O n v i').length (Pu.rdVals (Pu.labT D O n v i')) ∧ Turns (fun _ => False) w1 w4 ∧ wz = w4) :=
              ⟨_, i + 1, _, rfl, by go_num, by omega, by rw [HV1.out.2, ← HV1.out.1]; exact hown4, hT3.join hT4 (fun q hq _ c => by have := hlb _ c; omega), rfl⟩
            clear hown4 hgrow hat hT4 hlb f1 f2 f3 f4 HV1 hown3 hT3 e1 e2 e3 e4
            go_wp2
            go_roundw
            case measure => simp [intOf]; omega
            case rel => exact HX.out
        · have hie : i = ll := by omega
          have HX : Hid (∃ (o' : Value) (v' : Nat), o' = o ∧ (Value.int .i64 ((v : Int) + 1)) = .int .i64 v' ∧ v' ≤ n ∧ w3.ownsRow w1.heap.size 91 3 o' (Pu.labP D O v').length (Pu.rdVals (Pu.labP D O v')) ∧ Turns (fun _ => False) w1 w3) := by
            rw [hie, ← HLL.out, Pu.labT_all HO.out.1] at hown3
            exact ⟨o, v + 1, rfl, by go_num, by omega, hown3, hT3⟩
          have hiii : ¬ (i : Int) < (ll : Int) := by omega
          clear hown3 hT3 hie
          go_wp2
          go_roundw
          case measure => simp [intOf]; omega
          case rel => exact HX.out
    · have hve : v = n := by omega
      subst hve
      have hvi : ¬ (v : Int) < (v : Int) := by omega
      have HX : Hid (Turns (fun _ => False) w wr ∧ ∃ (D : Nat → Nat → Int) (v' : Value), Pu.Cov v len D O ∧ Ending.returned (.tuple #[o, .int .i64 0, .int .i64 0]) = .returned (.tuple #[v', .int .i64 0, .int .i64 0]) ∧ wr.ownsRow w.heap.size 91 3 v' (Pu.labP D O v).length (Pu.rdVals (Pu.labP D O v))) :=
        ⟨HT1.out.trans hTr, D, o, HC.out, rfl, owns_mono hown HT1.out.size⟩
      clear hown hTr
      go_wp2
      exact bodyPost_ret (v := .tuple #[o, .int .i64 0, .int .i64 0]) (by simp [results, Tryd.results31, go_sem]) rfl (by obtain ⟨h1, D, v', h2, h3, h4⟩ := HX.out; exact ⟨h1, D, h2, v', h3, h4⟩)

/-- The reference's Labels, of any text by any order. -/
theorem rlabs_any (x s : ByteArray) (w : World) (hx : x.size ≤ 2000000) (hs : s.size ≤ 2000000) : Calls Tryd.prog 31 #[.string x, .string s] w (RLabsPost w (Pu.parse x.data.toList) (Pu.orderOf s.data.toList)) := by
  have k := rlabd_any x s w hx hs
  cases hp : Pu.parse x.data.toList with
  | err c p =>
    rw [hp] at k
    have he := Pu.parse_err hp
    exact rlabs_err x s w c p (by simp; omega) k
  | ok n q len =>
    rw [hp] at k
    obtain ⟨hn1, hn2, _, _⟩ := Pu.parse_ok hp
    unfold RLabdPost at k
    unfold RLabsPost
    dsimp only at k ⊢
    cases ho : Pu.orderOf s.data.toList n len with
    | none => rw [ho] at k; exact rlabs_err x s w 4 0 (by decide) k
    | some O => rw [ho] at k; exact rlabs_ok x s w n len O hn1 hn2 k
#print axioms rlabs_any
end Go.Proofs.YtdogncjcainhlaaDoor
