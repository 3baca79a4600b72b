/- The walk of byway.Labels, whatever the order. -/
import Derived.Test.YtlfkmagomjchfaaDoorByR
import Derived.Test.YtlfkmagomjchfaaDoorLabC
import Derived.Test.YtlfkmagomjchfaaDoorRLabs
namespace Go.Proofs.YtlfkmagomjchfaaDoor
open Go.RowKit Go.Deep
open Mem

set_option maxRecDepth 100000 in
set_option maxHeartbeats 1000000 in
/-- ranks.Parse of the empty text: the order by roads. -/
theorem rank_empty (s : ByteArray) (w : World) (b n : Nat) (R : Int) (len : Nat → Nat → Int) (hs : s.size = 0) (hn1 : 1 ≤ n) (hn : n ≤ 40) (hM : MapAt w b n R len) (N : Pu.Net n len) :
    Calls Tryd.prog 43 #[.pointer (some ⟨b, 0, none⟩), .string s] w (RankPost w n (some (Pu.ranked (fun v => Pu.rowCnt len v n) n))) := by
  have he := empty_of hs
  have c := byRoads_any w b n R len hn1 hn hM N
  generalize Pu.ranked (fun v => Pu.rowCnt len v n) n = O at *
  clear hM N
  go_enter Tryd.func43, Tryd.ntmps43
  go_wp2_with fail
  refine c.mono ?_
  rintro e w1 ⟨ob, rfl, hT, hO⟩
  have HX : Hid (RankPost w n (some O) (.returned (.tuple #[.slice (some ⟨ob, 0, none⟩) n n, .bool true])) w1) := ⟨hT, ob, n, rfl, hO, Nat.le_refl _⟩
  clear c hT hO
  go_wp2
  exact bodyPost_ret (v := .tuple #[.slice (some ⟨ob, 0, none⟩) n n, .bool true]) (by simp [results, Tryd.results43, go_sem]) rfl HX.out

/-- byway.rankAndLabel, of any text by any order. -/
theorem ral_any (x s : ByteArray) (w : World) (hx : x.size ≤ maxLen) (hm : Ml w) (hs : s.size ≤ 2000000) :
    Calls Tryd.prog 31 #[.string x, .string s] w (RalPost w (Pu.parse x.data.toList) (Pu.orderOf s.data.toList)) := by
  have e : s.data.toList.length = s.size := by simp
  cases hp : Pu.parse x.data.toList with
  | err c p => exact ral_err x s w _ hx hm c p hp
  | ok n q len =>
    obtain ⟨hn1, hn2, _, hN⟩ := Pu.parse_ok hp
    refine ral_ok x s w _ hx hm n q len hp (fun w1 b hT hM => ?_)
    unfold Pu.orderOf
    by_cases h : s.size = 0
    · rw [if_pos (by rw [e]; exact h)]
      exact rank_empty s w1 b n q len h hn1 hn2 hM hN
    · rw [if_neg (by rw [e]; exact h)]
      exact rank_any s w1 b n q len (by omega) hs hn1 hn2 hM (hm.turns hT (fun x => x))
/-- byway.Labels, of any text by any order. -/
theorem labels_any (x s : ByteArray) (w : World) (hx : x.size ≤ maxLen) (hm : Ml w) (hs : s.size ≤ 2000000) :
    Calls Tryd.prog 17 #[.string x, .string s] w (LabPost w (Pu.parse x.data.toList) (Pu.orderOf s.data.toList)) := labels_of x s w _ _ (ral_any x s w hx hm hs)
#print axioms labels_any

namespace Pu
/-- How far it is settles the labels. -/
theorem labK_congr {D D' : Nat → Nat → Int} {O : List Nat} {n v : Nat} (hv : v < n) (hO : ∀ m ∈ O, m < n) (h : ∀ i j, i < n → j < n → D i j = D' i j) : ∀ k, labK D O v k = labK D' O v k
  | 0 => rfl
  | k + 1 => by
    rw [labK, labK, labK_congr hv hO h k]
    congr 1
    cases e : O[k]? with
    | none => rfl
    | some y =>
      have hy := hO y (List.mem_of_getElem? e)
      have hh : isHub D v y (O.take k) = isHub D' v y (O.take k) := by
        rw [Bool.eq_iff_iff, isHub_iff, isHub_iff, h v y hv hy]
        refine and_congr_right (fun _ => forall_congr' fun m => forall_congr' fun hm => ?_)
        have hm' := hO m (List.mem_of_mem_take hm)
        rw [lies_no, lies_no, h v m hv hm', h m y hm' hy, h v y hv hy]
      simp only [hh, h v y hv hy]
theorem labP_congr {D D' : Nat → Nat → Int} {O : List Nat} {n : Nat} (hO : ∀ m ∈ O, m < n) (h : ∀ i j, i < n → j < n → D i j = D' i j) : ∀ p, p ≤ n → labP D O p = labP D' O p
  | 0, _ => rfl
  | p + 1, hp => by rw [labP, labP, labP_congr hO h p (by omega), labK_congr (by omega) hO h]
end Pu
end Go.Proofs.YtlfkmagomjchfaaDoor
