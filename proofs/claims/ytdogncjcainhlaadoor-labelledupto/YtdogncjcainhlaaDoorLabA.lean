/- The walk of byway.Labels, whatever the order. -/
import Derived.Test.YtdogncjcainhlaaDoorLabB
import Derived.Test.YtdogncjcainhlaaDoorLabC
import Derived.Test.YtdogncjcainhlaaDoorRLabs
namespace Go.Proofs.YtdogncjcainhlaaDoor
open Go.RowKit Go.Deep
open Mem

/-- byway.Labels, of any text by any order. -/
theorem labels_any (x s : ByteArray) (w : World) (hx : x.size ≤ maxLen) (hm : Ml w) (hs : s.size ≤ 2000000) :
    Calls Tryd.prog 18 #[.string x, .string s] w (LabPost w (Pu.parse x.data.toList) (Pu.orderOf s.data.toList)) := labels_of x s w _ _ (ral_any x s w hx hm hs)
#print axioms labels_any

namespace Pu
/-- How far it is settles the labels. -/
theorem labK_congr {D D' : Nat → Nat → Int} {O : List Nat} {n v : Nat} (hv : v < n) (hO : ∀ m ∈ O, m < n) (h : ∀ i j, i < n → j < n → D i j = D' i j) : ∀ k, labK D O v k = labK D' O v k
  | 0 => rfl
  | k + 1 => by
    rw [labK, labK, labK_congr hv hO h k]
    congr 1
    cases e : O[k]? with
    | none => rfl
    | some y =>
      have hy := hO y (List.mem_of_getElem? e)
      have hh : isHub D v y (O.take k) = isHub D' v y (O.take k) := by
        rw [Bool.eq_iff_iff, isHub_iff, isHub_iff, h v y hv hy]
        refine and_congr_right (fun _ => forall_congr' fun m => forall_congr' fun hm => ?_)
        have hm' := hO m (List.mem_of_mem_take hm)
        rw [lies_no, lies_no, h v m hv hm', h m y hm' hy, h v y hv hy]
      simp only [hh, h v y hv hy]
theorem labP_congr {D D' : Nat → Nat → Int} {O : List Nat} {n : Nat} (hO : ∀ m ∈ O, m < n) (h : ∀ i j, i < n → j < n → D i j = D' i j) : ∀ p, p ≤ n → labP D O p = labP D' O p
  | 0, _ => rfl
  | p + 1, hp => by rw [labP, labP, labP_congr hO h p (by omega), labK_congr (by omega) hO h]
end Pu
end Go.Proofs.YtdogncjcainhlaaDoor
