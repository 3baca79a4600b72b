/- The walk of byway.rankAndLabel, whatever the order. -/
import Derived.Test.YtdogncjcainhlaaGreatDoorByR
import Derived.Test.YtdogncjcainhlaaGreatDoorLabR
import Derived.Test.YtdogncjcainhlaaGreatDoorRLabd
namespace Go.Proofs.YtdogncjcainhlaaGreatDoor
open Go.RowKit Go.Deep
open Mem

set_option maxRecDepth 100000 in
set_option maxHeartbeats 1000000 in
/-- ranks.Parse of the empty text: the order by roads. -/
theorem rank_empty (s : ByteArray) (w : World) (b n : Nat) (R : Int) (len : Nat → Nat → Int) (hs : s.size = 0) (hn1 : 1 ≤ n) (hn : n ≤ 40) (hM : MapAt w b n R len) (N : Pu.Net n len) :
    Calls Tryz.prog 54 #[.pointer (some ⟨b, 0, none⟩), .string s] w (RankPost w n (some (Pu.ranked (fun v => Pu.rowCnt len v n) n))) := by
  have he := empty_of hs
  have c := byRoads_any w b n R len hn1 hn hM N
  generalize Pu.ranked (fun v => Pu.rowCnt len v n) n = O at *
  clear hM N
  go_enter Tryz.func54, Tryz.ntmps54
  go_wp2_with fail
  refine c.mono ?_
  rintro e w1 ⟨ob, rfl, hT, hO⟩
  have HX : Hid (RankPost w n (some O) (.returned (.tuple #[.slice (some ⟨ob, 0, none⟩) n n, .bool true])) w1) := ⟨hT, ob, n, rfl, hO, Nat.le_refl _⟩
  clear c hT hO
  go_wp2
  exact bodyPost_ret (v := .tuple #[.slice (some ⟨ob, 0, none⟩) n n, .bool true]) (by simp [results, Tryz.results54, go_sem]) rfl HX.out

/-- byway.rankAndLabel, of any text by any order. -/
theorem ral_any (x s : ByteArray) (w : World) (hx : x.size ≤ maxLen) (hm : Ml w) (hs : s.size ≤ 2000000) :
    Calls Tryz.prog 23 #[.string x, .string s] w (RalPost w (Pu.parse x.data.toList) (Pu.orderOf s.data.toList)) := by
  have e : s.data.toList.length = s.size := by simp
  cases hp : Pu.parse x.data.toList with
  | err c p => exact ral_err x s w _ hx hm c p hp
  | ok n q len =>
    obtain ⟨hn1, hn2, _, hN⟩ := Pu.parse_ok hp
    refine ral_ok x s w _ hx hm n q len hp (fun w1 b hT hM => ?_)
    unfold Pu.orderOf
    by_cases h : s.size = 0
    · rw [if_pos (by rw [e]; exact h)]
      exact rank_empty s w1 b n q len h hn1 hn2 hM hN
    · rw [if_neg (by rw [e]; exact h)]
      exact rank_any s w1 b n q len (by omega) hs hn1 hn2 hM (hm.turns hT (fun x => x))
end Go.Proofs.YtdogncjcainhlaaGreatDoor
