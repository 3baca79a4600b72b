/- The walk of byway.Read. -/
import Derived.Test.YtdogncjcainhlaaDoorCalls
namespace Go.Proofs.YtdogncjcainhlaaDoor
open Go.RowKit
open Mem

/-- What Read hands back. -/
def readV : Pu.Res → Value
  | .err c p => .tuple #[.int .i64 0, .int .i64 0, .int .i64 c, .int .i64 p]
  | .ok n k _ => .tuple #[.int .i64 n, .int .i64 k, .int .i64 0, .int .i64 0]

set_option maxRecDepth 1000000 in
set_option maxHeartbeats 400000 in
theorem read_any (s : ByteArray) (w : World) (hs : s.size ≤ maxLen) (hm : Ml w) :
    Calls Tryd.prog 14 #[.string s] w fun e w' => e = .returned (readV (Pu.parse s.data.toList)) ∧ Turns (fun _ => False) w w' := by
  have c := parseMap_any s w hs hm
  cases hp : Pu.parse s.data.toList with
  | err e p =>
    rw [hp] at c
    have he := Pu.parse_err hp
    have hne : (e != 0) = true := by simp; omega
    clear hp he
    go_enter Tryd.func14, Tryd.ntmps14
    go_wp2_with (go_at_call 28; refine c.mono ?_; rintro e w1 ⟨hT, rfl⟩)
    exact bodyPost_ret (v := .tuple #[.int .i64 0, .int .i64 0, .int .i64 e, .int .i64 p]) (by simp [results, Tryd.results14, go_sem]) rfl ⟨rfl, ‹_›⟩
  | ok n k len =>
    rw [hp] at c
    clear hp
    go_enter Tryd.func14, Tryd.ntmps14
    go_wp2_with fail
    refine c.mono ?_
    rintro e w1 ⟨hT, b, rfl, hb, hM⟩
    have h1 := hM.places
    have h2 := hM.roads
    clear c
    go_wp2
    go_quiet (fail)
    go_wp2
    exact bodyPost_ret (v := .tuple #[.int .i64 n, .int .i64 k, .int .i64 0, .int .i64 0]) (by simp [results, Tryd.results14, go_sem]) rfl ⟨rfl, hT.drewN _⟩
end Go.Proofs.YtdogncjcainhlaaDoor
