/- The walk of the law's own num. -/
import Derived.Test.YtdogncjcainhlaaDoorPlain
import Derived.Test.YtdogncjcainhlaaDoorProg
import Derived.WalkSpells
namespace Go.Proofs.YtdogncjcainhlaaDoor
open Go.RowKit
open Mem

set_option maxHeartbeats 400000 in
theorem num_any (c : Int) (w : World) : Calls Tryd.prog 24 #[.int .i64 c] w fun e w' => e = .returned (.int .i64 c) ∧ w' = w := by
  go_enter Tryd.func24, Tryd.ntmps24
  go_wp2
  go_ret
  exact ⟨rfl, rfl⟩
end Go.Proofs.YtdogncjcainhlaaDoor
