/- SquashLess's row: the closed facts of its cells, each by itself. -/
import Derived.JoinedOf
import Derived.Test.YtfmmholkeadejaaGreatDoorRows
import Derived.Test.YtfmmholkeadejaaGreatDoorZCkBand
namespace Go.Proofs.YtfmmholkeadejaaGreatDoor
open Go
set_option maxHeartbeats 40000000 in
set_option maxRecDepth 100000 in
theorem squashLess_facts : joinedFacts Tryz.prog 13 Tryz.f13 Rows.squashLessSpec Rows.squashLessRow = true := by
  unfold joinedFacts
  refine band (band (band (band (band (band (band (band (band (band (band (band (band (band (band (band (band (band (band (band (band (band (band (band (band (band (band (band (band (band (band ?_ ?_) ?_) ?_) ?_) ?_) ?_) ?_) ?_) ?_) ?_) ?_) ?_) ?_) ?_) ?_) ?_) ?_) ?_) ?_) ?_) ?_) ?_) ?_) ?_) ?_) ?_) ?_) ?_) ?_) ?_) ?_
  all_goals (as_aux_lemma => kernel_rfl)
end Go.Proofs.YtfmmholkeadejaaGreatDoor
