/- SquashLess's card: its closed facts. -/
import Derived.SevenTiedAt
import Derived.Test.YtfmmholkeadejaaGreatDoorCards
namespace Go.Proofs.YtfmmholkeadejaaGreatDoor
open Go
set_option maxHeartbeats 40000000
set_option maxRecDepth 100000
theorem squashLess_wf : Rows.squashLessRow.wfByText (OpenSpec.ofChange Rows.squashLessSpec) = true := by kernel_rfl
theorem squashLess_named : Tryz.prog.funcNamed "murmuration/murmurationlaw05.SquashLess" = some 13 := by kernel_rfl
theorem squashLess_goes : false = Rows.squashLessRow.goesBy Tryz.pinned.checked.prog := by kernel_rfl
end Go.Proofs.YtfmmholkeadejaaGreatDoor
