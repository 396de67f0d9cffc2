/- SquashTwo's card: its closed facts. -/
import Derived.SevenTiedAt
import Derived.Test.YtfmmholkeadejaaGreatDoorCards
namespace Go.Proofs.YtfmmholkeadejaaGreatDoor
open Go
set_option maxHeartbeats 40000000
set_option maxRecDepth 100000
theorem squashTwo_wf : Rows.squashTwoRow.wfByText (OpenSpec.ofChange Rows.squashTwoSpec) = true := by kernel_rfl
theorem squashTwo_named : Tryz.prog.funcNamed "murmuration/murmurationlaw05.SquashTwo" = some 10 := by kernel_rfl
theorem squashTwo_goes : false = Rows.squashTwoRow.goesBy Tryz.pinned.checked.prog := by kernel_rfl
end Go.Proofs.YtfmmholkeadejaaGreatDoor
