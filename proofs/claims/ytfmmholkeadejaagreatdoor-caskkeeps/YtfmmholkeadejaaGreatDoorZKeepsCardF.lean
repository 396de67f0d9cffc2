/- CaskKeeps's card: its closed facts. -/
import Derived.SevenTiedAt
import Derived.Test.YtfmmholkeadejaaGreatDoorCards
namespace Go.Proofs.YtfmmholkeadejaaGreatDoor
open Go
set_option maxHeartbeats 40000000
set_option maxRecDepth 100000
theorem caskKeeps_wf : Rows.caskKeepsRow.wfByText (OpenSpec.ofChange Rows.caskKeepsSpec) = true := by kernel_rfl
theorem caskKeeps_named : Tryz.prog.funcNamed "murmuration/murmurationlaw04.CaskKeeps" = some 4 := by kernel_rfl
theorem caskKeeps_goes : false = Rows.caskKeepsRow.goesBy Tryz.pinned.checked.prog := by kernel_rfl
end Go.Proofs.YtfmmholkeadejaaGreatDoor
