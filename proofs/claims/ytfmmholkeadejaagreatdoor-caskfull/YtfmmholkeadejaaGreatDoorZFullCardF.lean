/- CaskFull's card: its closed facts. -/
import Derived.SevenTiedAt
import Derived.Test.YtfmmholkeadejaaGreatDoorCards
namespace Go.Proofs.YtfmmholkeadejaaGreatDoor
open Go
set_option maxHeartbeats 40000000
set_option maxRecDepth 100000
theorem caskFull_wf : Rows.caskFullRow.wfByText (OpenSpec.ofChange Rows.caskFullSpec) = true := by kernel_rfl
theorem caskFull_named : Tryz.prog.funcNamed "murmuration/murmurationlaw04.CaskFull" = some 8 := by kernel_rfl
theorem caskFull_goes : false = Rows.caskFullRow.goesBy Tryz.pinned.checked.prog := by kernel_rfl
end Go.Proofs.YtfmmholkeadejaaGreatDoor
