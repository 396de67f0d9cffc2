/- CaskTwo's card: its closed facts. -/
import Derived.SevenTiedAt
import Derived.Test.YtfmmholkeadejaaGreatDoorCards
namespace Go.Proofs.YtfmmholkeadejaaGreatDoor
open Go
set_option maxHeartbeats 40000000
set_option maxRecDepth 100000
theorem caskTwo_wf : Rows.caskTwoRow.wfByText (OpenSpec.ofChange Rows.caskTwoSpec) = true := by kernel_rfl
theorem caskTwo_named : Tryz.prog.funcNamed "murmuration/murmurationlaw04.CaskTwo" = some 6 := by kernel_rfl
theorem caskTwo_goes : false = Rows.caskTwoRow.goesBy Tryz.pinned.checked.prog := by kernel_rfl
end Go.Proofs.YtfmmholkeadejaaGreatDoor
