/- CaskTurned's card: its closed facts. -/
import Derived.SevenTiedAt
import Derived.Test.YtfmmholkeadejaaGreatDoorCards
namespace Go.Proofs.YtfmmholkeadejaaGreatDoor
open Go
set_option maxHeartbeats 40000000
set_option maxRecDepth 100000
theorem caskTurned_wf : Rows.caskTurnedRow.wfByText (OpenSpec.ofChange Rows.caskTurnedSpec) = true := by kernel_rfl
theorem caskTurned_named : Tryz.prog.funcNamed "murmuration/murmurationlaw04.CaskTurned" = some 5 := by kernel_rfl
theorem caskTurned_goes : false = Rows.caskTurnedRow.goesBy Tryz.pinned.checked.prog := by kernel_rfl
end Go.Proofs.YtfmmholkeadejaaGreatDoor
