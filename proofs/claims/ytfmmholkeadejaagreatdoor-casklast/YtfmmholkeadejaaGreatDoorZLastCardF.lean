/- CaskLast's card: its closed facts. -/
import Derived.SevenTiedAt
import Derived.Test.YtfmmholkeadejaaGreatDoorCards
namespace Go.Proofs.YtfmmholkeadejaaGreatDoor
open Go
set_option maxHeartbeats 40000000
set_option maxRecDepth 100000
theorem caskLast_wf : Rows.caskLastRow.wfByText (OpenSpec.ofChange Rows.caskLastSpec) = true := by kernel_rfl
theorem caskLast_named : Tryz.prog.funcNamed "murmuration/murmurationlaw04.CaskLast" = some 7 := by kernel_rfl
theorem caskLast_goes : false = Rows.caskLastRow.goesBy Tryz.pinned.checked.prog := by kernel_rfl
end Go.Proofs.YtfmmholkeadejaaGreatDoor
