/- CaskNil's card: its closed facts. -/
import Derived.SevenTiedAt
import Derived.Test.YtfmmholkeadejaaGreatDoorCards
namespace Go.Proofs.YtfmmholkeadejaaGreatDoor
open Go
set_option maxHeartbeats 40000000
set_option maxRecDepth 100000
theorem caskNil_wf : Rows.caskNilRow.wfByText (OpenSpec.ofChange Rows.caskNilSpec) = true := by kernel_rfl
theorem caskNil_named : Tryz.prog.funcNamed "murmuration/murmurationlaw04.CaskNil" = some 3 := by kernel_rfl
theorem caskNil_goes : false = Rows.caskNilRow.goesBy Tryz.pinned.checked.prog := by kernel_rfl
end Go.Proofs.YtfmmholkeadejaaGreatDoor
