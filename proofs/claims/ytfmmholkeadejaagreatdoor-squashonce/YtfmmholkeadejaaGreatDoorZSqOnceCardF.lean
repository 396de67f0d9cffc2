/- SquashOnce's card: its closed facts. -/
import Derived.SevenTiedAt
import Derived.Test.YtfmmholkeadejaaGreatDoorCards
namespace Go.Proofs.YtfmmholkeadejaaGreatDoor
open Go
set_option maxHeartbeats 40000000
set_option maxRecDepth 100000
theorem squashOnce_wf : Rows.squashOnceRow.wfByText (OpenSpec.ofChange Rows.squashOnceSpec) = true := by kernel_rfl
theorem squashOnce_named : Tryz.prog.funcNamed "murmuration/murmurationlaw05.SquashOnce" = some 11 := by kernel_rfl
theorem squashOnce_goes : false = Rows.squashOnceRow.goesBy Tryz.pinned.checked.prog := by kernel_rfl
end Go.Proofs.YtfmmholkeadejaaGreatDoor
