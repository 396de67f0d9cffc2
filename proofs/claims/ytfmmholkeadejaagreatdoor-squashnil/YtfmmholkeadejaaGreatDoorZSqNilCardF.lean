/- SquashNil's card: its closed facts. -/
import Derived.SevenTiedAt
import Derived.Test.YtfmmholkeadejaaGreatDoorCards
namespace Go.Proofs.YtfmmholkeadejaaGreatDoor
open Go
set_option maxHeartbeats 40000000
set_option maxRecDepth 100000
theorem squashNil_wf : Rows.squashNilRow.wfByText (OpenSpec.ofChange Rows.squashNilSpec) = true := by kernel_rfl
theorem squashNil_named : Tryz.prog.funcNamed "murmuration/murmurationlaw05.SquashNil" = some 9 := by kernel_rfl
theorem squashNil_goes : false = Rows.squashNilRow.goesBy Tryz.pinned.checked.prog := by kernel_rfl
end Go.Proofs.YtfmmholkeadejaaGreatDoor
