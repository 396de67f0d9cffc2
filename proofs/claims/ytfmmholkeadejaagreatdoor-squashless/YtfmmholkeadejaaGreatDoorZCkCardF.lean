/- The cards' closed facts that hang on no row. -/
import Derived.SevenTiedAt
import Derived.Test.YtfmmholkeadejaaGreatDoorCards
namespace Go.Proofs.YtfmmholkeadejaaGreatDoor
open Go
set_option maxHeartbeats 40000000
set_option maxRecDepth 100000
theorem seat_looks : true = Tryz.pinned.checked.prog.looks [] := by kernel_rfl
theorem seat_main : Tryz.pinned.checked.prog.mainIs = some (true, ("2182423058f21bf798e62ce16ceeb0f4266e2221f524ae0a03d06db815184073" : String).toList) := by kernel_rfl
theorem stand9 : Tryz.prog.wantsStandIn 9 = false := by kernel_rfl
theorem stand3 : Tryz.prog.wantsStandIn 3 = false := by kernel_rfl
theorem stand48 : Tryz.prog.wantsStandIn 48 = false := by kernel_rfl
theorem stand63 : Tryz.prog.wantsStandIn 63 = false := by kernel_rfl
theorem stand5 : Tryz.prog.wantsStandIn 5 = false := by kernel_rfl
theorem stand46 : Tryz.prog.wantsStandIn 46 = false := by kernel_rfl
end Go.Proofs.YtfmmholkeadejaaGreatDoor
