/- The table of powers of ten: from the rows' premise on what it holds to what the walks read; and a start that meets it. -/
import Derived.Lib.LaidTab
import Derived.ProofKit
import Derived.LaidMore
import Derived.OpenShut
import Derived.Stop.Joined
import Derived.Test.YtfmmholkeadejaaGreatDoorRows
import Derived.Test.YtfmmholkeadejaaGreatDoorZC6
namespace Go.Proofs.YtfmmholkeadejaaGreatDoor
open Go.ChangeShapes Go.WideShapes Go.ChangeAt Go.WideMaps Go.WideElems Go.RowKit

theorem own : ownKnob Tryz.prog.godebug = none := by kernel_rfl
abbrev laid3 {H : Type} : List (String × DataW H) := [("math/bits.deBruijn32tab", Rows.laid_math_bits_deBruijn32tab), ("math/bits.deBruijn64tab", Rows.laid_math_bits_deBruijn64tab), ("internal/strconv.uint64pow10", Rows.laid_internal_strconv_uint64pow10)]
theorem pow_eq {H : Type} : (Rows.laid_internal_strconv_uint64pow10 : DataW H) = Lib.tabData .u64 Lib.pow10Tab := by kernel_rfl
theorem pow_ty : ∀ g, Tryz.prog.globalNamed "internal/strconv.uint64pow10" = some g → (Tryz.prog.globals[g]?).map (·.type) = some 240 := fun g h => by
  obtain rfl := Option.some.inj ((show Tryz.prog.globalNamed "internal/strconv.uint64pow10" = some 1 by kernel_rfl).symm.trans h)
  kernel_rfl
theorem und240 : Tryz.prog.underlying 240 = some (.array 20 68) := by kernel_rfl
theorem und68 : Tryz.prog.underlying 68 = some (.int .u64) := by kernel_rfl
theorem of_laid {W : World} (h : laidMetH Tryz.prog laid3 W) : Tab W.heap.size W := by
  rw [MakeChecks.laidMetH_plain _ _ _ (by kernel_rfl)] at h
  obtain ⟨ps, ⟨g0, t0, cs0, f0, p0, q0, hg0, ht0, hv0, hd0, ⟨g1, t1, cs1, f1, p1, q1, hg1, ht1, hv1, hd1, ⟨g2, t2, cs2, f2, p2, q2, hg2, ht2, hv2, hd2, _, _⟩, _⟩, _⟩, _, _⟩ := h
  obtain rfl := Option.some.inj ((pow_ty g2 hg2).symm.trans ht2)
  rw [pow_eq] at hd2
  have := Lib.cells_of_tab und240 und68 (by kernel_rfl) (by kernel_rfl) hd2
  refine Lib.tabBelow_of_tabIs ?_
  unfold Lib.TabIs
  rw [hv2, ← this]
/-- And in what comes behind. -/
theorem of_laidOn {W W' : World} (h : Tab W.heap.size W) (hb : Below W.heap.size W W') : Tab W'.heap.size W' := Lib.tabBelow_of_tabIs (h W' hb)
/-- A start that meets it: the heap that the program's own initialisers leave. -/
theorem door_met (os : Os) (args : Array Value) : laidMetH Tryz.prog laid3 ((World.doorLaid Tryz.prog 400 os).forCall (fun _ _ => 0) ⟨#[], args, []⟩).memory :=
  laidMetH_of_parts3 (fuel := 8) (laidMet_of_run' 8 (by kernel_rfl) (by kernel_rfl)) (by kernel_rfl) (by kernel_rfl)
end Go.Proofs.YtfmmholkeadejaaGreatDoor
