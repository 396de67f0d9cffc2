/- GsRdE, GsReads. -/
import Derived.Test.YthmnjebmnocoiaaGreatYB3
import Derived.Test.YthmnjebmnocoiaaGreatYGsAw
import Derived.Test.YthmnjebmnocoiaaGreatYGsSame
/- What the two Reads tell is one thing. -/
namespace Go.Proofs.YthmnjebmnocoiaaGreat.En
open Go.RowKit

theorem numL_same (n : Nat) : Pk.numL n = numL n := by
  induction n using Nat.strongRecOn with
  | ind n ih =>
    by_cases h : n < 128
    · rw [Pk.numL_small h, numL_small h]
    · rw [Pk.numL_big h, numL_big h, ih (n / 128) (by omega)]
theorem zig_same (n : Int) : Pk.zig n = intN n := by
  unfold Pk.zig intN
  split <;> split <;> omega
theorem memA_same (m : Mb) : memA m = memB m := by simp [memA, memB, numL_same, zig_same]
theorem ownA_same (m : Ow) : ownA m = ownB m := by simp [ownA, ownB, numL_same, zig_same]
theorem bytes_same (r : Rg) : bytesG r = bytesR r := by
  have h1 : memA = memB := funext memA_same
  have h2 : ownA = ownB := funext ownA_same
  unfold bytesG bytesR
  rw [h1, h2, numL_same]
end Go.Proofs.YthmnjebmnocoiaaGreat.En

/- GossipReads: the law. By tools/gen_greads.py. -/
namespace Go.Proofs.YthmnjebmnocoiaaGreat.En
open Go.RowKit
theorem eql9 (s t : ByteArray) (w : World) : (binOp .eql 9 (.string s) (.string t)).run Tryz.prog w = .ok (.bool (s.toList == t.toList)) w := by kernel_rfl
theorem guard9e (s t : ByteArray) (u v : Operand) (w : World) : (eqGuard .eql 9 u v (.string s) (.string t)).run Tryz.prog w = .ok () w := by kernel_rfl
end Go.Proofs.YthmnjebmnocoiaaGreat.En
