/- PkTake, PkKinds. -/
import Derived.Test.YthmnjebmnocoiaaGreatYP1
/- What take does with each kind of reading, and the exported readings by them. -/
namespace Go.Proofs.YthmnjebmnocoiaaGreat.Pk
open Go.RowKit

def restR (E : Int) (R : ByteArray) : ByteArray := if E = 0 then R else ⟨#[]⟩
end Go.Proofs.YthmnjebmnocoiaaGreat.Pk

/- What a reader's integer, flag, text, raw and many do. -/
namespace Go.Proofs.YthmnjebmnocoiaaGreat.Pk
open Go.RowKit

abbrev nE (s : ByteArray) : Int := numE s.data.toList
abbrev nV (s : ByteArray) : Nat := numV s.data.toList
def nR (s : ByteArray) : ByteArray := s.extract (lead s.data.toList + 1) s.size
theorem wrap_i64 (n : Int) : IntKind.i64.wrap n = (n + 9223372036854775808) % 18446744073709551616 - 9223372036854775808 := by
  simp [IntKind.wrap, IntKind.bits, IntKind.signed]
  split <;> omega
def intV (n : Nat) : Int := if n % 2 = 1 then -((n / 2 : Nat) : Int) - 1 else ((n / 2 : Nat) : Int)

def manyE (s : ByteArray) (k : Int) : Int := if nE s = 0 then (if (nR s).size / (max k 1).toNat < nV s then 10 else 0) else nE s
def mnV (s : ByteArray) (n : Int) : Nat := if manyE s n = 0 then nV s else 0
end Go.Proofs.YthmnjebmnocoiaaGreat.Pk
