/- A ring read out of bytes, in plain words. -/
import Derived.Test.YthmnjebmnocoiaaGreatYP2
import Derived.Test.YthmnjebmnocoiaaGreatYP1
import Derived.Test.YthmnjebmnocoiaaGreatYP3
import Derived.Test.YthmnjebmnocoiaaGreatYA1
namespace Go.Proofs.YthmnjebmnocoiaaGreat.Rd
open Go.RowKit

abbrev St := ByteArray × Int
def rdN (st : St) : Nat × St := if st.2 = 0 then (Pk.nV st.1, (Pk.restR (Pk.nE st.1) (Pk.nR st.1), Pk.nE st.1)) else (0, st)
def rdI (st : St) : Int × St := (Pk.intV (rdN st).1, (rdN st).2)
def rdM (st : St) : Mb × St := (((rdI st).1, (rdI (rdI st).2).1, (rdN (rdI (rdI st).2).2).1), (rdN (rdI (rdI st).2).2).2)
def rdO (st : St) : Ow × St := (((rdI st).1, (rdN (rdI st).2).1), (rdN (rdI st).2).2)
def rdMs : Nat → St → List Mb × St
  | 0, st => ([], st)
  | k + 1, st => ((rdMs k st).1 ++ [(rdM (rdMs k st).2).1], (rdM (rdMs k st).2).2)
def rdOs : Nat → St → List Ow × St
  | 0, st => ([], st)
  | k + 1, st => ((rdOs k st).1 ++ [(rdO (rdOs k st).2).1], (rdO (rdOs k st).2).2)
def rdMany (s : ByteArray) : St := (Pk.restR (Pk.manyE s 3) (Pk.nR s), Pk.manyE s 3)
def rdA (s : ByteArray) : List Mb × St := rdMs (Pk.mnV s 3) (rdMany s)
def rdB (s : ByteArray) : List Ow × St := rdOs 8 (rdA s).2
def readR (s : ByteArray) : Rg := ((rdA s).1, (rdB s).1)

end Go.Proofs.YthmnjebmnocoiaaGreat.Rd
