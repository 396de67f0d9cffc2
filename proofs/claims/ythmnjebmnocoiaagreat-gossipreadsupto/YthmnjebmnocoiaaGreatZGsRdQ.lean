/- A ring read out of bytes, in plain words. -/
import Derived.Test.YthmnjebmnocoiaaGreatZP2
import Derived.Test.YthmnjebmnocoiaaGreatZP1
import Derived.Test.YthmnjebmnocoiaaGreatZP3
import Derived.Test.YthmnjebmnocoiaaGreatZA1
namespace Go.Proofs.YthmnjebmnocoiaaGreat.Rd
open Go.RowKit

/-- A reader: the bytes that are left, and its error. -/
abbrev St := ByteArray × Int
def rdN (st : St) : Nat × St := if st.2 = 0 then (Pk.nV st.1, (Pk.restR (Pk.nE st.1) (Pk.nR st.1), Pk.nE st.1)) else (0, st)
def rdI (st : St) : Int × St := (Pk.intV (rdN st).1, (rdN st).2)
def rdM (st : St) : Mb × St := (((rdI st).1, (rdI (rdI st).2).1, (rdN (rdI (rdI st).2).2).1), (rdN (rdI (rdI st).2).2).2)
def rdO (st : St) : Ow × St := (((rdI st).1, (rdN (rdI st).2).1), (rdN (rdI st).2).2)
def rdMs : Nat → St → List Mb × St
  | 0, st => ([], st)
  | k + 1, st => ((rdMs k st).1 ++ [(rdM (rdMs k st).2).1], (rdM (rdMs k st).2).2)
def rdOs : Nat → St → List Ow × St
  | 0, st => ([], st)
  | k + 1, st => ((rdOs k st).1 ++ [(rdO (rdOs k st).2).1], (rdO (rdOs k st).2).2)
def rdMany (s : ByteArray) : St := (Pk.restR (Pk.manyE s 3) (Pk.nR s), Pk.manyE s 3)
def rdA (s : ByteArray) : List Mb × St := rdMs (Pk.mnV s 3) (rdMany s)
def rdB (s : ByteArray) : List Ow × St := rdOs 8 (rdA s).2
def readR (s : ByteArray) : Rg := ((rdA s).1, (rdB s).1)

theorem rdN_lt (st : St) : (rdN st).1 < 18446744073709551616 := by
  unfold rdN
  split
  · exact Pk.nV_lt _
  · exact Nat.zero_lt_succ _
theorem rdN_size (st : St) : (rdN st).2.1.size ≤ st.1.size := by
  unfold rdN
  split
  · show (Pk.restR _ _).size ≤ _
    unfold Pk.restR
    split
    · exact Pk.nR_size _
    · exact Nat.zero_le _
  · exact Nat.le_refl _
theorem rdI_size (st : St) : (rdI st).2.1.size ≤ st.1.size := rdN_size st
theorem rdM_size (st : St) : (rdM st).2.1.size ≤ st.1.size := Nat.le_trans (rdN_size _) (Nat.le_trans (rdI_size _) (rdI_size _))
theorem rdO_size (st : St) : (rdO st).2.1.size ≤ st.1.size := Nat.le_trans (rdN_size _) (rdI_size _)
theorem rdMs_len (k : Nat) (st : St) : (rdMs k st).1.length = k := by
  induction k with
  | zero => rfl
  | succ k ih => simp [rdMs, ih]
theorem rdOs_len (k : Nat) (st : St) : (rdOs k st).1.length = k := by
  induction k with
  | zero => rfl
  | succ k ih => simp [rdOs, ih]
theorem rdMs_size (k : Nat) (st : St) : (rdMs k st).2.1.size ≤ st.1.size := by
  induction k with
  | zero => exact Nat.le_refl _
  | succ k ih => exact Nat.le_trans (rdM_size _) ih
theorem rdOs_size (k : Nat) (st : St) : (rdOs k st).2.1.size ≤ st.1.size := by
  induction k with
  | zero => exact Nat.le_refl _
  | succ k ih => exact Nat.le_trans (rdO_size _) ih
theorem rdMs_fit (k : Nat) (st : St) : ∀ m ∈ (rdMs k st).1, m.2.2 < 18446744073709551616 := by
  induction k with
  | zero => intro m hm; cases hm
  | succ k ih =>
    intro m hm
    rw [rdMs] at hm
    rcases List.mem_append.1 hm with h | h
    · exact ih m h
    · rw [List.mem_singleton.1 h]; exact rdN_lt _
theorem rdOs_fit (k : Nat) (st : St) : ∀ m ∈ (rdOs k st).1, m.2 < 18446744073709551616 := by
  induction k with
  | zero => intro m hm; cases hm
  | succ k ih =>
    intro m hm
    rw [rdOs] at hm
    rcases List.mem_append.1 hm with h | h
    · exact ih m h
    · rw [List.mem_singleton.1 h]; exact rdN_lt _
theorem mnV_le (s : ByteArray) : 3 * Pk.mnV s 3 ≤ s.size := by
  unfold Pk.mnV
  split
  · rename_i h
    unfold Pk.manyE at h
    split at h
    · split at h
      · cases h
      · rename_i h2
        have := Pk.nR_size s
        have e : (max (3 : Int) 1).toNat = 3 := rfl
        rw [e] at h2
        omega
    · rename_i h3
      exact absurd h h3
  · exact Nat.zero_le _
theorem rdMany_size (s : ByteArray) : (rdMany s).1.size ≤ s.size := by
  show (Pk.restR _ _).size ≤ _
  unfold Pk.restR
  split
  · exact Pk.nR_size _
  · exact Nat.zero_le _

end Go.Proofs.YthmnjebmnocoiaaGreat.Rd
