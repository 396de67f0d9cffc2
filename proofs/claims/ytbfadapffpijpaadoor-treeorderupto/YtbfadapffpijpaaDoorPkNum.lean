/- What a reader's num does. -/
import Derived.Test.YtbfadapffpijpaaDoorPkRead
namespace Go.Proofs.YtbfadapffpijpaaDoor.Pk
open Go.RowKit

theorem get_list (s : ByteArray) (k : Nat) (h : k < s.size) : s.data.toList[k]? = some (s[k]'h) := by
  rw [List.getElem?_eq_getElem (by exact h)]; rfl
theorem ext_list (s : ByteArray) (a b : Nat) : (s.extract a b).data.toList = (s.data.toList.take b).drop a := by
  rw [ByteArray.data_extract, Array.toList_extract, List.extract_eq_take_drop, List.drop_take]
theorem ext_head (s : ByteArray) (n : Nat) : (s.extract 0 n).data.toList = s.data.toList.take n := by
  rw [ext_list, List.drop_zero]
theorem ext_tail (s : ByteArray) (n : Nat) : (s.extract n s.size).data.toList = s.data.toList.drop n := by
  rw [ext_list, List.take_of_length_le (show s.data.toList.length ≤ s.size from Nat.le_refl _)]

theorem ofInt_nat (m n : Nat) (h : n < 2 ^ m) : (BitVec.ofInt m (n : Int)).toNat = n := by
  rw [BitVec.ofInt_natCast, BitVec.toNat_ofNat, Nat.mod_eq_of_lt h]
theorem or_u64 (a b : Nat) (ha : a < 18446744073709551616) (hb : b < 18446744073709551616) : bits .or .u64 (a : Int) (b : Int) = ((a ||| b : Nat) : Int) := by
  show IntKind.u64.wrap ((BitVec.ofInt 64 (a : Int) ||| BitVec.ofInt 64 (b : Int)).toNat : Int) = _
  rw [BitVec.toNat_or, ofInt_nat 64 a ha, ofInt_nat 64 b hb, wrap_u64]
  have : a ||| b < 2 ^ 64 := Nat.or_lt_two_pow ha hb
  omega
theorem and_u8 (a b : Nat) (ha : a < 256) (hb : b < 256) : bits .and .u8 (a : Int) (b : Int) = ((a &&& b : Nat) : Int) := by
  show IntKind.u8.wrap ((BitVec.ofInt 8 (a : Int) &&& BitVec.ofInt 8 (b : Int)).toNat : Int) = _
  rw [BitVec.toNat_and, ofInt_nat 8 a ha, ofInt_nat 8 b hb, wrap_u8]
  have : a &&& b < 2 ^ 8 := Nat.and_lt_two_pow a hb
  omega
theorem and127 (y : UInt8) : bits .and .u8 (y.toNat : Int) 127 = ((y.toNat % 128 : Nat) : Int) := by
  have := and_u8 y.toNat 127 y.toNat_lt (by omega)
  rw [show (127 : Nat) = 2 ^ 7 - 1 from rfl, Nat.and_two_pow_sub_one_eq_mod] at this
  exact this
theorem num_step (a j : Nat) (y : UInt8) (r : Nat) (hr : r = a ||| ((y.toNat % 128) <<< (7 * j))) (h : r < 18446744073709551616) :
    bits .or .u64 (a : Int) (IntKind.u64.wrap (IntKind.u64.wrap (bits .and .u8 (y.toNat : Int) 127) * 2 ^ (7 * j))) = (r : Int) := by
  have h1 : (y.toNat % 128) <<< (7 * j) ≤ r := by rw [hr]; exact Nat.right_le_or
  have h2 : a ≤ r := by rw [hr]; exact Nat.left_le_or
  rw [and127, wrap_u64, wrap_u64]
  have e1 : ((y.toNat % 128 : Nat) : Int) % 18446744073709551616 = ((y.toNat % 128 : Nat) : Int) := by omega
  have e2 : ((y.toNat % 128 : Nat) : Int) * 2 ^ (7 * j) = (((y.toNat % 128) <<< (7 * j) : Nat) : Int) := by
    rw [Nat.shiftLeft_eq]; simp
  rw [e1, e2]
  clear e1 e2
  generalize (y.toNat % 128) <<< (7 * j) = q at *
  have e3 : (q : Int) % 18446744073709551616 = (q : Int) := by omega
  rw [e3, or_u64 _ _ (by omega) (by omega), hr]

/-- What num leaves. -/
def NumP (b : Nat) (s : ByteArray) (e : Int) (w : World) (x : Ending) (w' : World) : Prop :=
  x = .returned (.tuple #[.int .u64 (numV s.data.toList : Int), .int .i64 (numE s.data.toList)]) ∧
    (∃ s', Rd w' b s' e ∧ s'.size ≤ s.size ∧ (numE s.data.toList = 0 → s' = s.extract (lead s.data.toList + 1) s.size)) ∧ Upd b w w'

end Go.Proofs.YtbfadapffpijpaaDoor.Pk
