/- What was taken up of any bytes is laid down as the bytes that it took, kind by kind. -/
import Derived.Test.YtlbdlipdhhpgmaaPureB
import Derived.Test.YtlbdlipdhhpgmaaLaid
import Derived.Test.YtlbdlipdhhpgmaaTook
namespace Go.Proofs.Ytlbdlipdhhpgmaa
open Go.RowKit

theorem intV_fits (v : Nat) (h : v < 18446744073709551616) : -9223372036854775808 ≤ intV v ∧ intV v < 9223372036854775808 := by
  unfold intV
  split <;> omega
theorem zig_intV (v : Nat) : zig (intV v) = v := by
  unfold intV zig
  split <;> split <;> omega
theorem wrap_wrap (x : Int) (h : -9223372036854775808 ≤ x ∧ x < 9223372036854775808) : wrap64 (IntKind.u64.wrap x) = x := by
  rw [wrap_u64]
  unfold wrap64
  omega
theorem u64_nat (x : Int) : ∃ m : Nat, IntKind.u64.wrap x = (m : Int) ∧ m < 18446744073709551616 := by
  rw [wrap_u64]
  exact ⟨(x % 18446744073709551616).toNat, by omega, by omega⟩

theorem str_ext {a b : ByteArray} (h : a.data.toList = b.data.toList) : a = b := by
  obtain ⟨⟨x⟩⟩ := a
  obtain ⟨⟨y⟩⟩ := b
  have : x = y := h
  rw [this]
/-- The text s begins with the bytes bs, and R is what stands behind them. -/
def Parts (s : ByteArray) (bs : List UInt8) (R : ByteArray) : Prop := s.data.toList = bs ++ R.data.toList
theorem Parts.size {s R : ByteArray} {bs : List UInt8} (h : Parts s bs R) : s.size = bs.length + R.size := by
  have : s.data.toList.length = (bs ++ R.data.toList).length := by rw [h]
  rw [List.length_append] at this
  exact this
theorem Parts.head {s R : ByteArray} {bs : List UInt8} (h : Parts s bs R) : s.extract 0 bs.length = strL bs := by
  apply str_ext
  rw [ext_head, h, List.take_left]; rfl
theorem num_parts (s : ByteArray) (h : nE s = 0) : Parts s (numL (nV s)) (nR s) := by
  unfold Parts nR
  rw [num_one h, ext_tail, numB, List.take_append_drop]
theorem flag_parts (s : ByteArray) (h : fE s = 0) : Parts s (flagL (flV s)) (fR s) := by
  unfold Parts fR
  rw [ext_tail]
  have h0 : ¬ s.size = 0 := fun e => by rw [fE, if_pos e] at h; cases h
  have h1 : ¬ 1 < (s.data.toList.getD 0 0).toNat := fun e => by rw [fE, if_neg h0, if_pos e] at h; cases h
  rw [flV, if_pos h]
  unfold fV flagL
  have hl : s.data.toList.length = s.size := rfl
  cases hd : s.data.toList with
  | nil => rw [hd] at hl; simp at hl; omega
  | cons x r =>
    rw [hd] at h1
    simp at h1 ⊢
    by_cases hx : x.toNat = 1
    · rw [if_pos hx]
      exact UInt8.toNat_inj.1 hx
    · rw [if_neg hx]
      exact UInt8.toNat_inj.1 (by have : x.toNat = 0 := by omega
                                  exact this)
theorem text_parts (s : ByteArray) (h : textE s = 0) : Parts s (textL (txV s)) (textR s) ∧ (txV s).size = nV s := by
  have hE : nE s = 0 := by
    unfold textE at h
    split at h
    · assumption
    · exact h
  have hle : nV s ≤ (nR s).size := by
    unfold textE at h
    rw [if_pos hE] at h
    split at h
    · cases h
    · omega
  have hz : (txV s).size = nV s := by rw [txV, if_pos h, textV]; simp; omega
  refine ⟨?_, hz⟩
  have := num_parts s hE
  unfold Parts at this ⊢
  rw [this, textL, hz, txV, if_pos h, textV, textR, ext_head, ext_tail, List.append_assoc, List.take_append_drop]
end Go.Proofs.Ytlbdlipdhhpgmaa
