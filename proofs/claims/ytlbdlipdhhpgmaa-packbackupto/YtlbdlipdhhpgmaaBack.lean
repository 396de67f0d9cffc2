/- What was laid down is taken up again, kind by kind. -/
import Derived.Test.YtlbdlipdhhpgmaaTurn
namespace Go.Proofs.Ytlbdlipdhhpgmaa
open Go.RowKit

theorem intV_zig (x : Int) : intV (zig x) = x := by
  unfold zig intV
  split <;> split <;> omega
theorem back_int (u : ByteArray) (x : Int) (hx : -9223372036854775808 ≤ x ∧ x < 9223372036854775808) (r : List UInt8) (hu : u.data.toList = numL (zig x) ++ r) : nE u = 0 ∧ intV (nV u) = x ∧ (nR u).data.toList = r := by
  obtain ⟨h1, h2, h3⟩ := behind u (zig x) (zig_lt x hx) r hu
  exact ⟨h1, by rw [h2, intV_zig], h3⟩
theorem back_flag (u : ByteArray) (b : Bool) (r : List UInt8) (hu : u.data.toList = flagL b ++ r) : fE u = 0 ∧ flV u = b ∧ (fR u).data.toList = r := by
  have hz : u.size = (flagL b ++ r).length := by
    show u.data.toList.length = _
    rw [hu]
  have h0 : ¬ u.size = 0 := by rw [hz]; simp [flagL]
  have hE : fE u = 0 := by
    rw [fE, if_neg h0, hu]
    cases b <;> simp [flagL]
  refine ⟨hE, ?_, by rw [fR, ext_tail, hu]; rfl⟩
  rw [flV, if_pos hE, fV, hu]
  cases b <;> rfl
theorem back_text (u s : ByteArray) (hs : s.size < 18446744073709551616) (r : List UInt8) (hu : u.data.toList = textL s ++ r) : textE u = 0 ∧ txV u = s ∧ (textR u).data.toList = r := by
  rw [textL, List.append_assoc] at hu
  obtain ⟨h1, h2, h3⟩ := behind u s.size hs _ hu
  have hl : s.data.toList.length = s.size := rfl
  have hz : (nR u).size = s.size + r.length := by
    show (nR u).data.toList.length = _
    rw [h3, List.length_append, hl]
  have hE : textE u = 0 := by rw [textE, if_pos h1, h2, if_neg (by omega)]
  refine ⟨hE, ?_, ?_⟩
  · rw [txV, if_pos hE, textV, h2]
    apply str_ext
    rw [ext_head, h3, ← hl, List.take_left]
  · rw [textR, ext_tail, h2, h3, ← hl, List.drop_left]
theorem back_raw (u s : ByteArray) (r : List UInt8) (hu : u.data.toList = rawL s ++ r) : rawE u (s.size : Int) = 0 ∧ rwV u (s.size : Int) = s ∧ (rawR u (s.size : Int)).data.toList = r := by
  have hl : s.data.toList.length = s.size := rfl
  have hu : u.data.toList = s.data.toList ++ r := hu
  have hz : u.size = s.size + r.length := by
    show u.data.toList.length = _
    rw [hu, List.length_append, hl]
  have hE : rawE u (s.size : Int) = 0 := by rw [rawE, Int.toNat_natCast, if_neg (by omega)]
  refine ⟨hE, ?_, ?_⟩
  · rw [rwV, if_pos hE, rawV, Int.toNat_natCast]
    apply str_ext
    rw [ext_head, hu, ← hl, List.take_left]
  · rw [rawR, Int.toNat_natCast, ext_tail, hu, ← hl, List.drop_left]

theorem short_num (u : ByteArray) (n : Nat) (hn : n < 18446744073709551616) (j : Nat) (hj : j < (numL n).length) (hu : u.data.toList = (numL n).take j) : nE u = 10 := by
  obtain ⟨_, _, hc⟩ := lead_numL 9 n [] (Nat.lt_of_lt_of_le hn (by decide))
  unfold nE numE
  rw [hu, chain_cut _ hc j hj, if_pos (by rw [List.length_take]; omega)]
theorem short_flag (u : ByteArray) (b : Bool) (j : Nat) (hj : j < (flagL b).length) (hu : u.data.toList = (flagL b).take j) : fE u = 10 := by
  have h0 : j = 0 := by simp [flagL] at hj; omega
  subst h0
  have hz : u.size = 0 := by
    show u.data.toList.length = 0
    rw [hu]; rfl
  rw [fE, if_pos hz]
theorem short_text (u s : ByteArray) (hs : s.size < 18446744073709551616) (j : Nat) (hj : j < (textL s).length) (hu : u.data.toList = (textL s).take j) : textE u = 10 := by
  have hl : s.data.toList.length = s.size := rfl
  rw [textL, List.length_append, hl] at hj
  by_cases h : j < (numL s.size).length
  · rw [textL, List.take_append_of_le_length (by omega)] at hu
    have := short_num u s.size hs j h hu
    rw [textE, if_neg (by rw [this]; decide), this]
  · rw [textL, List.take_append, List.take_of_length_le (by omega)] at hu
    obtain ⟨h1, h2, h3⟩ := behind u s.size hs _ hu
    have hz : (nR u).size = j - (numL s.size).length := by
      show (nR u).data.toList.length = _
      rw [h3, List.length_take, hl]; omega
    rw [textE, if_pos h1, h2, hz, if_pos (by omega)]
theorem short_raw (u s : ByteArray) (j : Nat) (hj : j < s.size) (hu : u.data.toList = (rawL s).take j) : rawE u (s.size : Int) = 10 := by
  have hl : (rawL s).length = s.size := rfl
  have hz : u.size = j := by
    show u.data.toList.length = _
    rw [hu, List.length_take, hl]; omega
  rw [rawE, Int.toNat_natCast, hz, if_pos hj]
end Go.Proofs.Ytlbdlipdhhpgmaa
