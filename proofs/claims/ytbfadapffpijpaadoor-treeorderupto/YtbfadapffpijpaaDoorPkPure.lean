/- The mathematics of package pack on lists of bytes: numbers there and back. -/
namespace Go.Proofs.YtbfadapffpijpaaDoor.Pk

/-- How many bytes at the head say that another one comes. -/
def lead : List UInt8 → Nat
  | [] => 0
  | x :: r => if 128 ≤ x.toNat then lead r + 1 else 0
theorem lead_le : ∀ l, lead l ≤ l.length
  | [] => Nat.le_refl _
  | x :: r => by
    rw [lead]
    have := lead_le r
    split <;> simp <;> omega
theorem lead_lt : ∀ (l : List UInt8) (k : Nat), k < lead l → ∃ x, l[k]? = some x ∧ 128 ≤ x.toNat
  | [], k, h => by simp [lead] at h
  | x :: r, k, h => by
    rw [lead] at h
    split at h
    · rename_i hx
      cases k with
      | zero => exact ⟨x, rfl, hx⟩
      | succ k => exact lead_lt r k (by omega)
    · omega
theorem lead_at : ∀ (l : List UInt8) (x : UInt8), l[lead l]? = some x → x.toNat < 128
  | [], x, h => by simp at h
  | y :: r, x, h => by
    rw [lead] at h
    split at h
    · exact lead_at r x (by simpa using h)
    · simp at h; subst h; omega

/-- Whether a number's bytes are as they may be. -/
def wellF (l : List UInt8) : Bool :=
  if 10 < l.length then false else if l.length = 10 then l.getLast? == some 1 else l.getLast? != some 0 || l.length == 1
theorem wellF_many {l : List UInt8} (h : 10 < l.length) : wellF l = false := by rw [wellF, if_pos h]
theorem wellF_ten {l : List UInt8} {x : UInt8} (h : l.length = 10) (hx : l.getLast? = some x) : wellF l = ((x.toNat : Int) == 1) := by
  rw [wellF, if_neg (by omega), if_pos h, hx, Bool.eq_iff_iff]
  simp only [beq_iff_eq, Option.some.injEq]
  constructor
  · rintro rfl; rfl
  · intro hq
    exact UInt8.toNat_inj.1 (by have : x.toNat = 1 := by omega
                                exact this)
theorem wellF_zero {l : List UInt8} {x : UInt8} (h : l.length < 10) (hx : l.getLast? = some x) (h0 : x.toNat = 0) : wellF l = ((l.length : Int) == 1) := by
  obtain rfl : x = 0 := UInt8.toNat_inj.1 h0
  rw [wellF, if_neg (by omega), if_neg (by omega), hx, Bool.eq_iff_iff]
  simp
  omega
theorem wellF_pos {l : List UInt8} {x : UInt8} (h : l.length < 10) (hx : l.getLast? = some x) (h0 : ¬ x.toNat = 0) : wellF l = true := by
  rw [wellF, if_neg (by omega), if_neg (by omega), hx]
  have : x ≠ 0 := fun e => h0 (by rw [e]; rfl)
  simp [this]
/-- The number that bytes say. -/
def valN : List UInt8 → Nat
  | [] => 0
  | x :: r => x.toNat % 128 + 128 * valN r
theorem valN_lt : ∀ l, valN l < 2 ^ (7 * l.length)
  | [] => by simp [valN]
  | x :: r => by
    have := valN_lt r
    rw [valN, List.length_cons, show 7 * (r.length + 1) = 7 * r.length + 7 by omega, Nat.pow_add]
    omega
theorem valN_snoc : ∀ (l : List UInt8) (x : UInt8), valN (l ++ [x]) = valN l + x.toNat % 128 * 2 ^ (7 * l.length)
  | [], x => by simp [valN]
  | y :: r, x => by
    rw [List.cons_append, valN, valN_snoc r x, valN, List.length_cons, show 7 * (r.length + 1) = 7 * r.length + 7 by omega, Nat.pow_add]
    have : x.toNat % 128 * (2 ^ (7 * r.length) * 2 ^ 7) = 128 * (x.toNat % 128 * 2 ^ (7 * r.length)) := by
      rw [← Nat.mul_assoc, Nat.mul_comm]
    rw [this, Nat.mul_add]; omega
/-- The bytes of the number with which a list begins, and what stands behind. -/
def numB (l : List UInt8) : List UInt8 := l.take (lead l + 1)
/-- The error that Num tells. -/
def numE (l : List UInt8) : Int := if lead l = l.length then 10 else if wellF (numB l) then 0 else 11
/-- The number that Num tells. -/
def numV (l : List UInt8) : Nat := if numE l = 0 then valN (numB l) else 0

theorem numE_ok {l : List UInt8} (h : numE l = 0) : lead l < l.length ∧ wellF (numB l) = true ∧ numV l = valN (numB l) := by
  have h1 := lead_le l
  refine ⟨?_, ?_, by rw [numV, if_pos h]⟩
  · unfold numE at h
    split at h
    · cases h
    · omega
  · unfold numE at h
    split at h
    · cases h
    · split at h
      · assumption
      · cases h
theorem numB_length {l : List UInt8} (h : lead l < l.length) : (numB l).length = lead l + 1 := by
  rw [numB, List.length_take]; omega
theorem numB_init {l : List UInt8} (k : Nat) (h : k < lead l) : ∃ x, (numB l)[k]? = some x ∧ 128 ≤ x.toNat := by
  obtain ⟨x, hx, h2⟩ := lead_lt l k h
  exact ⟨x, by rw [numB, List.getElem?_take_of_lt (by omega)]; exact hx, h2⟩
/-- The last byte of ten is 1: so the number is below 2^64. -/
theorem valN_well {l : List UInt8} (h : wellF l = true) : valN l < 18446744073709551616 := by
  unfold wellF at h
  split at h
  · cases h
  · split at h
    · rename_i h1 h2
      have h : l.getLast? = some 1 := by simpa using h
      obtain ⟨r, rfl⟩ := List.getLast?_eq_some_iff.1 h
      rw [valN_snoc]
      have hl : r.length = 9 := by simpa using h2
      have := valN_lt r
      rw [hl] at this ⊢
      have h1 : (1 : UInt8).toNat % 128 = 1 := by decide
      rw [h1]
      omega
    · rename_i h1 h2
      have := valN_lt l
      have h9 : 2 ^ (7 * l.length) ≤ 2 ^ 63 := Nat.pow_le_pow_right (by omega) (by omega)
      omega

theorem wellF_len {l : List UInt8} (h : wellF l = true) : l.length ≤ 10 := by
  unfold wellF at h
  split at h
  · cases h
  · omega
theorem valN_take_lt (l : List UInt8) (j : Nat) : valN (l.take j) ≤ valN l := by
  induction l generalizing j with
  | nil => simp
  | cons x r ih =>
    cases j with
    | zero => simp [valN]
    | succ j =>
      rw [List.take_succ_cons, valN, valN]
      have := ih j
      omega
/-- The step of the reading loop. -/
theorem valN_step (l : List UInt8) (j : Nat) (x : UInt8) (hx : l[j]? = some x) : valN (l.take (j + 1)) = valN (l.take j) ||| ((x.toNat % 128) <<< (7 * j)) := by
  have hj : j < l.length := (List.getElem?_eq_some_iff.1 hx).1
  have hl : (l.take j).length = j := by rw [List.length_take]; omega
  have h := valN_lt (l.take j)
  rw [hl] at h
  rw [List.take_add_one, hx]
  simp only [Option.toList_some]
  rw [valN_snoc, hl, Nat.or_comm, ← Nat.shiftLeft_add_eq_or_of_lt h, Nat.shiftLeft_eq]
  omega

/-- A number as bytes. -/
def numL (n : Nat) : List UInt8 := if n < 128 then [UInt8.ofNat n] else UInt8.ofNat (n % 128 + 128) :: numL (n / 128)
termination_by n
theorem numL_small {n : Nat} (h : n < 128) : numL n = [UInt8.ofNat n] := by rw [numL, if_pos h]
theorem numL_big {n : Nat} (h : ¬ n < 128) : numL n = UInt8.ofNat (n % 128 + 128) :: numL (n / 128) := by rw [numL, if_neg h]
theorem numL_len : ∀ (k n : Nat), n < 2 ^ (7 * (k + 1)) → (numL n).length ≤ k + 1
  | 0, n, h => by rw [numL_small (by omega)]; simp
  | k + 1, n, h => by
    by_cases hn : n < 128
    · rw [numL_small hn]; simp
    · rw [numL_big hn]
      have := numL_len k (n / 128) (by rw [show 7 * (k + 1 + 1) = 7 * (k + 1) + 7 by omega, Nat.pow_add] at h; omega)
      simp; omega
theorem numL_len10 (n : Nat) (h : n < 18446744073709551616) : (numL n).length ≤ 10 :=
  numL_len 9 n (Nat.lt_of_lt_of_le h (by decide))
end Go.Proofs.YtbfadapffpijpaaDoor.Pk
