/- Two texts that differ in one byte have different checks. -/
import Derived.Test.YtlbdlipdhhpgmaaCheck
namespace Go.Proofs.Ytlbdlipdhhpgmaa

theorem mask_bit (b : Bool) : ((-(BitVec.ofBool b).zeroExtend 32) &&& 3988292384#32) = if b then 3988292384#32 else 0#32 := by
  cases b <;> decide
theorem low_bit (c : BitVec 32) : (c &&& 1#32) = (BitVec.ofBool (c.getLsbD 0)).zeroExtend 32 := by
  apply BitVec.eq_of_getLsbD_eq
  intro i hi
  rw [BitVec.getLsbD_and]
  by_cases h0 : i = 0
  · subst h0
    simp
  · simp [BitVec.getLsbD_ofBool, h0]
theorem crc1_eq (c : BitVec 32) : crc1 c = (c >>> 1) ^^^ (if c.getLsbD 0 then 3988292384#32 else 0#32) := by
  rw [crc1, low_bit, mask_bit]
theorem crc1_top (c : BitVec 32) : (crc1 c).getLsbD 31 = c.getLsbD 0 := by
  rw [crc1_eq, BitVec.getLsbD_xor, BitVec.getLsbD_ushiftRight]
  have h : c.getLsbD (1 + 31) = false := BitVec.getLsbD_of_ge c _ (by decide)
  rw [h]
  cases c.getLsbD 0 <;> decide
theorem crc1_inj {c d : BitVec 32} (h : crc1 c = crc1 d) : c = d := by
  have h0 : c.getLsbD 0 = d.getLsbD 0 := by rw [← crc1_top, ← crc1_top, h]
  have h1 : c >>> 1 = d >>> 1 := by
    rw [crc1_eq, crc1_eq, h0] at h
    generalize (if d.getLsbD 0 = true then 3988292384#32 else 0#32) = m at h
    have := congrArg (· ^^^ m) h
    simpa [BitVec.xor_assoc] using this
  apply BitVec.eq_of_getLsbD_eq
  intro i hi
  cases i with
  | zero => exact h0
  | succ i =>
    have := congrArg (fun x => BitVec.getLsbD x i) h1
    simp only [BitVec.getLsbD_ushiftRight] at this
    rw [Nat.add_comm]
    exact this
theorem crcN_inj : ∀ (k : Nat) {c d : BitVec 32}, crcN k c = crcN k d → c = d
  | 0, _, _, h => h
  | k + 1, _, _, h => crcN_inj k (crc1_inj h)
theorem crc8_left {c d : BitVec 32} (b : UInt8) (h : crc8 c b = crc8 d b) : c = d := by
  have := crcN_inj 8 h
  have := congrArg (· ^^^ BitVec.ofNat 32 b.toNat) this
  simpa [BitVec.xor_assoc] using this
theorem crc8_right {c : BitVec 32} {a b : UInt8} (h : crc8 c a = crc8 c b) : a = b := by
  have h := crcN_inj 8 h
  have h2 := congrArg (c ^^^ ·) h
  simp only [← BitVec.xor_assoc, BitVec.xor_self, BitVec.zero_xor] at h2
  have h3 := congrArg BitVec.toNat h2
  rw [BitVec.toNat_ofNat, BitVec.toNat_ofNat] at h3
  have ha := a.toNat_lt
  have hb := b.toNat_lt
  exact UInt8.toNat_inj.1 (by omega)
theorem fold_left (l : List UInt8) : ∀ {c d : BitVec 32}, l.foldl crc8 c = l.foldl crc8 d → c = d := by
  induction l with
  | nil => intro c d h; exact h
  | cons x r ih => intro c d h; exact crc8_left x (ih h)
/-- One byte turned: another check. -/
theorem crc_turn (p : List UInt8) (a b : UInt8) (q : List UInt8) (h : a ≠ b) : crc (p ++ a :: q) ≠ crc (p ++ b :: q) := fun e => by
  unfold crc at e
  have e := congrArg (~~~ ·) e
  simp only [BitVec.not_not] at e
  rw [List.foldl_append, List.foldl_append, List.foldl_cons, List.foldl_cons] at e
  exact h (crc8_right (fold_left q e))
theorem four_inj {c d : BitVec 32} (h : four c = four d) : c = d := by
  unfold four at h
  simp only [List.cons.injEq, and_true] at h
  obtain ⟨h1, h2, h3, h4⟩ := h
  have f : ∀ m n : Nat, UInt8.ofNat m = UInt8.ofNat n → m % 256 = n % 256 := fun m n e => by
    have := congrArg UInt8.toNat e
    rwa [UInt8.toNat_ofNat', UInt8.toNat_ofNat'] at this
  have g1 := f _ _ h1
  have g2 := f _ _ h2
  have g3 := f _ _ h3
  have g4 := f _ _ h4
  have hc := c.isLt
  have hd := d.isLt
  apply BitVec.eq_of_toNat_eq
  omega
theorem four_length (c : BitVec 32) : (four c).length = 4 := rfl
end Go.Proofs.Ytlbdlipdhhpgmaa
