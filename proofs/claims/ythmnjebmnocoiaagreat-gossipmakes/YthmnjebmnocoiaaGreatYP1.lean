/- PkPure, PkPureB, PkNum. -/
import Derived.Test.YthmnjebmnocoiaaGreatProg
import Derived.Test.YthmnjebmnocoiaaGreatYLaws
/- The mathematics of package pack on lists of bytes: numbers there and back. -/
namespace Go.Proofs.YthmnjebmnocoiaaGreat.Pk

def lead : List UInt8 → Nat
  | [] => 0
  | x :: r => if 128 ≤ x.toNat then lead r + 1 else 0
def wellF (l : List UInt8) : Bool :=
  if 10 < l.length then false else if l.length = 10 then l.getLast? == some 1 else l.getLast? != some 0 || l.length == 1
theorem wellF_ten {l : List UInt8} {x : UInt8} (h : l.length = 10) (hx : l.getLast? = some x) : wellF l = ((x.toNat : Int) == 1) := by
  rw [wellF, if_neg (by omega), if_pos h, hx, Bool.eq_iff_iff]
  simp only [beq_iff_eq, Option.some.injEq]
  constructor
  · rintro rfl; rfl
  · intro hq
    exact UInt8.toNat_inj.1 (by have : x.toNat = 1 := by omega
                                exact this)
theorem wellF_zero {l : List UInt8} {x : UInt8} (h : l.length < 10) (hx : l.getLast? = some x) (h0 : x.toNat = 0) : wellF l = ((l.length : Int) == 1) := by
  obtain rfl : x = 0 := UInt8.toNat_inj.1 h0
  rw [wellF, if_neg (by omega), if_neg (by omega), hx, Bool.eq_iff_iff]
  simp
  omega
theorem wellF_pos {l : List UInt8} {x : UInt8} (h : l.length < 10) (hx : l.getLast? = some x) (h0 : ¬ x.toNat = 0) : wellF l = true := by
  rw [wellF, if_neg (by omega), if_neg (by omega), hx]
  have : x ≠ 0 := fun e => h0 (by rw [e]; rfl)
  simp [this]
def valN : List UInt8 → Nat
  | [] => 0
  | x :: r => x.toNat % 128 + 128 * valN r
def numB (l : List UInt8) : List UInt8 := l.take (lead l + 1)
def numE (l : List UInt8) : Int := if lead l = l.length then 10 else if wellF (numB l) then 0 else 11
def numV (l : List UInt8) : Nat := if numE l = 0 then valN (numB l) else 0

def numL (n : Nat) : List UInt8 := if n < 128 then [UInt8.ofNat n] else UInt8.ofNat (n % 128 + 128) :: numL (n / 128)
termination_by n
theorem numL_small {n : Nat} (h : n < 128) : numL n = [UInt8.ofNat n] := by rw [numL, if_pos h]
theorem numL_big {n : Nat} (h : ¬ n < 128) : numL n = UInt8.ofNat (n % 128 + 128) :: numL (n / 128) := by rw [numL, if_neg h]
theorem numL_len : ∀ (k n : Nat), n < 2 ^ (7 * (k + 1)) → (numL n).length ≤ k + 1
  | 0, n, h => by rw [numL_small (by omega)]; simp
  | k + 1, n, h => by
    by_cases hn : n < 128
    · rw [numL_small hn]; simp
    · rw [numL_big hn]
      have := numL_len k (n / 128) (by rw [show 7 * (k + 1 + 1) = 7 * (k + 1) + 7 by omega, Nat.pow_add] at h; omega)
      simp; omega
theorem numL_len10 (n : Nat) (h : n < 18446744073709551616) : (numL n).length ≤ 10 :=
  numL_len 9 n (Nat.lt_of_lt_of_le h (by decide))
end Go.Proofs.YthmnjebmnocoiaaGreat.Pk

/- Numbers there and back, one way each, on lists of bytes. -/
namespace Go.Proofs.YthmnjebmnocoiaaGreat.Pk

def Chain : List UInt8 → Prop
  | [] => False
  | [x] => x.toNat < 128
  | x :: y :: r => 128 ≤ x.toNat ∧ Chain (y :: r)
theorem lead_numL : ∀ (k n : Nat) (r : List UInt8), n < 2 ^ (7 * (k + 1)) → lead (numL n ++ r) + 1 = (numL n).length ∧ valN (numL n) = n ∧ Chain (numL n)
  | k, n, r, h => by
    by_cases hn : n < 128
    · rw [numL_small hn]
      have e : (UInt8.ofNat n).toNat = n := by rw [UInt8.toNat_ofNat']; omega
      refine ⟨?_, ?_, ?_⟩
      · simp [lead]; omega
      · rw [valN, valN, e]; omega
      · show (UInt8.ofNat n).toNat < 128
        omega
    · cases k with
      | zero => omega
      | succ k =>
        have hd : n / 128 < 2 ^ (7 * (k + 1)) := by rw [show 7 * (k + 1 + 1) = 7 * (k + 1) + 7 by omega, Nat.pow_add] at h; omega
        obtain ⟨h1, h2, h3⟩ := lead_numL k (n / 128) r hd
        have e : (UInt8.ofNat (n % 128 + 128)).toNat = n % 128 + 128 := by rw [UInt8.toNat_ofNat']; omega
        rw [numL_big hn]
        refine ⟨?_, ?_, ?_⟩
        · rw [List.cons_append, lead, e, if_pos (by omega), h1]; simp
        · rw [valN, e, h2]; omega
        · cases hr : numL (n / 128) with
          | nil => rw [hr] at h3; exact h3.elim
          | cons y t =>
            rw [hr] at h3
            exact ⟨by rw [e]; omega, h3⟩
theorem last_numL : ∀ (k n : Nat), n < 2 ^ (7 * (k + 1)) → ∃ x, (numL n).getLast? = some x ∧ ((numL n).length = 1 ∨ x.toNat ≠ 0) ∧ ((numL n).length = k + 1 → x.toNat = n / 2 ^ (7 * k))
  | k, n, h => by
    by_cases hn : n < 128
    · rw [numL_small hn]
      have e : (UInt8.ofNat n).toNat = n := by rw [UInt8.toNat_ofNat']; omega
      refine ⟨UInt8.ofNat n, rfl, .inl rfl, fun hk => ?_⟩
      have : k = 0 := by simpa using hk.symm
      subst this
      rw [e]; simp
    · cases k with
      | zero => omega
      | succ k =>
        have hd : n / 128 < 2 ^ (7 * (k + 1)) := by rw [show 7 * (k + 1 + 1) = 7 * (k + 1) + 7 by omega, Nat.pow_add] at h; omega
        obtain ⟨x, h1, h2, h3⟩ := last_numL k (n / 128) hd
        rw [numL_big hn]
        have hne : numL (n / 128) ≠ [] := fun e => by rw [e] at h1; simp at h1
        refine ⟨x, ?_, .inr ?_, fun hk => ?_⟩
        · cases hr : numL (n / 128) with
          | nil => exact absurd hr hne
          | cons y t => rw [List.getLast?_cons_cons, ← hr]; exact h1
        · rcases h2 with h2 | h2
          · by_cases hs : n / 128 < 128
            · rw [numL_small hs] at h1
              simp at h1
              subst h1
              rw [UInt8.toNat_ofNat']; omega
            · rw [numL_big hs] at h2
              have : numL (n / 128 / 128) = [] := by simpa using h2
              have h4 : ∀ m, numL m ≠ [] := fun m e => by
                by_cases hm : m < 128
                · rw [numL_small hm] at e; simp at e
                · rw [numL_big hm] at e; simp at e
              exact absurd this (h4 _)
          · exact h2
        · rw [h3 (by simpa using hk), Nat.div_div_eq_div_mul, show 7 * (k + 1) = 7 + 7 * k by omega, Nat.pow_add]
theorem wellF_numL (n : Nat) (h : n < 18446744073709551616) : wellF (numL n) = true := by
  have hl := numL_len10 n h
  obtain ⟨x, hx, h1, h2⟩ := last_numL 9 n (Nat.lt_of_lt_of_le h (by decide))
  by_cases h10 : (numL n).length = 10
  · rw [wellF_ten h10 hx]
    have hq := h2 h10
    have hx0 : x.toNat ≠ 0 := by
      rcases h1 with h1 | h1
      · omega
      · exact h1
    have : x.toNat = 1 := by omega
    rw [this]; rfl
  · by_cases hx0 : x.toNat = 0
    · rw [wellF_zero (by omega) hx hx0]
      rcases h1 with h1 | h1
      · rw [h1]; rfl
      · exact absurd hx0 h1
    · exact wellF_pos (by omega) hx hx0
theorem num_back (n : Nat) (h : n < 18446744073709551616) (r : List UInt8) : numE (numL n ++ r) = 0 ∧ numV (numL n ++ r) = n ∧ lead (numL n ++ r) + 1 = (numL n).length := by
  obtain ⟨h1, h2, h3⟩ := lead_numL 9 n r (Nat.lt_of_lt_of_le h (by decide))
  have hB : numB (numL n ++ r) = numL n := by
    rw [numB, h1, List.take_left]
  have hE : numE (numL n ++ r) = 0 := by
    rw [numE, if_neg (by rw [List.length_append]; omega), hB, wellF_numL n h]; rfl
  exact ⟨hE, by rw [numV, if_pos hE, hB, h2], h1⟩
end Go.Proofs.YthmnjebmnocoiaaGreat.Pk

/- What a reader's num does. -/
namespace Go.Proofs.YthmnjebmnocoiaaGreat.Pk
open Go.RowKit

theorem ext_list (s : ByteArray) (a b : Nat) : (s.extract a b).data.toList = (s.data.toList.take b).drop a := by
  rw [ByteArray.data_extract, Array.toList_extract, List.extract_eq_take_drop, List.drop_take]
theorem ext_tail (s : ByteArray) (n : Nat) : (s.extract n s.size).data.toList = s.data.toList.drop n := by
  rw [ext_list, List.take_of_length_le (show s.data.toList.length ≤ s.size from Nat.le_refl _)]

theorem ofInt_nat (m n : Nat) (h : n < 2 ^ m) : (BitVec.ofInt m (n : Int)).toNat = n := by
  rw [BitVec.ofInt_natCast, BitVec.toNat_ofNat, Nat.mod_eq_of_lt h]
end Go.Proofs.YthmnjebmnocoiaaGreat.Pk
