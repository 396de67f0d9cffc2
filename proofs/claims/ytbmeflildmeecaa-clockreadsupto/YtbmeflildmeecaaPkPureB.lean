/- Numbers there and back, one way each, on lists of bytes. -/
import Derived.Test.YtbmeflildmeecaaPkPure
namespace Go.Proofs.Ytbmeflildmeecaa.Pk

theorem valN_pos : ∀ (l : List UInt8) (x : UInt8), l.getLast? = some x → x.toNat % 128 ≠ 0 → 0 < valN l
  | [], x, h, _ => by simp at h
  | [y], x, h, h0 => by
    simp at h; subst h
    rw [valN, valN]; omega
  | y :: z :: r, x, h, h0 => by
    have := valN_pos (z :: r) x (by rw [List.getLast?_cons_cons] at h; exact h) h0
    rw [valN]; omega
/-- Bytes that are a number: all but the last say that another one comes. -/
def Chain : List UInt8 → Prop
  | [] => False
  | [x] => x.toNat < 128
  | x :: y :: r => 128 ≤ x.toNat ∧ Chain (y :: r)
theorem numL_valN : ∀ (l : List UInt8) (x : UInt8), Chain l → l.getLast? = some x → (x.toNat ≠ 0 ∨ l.length = 1) → numL (valN l) = l
  | [], _, h, _, _ => h.elim
  | [y], x, h, _, _ => by
    have h : y.toNat < 128 := h
    rw [valN, valN, Nat.mul_zero, Nat.add_zero, Nat.mod_eq_of_lt h, numL_small h]
    simp
  | y :: z :: r, x, h, hx, h0 => by
    obtain ⟨hy, hc⟩ := h
    have hx' : (z :: r).getLast? = some x := by rw [List.getLast?_cons_cons] at hx; exact hx
    have hx0 : x.toNat ≠ 0 := by
      rcases h0 with h0 | h0
      · exact h0
      · simp at h0
    have hx128 : x.toNat < 128 := by
      have : ∀ (l : List UInt8) (x : UInt8), Chain l → l.getLast? = some x → x.toNat < 128 := fun l => by
        induction l with
        | nil => intro x h _; exact h.elim
        | cons a t ih =>
          intro x h hx
          cases t with
          | nil => simp at hx; subst hx; exact h
          | cons b t => rw [List.getLast?_cons_cons] at hx; exact ih x h.2 hx
      exact this _ x hc hx'
    have hp := valN_pos (z :: r) x hx' (by rw [Nat.mod_eq_of_lt hx128]; exact hx0)
    have ih := numL_valN (z :: r) x hc hx' (.inl hx0)
    rw [valN]
    generalize valN (z :: r) = v at *
    have hlt := y.toNat_lt
    rw [numL_big (by omega), show (y.toNat % 128 + 128 * v) / 128 = v by omega, ih, show (y.toNat % 128 + 128 * v) % 128 + 128 = y.toNat by omega]
    simp
theorem chain_numB : ∀ (l : List UInt8), lead l < l.length → Chain (numB l)
  | [], h => by simp at h
  | x :: r, h => by
    unfold numB
    rw [lead] at h ⊢
    by_cases hx : 128 ≤ x.toNat
    · rw [if_pos hx] at h ⊢
      rw [List.take_succ_cons]
      have ih := chain_numB r (by simpa using h)
      unfold numB at ih
      cases hr : r.take (lead r + 1) with
      | nil => rw [hr] at ih; exact ih.elim
      | cons y t => rw [hr] at ih; exact ⟨hx, ih⟩
    · rw [if_neg hx]
      show x.toNat < 128
      omega
/-- What was taken up is laid down as just the bytes that it took. -/
theorem num_one {l : List UInt8} (h : numE l = 0) : numL (numV l) = numB l := by
  obtain ⟨h1, h2, h3⟩ := numE_ok h
  rw [h3]
  have hl := numB_length h1
  have hne : numB l ≠ [] := fun e => by rw [e] at hl; simp at hl
  obtain ⟨x, hx⟩ : ∃ x, (numB l).getLast? = some x := ⟨_, List.getLast?_eq_some_getLast hne⟩
  refine numL_valN _ x (chain_numB l h1) hx ?_
  unfold wellF at h2
  split at h2
  · cases h2
  · split at h2
    · rw [hx] at h2
      left
      have : x = 1 := by simpa using h2
      rw [this]; decide
    · rw [hx] at h2
      by_cases hx0 : x = 0
      · right
        subst hx0
        simpa using h2
      · left
        exact fun e => hx0 (UInt8.toNat_inj.1 e)
theorem lead_numL : ∀ (k n : Nat) (r : List UInt8), n < 2 ^ (7 * (k + 1)) → lead (numL n ++ r) + 1 = (numL n).length ∧ valN (numL n) = n ∧ Chain (numL n)
  | k, n, r, h => by
    by_cases hn : n < 128
    · rw [numL_small hn]
      have e : (UInt8.ofNat n).toNat = n := by rw [UInt8.toNat_ofNat']; omega
      refine ⟨?_, ?_, ?_⟩
      · simp [lead]; omega
      · rw [valN, valN, e]; omega
      · show (UInt8.ofNat n).toNat < 128
        omega
    · cases k with
      | zero => omega
      | succ k =>
        have hd : n / 128 < 2 ^ (7 * (k + 1)) := by rw [show 7 * (k + 1 + 1) = 7 * (k + 1) + 7 by omega, Nat.pow_add] at h; omega
        obtain ⟨h1, h2, h3⟩ := lead_numL k (n / 128) r hd
        have e : (UInt8.ofNat (n % 128 + 128)).toNat = n % 128 + 128 := by rw [UInt8.toNat_ofNat']; omega
        rw [numL_big hn]
        refine ⟨?_, ?_, ?_⟩
        · rw [List.cons_append, lead, e, if_pos (by omega), h1]; simp
        · rw [valN, e, h2]; omega
        · cases hr : numL (n / 128) with
          | nil => rw [hr] at h3; exact h3.elim
          | cons y t =>
            rw [hr] at h3
            exact ⟨by rw [e]; omega, h3⟩
theorem last_numL : ∀ (k n : Nat), n < 2 ^ (7 * (k + 1)) → ∃ x, (numL n).getLast? = some x ∧ ((numL n).length = 1 ∨ x.toNat ≠ 0) ∧ ((numL n).length = k + 1 → x.toNat = n / 2 ^ (7 * k))
  | k, n, h => by
    by_cases hn : n < 128
    · rw [numL_small hn]
      have e : (UInt8.ofNat n).toNat = n := by rw [UInt8.toNat_ofNat']; omega
      refine ⟨UInt8.ofNat n, rfl, .inl rfl, fun hk => ?_⟩
      have : k = 0 := by simpa using hk.symm
      subst this
      rw [e]; simp
    · cases k with
      | zero => omega
      | succ k =>
        have hd : n / 128 < 2 ^ (7 * (k + 1)) := by rw [show 7 * (k + 1 + 1) = 7 * (k + 1) + 7 by omega, Nat.pow_add] at h; omega
        obtain ⟨x, h1, h2, h3⟩ := last_numL k (n / 128) hd
        rw [numL_big hn]
        have hne : numL (n / 128) ≠ [] := fun e => by rw [e] at h1; simp at h1
        refine ⟨x, ?_, .inr ?_, fun hk => ?_⟩
        · cases hr : numL (n / 128) with
          | nil => exact absurd hr hne
          | cons y t => rw [List.getLast?_cons_cons, ← hr]; exact h1
        · rcases h2 with h2 | h2
          · by_cases hs : n / 128 < 128
            · rw [numL_small hs] at h1
              simp at h1
              subst h1
              rw [UInt8.toNat_ofNat']; omega
            · rw [numL_big hs] at h2
              have : numL (n / 128 / 128) = [] := by simpa using h2
              have h4 : ∀ m, numL m ≠ [] := fun m e => by
                by_cases hm : m < 128
                · rw [numL_small hm] at e; simp at e
                · rw [numL_big hm] at e; simp at e
              exact absurd this (h4 _)
          · exact h2
        · rw [h3 (by simpa using hk), Nat.div_div_eq_div_mul, show 7 * (k + 1) = 7 + 7 * k by omega, Nat.pow_add]
theorem wellF_numL (n : Nat) (h : n < 18446744073709551616) : wellF (numL n) = true := by
  have hl := numL_len10 n h
  obtain ⟨x, hx, h1, h2⟩ := last_numL 9 n (Nat.lt_of_lt_of_le h (by decide))
  by_cases h10 : (numL n).length = 10
  · rw [wellF_ten h10 hx]
    have hq := h2 h10
    have hx0 : x.toNat ≠ 0 := by
      rcases h1 with h1 | h1
      · omega
      · exact h1
    have : x.toNat = 1 := by omega
    rw [this]; rfl
  · by_cases hx0 : x.toNat = 0
    · rw [wellF_zero (by omega) hx hx0]
      rcases h1 with h1 | h1
      · rw [h1]; rfl
      · exact absurd hx0 h1
    · exact wellF_pos (by omega) hx hx0
/-- What was laid down is taken up again. -/
theorem num_back (n : Nat) (h : n < 18446744073709551616) (r : List UInt8) : numE (numL n ++ r) = 0 ∧ numV (numL n ++ r) = n ∧ lead (numL n ++ r) + 1 = (numL n).length := by
  obtain ⟨h1, h2, h3⟩ := lead_numL 9 n r (Nat.lt_of_lt_of_le h (by decide))
  have hB : numB (numL n ++ r) = numL n := by
    rw [numB, h1, List.take_left]
  have hE : numE (numL n ++ r) = 0 := by
    rw [numE, if_neg (by rw [List.length_append]; omega), hB, wellF_numL n h]; rfl
  exact ⟨hE, by rw [numV, if_pos hE, hB, h2], h1⟩
end Go.Proofs.Ytbmeflildmeecaa.Pk
