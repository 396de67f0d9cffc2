/- PkPure, PkPureB, PkRead, PkNum. -/
import Derived.Test.YthmnjebmnocoiaaGreatProg
import Derived.Test.YthmnjebmnocoiaaGreatZLaws
/- The mathematics of package pack on lists of bytes: numbers there and back. -/
namespace Go.Proofs.YthmnjebmnocoiaaGreat.Pk

/-- How many bytes at the head say that another one comes. -/
def lead : List UInt8 → Nat
  | [] => 0
  | x :: r => if 128 ≤ x.toNat then lead r + 1 else 0
theorem lead_le : ∀ l, lead l ≤ l.length
  | [] => Nat.le_refl _
  | x :: r => by
    rw [lead]
    have := lead_le r
    split <;> simp <;> omega
theorem lead_lt : ∀ (l : List UInt8) (k : Nat), k < lead l → ∃ x, l[k]? = some x ∧ 128 ≤ x.toNat
  | [], k, h => by simp [lead] at h
  | x :: r, k, h => by
    rw [lead] at h
    split at h
    · rename_i hx
      cases k with
      | zero => exact ⟨x, rfl, hx⟩
      | succ k => exact lead_lt r k (by omega)
    · omega
theorem lead_at : ∀ (l : List UInt8) (x : UInt8), l[lead l]? = some x → x.toNat < 128
  | [], x, h => by simp at h
  | y :: r, x, h => by
    rw [lead] at h
    split at h
    · exact lead_at r x (by simpa using h)
    · simp at h; subst h; omega

/-- Whether a number's bytes are as they may be. -/
def wellF (l : List UInt8) : Bool :=
  if 10 < l.length then false else if l.length = 10 then l.getLast? == some 1 else l.getLast? != some 0 || l.length == 1
theorem wellF_many {l : List UInt8} (h : 10 < l.length) : wellF l = false := by rw [wellF, if_pos h]
theorem wellF_ten {l : List UInt8} {x : UInt8} (h : l.length = 10) (hx : l.getLast? = some x) : wellF l = ((x.toNat : Int) == 1) := by
  rw [wellF, if_neg (by omega), if_pos h, hx, Bool.eq_iff_iff]
  simp only [beq_iff_eq, Option.some.injEq]
  constructor
  · rintro rfl; rfl
  · intro hq
    exact UInt8.toNat_inj.1 (by have : x.toNat = 1 := by omega
                                exact this)
theorem wellF_zero {l : List UInt8} {x : UInt8} (h : l.length < 10) (hx : l.getLast? = some x) (h0 : x.toNat = 0) : wellF l = ((l.length : Int) == 1) := by
  obtain rfl : x = 0 := UInt8.toNat_inj.1 h0
  rw [wellF, if_neg (by omega), if_neg (by omega), hx, Bool.eq_iff_iff]
  simp
  omega
theorem wellF_pos {l : List UInt8} {x : UInt8} (h : l.length < 10) (hx : l.getLast? = some x) (h0 : ¬ x.toNat = 0) : wellF l = true := by
  rw [wellF, if_neg (by omega), if_neg (by omega), hx]
  have : x ≠ 0 := fun e => h0 (by rw [e]; rfl)
  simp [this]
/-- The number that bytes say. -/
def valN : List UInt8 → Nat
  | [] => 0
  | x :: r => x.toNat % 128 + 128 * valN r
theorem valN_lt : ∀ l, valN l < 2 ^ (7 * l.length)
  | [] => by simp [valN]
  | x :: r => by
    have := valN_lt r
    rw [valN, List.length_cons, show 7 * (r.length + 1) = 7 * r.length + 7 by omega, Nat.pow_add]
    omega
theorem valN_snoc : ∀ (l : List UInt8) (x : UInt8), valN (l ++ [x]) = valN l + x.toNat % 128 * 2 ^ (7 * l.length)
  | [], x => by simp [valN]
  | y :: r, x => by
    rw [List.cons_append, valN, valN_snoc r x, valN, List.length_cons, show 7 * (r.length + 1) = 7 * r.length + 7 by omega, Nat.pow_add]
    have : x.toNat % 128 * (2 ^ (7 * r.length) * 2 ^ 7) = 128 * (x.toNat % 128 * 2 ^ (7 * r.length)) := by
      rw [← Nat.mul_assoc, Nat.mul_comm]
    rw [this, Nat.mul_add]; omega
/-- The bytes of the number with which a list begins, and what stands behind. -/
def numB (l : List UInt8) : List UInt8 := l.take (lead l + 1)
/-- The error that Num tells. -/
def numE (l : List UInt8) : Int := if lead l = l.length then 10 else if wellF (numB l) then 0 else 11
/-- The number that Num tells. -/
def numV (l : List UInt8) : Nat := if numE l = 0 then valN (numB l) else 0

theorem numE_ok {l : List UInt8} (h : numE l = 0) : lead l < l.length ∧ wellF (numB l) = true ∧ numV l = valN (numB l) := by
  have h1 := lead_le l
  refine ⟨?_, ?_, by rw [numV, if_pos h]⟩
  · unfold numE at h
    split at h
    · cases h
    · omega
  · unfold numE at h
    split at h
    · cases h
    · split at h
      · assumption
      · cases h
theorem numB_length {l : List UInt8} (h : lead l < l.length) : (numB l).length = lead l + 1 := by
  rw [numB, List.length_take]; omega
theorem numB_init {l : List UInt8} (k : Nat) (h : k < lead l) : ∃ x, (numB l)[k]? = some x ∧ 128 ≤ x.toNat := by
  obtain ⟨x, hx, h2⟩ := lead_lt l k h
  exact ⟨x, by rw [numB, List.getElem?_take_of_lt (by omega)]; exact hx, h2⟩
/-- The last byte of ten is 1: so the number is below 2^64. -/
theorem valN_well {l : List UInt8} (h : wellF l = true) : valN l < 18446744073709551616 := by
  unfold wellF at h
  split at h
  · cases h
  · split at h
    · rename_i h1 h2
      have h : l.getLast? = some 1 := by simpa using h
      obtain ⟨r, rfl⟩ := List.getLast?_eq_some_iff.1 h
      rw [valN_snoc]
      have hl : r.length = 9 := by simpa using h2
      have := valN_lt r
      rw [hl] at this ⊢
      have h1 : (1 : UInt8).toNat % 128 = 1 := by decide
      rw [h1]
      omega
    · rename_i h1 h2
      have := valN_lt l
      have h9 : 2 ^ (7 * l.length) ≤ 2 ^ 63 := Nat.pow_le_pow_right (by omega) (by omega)
      omega

theorem wellF_len {l : List UInt8} (h : wellF l = true) : l.length ≤ 10 := by
  unfold wellF at h
  split at h
  · cases h
  · omega
theorem valN_take_lt (l : List UInt8) (j : Nat) : valN (l.take j) ≤ valN l := by
  induction l generalizing j with
  | nil => simp
  | cons x r ih =>
    cases j with
    | zero => simp [valN]
    | succ j =>
      rw [List.take_succ_cons, valN, valN]
      have := ih j
      omega
/-- The step of the reading loop. -/
theorem valN_step (l : List UInt8) (j : Nat) (x : UInt8) (hx : l[j]? = some x) : valN (l.take (j + 1)) = valN (l.take j) ||| ((x.toNat % 128) <<< (7 * j)) := by
  have hj : j < l.length := (List.getElem?_eq_some_iff.1 hx).1
  have hl : (l.take j).length = j := by rw [List.length_take]; omega
  have h := valN_lt (l.take j)
  rw [hl] at h
  rw [List.take_add_one, hx]
  simp only [Option.toList_some]
  rw [valN_snoc, hl, Nat.or_comm, ← Nat.shiftLeft_add_eq_or_of_lt h, Nat.shiftLeft_eq]
  omega

/-- A number as bytes. -/
def numL (n : Nat) : List UInt8 := if n < 128 then [UInt8.ofNat n] else UInt8.ofNat (n % 128 + 128) :: numL (n / 128)
termination_by n
theorem numL_small {n : Nat} (h : n < 128) : numL n = [UInt8.ofNat n] := by rw [numL, if_pos h]
theorem numL_big {n : Nat} (h : ¬ n < 128) : numL n = UInt8.ofNat (n % 128 + 128) :: numL (n / 128) := by rw [numL, if_neg h]
theorem numL_len : ∀ (k n : Nat), n < 2 ^ (7 * (k + 1)) → (numL n).length ≤ k + 1
  | 0, n, h => by rw [numL_small (by omega)]; simp
  | k + 1, n, h => by
    by_cases hn : n < 128
    · rw [numL_small hn]; simp
    · rw [numL_big hn]
      have := numL_len k (n / 128) (by rw [show 7 * (k + 1 + 1) = 7 * (k + 1) + 7 by omega, Nat.pow_add] at h; omega)
      simp; omega
theorem numL_len10 (n : Nat) (h : n < 18446744073709551616) : (numL n).length ≤ 10 :=
  numL_len 9 n (Nat.lt_of_lt_of_le h (by decide))
end Go.Proofs.YthmnjebmnocoiaaGreat.Pk

/- Numbers there and back, one way each, on lists of bytes. -/
namespace Go.Proofs.YthmnjebmnocoiaaGreat.Pk

theorem valN_pos : ∀ (l : List UInt8) (x : UInt8), l.getLast? = some x → x.toNat % 128 ≠ 0 → 0 < valN l
  | [], x, h, _ => by simp at h
  | [y], x, h, h0 => by
    simp at h; subst h
    rw [valN, valN]; omega
  | y :: z :: r, x, h, h0 => by
    have := valN_pos (z :: r) x (by rw [List.getLast?_cons_cons] at h; exact h) h0
    rw [valN]; omega
/-- Bytes that are a number: all but the last say that another one comes. -/
def Chain : List UInt8 → Prop
  | [] => False
  | [x] => x.toNat < 128
  | x :: y :: r => 128 ≤ x.toNat ∧ Chain (y :: r)
theorem numL_valN : ∀ (l : List UInt8) (x : UInt8), Chain l → l.getLast? = some x → (x.toNat ≠ 0 ∨ l.length = 1) → numL (valN l) = l
  | [], _, h, _, _ => h.elim
  | [y], x, h, _, _ => by
    have h : y.toNat < 128 := h
    rw [valN, valN, Nat.mul_zero, Nat.add_zero, Nat.mod_eq_of_lt h, numL_small h]
    simp
  | y :: z :: r, x, h, hx, h0 => by
    obtain ⟨hy, hc⟩ := h
    have hx' : (z :: r).getLast? = some x := by rw [List.getLast?_cons_cons] at hx; exact hx
    have hx0 : x.toNat ≠ 0 := by
      rcases h0 with h0 | h0
      · exact h0
      · simp at h0
    have hx128 : x.toNat < 128 := by
      have : ∀ (l : List UInt8) (x : UInt8), Chain l → l.getLast? = some x → x.toNat < 128 := fun l => by
        induction l with
        | nil => intro x h _; exact h.elim
        | cons a t ih =>
          intro x h hx
          cases t with
          | nil => simp at hx; subst hx; exact h
          | cons b t => rw [List.getLast?_cons_cons] at hx; exact ih x h.2 hx
      exact this _ x hc hx'
    have hp := valN_pos (z :: r) x hx' (by rw [Nat.mod_eq_of_lt hx128]; exact hx0)
    have ih := numL_valN (z :: r) x hc hx' (.inl hx0)
    rw [valN]
    generalize valN (z :: r) = v at *
    have hlt := y.toNat_lt
    rw [numL_big (by omega), show (y.toNat % 128 + 128 * v) / 128 = v by omega, ih, show (y.toNat % 128 + 128 * v) % 128 + 128 = y.toNat by omega]
    simp
theorem chain_numB : ∀ (l : List UInt8), lead l < l.length → Chain (numB l)
  | [], h => by simp at h
  | x :: r, h => by
    unfold numB
    rw [lead] at h ⊢
    by_cases hx : 128 ≤ x.toNat
    · rw [if_pos hx] at h ⊢
      rw [List.take_succ_cons]
      have ih := chain_numB r (by simpa using h)
      unfold numB at ih
      cases hr : r.take (lead r + 1) with
      | nil => rw [hr] at ih; exact ih.elim
      | cons y t => rw [hr] at ih; exact ⟨hx, ih⟩
    · rw [if_neg hx]
      show x.toNat < 128
      omega
/-- What was taken up is laid down as just the bytes that it took. -/
theorem num_one {l : List UInt8} (h : numE l = 0) : numL (numV l) = numB l := by
  obtain ⟨h1, h2, h3⟩ := numE_ok h
  rw [h3]
  have hl := numB_length h1
  have hne : numB l ≠ [] := fun e => by rw [e] at hl; simp at hl
  obtain ⟨x, hx⟩ : ∃ x, (numB l).getLast? = some x := ⟨_, List.getLast?_eq_some_getLast hne⟩
  refine numL_valN _ x (chain_numB l h1) hx ?_
  unfold wellF at h2
  split at h2
  · cases h2
  · split at h2
    · rw [hx] at h2
      left
      have : x = 1 := by simpa using h2
      rw [this]; decide
    · rw [hx] at h2
      by_cases hx0 : x = 0
      · right
        subst hx0
        simpa using h2
      · left
        exact fun e => hx0 (UInt8.toNat_inj.1 e)
theorem lead_numL : ∀ (k n : Nat) (r : List UInt8), n < 2 ^ (7 * (k + 1)) → lead (numL n ++ r) + 1 = (numL n).length ∧ valN (numL n) = n ∧ Chain (numL n)
  | k, n, r, h => by
    by_cases hn : n < 128
    · rw [numL_small hn]
      have e : (UInt8.ofNat n).toNat = n := by rw [UInt8.toNat_ofNat']; omega
      refine ⟨?_, ?_, ?_⟩
      · simp [lead]; omega
      · rw [valN, valN, e]; omega
      · show (UInt8.ofNat n).toNat < 128
        omega
    · cases k with
      | zero => omega
      | succ k =>
        have hd : n / 128 < 2 ^ (7 * (k + 1)) := by rw [show 7 * (k + 1 + 1) = 7 * (k + 1) + 7 by omega, Nat.pow_add] at h; omega
        obtain ⟨h1, h2, h3⟩ := lead_numL k (n / 128) r hd
        have e : (UInt8.ofNat (n % 128 + 128)).toNat = n % 128 + 128 := by rw [UInt8.toNat_ofNat']; omega
        rw [numL_big hn]
        refine ⟨?_, ?_, ?_⟩
        · rw [List.cons_append, lead, e, if_pos (by omega), h1]; simp
        · rw [valN, e, h2]; omega
        · cases hr : numL (n / 128) with
          | nil => rw [hr] at h3; exact h3.elim
          | cons y t =>
            rw [hr] at h3
            exact ⟨by rw [e]; omega, h3⟩
theorem last_numL : ∀ (k n : Nat), n < 2 ^ (7 * (k + 1)) → ∃ x, (numL n).getLast? = some x ∧ ((numL n).length = 1 ∨ x.toNat ≠ 0) ∧ ((numL n).length = k + 1 → x.toNat = n / 2 ^ (7 * k))
  | k, n, h => by
    by_cases hn : n < 128
    · rw [numL_small hn]
      have e : (UInt8.ofNat n).toNat = n := by rw [UInt8.toNat_ofNat']; omega
      refine ⟨UInt8.ofNat n, rfl, .inl rfl, fun hk => ?_⟩
      have : k = 0 := by simpa using hk.symm
      subst this
      rw [e]; simp
    · cases k with
      | zero => omega
      | succ k =>
        have hd : n / 128 < 2 ^ (7 * (k + 1)) := by rw [show 7 * (k + 1 + 1) = 7 * (k + 1) + 7 by omega, Nat.pow_add] at h; omega
        obtain ⟨x, h1, h2, h3⟩ := last_numL k (n / 128) hd
        rw [numL_big hn]
        have hne : numL (n / 128) ≠ [] := fun e => by rw [e] at h1; simp at h1
        refine ⟨x, ?_, .inr ?_, fun hk => ?_⟩
        · cases hr : numL (n / 128) with
          | nil => exact absurd hr hne
          | cons y t => rw [List.getLast?_cons_cons, ← hr]; exact h1
        · rcases h2 with h2 | h2
          · by_cases hs : n / 128 < 128
            · rw [numL_small hs] at h1
              simp at h1
              subst h1
              rw [UInt8.toNat_ofNat']; omega
            · rw [numL_big hs] at h2
              have : numL (n / 128 / 128) = [] := by simpa using h2
              have h4 : ∀ m, numL m ≠ [] := fun m e => by
                by_cases hm : m < 128
                · rw [numL_small hm] at e; simp at e
                · rw [numL_big hm] at e; simp at e
              exact absurd this (h4 _)
          · exact h2
        · rw [h3 (by simpa using hk), Nat.div_div_eq_div_mul, show 7 * (k + 1) = 7 + 7 * k by omega, Nat.pow_add]
theorem wellF_numL (n : Nat) (h : n < 18446744073709551616) : wellF (numL n) = true := by
  have hl := numL_len10 n h
  obtain ⟨x, hx, h1, h2⟩ := last_numL 9 n (Nat.lt_of_lt_of_le h (by decide))
  by_cases h10 : (numL n).length = 10
  · rw [wellF_ten h10 hx]
    have hq := h2 h10
    have hx0 : x.toNat ≠ 0 := by
      rcases h1 with h1 | h1
      · omega
      · exact h1
    have : x.toNat = 1 := by omega
    rw [this]; rfl
  · by_cases hx0 : x.toNat = 0
    · rw [wellF_zero (by omega) hx hx0]
      rcases h1 with h1 | h1
      · rw [h1]; rfl
      · exact absurd hx0 h1
    · exact wellF_pos (by omega) hx hx0
/-- What was laid down is taken up again. -/
theorem num_back (n : Nat) (h : n < 18446744073709551616) (r : List UInt8) : numE (numL n ++ r) = 0 ∧ numV (numL n ++ r) = n ∧ lead (numL n ++ r) + 1 = (numL n).length := by
  obtain ⟨h1, h2, h3⟩ := lead_numL 9 n r (Nat.lt_of_lt_of_le h (by decide))
  have hB : numB (numL n ++ r) = numL n := by
    rw [numB, h1, List.take_left]
  have hE : numE (numL n ++ r) = 0 := by
    rw [numE, if_neg (by rw [List.length_append]; omega), hB, wellF_numL n h]; rfl
  exact ⟨hE, by rw [numV, if_pos hE, hB, h2], h1⟩
end Go.Proofs.YthmnjebmnocoiaaGreat.Pk

/- What package pack's readers do: cut, wellFormed, Fail, Left, Done, Read. -/
namespace Go.Proofs.YthmnjebmnocoiaaGreat.Pk
open Go.RowKit

/-- A reader at block b: what is left, and its error. -/
def rdV (s : ByteArray) (e : Int) : List Value := [.string s, .int .i64 e]
abbrev Rd (w : World) (b : Nat) (s : ByteArray) (e : Int) : Prop := Holds w b (rdV s e) 108

set_option maxRecDepth 100000 in
theorem cut_any (b : Nat) (s : ByteArray) (e : Int) (n : Nat) (hn : n ≤ s.size) (w : World) (hr : Rd w b s e) :
    Calls Tryz.prog 102 #[.pointer (some ⟨b, 0, none⟩), .int .i64 (n : Int)] w fun x w' => x = .returned (.string (s.extract 0 n)) ∧ Rd w' b (s.extract n s.size) e ∧ Upd b w w' := by
  have c0 : w.cell? ⟨b, 0, none⟩ = some (.string s) := hr.at 0 _ rfl
  have f0 : w.frozen? ⟨b, 0, none⟩ = false := hr.frozen 0
  go_enter Tryz.func102, Tryz.ntmps102
  go_wp2
  go_ret
  exact ⟨rfl, hr.set 0 (.string (s.extract n s.size)), (Upd.refl b w).setCell 0 _⟩

/-- What Done tells. -/
def doneV (s : ByteArray) (e : Int) : Int := if e = 0 then (if s.size = 0 then 0 else 11) else e
theorem emp_true {s : ByteArray} (h : s.size = 0) : s.toList.isEmpty = true := by
  rw [ByteArray.toList_eq]
  obtain ⟨d⟩ := s
  have : d = #[] := Array.eq_empty_of_size_eq_zero h
  rw [this]; rfl
theorem emp_false {s : ByteArray} (h : s.size ≠ 0) : s.toList.isEmpty = false := by
  rw [ByteArray.toList_eq]
  obtain ⟨d⟩ := s
  cases hd : d.toList with
  | nil => exact absurd (by show d.size = 0; rw [← Array.length_toList, hd]; rfl) h
  | cons x r => rfl
set_option maxRecDepth 100000 in
theorem fail_none (e : Int) (w : World) : Calls Tryz.prog 101 #[.pointer none, .int .i64 e] w fun x w' => x = .returned (.tuple #[]) ∧ w' = w := by
  go_enter Tryz.func101, Tryz.ntmps101
  go_wp2
  exact bodyPost_ret (results_none (by kernel_rfl) _ _ _) rfl ⟨rfl, rfl⟩
set_option maxRecDepth 100000 in
theorem fail_new (b : Nat) (s : ByteArray) (e : Int) (he : e ≠ 0) (w : World) (hr : Rd w b s 0) :
    Calls Tryz.prog 101 #[.pointer (some ⟨b, 0, none⟩), .int .i64 e] w fun x w' => x = .returned (.tuple #[]) ∧ Rd w' b ⟨#[]⟩ e ∧ Upd b w w' := by
  have c0 : w.cell? ⟨b, 0, none⟩ = some (.string s) := hr.at 0 _ rfl
  have f0 : w.frozen? ⟨b, 0, none⟩ = false := hr.frozen 0
  have c1 : w.cell? ⟨b, 1, none⟩ = some (.int .i64 0) := hr.at 1 _ rfl
  have f1 : w.frozen? ⟨b, 1, none⟩ = false := hr.frozen 1
  go_enter Tryz.func101, Tryz.ntmps101
  go_wp2
  exact bodyPost_end (results_none (by kernel_rfl) _ _ _) rfl ⟨rfl, (hr.set 0 (.string ⟨#[]⟩)).set 1 (.int .i64 e), ((Upd.refl b w).setCell 0 _).setCell 1 _⟩

set_option maxRecDepth 100000 in
theorem read_any (s : ByteArray) (w : World) :
    Calls Tryz.prog 53 #[.string s] w fun x w' => x = .returned (.pointer (some ⟨w.heap.size, 0, none⟩)) ∧ Rd w' w.heap.size s 0 ∧ Below w.heap.size w w' := by
  go_enter Tryz.func53, Tryz.ntmps53
  go_wp2
  go_ret
  exact ⟨rfl, holds_new w _ _, (Below.refl _ _).alloc (Nat.le_refl _) _⟩

set_option maxRecDepth 100000 in
theorem well_any (s : ByteArray) (h0 : 0 < s.size) (hs : s.size < 9223372036854775808) (w : World) :
    Calls Tryz.prog 103 #[.string s] w fun x w' => x = .returned (.bool (wellF s.data.toList)) ∧ w' = w := by
  have hl : s.data.toList.length = s.size := rfl
  have hx : s.data.toList.getLast? = some (s[s.size - 1]'(by omega)) := by
    rw [List.getLast?_eq_getElem?, hl, List.getElem?_eq_getElem (by omega)]; rfl
  by_cases h10 : 10 < s.size
  · have hd : wellF s.data.toList = false := wellF_many h10
    rw [hd]
    go_enter Tryz.func103, Tryz.ntmps103
    go_wp2
    go_ret
    exact ⟨rfl, rfl⟩
  · go_enter Tryz.func103, Tryz.ntmps103
    go_wp2
    · rename_i h1 h2
      have h2 : (s.size : Int) = 10 := by simpa using h2
      rw [wellF_ten (by omega) hx]
      go_ret
      exact ⟨rfl, rfl⟩
    · rename_i h1 h2 h3
      have h2 : (s.size : Int) ≠ 10 := by simpa using h2
      rw [wellF_zero (by omega) hx h3]
      go_ret
      exact ⟨rfl, rfl⟩
    · rename_i h1 h2 h3
      have h2 : (s.size : Int) ≠ 10 := by simpa using h2
      rw [wellF_pos (by omega) hx h3]
      go_ret
      exact ⟨rfl, rfl⟩
end Go.Proofs.YthmnjebmnocoiaaGreat.Pk

/- What a reader's num does. -/
namespace Go.Proofs.YthmnjebmnocoiaaGreat.Pk
open Go.RowKit

theorem get_list (s : ByteArray) (k : Nat) (h : k < s.size) : s.data.toList[k]? = some (s[k]'h) := by
  rw [List.getElem?_eq_getElem (by exact h)]; rfl
theorem ext_list (s : ByteArray) (a b : Nat) : (s.extract a b).data.toList = (s.data.toList.take b).drop a := by
  rw [ByteArray.data_extract, Array.toList_extract, List.extract_eq_take_drop, List.drop_take]
theorem ext_head (s : ByteArray) (n : Nat) : (s.extract 0 n).data.toList = s.data.toList.take n := by
  rw [ext_list, List.drop_zero]
theorem ext_tail (s : ByteArray) (n : Nat) : (s.extract n s.size).data.toList = s.data.toList.drop n := by
  rw [ext_list, List.take_of_length_le (show s.data.toList.length ≤ s.size from Nat.le_refl _)]

theorem ofInt_nat (m n : Nat) (h : n < 2 ^ m) : (BitVec.ofInt m (n : Int)).toNat = n := by
  rw [BitVec.ofInt_natCast, BitVec.toNat_ofNat, Nat.mod_eq_of_lt h]
theorem or_u64 (a b : Nat) (ha : a < 18446744073709551616) (hb : b < 18446744073709551616) : bits .or .u64 (a : Int) (b : Int) = ((a ||| b : Nat) : Int) := by
  show IntKind.u64.wrap ((BitVec.ofInt 64 (a : Int) ||| BitVec.ofInt 64 (b : Int)).toNat : Int) = _
  rw [BitVec.toNat_or, ofInt_nat 64 a ha, ofInt_nat 64 b hb, wrap_u64]
  have : a ||| b < 2 ^ 64 := Nat.or_lt_two_pow ha hb
  omega
theorem and_u8 (a b : Nat) (ha : a < 256) (hb : b < 256) : bits .and .u8 (a : Int) (b : Int) = ((a &&& b : Nat) : Int) := by
  show IntKind.u8.wrap ((BitVec.ofInt 8 (a : Int) &&& BitVec.ofInt 8 (b : Int)).toNat : Int) = _
  rw [BitVec.toNat_and, ofInt_nat 8 a ha, ofInt_nat 8 b hb, wrap_u8]
  have : a &&& b < 2 ^ 8 := Nat.and_lt_two_pow a hb
  omega
theorem and127 (y : UInt8) : bits .and .u8 (y.toNat : Int) 127 = ((y.toNat % 128 : Nat) : Int) := by
  have := and_u8 y.toNat 127 y.toNat_lt (by omega)
  rw [show (127 : Nat) = 2 ^ 7 - 1 from rfl, Nat.and_two_pow_sub_one_eq_mod] at this
  exact this
theorem num_step (a j : Nat) (y : UInt8) (r : Nat) (hr : r = a ||| ((y.toNat % 128) <<< (7 * j))) (h : r < 18446744073709551616) :
    bits .or .u64 (a : Int) (IntKind.u64.wrap (IntKind.u64.wrap (bits .and .u8 (y.toNat : Int) 127) * 2 ^ (7 * j))) = (r : Int) := by
  have h1 : (y.toNat % 128) <<< (7 * j) ≤ r := by rw [hr]; exact Nat.right_le_or
  have h2 : a ≤ r := by rw [hr]; exact Nat.left_le_or
  rw [and127, wrap_u64, wrap_u64]
  have e1 : ((y.toNat % 128 : Nat) : Int) % 18446744073709551616 = ((y.toNat % 128 : Nat) : Int) := by omega
  have e2 : ((y.toNat % 128 : Nat) : Int) * 2 ^ (7 * j) = (((y.toNat % 128) <<< (7 * j) : Nat) : Int) := by
    rw [Nat.shiftLeft_eq]; simp
  rw [e1, e2]
  clear e1 e2
  generalize (y.toNat % 128) <<< (7 * j) = q at *
  have e3 : (q : Int) % 18446744073709551616 = (q : Int) := by omega
  rw [e3, or_u64 _ _ (by omega) (by omega), hr]

/-- What num leaves. -/
def NumP (b : Nat) (s : ByteArray) (e : Int) (w : World) (x : Ending) (w' : World) : Prop :=
  x = .returned (.tuple #[.int .u64 (numV s.data.toList : Int), .int .i64 (numE s.data.toList)]) ∧
    (∃ s', Rd w' b s' e ∧ s'.size ≤ s.size ∧ (numE s.data.toList = 0 → s' = s.extract (lead s.data.toList + 1) s.size)) ∧ Upd b w w'

set_option maxHeartbeats 400000 in
set_option maxRecDepth 100000 in
theorem num_any (b : Nat) (s : ByteArray) (e : Int) (hs : s.size < 9223372036854775808) (w : World) (hr : Rd w b s e) :
    Calls Tryz.prog 84 #[.pointer (some ⟨b, 0, none⟩)] w (NumP b s e w) := by
  have c0 : w.cell? ⟨b, 0, none⟩ = some (.string s) := hr.at 0 _ rfl
  have hl : s.data.toList.length = s.size := rfl
  have hle := lead_le s.data.toList
  rw [hl] at hle
  obtain ⟨m, hm⟩ : ∃ m, lead s.data.toList = m := ⟨_, rfl⟩
  rw [hm] at hle
  go_enter Tryz.func84, Tryz.ntmps84
  go_wp2_with fail
  go_loop [4] (fun c => ∃ k : Nat, k ≤ m ∧ c = .int .i64 (k : Int)) (fun c => m - (intOf c).toNat)
  case atStart => exact ⟨0, by omega, rfl⟩
  case round =>
    obtain ⟨k, hk, rfl⟩ := hrel
    by_cases hlt : k < m
    · obtain ⟨x, hx, hx2⟩ := lead_lt s.data.toList k (by omega)
      have hks : k < s.size := by omega
      have hxe : (s[k]'hks) = x := by rw [get_list s k hks] at hx; exact Option.some.inj hx
      have hge : (128 : Int) ≤ ((s[k]'hks).toNat : Int) := by rw [hxe]; omega
      go_wp2
      exact ⟨⟨k + 1, by omega, rfl⟩, by simp; omega⟩
    · have hkm : k = m := by omega
      subst hkm
      by_cases hks : k < s.size
      · have hge : ((s[k]'hks).toNat : Int) < (128 : Int) := by
          have := lead_at s.data.toList (s[k]'hks) (by rw [hm]; exact get_list s k hks)
          omega
        have hcut : Hid (Calls Tryz.prog 102 #[.pointer (some ⟨b, 0, none⟩), .int .i64 ((k : Int) + 1)] w fun x w' => x = .returned (.string (s.extract 0 (k + 1))) ∧ Rd w' b (s.extract (k + 1) s.size) e ∧ Upd b w w') :=
          cut_any b s e (k + 1) (by omega) w hr
        have hne : lead s.data.toList ≠ s.data.toList.length := by omega
        have htz : (s.extract 0 (k + 1)).size = k + 1 := by simp; omega
        have htl : (s.extract 0 (k + 1)).data.toList = numB s.data.toList := by rw [ext_head, numB, hm]
        have hrz : (s.extract (k + 1) s.size).size ≤ s.size := by simp
        generalize s.extract 0 (k + 1) = t at hcut htz htl
        generalize hu : s.extract (k + 1) s.size = u at hcut hrz
        have hwell : Hid (∀ W, Calls Tryz.prog 103 #[.string t] W fun x w' => x = .returned (.bool (wellF (numB s.data.toList))) ∧ w' = W) := fun W => by
          have := well_any t (by omega) (by omega) W
          rw [htl] at this
          exact this
        cases hwf : wellF (numB s.data.toList) with
        | false =>
          have hE1 : numE s.data.toList = 11 := by rw [numE, if_neg hne, hwf]; rfl
          have hV1 : numV s.data.toList = 0 := by rw [numV, hE1]; rfl
          rw [hwf] at hwell
          clear hne
          go_wp2_with (first
            | (go_at_call 102; refine hcut.out.mono ?_; rintro e w1 ⟨rfl, h1, u1⟩)
            | (go_at_call 103; refine (hwell.out _).mono ?_; rintro e w2 ⟨rfl, rfl⟩))
          go_ret2
          rw [NumP, hE1, hV1]
          exact ⟨rfl, ⟨u, h1, hrz, fun h => by cases h⟩, u1⟩
        | true =>
          have hE1 : numE s.data.toList = 0 := by rw [numE, if_neg hne, hwf]; rfl
          have hV1 : numV s.data.toList = valN t.data.toList := by rw [numV, hE1, htl]; rfl
          have hv64 := valN_well hwf
          have hlen := wellF_len hwf
          rw [← htl] at hv64 hlen
          have hlen : t.size ≤ 10 := hlen
          rw [hwf] at hwell
          clear hne htl hwf
          go_wp2_with (first
            | (go_at_call 102; refine hcut.out.mono ?_; rintro e w1 ⟨rfl, h1, u1⟩)
            | (go_at_call 103; refine (hwell.out _).mono ?_; rintro e w2 ⟨rfl, rfl⟩))
          go_loop [6, 42] (fun n c => ∃ j : Nat, j ≤ t.size ∧ c = .int .i64 (j : Int) ∧ n = .int .u64 ((valN (t.data.toList.take j) : Nat) : Int)) (fun _ c => t.size - (intOf c).toNat)
          case atStart => exact ⟨0, by omega, rfl, rfl⟩
          case round =>
            obtain ⟨j, hj, rfl, rfl⟩ := hrel
            by_cases hjt : j < t.size
            · have hx := get_list t j hjt
              have hst := valN_step t.data.toList j _ hx
              have hlt2 := valN_take_lt t.data.toList (j + 1)
              generalize (t.data.toList.take j) = tk at *
              go_wp2
              exact ⟨⟨j + 1, by omega, rfl, by rw [num_step _ j _ _ hst (by omega)]⟩, by simp; omega⟩
            · have htk : t.data.toList.take j = t.data.toList := List.take_of_length_le (by have : t.data.toList.length = t.size := rfl; omega)
              rw [htk]
              go_wp2
              go_ret2
              rw [NumP, hE1, hV1]
              exact ⟨rfl, ⟨u, h1, hrz, fun _ => by rw [hm, hu]⟩, u1⟩
      · have hE1 : numE s.data.toList = 10 := by rw [numE, if_pos (by omega)]
        have hV1 : numV s.data.toList = 0 := by rw [numV, hE1]; rfl
        go_wp2
        go_ret2
        rw [NumP, hE1, hV1]
        exact ⟨rfl, ⟨s, hr, Nat.le_refl s.size, fun h => by cases h⟩, Upd.refl b w⟩
end Go.Proofs.YthmnjebmnocoiaaGreat.Pk
