/- The stable sort, in plain words: blocks that are sorted, and what a merge of two makes of them. -/
import Derived.Test.YtlliijodilnlgaaRgSymP
namespace Go.Proofs.Ytlliijodilnlgaa
open Go.RowKit Go.Sort

/-- A run: the places from A on, s of them, are sorted among themselves. -/
structure Run (t : List Int) (N A s : Nat) (f : Nat → Nat) : Prop where
  srt : Sm.Sorted (ltT t) f A (min (A + s) N)
  own : ∀ k, A ≤ k → k < A + s → k < N → A ≤ f k ∧ f k < A + s
theorem Run.out {t : List Int} {N A s a b : Nat} {f g : Nat → Nat} (h : Run t N A s f) (p : Sm.PermOn a b f g) (hd : A + s ≤ a ∨ b ≤ A) : Run t N A s g := by
  have e : ∀ k, A ≤ k → k < A + s → g k = f k := fun k h1 h2 => p.out k (by omega)
  exact ⟨fun i j h1 h2 h3 => by rw [e i h1 (by omega), e j (by omega) (by omega)]; exact h.srt i j h1 h2 h3, fun k h1 h2 h3 => by rw [e k h1 h2]; exact h.own k h1 h2 h3⟩
theorem Run.empty {t : List Int} {N A s : Nat} (f : Nat → Nat) (h : N ≤ A) : Run t N A s f := ⟨fun i j h1 h2 h3 => by omega, fun k h1 h2 h3 => by omega⟩
/-- Two runs that were merged are one. -/
theorem Run.merged {t : List Int} {N A s b : Nat} {f g : Nat → Nat} (h1 : Run t N A s f) (h2 : Run t N (A + s) s f) (hb : b = min (A + 2 * s) N) (p : Sm.PermOn A b f g) (hs : Sm.Sorted (ltT t) g A b) : Run t N A (2 * s) g := by
  refine ⟨by rw [← hb]; exact hs, fun k k1 k2 k3 => ?_⟩
  refine p.all (C := fun c => A ≤ c ∧ c < A + 2 * s) (fun i i1 i2 => ?_) k k1 (by omega)
  by_cases q : i < A + s
  · have := h1.own i i1 q (by omega); omega
  · have := h2.own i (by omega) (by omega) (by omega); omega
/-- A run whose second half is empty. -/
theorem Run.widen {t : List Int} {N A s : Nat} {f : Nat → Nat} (h : Run t N A s f) (hN : N ≤ A + s) : Run t N A (2 * s) f := by
  refine ⟨fun i j h1 h2 h3 => h.srt i j h1 h2 (by omega), fun k h1 h2 h3 => ?_⟩
  have := h.own k h1 (by omega) h3
  omega
theorem Run.lr {t : List Int} {N A s b : Nat} {f : Nat → Nat} (h1 : Run t N A s f) (h2 : Run t N (A + s) s f) (hb : b = min (A + 2 * s) N) : LR f A (A + s) b := fun i j a1 a2 a3 a4 => by
  have := h1.own i a1 a2 (by omega)
  have := h2.own j a3 (by omega) (by omega)
  omega
theorem Run.left {t : List Int} {N A s : Nat} {f : Nat → Nat} (h : Run t N A s f) (hN : A + s ≤ N) : Sm.Sorted (ltT t) f A (A + s) := fun i j h1 h2 h3 => h.srt i j h1 h2 (by omega)
theorem Run.right {t : List Int} {N A s b : Nat} {f : Nat → Nat} (h : Run t N (A + s) s f) (hb : b = min (A + 2 * s) N) : Sm.Sorted (ltT t) f (A + s) b := fun i j h1 h2 h3 => h.srt i j h1 h2 (by omega)
/-- What stays whatever is merged. -/
structure Wh (N : Nat) (f : Nat → Nat) : Prop where
  low : ∀ k, k < N → f k < N
  inj : Sm.Inj f 0 N
theorem Wh.perm {N a b : Nat} {f g : Nat → Nat} (h : Wh N f) (p : Sm.PermOn a b f g) (hb : b ≤ N) : Wh N g :=
  ⟨perm_low p hb h.low, (p.widen (Nat.zero_le _) hb).inj h.inj⟩
/-- In the middle of a pass: behind a all runs are of s, ahead of it of 2 s. -/
structure Pass (t : List Int) (N s r : Nat) (f : Nat → Nat) : Prop where
  wh : Wh N f
  done : ∀ q, q < r → Run t N (2 * s * q) (2 * s) f
  left : ∀ q, 2 * r ≤ q → Run t N (s * q) s f
theorem Pass.step {t : List Int} {N s r b : Nat} {f g : Nat → Nat} (h : Pass t N s r f) (hb : b = min (2 * s * r + 2 * s) N) (hlt : 2 * s * r ≤ b) (p : Sm.PermOn (2 * s * r) b f g) (hs : Sm.Sorted (ltT t) g (2 * s * r) b) : Pass t N s (r + 1) g := by
  have e1 : s * (2 * r) = 2 * s * r := by rw [← Nat.mul_assoc, Nat.mul_comm s 2]
  have e2 : s * (2 * r + 1) = 2 * s * r + s := by rw [Nat.mul_add, e1, Nat.mul_one]
  refine ⟨h.wh.perm p (by omega), fun q hq => ?_, fun q hq => ?_⟩
  · by_cases e : q = r
    · subst e
      have r1 := h.left (2 * q) (Nat.le_refl _)
      have r2 := h.left (2 * q + 1) (by omega)
      rw [e1] at r1
      rw [e2] at r2
      exact r1.merged r2 hb p hs
    · refine (h.done q (by omega)).out p (Or.inl ?_)
      have : 2 * s * (q + 1) ≤ 2 * s * r := Nat.mul_le_mul_left _ (by omega)
      rw [Nat.mul_add, Nat.mul_one] at this
      exact this
  · refine (h.left q (by omega)).out p (Or.inr ?_)
    have : s * (2 * r + 2) ≤ s * q := Nat.mul_le_mul_left _ (by omega)
    rw [Nat.mul_add, e1] at this
    omega
/-- A pass is over. -/
theorem Pass.over {t : List Int} {N s r : Nat} {f : Nat → Nat} (h : Pass t N s r f) (hN : N ≤ 2 * s * r) : ∀ q, Run t N (2 * s * q) (2 * s) f := fun q => by
  by_cases g : q < r
  · exact h.done q g
  · refine Run.empty f ?_
    have : 2 * s * r ≤ 2 * s * q := Nat.mul_le_mul_left _ (by omega)
    omega
theorem Pass.last {t : List Int} {N s r : Nat} {f : Nat → Nat} (h : Pass t N s r f) (hN : N ≤ 2 * s * r + s) : ∀ q, Run t N (2 * s * q) (2 * s) f := fun q => by
  have e1 : s * (2 * r) = 2 * s * r := by rw [← Nat.mul_assoc, Nat.mul_comm s 2]
  rcases Nat.lt_trichotomy q r with g | g | g
  · exact h.done q g
  · subst g
    have r1 := h.left (2 * q) (Nat.le_refl _)
    rw [e1] at r1
    exact r1.widen hN
  · refine Run.empty f ?_
    have : 2 * s * (r + 1) ≤ 2 * s * q := Nat.mul_le_mul_left _ (by omega)
    rw [Nat.mul_add, Nat.mul_one] at this
    omega
/-- Before the passes: blocks of s, up to a sorted, behind it as they were. -/
structure Ahead (t : List Int) (N s r : Nat) (f : Nat → Nat) : Prop where
  wh : Wh N f
  done : ∀ q, q < r → Run t N (s * q) s f
  left : ∀ k, s * r ≤ k → f k = k
theorem Ahead.start (t : List Int) (N s : Nat) : Ahead t N s 0 (fun k => k) := ⟨⟨fun _ h => h, fun _ _ _ _ _ _ h => h⟩, fun _ hq => absurd hq (Nat.not_lt_zero _), fun _ _ => rfl⟩
theorem Ahead.step {t : List Int} {N s r b : Nat} {f g : Nat → Nat} (h : Ahead t N s r f) (hb : b = min (s * r + s) N) (hlt : s * r ≤ b) (p : Sm.PermOn (s * r) b f g) (hs : Sm.Sorted (ltT t) g (s * r) b) : Ahead t N s (r + 1) g := by
  refine ⟨h.wh.perm p (by omega), fun q hq => ?_, fun k hk => ?_⟩
  · by_cases e : q = r
    · subst e
      refine ⟨by rw [← hb]; exact hs, fun k k1 k2 k3 => ?_⟩
      exact p.all (C := fun c => s * q ≤ c ∧ c < s * q + s) (fun i i1 i2 => by rw [h.left i i1]; omega) k k1 (by omega)
    · refine (h.done q (by omega)).out p (Or.inl ?_)
      have : s * (q + 1) ≤ s * r := Nat.mul_le_mul_left _ (by omega)
      rw [Nat.mul_add, Nat.mul_one] at this
      exact this
  · rw [Nat.mul_add, Nat.mul_one] at hk
    rw [p.out k (by omega)]
    exact h.left k (by omega)
theorem Ahead.over {t : List Int} {N s r : Nat} {f : Nat → Nat} (h : Ahead t N s r f) (hN : N ≤ s * r) : ∀ q, Run t N (s * q) s f := fun q => by
  by_cases g : q < r
  · exact h.done q g
  · refine Run.empty f ?_
    have : s * r ≤ s * q := Nat.mul_le_mul_left _ (by omega)
    omega
theorem Pass.start {t : List Int} {N s : Nat} {f : Nat → Nat} (hw : Wh N f) (h : ∀ q, Run t N (s * q) s f) : Pass t N s 0 f := ⟨hw, fun _ hq => absurd hq (Nat.not_lt_zero _), fun q _ => h q⟩
/-! All sorted: the order. -/
theorem nodup_le : ∀ (n : Nat) (l : List Nat), l.Nodup → (∀ x ∈ l, x < n) → l.length ≤ n
  | 0, l, _, h => by
    cases l with
    | nil => exact Nat.le_refl _
    | cons a l => exact absurd (h a (by simp)) (Nat.not_lt_zero _)
  | n + 1, l, hn, h => by
    by_cases hm : n ∈ l
    · have h1 := nodup_le n (l.erase n) (hn.erase _) (fun x hx => by
        have h2 := h x (List.mem_of_mem_erase hx)
        have h3 : x ≠ n := fun e => by subst e; exact hn.not_mem_erase hx
        omega)
      rw [List.length_erase_of_mem hm] at h1
      omega
    · have := nodup_le n l hn (fun x hx => by
        have h2 := h x hx
        have h3 : x ≠ n := fun e => hm (e ▸ hx)
        omega)
      omega
theorem nodup_perm : ∀ (n : Nat) (l : List Nat), l.Nodup → (∀ x ∈ l, x < n) → l.length = n → l.Perm (List.range n)
  | 0, l, _, _, hl => by rw [List.eq_nil_of_length_eq_zero hl]; exact List.Perm.refl _
  | n + 1, l, hn, h, hl => by
    have hm : n ∈ l := by
      apply Classical.byContradiction
      intro hm
      have := nodup_le n l hn (fun x hx => by
        have h2 := h x hx
        have h3 : x ≠ n := fun e => hm (e ▸ hx)
        omega)
      omega
    have ih := nodup_perm n (l.erase n) (hn.erase _) (fun x hx => by
        have h2 := h x (List.mem_of_mem_erase hx)
        have h3 : x ≠ n := fun e => by subst e; exact hn.not_mem_erase hx
        omega) (by rw [List.length_erase_of_mem hm]; omega)
    rw [List.range_succ]
    exact ((List.perm_cons_erase hm).trans (ih.cons n)).trans (List.perm_append_singleton n _).symm
theorem order_of {t : List Int} {N : Nat} {f : Nat → Nat} (hw : Wh N f) (ht : t.length = N) (hs : Sm.Sorted (ltT t) f 0 N) : IsOrder t ((List.range N).map f) := by
  have hnd : ((List.range N).map f).Nodup := by
    rw [List.nodup_iff_pairwise_ne, List.pairwise_map]
    refine List.Pairwise.imp_of_mem ?_ (List.nodup_iff_pairwise_ne.1 List.nodup_range)
    intro a b ha hb hne he
    exact hne (hw.inj a b (Nat.zero_le _) (List.mem_range.1 ha) (Nat.zero_le _) (List.mem_range.1 hb) he)
  have hlo : ∀ x ∈ (List.range N).map f, x < N := fun x hx => by
    obtain ⟨k, hk, rfl⟩ := List.mem_map.1 hx
    exact hw.low k (List.mem_range.1 hk)
  refine ⟨by rw [ht]; exact nodup_perm N _ hnd hlo (by simp), ?_⟩
  · rw [List.pairwise_iff_getElem]
    intro i j hi hj hij
    simp only [List.getElem_map, List.getElem_range]
    exact hs i j (Nat.zero_le _) hij (by simpa using hj)
theorem runs_sorted {t : List Int} {N s : Nat} {f : Nat → Nat} (h : ∀ q, Run t N (s * q) s f) (hN : N ≤ s) : Sm.Sorted (ltT t) f 0 N := fun i j h1 h2 h3 => (h 0).srt i j (by omega) h2 (by omega)
end Go.Proofs.Ytlliijodilnlgaa
