/- Keeping and filling, in plain words: what holds from step to step. -/
import Derived.Test.YtlliijodilnlgaaRgTally
namespace Go.Proofs.Ytlliijodilnlgaa

def R8 (l : List Int) : Prop := ∀ i, 0 ≤ l.getD i 0 ∧ l.getD i 0 ≤ 8
theorem R8.set {l : List Int} (h : R8 l) (i : Nat) (x : Int) (hx : 0 ≤ x ∧ x ≤ 8) : R8 (l.set i x) := fun k => by
  have := h k
  rw [List.getD_eq_getElem?_getD] at this ⊢
  rw [List.getElem?_set]
  by_cases e : i = k
  · subst e
    rw [if_pos rfl]
    split
    · exact hx
    · simp
  · rw [if_neg e]; exact this
/-- whom a partition is kept for: nobody, where it is not. -/
def valI (M : List Int) (x : Option Nat) : Int := match x with | some i => M.getD i 0 | none => 0
def keptV (M : List Int) (l : List (Option Nat)) : List Int := l.map (valI M)
theorem keptV_len (M : List Int) (l : List (Option Nat)) : (keptV M l).length = l.length := by simp [keptV]
theorem kept_some (M : List Int) (l : List (Option Nat)) (i : Nat) (x : Int) (k : Nat) (hk : k < 8) (hl : l.length = k) (hx : M.getD i 0 = x) : keptV M (l ++ [some i]) ++ List.replicate (8 - (k + 1)) 0 = (keptV M l ++ List.replicate (8 - k) 0).set k x := by
  rw [show 8 - k = (8 - (k + 1)) + 1 by omega, List.replicate_succ]
  have hk' : (keptV M l).length = k := by rw [keptV_len]; exact hl
  rw [List.set_append_right _ _ (by omega), hk', Nat.sub_self]
  simp [keptV, valI, ← hx]
theorem kept_none (M : List Int) (l : List (Option Nat)) (k : Nat) (hk : k < 8) : keptV M (l ++ [none]) ++ List.replicate (8 - (k + 1)) 0 = keptV M l ++ List.replicate (8 - k) 0 := by
  rw [show 8 - k = (8 - (k + 1)) + 1 by omega, List.replicate_succ]
  simp [keptV, valI]
theorem keepS_len (s : List (Option Nat) × List Int) (x : Option Nat) : (keepS s x).1.length = s.1.length + 1 ∧ (keepS s x).2.length = s.2.length := by
  unfold keepS
  cases x with
  | none => simp
  | some i => dsimp only; split <;> simp
theorem keepS_R8 {s : List (Option Nat) × List Int} (h : R8 s.2) (x : Option Nat) : R8 (keepS s x).2 := by
  unfold keepS
  cases x with
  | none => exact h
  | some i =>
    dsimp only
    split
    · exact h.set i _ (by have := h i; omega)
    · exact h
theorem sum_set (l : List Int) (i : Nat) (x : Int) (hi : i < l.length) : (l.set i x).sum = l.sum - l.getD i 0 + x := by
  induction l generalizing i with
  | nil => simp at hi
  | cons y l ih =>
    cases i with
    | zero => simp; omega
    | succ i =>
      have := ih i (by simpa using hi)
      simp only [List.set_cons_succ, List.sum_cons, List.getD_cons_succ]
      omega
theorem keepS_sum {s : List (Option Nat) × List Int} (x : Option Nat) (hx : ∀ i, x = some i → i < s.2.length) : (keepS s x).2.sum + 1 = s.2.sum + ((keepS s x).1.count none : Nat) - (s.1.count none : Nat) := by
  unfold keepS
  cases x with
  | none => simp [List.count_append]; omega
  | some i =>
    dsimp only
    split
    · rw [sum_set _ _ _ (hx i rfl)]; simp [List.count_append]; omega
    · simp [List.count_append]; omega
theorem keepS_in {s : List (Option Nat) × List Int} {n : Nat} (x : Option Nat) (hx : ∀ i, x = some i → i < n) (h : ∀ i, some i ∈ s.1 → i < n) : ∀ i, some i ∈ (keepS s x).1 → i < n := fun i hi => by
  unfold keepS at hi
  cases x with
  | none => dsimp only at hi; rw [List.mem_append] at hi; rcases hi with q | q
            · exact h i q
            · simp at q
  | some j =>
    dsimp only at hi
    split at hi
    · rw [List.mem_append] at hi
      rcases hi with q | q
      · exact h i q
      · simp at q; subst q; exact hx i rfl
    · rw [List.mem_append] at hi
      rcases hi with q | q
      · exact h i q
      · simp at q
/-- what keeping leaves. -/
theorem keepI_facts (n : Nat) : ∀ (oi : List (Option Nat)) (s : List (Option Nat) × List Int), (∀ i, some i ∈ oi → i < n) → s.2.length = n → R8 s.2 → (∀ i, some i ∈ s.1 → i < n) →
    (oi.foldl keepS s).1.length = s.1.length + oi.length ∧ (oi.foldl keepS s).2.length = n ∧ R8 (oi.foldl keepS s).2 ∧ (∀ i, some i ∈ (oi.foldl keepS s).1 → i < n) ∧ (oi.foldl keepS s).2.sum + oi.length = s.2.sum + ((oi.foldl keepS s).1.count none : Nat) - (s.1.count none : Nat)
  | [], s, _, h1, h2, h3 => ⟨by simp, h1, h2, h3, by simp⟩
  | x :: oi, s, h0, h1, h2, h3 => by
    have hx : ∀ i, x = some i → i < n := fun i e => h0 i (by simp [e])
    obtain ⟨a1, a2, a3, a4, a5⟩ := keepI_facts n oi (keepS s x) (fun i hi => h0 i (by simp [hi])) (by rw [(keepS_len s x).2]; exact h1) (keepS_R8 h2 x) (keepS_in x hx h3)
    rw [List.foldl_cons]
    refine ⟨by rw [a1, (keepS_len s x).1, List.length_cons]; omega, a2, a3, a4, ?_⟩
    have := keepS_sum (s := s) x (by rw [h1]; exact hx)
    rw [List.length_cons]; push_cast; omega

theorem sum_zero (l : List Int) (h : ∀ j, l.getD j 0 = 0) : l.sum = 0 := by
  induction l with
  | nil => rfl
  | cons x l ih =>
    have h0 := h 0
    simp at h0
    rw [List.sum_cons, h0, ih (fun j => by simpa using h (j + 1))]; rfl
theorem skip_facts (rm : List Int) (next : Nat) (hz : ∀ j, j < next → rm.getD j 0 = 0) (hs : 0 < rm.sum) :
    next ≤ skipI rm next ∧ skipI rm next < rm.length ∧ rm.getD (skipI rm next) 0 ≠ 0 ∧ ∀ j, j < skipI rm next → rm.getD j 0 = 0 := by
  have hd : ∀ l : List Int, (∀ j, j < (l.takeWhile (· == 0)).length → l.getD j 0 = 0) ∧ ((l.takeWhile (· == 0)).length < l.length → l.getD (l.takeWhile (· == 0)).length 0 ≠ 0) := by
    intro l
    induction l with
    | nil => exact ⟨fun j hj => by simp at hj, fun h => by simp at h⟩
    | cons x l ih =>
      by_cases hx : x = 0
      · subst hx
        rw [List.takeWhile_cons_of_pos (by simp)]
        refine ⟨fun j hj => ?_, fun h => ?_⟩
        · cases j with
          | zero => rfl
          | succ j => rw [List.getD_cons_succ]; exact ih.1 j (by simpa using hj)
        · rw [List.length_cons, List.getD_cons_succ]; exact ih.2 (by simpa using h)
      · rw [List.takeWhile_cons_of_neg (by simpa using hx)]
        exact ⟨fun j hj => by simp at hj, fun _ => by simpa using hx⟩
  have hg : ∀ j, (rm.drop next).getD j 0 = rm.getD (next + j) 0 := fun j => by simp [List.getD_eq_getElem?_getD]
  obtain ⟨h1, h2⟩ := hd (rm.drop next)
  have hall : ∀ j, j < skipI rm next → rm.getD j 0 = 0 := fun j hj => by
    rcases Nat.lt_or_ge j next with g | g
    · exact hz j g
    · have := h1 (j - next) (by unfold skipI at hj; omega)
      rw [hg, show next + (j - next) = j by omega] at this
      exact this
  have hlt : skipI rm next < rm.length := by
    rcases Nat.lt_or_ge (skipI rm next) rm.length with g | g
    · exact g
    · exfalso
      have : rm.sum = 0 := sum_zero rm fun j => by
        rcases Nat.lt_or_ge j rm.length with q | q
        · exact hall j (by omega)
        · rw [List.getD_eq_getElem?_getD, List.getElem?_eq_none q]; rfl
      omega
  refine ⟨by unfold skipI; omega, hlt, ?_, hall⟩
  have := h2 (by rw [List.length_drop]; unfold skipI at hlt; omega)
  rw [hg] at this
  exact this
/-- what holds of filling from step to step. -/
structure FillOk (n : Nat) (s : List Nat × List Int × Nat) (left : List (Option Nat)) : Prop where
  len : s.2.1.length = n
  r8 : R8 s.2.1
  zeros : ∀ j, j < s.2.2 → s.2.1.getD j 0 = 0
  sum : s.2.1.sum = (left.count none : Nat)
theorem FillOk.some {n : Nat} {s : List Nat × List Int × Nat} {i : Nat} {left : List (Option Nat)} (h : FillOk n s (some i :: left)) : FillOk n (fillS s (some i)) left :=
  ⟨h.len, h.r8, h.zeros, by have := h.sum; show s.2.1.sum = _; simpa using this⟩
theorem FillOk.none {n : Nat} {s : List Nat × List Int × Nat} {left : List (Option Nat)} (h : FillOk n s (none :: left)) : FillOk n (fillS s none) left := by
  have hs : 0 < s.2.1.sum := by rw [h.sum]; simp
  obtain ⟨k0, k1, k2, k3⟩ := skip_facts s.2.1 s.2.2 h.zeros hs
  have hr := h.r8 (skipI s.2.1 s.2.2)
  refine ⟨by simp [fillS, h.len], h.r8.set _ _ (by omega), fun j hj => ?_, ?_⟩
  · show (s.2.1.set _ _).getD j 0 = 0
    have hj' : j < skipI s.2.1 s.2.2 := hj
    rw [List.getD_eq_getElem?_getD, List.getElem?_set_ne (by omega), ← List.getD_eq_getElem?_getD]
    exact k3 j hj'
  · show (s.2.1.set _ _).sum = _
    rw [sum_set _ _ _ k1, h.sum]; simp; omega
end Go.Proofs.Ytlliijodilnlgaa
