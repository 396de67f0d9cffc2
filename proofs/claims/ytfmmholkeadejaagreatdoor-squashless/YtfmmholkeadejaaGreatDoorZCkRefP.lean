/- The document's Fold, without memory: keys are put in one by one. -/
import Derived.Test.YtfmmholkeadejaaGreatDoorZCkRefL
namespace Go.Proofs.YtfmmholkeadejaaGreatDoor

/-- Those of a rising list that P tells. -/
def pickP (P : List UInt8 → Bool) (M : List Pr) : List Pr := M.filter fun p => P p.1
/-- How many keys stand ahead of k. -/
def aheadP (k : List UInt8) (M : List Pr) : Nat := (M.takeWhile fun p => decide (p.1 < k)).length
theorem ahead_split (k : List UInt8) (M : List Pr) : M.take (aheadP k M) = M.takeWhile (fun p => decide (p.1 < k)) ∧ M.drop (aheadP k M) = M.dropWhile fun p => decide (p.1 < k) := by
  have h := List.takeWhile_append_dropWhile (p := fun p : Pr => decide (p.1 < k)) (l := M)
  unfold aheadP
  generalize M.takeWhile (fun p => decide (p.1 < k)) = A at *
  generalize M.dropWhile (fun p => decide (p.1 < k)) = B at *
  subst h
  exact ⟨List.take_left' rfl, List.drop_left' rfl⟩
def RiseP (M : List Pr) : Prop := M.Pairwise fun p q => p.1 < q.1
theorem kvL_rise {kv : Fs} (h : Rising kv) : RiseP (kvL kv) := List.pairwise_map.2 h
theorem pick_rise {M : List Pr} (h : RiseP M) (P : List UInt8 → Bool) : RiseP (pickP P M) := h.filter _
/-- One key more. -/
theorem pick_more {M : List Pr} (h : RiseP M) (P : List UInt8 → Bool) (k v : List UInt8) (hm : (k, v) ∈ M) (hP : P k = false) :
    pickP (fun x => P x || x == k) M = (pickP P M).take (aheadP k (pickP P M)) ++ (k, v) :: (pickP P M).drop (aheadP k (pickP P M)) := by
  rw [(ahead_split k _).1, (ahead_split k _).2]
  induction M with
  | nil => cases hm
  | cons p M ih =>
    obtain ⟨h1, h2⟩ := List.pairwise_cons.1 h
    rcases List.mem_cons.1 hm with rfl | hm
    · have hall : ∀ q ∈ pickP P M, ¬ q.1 < k := fun q hq => by
        have := h1 q (List.mem_filter.1 hq).1
        exact fun e => List.lt_irrefl _ (List.lt_trans this e)
      have e0 : pickP P ((k, v) :: M) = pickP P M := by simp [pickP, hP]
      have e1 : pickP (fun x => P x || x == k) M = pickP P M := by
        unfold pickP
        refine List.filter_congr fun q hq => ?_
        have : (q.1 == k) = false := beq_eq_false_iff_ne.2 (fun e => by have := h1 q hq; rw [e] at this; exact List.lt_irrefl _ this)
        show (P q.1 || q.1 == k) = P q.1
        rw [this, Bool.or_false]
      have e2 : pickP (fun x => P x || x == k) ((k, v) :: M) = (k, v) :: pickP (fun x => P x || x == k) M := by simp [pickP]
      rw [e0, e2, e1]
      cases hq : pickP P M with
      | nil => rfl
      | cons q r =>
        have hn := hall q (by rw [hq]; simp)
        rw [List.takeWhile_cons, List.dropWhile_cons]
        simp [hn]
    · have hlt : p.1 < k := h1 _ hm
      have hne : (p.1 == k) = false := beq_eq_false_iff_ne.2 (fun e => by rw [e] at hlt; exact List.lt_irrefl _ hlt)
      have ih := ih h2 hm
      cases hp : P p.1 with
      | true =>
        have e0 : pickP P (p :: M) = p :: pickP P M := by simp [pickP, hp]
        have e2 : pickP (fun x => P x || x == k) (p :: M) = p :: pickP (fun x => P x || x == k) M := by simp [pickP, hp]
        rw [e0, e2, ih, List.takeWhile_cons, List.dropWhile_cons]
        simp [hlt]
      | false =>
        have e0 : pickP P (p :: M) = pickP P M := by simp [pickP, hp]
        have e2 : pickP (fun x => P x || x == k) (p :: M) = pickP (fun x => P x || x == k) M := by simp [pickP, hp, hne]
        rw [e0, e2, ih]
theorem pick_same {M : List Pr} (P : List UInt8 → Bool) (k : List UInt8) (h : P k = true ∨ ∀ p ∈ M, p.1 ≠ k) : pickP (fun x => P x || x == k) M = pickP P M := by
  unfold pickP
  refine List.filter_congr fun q hq => ?_
  rcases h with h | h
  · by_cases e : q.1 = k
    · show (P q.1 || q.1 == k) = P q.1
      rw [e, h]; rfl
    · show (P q.1 || q.1 == k) = P q.1
      rw [beq_eq_false_iff_ne.2 e, Bool.or_false]
  · show (P q.1 || q.1 == k) = P q.1
    rw [beq_eq_false_iff_ne.2 (h q hq), Bool.or_false]
/-- The place of k in a rising list: what stands there is k, if k is there at all. -/
theorem ahead_there {M : List Pr} (h : RiseP M) (k : List UInt8) : (∃ p, M[aheadP k M]? = some p ∧ p.1 = k) ↔ ∃ p ∈ M, p.1 = k := by
  induction M with
  | nil => simp [aheadP]
  | cons q M ih =>
    obtain ⟨h1, h2⟩ := List.pairwise_cons.1 h
    by_cases hlt : q.1 < k
    · have ea : aheadP k (q :: M) = aheadP k M + 1 := by simp [aheadP, hlt]
      rw [ea, List.getElem?_cons_succ, ih h2]
      constructor
      · rintro ⟨p, hp, e⟩; exact ⟨p, List.mem_cons_of_mem _ hp, e⟩
      · rintro ⟨p, hp, e⟩
        rcases List.mem_cons.1 hp with rfl | hp
        · rw [e] at hlt; exact absurd hlt (List.lt_irrefl _)
        · exact ⟨p, hp, e⟩
    · have ea : aheadP k (q :: M) = 0 := by simp [aheadP, hlt]
      rw [ea]
      constructor
      · rintro ⟨p, hp, e⟩
        simp at hp; subst hp
        exact ⟨_, List.mem_cons_self .., e⟩
      · rintro ⟨p, hp, e⟩
        rcases List.mem_cons.1 hp with rfl | hp
        · exact ⟨_, rfl, e⟩
        · exfalso; have := h1 p hp; rw [e] at this; exact hlt this
theorem ahead_le (k : List UInt8) (M : List Pr) : aheadP k M ≤ M.length := by
  unfold aheadP
  exact (List.takeWhile_sublist _).length_le
/-- The walk to that place. -/
theorem ahead_step {M : List Pr} {k : List UInt8} {j : Nat} (hj : j ≤ aheadP k M) {p : Pr} (hp : M[j]? = some p) : (p.1 < k ∧ j + 1 ≤ aheadP k M) ∨ (¬ p.1 < k ∧ j = aheadP k M) := by
  induction M generalizing j with
  | nil => simp at hp
  | cons q M ih =>
    by_cases hlt : q.1 < k
    · have e : aheadP k (q :: M) = aheadP k M + 1 := by simp [aheadP, hlt]
      cases j with
      | zero => simp at hp; subst hp; exact .inl ⟨hlt, by omega⟩
      | succ j =>
        rw [List.getElem?_cons_succ] at hp
        rcases ih (by omega) hp with ⟨a, b⟩ | ⟨a, b⟩
        · exact .inl ⟨a, by omega⟩
        · exact .inr ⟨a, by omega⟩
    · have e : aheadP k (q :: M) = 0 := by simp [aheadP, hlt]
      rw [e] at hj
      obtain rfl : j = 0 := by omega
      simp at hp; subst hp
      exact .inr ⟨hlt, e.symm⟩
theorem ahead_end {M : List Pr} {k : List UInt8} {j : Nat} (hj : j ≤ aheadP k M) (hn : M[j]? = none) : j = aheadP k M := by
  have := ahead_le k M
  have : M.length ≤ j := by simpa using hn
  omega
end Go.Proofs.YtfmmholkeadejaaGreatDoor
