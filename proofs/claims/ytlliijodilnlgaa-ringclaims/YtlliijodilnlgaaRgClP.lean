/- The ring's claiming, in plain words, by the members' places. -/
import Derived.Test.YtlliijodilnlgaaRgPure
import Derived.Sort.LotA
namespace Go.Proofs.Ytlliijodilnlgaa

/-- A member's place. -/
def findI (M : List Int) (x : Int) : Option Nat := if M.contains x then some (M.countP (· < x)) else none
def tallyI (n : Nat) (oi : List (Option Nat)) : List Int := (List.range n).map fun i => ((oi.count (some i) : Nat) : Int)
/-- i comes ahead of j. -/
def aheadB (t : List Int) (i j : Nat) : Bool := decide (t.getD j 0 < t.getD i 0) || (decide (t.getD j 0 = t.getD i 0) && decide (i < j))
def rankI (t : List Int) (i : Nat) : Nat := (List.range t.length).countP fun j => aheadB t j i
def quotaI (n r : Nat) : Int := 8 / (n : Int) + if r < 8 % n then 1 else 0
def shareI (t : List Int) : List Int := (List.range t.length).map fun i => quotaI t.length (rankI t i)
def keepS (s : List (Option Nat) × List Int) (x : Option Nat) : List (Option Nat) × List Int :=
  match x with
  | some i => if 0 < s.2.getD i 0 then (s.1 ++ [some i], s.2.set i (s.2.getD i 0 - 1)) else (s.1 ++ [none], s.2)
  | none => (s.1 ++ [none], s.2)
def keepI (oi : List (Option Nat)) (room : List Int) : List (Option Nat) × List Int := oi.foldl keepS ([], room)
def skipI (room : List Int) (next : Nat) : Nat := next + ((room.drop next).takeWhile (· == 0)).length
def fillS (s : List Nat × List Int × Nat) (x : Option Nat) : List Nat × List Int × Nat :=
  match x with
  | some i => (s.1 ++ [i], s.2)
  | none => (s.1 ++ [skipI s.2.1 s.2.2], s.2.1.set (skipI s.2.1 s.2.2) (s.2.1.getD (skipI s.2.1 s.2.2) 0 - 1), skipI s.2.1 s.2.2)
def fillI (kept : List (Option Nat)) (room : List Int) : List Nat := (kept.foldl fillS ([], room, 0)).1
/-- Whom the partitions go to, by place, of n members. -/
def claimI (n : Nat) (oi : List (Option Nat)) : List Nat :=
  let k := keepI oi (shareI (tallyI n oi))
  fillI k.1 k.2

theorem aheadB_irrefl (t : List Int) (i : Nat) : aheadB t i i = false := by simp [aheadB]
theorem aheadB_iff (t : List Int) (i j : Nat) : aheadB t i j = true ↔ (t.getD j 0 < t.getD i 0 ∨ (t.getD j 0 = t.getD i 0 ∧ i < j)) := by simp [aheadB]
theorem aheadB_not (t : List Int) (i j : Nat) : aheadB t i j = false ↔ ¬ (t.getD j 0 < t.getD i 0 ∨ (t.getD j 0 = t.getD i 0 ∧ i < j)) := by
  rw [← aheadB_iff]; simp
theorem aheadB_trans (t : List Int) (i j k : Nat) (h : aheadB t i j = true) (h' : aheadB t j k = true) : aheadB t i k = true := by
  rw [aheadB_iff] at *; omega
theorem aheadB_asymm (t : List Int) (i j : Nat) (h : aheadB t i j = true) : aheadB t j i = false := by
  rw [aheadB_not]; rw [aheadB_iff] at h; omega
theorem aheadB_total (t : List Int) (i j : Nat) (h : i ≠ j) (h' : aheadB t i j = false) : aheadB t j i = true := by
  rw [aheadB_iff]; rw [aheadB_not] at h'; omega

/-- An order of the places: who comes ahead stands ahead. -/
structure IsOrder (t : List Int) (r : List Nat) : Prop where
  perm : r.Perm (List.range t.length)
  rising : r.Pairwise fun i j => aheadB t i j = true
theorem count_ahead (t : List Int) : ∀ (r : List Nat), (r.Pairwise fun i j => aheadB t i j = true) → ∀ (k : Nat) (x : Nat), r[k]? = some x → r.countP (fun j => aheadB t j x) = k
  | [], _, k, x, h => by simp at h
  | y :: r, hp, k, x, h => by
    obtain ⟨h1, h2⟩ := List.pairwise_cons.1 hp
    cases k with
    | zero =>
      simp at h; subst h
      rw [List.countP_cons_of_neg (by simp [aheadB_irrefl]), List.countP_eq_zero]
      intro a ha
      rw [aheadB_asymm t y a (h1 a ha)]; simp
    | succ k =>
      have hx : r[k]? = some x := by simpa using h
      rw [List.countP_cons_of_pos (p := fun j => aheadB t j x) (h1 x (List.mem_of_getElem? hx)), count_ahead t r h2 k x hx]
theorem IsOrder.rank {t : List Int} {r : List Nat} (h : IsOrder t r) (k x : Nat) (hx : r[k]? = some x) : rankI t x = k := by
  unfold rankI
  rw [← h.perm.countP_eq, count_ahead t r h.rising k x hx]
theorem IsOrder.ranks {t : List Int} {r : List Nat} (h : IsOrder t r) : r.map (rankI t) = List.range t.length := by
  have hl : r.length = t.length := by simpa using h.perm.length_eq
  apply List.ext_getElem?
  intro k
  rcases Nat.lt_or_ge k t.length with g | g
  · have hk : r[k]? = some r[k] := List.getElem?_eq_getElem (by omega)
    rw [List.getElem?_map, hk, List.getElem?_range g, Option.map_some, h.rank k _ hk]
  · rw [List.getElem?_eq_none (by simp; omega), List.getElem?_eq_none (by simp; omega)]
theorem order_exists (t : List Int) : ∃ r, IsOrder t r := by
  let le : Nat → Nat → Bool := fun i j => !aheadB t j i
  have htr : ∀ a b c : Nat, le a b = true → le b c = true → le a c = true := fun a b c h1 h2 => by
    simp only [le, Bool.not_eq_true'] at *
    rw [aheadB_not] at *; omega
  have hto : ∀ a b : Nat, (le a b || le b a) = true := fun a b => by
    simp only [le, Bool.or_eq_true, Bool.not_eq_true']
    by_cases h : aheadB t b a = true
    · exact Or.inr (aheadB_asymm t b a h)
    · exact Or.inl (by simpa using h)
  refine ⟨(List.range t.length).mergeSort le, List.mergeSort_perm _ _, ?_⟩
  have hs := List.pairwise_mergeSort htr hto (List.range t.length)
  have hn : ((List.range t.length).mergeSort le).Nodup := (List.mergeSort_perm _ _).nodup_iff.2 List.nodup_range
  refine (hs.and hn).imp ?_
  rintro a b ⟨h1, h2⟩
  simp only [le, Bool.not_eq_true'] at h1
  exact aheadB_total t b a (fun e => h2 e.symm) h1
theorem sum_quota (n : Nat) (hn : 0 < n) : ((List.range n).map (quotaI n)).sum = 8 := by
  have h : ∀ k, ((List.range k).map (quotaI n)).sum = k * (8 / (n : Int)) + (min k (8 % n) : Nat) := by
    intro k
    induction k with
    | zero => simp
    | succ k ih =>
      rw [List.range_succ, List.map_append, List.sum_append, ih]
      simp only [List.map_cons, List.map_nil, List.sum_cons, List.sum_nil, quotaI]
      rw [show ((k + 1 : Nat) : Int) * (8 / (n : Int)) = (k : Int) * (8 / (n : Int)) + 8 / (n : Int) by push_cast; rw [Int.add_mul, Int.one_mul]]
      split <;> omega
  rw [h n, Nat.min_eq_right (Nat.le_of_lt (Nat.mod_lt _ hn))]
  have := Int.mul_ediv_add_emod 8 (n : Int)
  have e : ((8 % n : Nat) : Int) = 8 % (n : Int) := by simp
  rw [e]; exact this
theorem perm_sum {l m : List Int} (h : l.Perm m) : l.sum = m.sum := by
  induction h with
  | nil => rfl
  | cons x _ ih => simp [ih]
  | swap x y l => simp only [List.sum_cons]; omega
  | trans _ _ h1 h2 => rw [h1, h2]
theorem shareI_sum (t : List Int) (ht : t ≠ []) : (shareI t).sum = 8 := by
  obtain ⟨r, hr⟩ := order_exists t
  have h1 : (shareI t).Perm (r.map fun i => quotaI t.length (rankI t i)) := hr.perm.symm.map _
  have h2 : r.map (fun i => quotaI t.length (rankI t i)) = (List.range t.length).map (quotaI t.length) := by
    rw [← hr.ranks, List.map_map]; rfl
  rw [perm_sum h1, h2, sum_quota _ (by cases t with | nil => exact absurd rfl ht | cons a l => simp)]
theorem quotaI_nonneg (n r : Nat) : 0 ≤ quotaI n r := by
  unfold quotaI
  have : 0 ≤ 8 / (n : Int) := Int.ediv_nonneg (by omega) (by omega)
  split <;> omega
theorem shareI_nonneg (t : List Int) : ∀ x ∈ shareI t, 0 ≤ x := fun x hx => by
  obtain ⟨i, _, rfl⟩ := List.mem_map.1 hx
  exact quotaI_nonneg _ _
theorem shareI_len (t : List Int) : (shareI t).length = t.length := by simp [shareI]
theorem tallyI_len (n : Nat) (oi : List (Option Nat)) : (tallyI n oi).length = n := by simp [tallyI]
end Go.Proofs.Ytlliijodilnlgaa
