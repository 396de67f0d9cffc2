/- The insertion sort of places is stable: it comes to the order. -/
import Derived.Test.YtlliijodilnlgaaRgClP
import Derived.Shelf.SlSortCmp.Insertion
namespace Go.Proofs.Ytlliijodilnlgaa
open Go.Sort

variable {m : Nat}
def cfI (t : List Int) (i j : Fin (m + 1)) : Int := t.getD j.val 0 - t.getD i.val 0
def lt2 (t : List Int) (i j : Fin (m + 1)) : Bool := aheadB t i.val j.val
theorem lt_same (t : List Int) (x y : Fin (m + 1)) (h : y < x) : ltOf (cfI t) x y = lt2 t x y := by
  have hn : ¬ x.val < y.val := by have : y.val < x.val := h; omega
  unfold ltOf cfI lt2 aheadB
  rw [decide_eq_false hn, Bool.and_false, Bool.or_false]
  congr 1
  apply propext
  omega
theorem insInner_same (t : List Int) : ∀ (j : Nat) (d : Array (Fin (m + 1))), j < d.size → (∀ p, p < j → d[p]! < d[j]!) → insInner (ltOf (cfI t)) 0 j d = insInner (lt2 t) 0 j d
  | 0, _, _, _ => rfl
  | j + 1, d, hs, h => by
    rw [insInner, insInner, lt_same t _ _ (h j (by omega))]
    split
    · apply insInner_same t j
      · rw [size_swp]; omega
      · intro p hp
        rw [swp_other _ _ _ _ (by omega) (by omega), swp_right _ _ _ (by omega)]
        exact h p (by omega)
    · rfl
theorem insInner_from (t : List Int) : ∀ (j : Nat) (d : Array (Fin (m + 1))), j < d.size → (insInner (lt2 t) 0 j d).size = d.size ∧ (∀ q, j < q → (insInner (lt2 t) 0 j d)[q]! = d[q]!) ∧ ∀ p, p ≤ j → ∃ p', p' ≤ j ∧ (insInner (lt2 t) 0 j d)[p]! = d[p']!
  | 0, d, _ => ⟨rfl, fun _ _ => rfl, fun p hp => ⟨p, hp, rfl⟩⟩
  | j + 1, d, hs => by
    rw [insInner]
    split
    · obtain ⟨i1, i2, i3⟩ := insInner_from t j (swp d (j + 1) j) (by rw [size_swp]; omega)
      refine ⟨by rw [i1, size_swp], fun q hq => by rw [i2 q (by omega), swp_other _ _ _ _ (by omega) (by omega)], fun p hp => ?_⟩
      rcases Nat.lt_or_ge j p with g | g
      · have : p = j + 1 := by omega
        subst this
        rw [i2 _ (by omega), swp_left _ _ _ (by omega) (by omega)]
        exact ⟨j, by omega, rfl⟩
      · obtain ⟨p', h1, h2⟩ := i3 p g
        rw [h2]
        by_cases e : p' = j
        · subst e
          rw [swp_right _ _ _ (by omega)]
          exact ⟨_, Nat.le_refl _, rfl⟩
        · rw [swp_other _ _ _ _ (by omega) e]
          exact ⟨p', by omega, rfl⟩
    · exact ⟨rfl, fun _ _ => rfl, fun p hp => ⟨p, hp, rfl⟩⟩
theorem insOuter_same (t : List Int) (b : Nat) : ∀ (n i : Nat) (d : Array (Fin (m + 1))), n = b - i → b ≤ d.size → (∀ p q, p < q → i ≤ q → q < b → d[p]! < d[q]!) → insOuter (ltOf (cfI t)) 0 b i d = insOuter (lt2 t) 0 b i d
  | 0, i, d, hn, _, _ => by
    rw [insOuter_stop _ _ _ _ _ (by omega), insOuter_stop _ _ _ _ _ (by omega)]
  | n + 1, i, d, hn, hb, h => by
    have hlt : i < b := by omega
    rw [insOuter_go _ _ _ _ _ hlt, insOuter_go _ _ _ _ _ hlt, insInner_same t i d (by omega) (fun p hp => h p i hp (Nat.le_refl _) hlt)]
    obtain ⟨i1, i2, i3⟩ := insInner_from t i d (by omega)
    refine insOuter_same t b n (i + 1) _ (by omega) (by rw [i1]; exact hb) fun p q hpq hq hqb => ?_
    rw [i2 q (by omega)]
    rcases Nat.lt_or_ge i p with g | g
    · rw [i2 p g]; exact h p q hpq (by omega) hqb
    · obtain ⟨p', h1, h2⟩ := i3 p g
      rw [h2]
      exact h p' q (by omega) (by omega) hqb
theorem lt2_swo (t : List Int) : SWO (lt2 (m := m) t) where
  irrefl x := aheadB_irrefl t _
  trans x y z h1 h2 := aheadB_trans t _ _ _ h1 h2
  ntrans x y z h1 h2 := by
    unfold lt2 at *
    rw [aheadB_not] at *; omega
def idA (m : Nat) : Array (Fin (m + 1)) := (List.finRange (m + 1)).toArray
theorem idA_size : (idA m).size = m + 1 := by simp [idA]
theorem idA_at (p : Nat) (hp : p < m + 1) : (idA m)[p]! = ⟨p, hp⟩ := by
  simp [idA, hp]
theorem idA_list : (idA m).toList.map Fin.val = List.range (m + 1) := by
  unfold idA
  apply List.ext_getElem
  · simp
  · intro i h1 h2
    simp
/-- what the sort of the places 0 to m comes to. -/
def orderA (t : List Int) : Array (Fin (m + 1)) := insertionSort (ltOf (cfI t)) (idA m) 0 (m + 1)
theorem orderA_spec (t : List Int) (ht : t.length = m + 1) : (orderA (m := m) t).size = m + 1 ∧ IsOrder t ((orderA (m := m) t).toList.map Fin.val) := by
  have he : orderA (m := m) t = insertionSort (lt2 t) (idA m) 0 (m + 1) := by
    unfold orderA insertionSort
    refine insOuter_same t (m + 1) _ 1 _ rfl (by rw [idA_size]; omega) fun p q hpq _ hq => ?_
    rw [idA_at p (by omega), idA_at q hq]
    exact hpq
  obtain ⟨⟨h1, _, h3⟩, h4⟩ := insertionSort_holds (lt := lt2 (m := m) t) (lt2_swo t) (idA m) 0 (m + 1) (by omega) (by rw [idA_size]; omega)
  rw [← he] at h1 h3 h4
  rw [idA_size] at h1
  generalize orderA (m := m) t = r at h1 h3 h4
  have hp : r.toList.Perm (idA m).toList := by
    rw [Array.extract_eq_self_of_le (by omega), Array.extract_eq_self_of_le (by rw [idA_size]; omega)] at h3
    exact h3
  have hperm : (r.toList.map Fin.val).Perm (List.range (m + 1)) := by
    rw [← idA_list]; exact hp.map _
  refine ⟨h1, by rw [ht]; exact hperm, ?_⟩
  have hnd : (r.toList.map Fin.val).Nodup := hperm.nodup_iff.2 List.nodup_range
  rw [List.pairwise_iff_getElem]
  intro i j hi hj hij
  have hi' : i < r.size := by simpa using hi
  have hj' : j < r.size := by simpa using hj
  have hne : (r.toList.map Fin.val)[i] ≠ (r.toList.map Fin.val)[j] := fun e => by
    exact (List.pairwise_iff_getElem.1 hnd i j hi hj hij) e
  have hs := h4 i j (by omega) hij (by omega)
  have ei : r[i]! = r[i] := by simp [hi']
  have ej : r[j]! = r[j] := by simp [hj']
  rw [ei, ej] at hs
  simp only [List.getElem_map, Array.getElem_toList] at hne ⊢
  exact aheadB_total t _ _ (fun e => hne e.symm) hs
end Go.Proofs.Ytlliijodilnlgaa
