/- What the document's Norm tells, in plain words: it is the program's. -/
import Derived.Test.YthmnjebmnocoiaaGreatYB1
namespace Go.Proofs.YthmnjebmnocoiaaGreat
open Go.RowKit

def bst (n : Int) (b m : Mb) : Mb := if m.1 = n ∧ 1 ≤ m.2.1 ∧ m.2.1 ≤ 3 ∧ (b.2.1 = 0 ∨ newM m b = true) then m else b
def bstL (n : Int) (l : List Mb) : Mb := l.foldl (bst n) noM
theorem bst_hear {k : Kn} (hk : Right k) {n : Int} (hn : 1 ≤ n ∧ n ≤ 7) (m : Mb) : hear1 k m n = bst n (k n) m := by
  unfold hear1 bst
  by_cases hm : m.1 = n
  · by_cases hs : 1 ≤ m.2.1 ∧ m.2.1 ≤ 3
    · have hok : okM m = true := (okM_iff m).2 ⟨by rw [hm]; exact hn, hs⟩
      by_cases hz : (k n).2.1 = 0
      · have hno : k n = noM := hk.unseen hz
        have hnew : newM m (k m.1) = true := by
          rw [hm, hno, newM_iff]
          have : noM = ((0 : Int), (0 : Int), (0 : Nat)) := rfl
          rw [this]
          show 0 < m.2.2 ∨ 0 = m.2.2 ∧ 0 < m.2.1
          omega
        rw [if_pos (by rw [hok, hnew]; rfl), if_pos ⟨hm, hs.1, hs.2, .inl hz⟩]
        unfold upd
        rw [if_pos hm.symm]
      · by_cases hnew : newM m (k n) = true
        · rw [if_pos (by rw [hok, hm, hnew]; rfl), if_pos ⟨hm, hs.1, hs.2, .inr hnew⟩]
          unfold upd
          rw [if_pos hm.symm]
        · rw [if_neg (by rw [hok, hm]; simpa using hnew), if_neg (fun q => by rcases q.2.2.2 with q | q; exact hz q; exact hnew q)]
    · have hok : okM m = false := by
        cases h : okM m with
        | false => rfl
        | true => exact absurd ((okM_iff m).1 h).2 hs
      rw [if_neg (by rw [hok]; simp), if_neg (fun q => hs ⟨q.2.1, q.2.2.1⟩)]
  · have hb : (if m.1 = n ∧ 1 ≤ m.2.1 ∧ m.2.1 ≤ 3 ∧ ((k n).2.1 = 0 ∨ newM m (k n) = true) then m else k n) = k n := if_neg (fun q => hm q.1)
    rw [hb]
    split
    · unfold upd
      rw [if_neg (fun e => hm e.symm)]
    · rfl
theorem bst_all {n : Int} (hn : 1 ≤ n ∧ n ≤ 7) : ∀ (l : List Mb) {k : Kn}, Right k → hearL k l n = l.foldl (bst n) (k n)
  | [], _, _ => rfl
  | m :: l, k, hk => by
    show hearL (hear1 k m) l n = l.foldl (bst n) (bst n (k n) m)
    rw [bst_all hn l (hear1_right hk m), ← bst_hear hk hn m]
theorem bstL_eq {n : Int} (hn : 1 ≤ n ∧ n ≤ 7) (l : List Mb) : bstL n l = bestL l n := by
  unfold bestL
  rw [bst_all hn l noK_right]
  rfl
theorem bstL_step (n : Int) (l : List Mb) (i : Nat) (m : Mb) (h : l[i]? = some m) : bstL n (l.take (i + 1)) = bst n (bstL n (l.take i)) m := by
  unfold bstL
  rw [List.take_add_one, h, List.foldl_append]; rfl
def risTo (k : Kn) (n : Nat) : List Mb := ((seven.take n).map k).filter fun m => decide (m.2.1 ≠ 0)
theorem seven_at (n : Nat) (h : n < 7) : seven[n]? = some ((n : Int) + 1) := by
  have : ∀ a : Fin 7, seven[a.1]? = some ((a.1 : Int) + 1) := by decide
  exact this ⟨n, h⟩
theorem risTo_succ (k : Kn) (n : Nat) (h : n < 7) : risTo k (n + 1) = if (k ((n : Int) + 1)).2.1 ≠ 0 then risTo k n ++ [k ((n : Int) + 1)] else risTo k n := by
  unfold risTo
  rw [List.take_add_one, seven_at n h, List.map_append, List.filter_append]
  by_cases hz : (k ((n : Int) + 1)).2.1 = 0 <;> simp [hz]
theorem risTo_len (k : Kn) (n : Nat) : (risTo k n).length ≤ 7 := by
  have h := List.length_filter_le (fun m : Mb => decide (m.2.1 ≠ 0)) ((seven.take n).map k)
  rw [List.length_map, List.length_take] at h
  have : seven.length = 7 := rfl
  unfold risTo
  omega
def ownTo (os : List Ow) (n : Nat) : List Ow := (List.range 8).map fun j => if j < n then okO (os.getD j noO) else noO
theorem ownTo_len (os : List Ow) (n : Nat) : (ownTo os n).length = 8 := by simp [ownTo]
theorem ownTo_zero (os : List Ow) : ownTo os 0 = noOs := by simp [ownTo, noOs, List.map_const']
theorem ownTo_succ (os : List Ow) (n : Nat) : ownTo os (n + 1) = (ownTo os n).set n (okO (os.getD n noO)) := by
  apply List.ext_getElem
  · simp [ownTo]
  · intro i h1 h2
    rw [List.getElem_set]
    simp only [ownTo, List.getElem_map, List.getElem_range]
    by_cases e : n = i
    · subst e; rw [if_pos rfl, if_pos (by omega)]
    · rw [if_neg e]
      by_cases g : i < n
      · rw [if_pos g, if_pos (by omega)]
      · rw [if_neg g, if_neg (by omega)]
theorem ownTo_all (r : Rg) : ownTo r.2 8 = (normL r).2 := by
  have hl : (normL r).2.length = 8 := mergeO_len _
  apply List.ext_getElem
  · rw [ownTo_len, hl]
  · intro i h1 h2
    have hi : i < 8 := by rw [hl] at h2; exact h2
    have := own_norm r i hi
    rw [List.getD_eq_getElem?_getD, List.getElem?_eq_getElem h2] at this
    simp only [Option.getD_some] at this
    rw [this]
    simp [ownTo, hi]
theorem refnorm_eq (r : Rg) : (risTo (bestL r.1) 7, ownTo r.2 8) = normL r := by
  refine Prod.ext ?_ (ownTo_all r)
  show risL (bestL r.1) = risL (mergeK [r])
  rfl
end Go.Proofs.YthmnjebmnocoiaaGreat
