/- GsAlg, GsPlanP. -/
import Derived.Test.YthmnjebmnocoiaaGreatYA7
import Derived.Test.YthmnjebmnocoiaaGreatYA6
/- Merging, in plain words: it hangs on no order and no grouping; what is changed is newer. -/
namespace Go.Proofs.YthmnjebmnocoiaaGreat

def joinK : List Rg → Int → Mb
  | [], _ => noM
  | r :: l, n => joM (bestL r.1 n) (joinK l n)
theorem joinK_sl : ∀ (l : List Rg) (n : Int), Sl n (joinK l n)
  | [], _ => Or.inl rfl
  | r :: l, n => (bestL_right r.1 n).jo (joinK_sl l n)
theorem foldK_at : ∀ (l : List Rg) {k : Kn}, Right k → ∀ n, l.foldl (fun k r => hearL k r.1) k n = joM (k n) (joinK l n)
  | [], k, hk, n => (joM_no' (hk n)).symm
  | r :: l, k, hk, n => by
    rw [List.foldl_cons, foldK_at l (hearL_right r.1 hk) n, hearL_at r.1 hk n, joM_assoc]; rfl
theorem mergeK_at (l : List Rg) (n : Int) : mergeK l n = joinK l n := by
  unfold mergeK
  rw [foldK_at l noK_right n]
  exact joM_no (joinK_sl l n)
def joinO : List Rg → Nat → Ow
  | [], _ => noO
  | r :: l, j => joO (okO (r.2.getD j noO)) (joinO l j)
theorem joinO_so : ∀ (l : List Rg) (j : Nat), So (joinO l j)
  | [], _ => ⟨Int.le_refl 0, show (0 : Int) ≤ 7 by decide⟩
  | r :: l, j => joO_so (okO_so _) (joinO_so l j)
theorem foldO_at : ∀ (l : List Rg) {a : List Ow}, a.length = 8 → ∀ j, j < 8 → (l.foldl (fun a r => newestL a r.2) a).getD j noO = joO (a.getD j noO) (joinO l j) ∨ ¬ So (a.getD j noO)
  | [], a, _, j, _ => by
    by_cases h : So (a.getD j noO)
    · left
      show a.getD j noO = joO (a.getD j noO) noO
      rw [joO_comm, joO_no h]
    · exact Or.inr h
  | r :: l, a, ha, j, hj => by
    by_cases h : So (a.getD j noO)
    · left
      have := foldO_at l (a := newestL a r.2) (newestL_len _ _) j hj
      rw [newestL_at _ _ j hj] at this
      rcases this with e | e
      · rw [List.foldl_cons, e, joO_assoc]; rfl
      · exact absurd (joO_so h (okO_so _)) e
    · exact Or.inr h
theorem noOs_at (j : Nat) (hj : j < 8) : noOs.getD j noO = noO := by
  unfold noOs
  rw [List.getD_eq_getElem?_getD, List.getElem?_replicate, if_pos hj]; rfl
theorem mergeO_at (l : List Rg) (j : Nat) (hj : j < 8) : (mergeO l).getD j noO = joinO l j := by
  have := foldO_at l (a := noOs) rfl j hj
  rw [noOs_at j hj] at this
  rcases this with e | e
  · unfold mergeO
    rw [e]; exact joO_no (joinO_so l j)
  · exact absurd (by unfold So; decide) e
theorem merge_ext {l l' : List Rg} (hk : ∀ n, joinK l n = joinK l' n) (ho : ∀ j, j < 8 → joinO l j = joinO l' j) : mergeL l = mergeL l' := by
  unfold mergeL
  rw [show risL (mergeK l) = risL (mergeK l') from risL_congr (fun n => by rw [mergeK_at, mergeK_at, hk n])]
  rw [own_ext (mergeO_len l) (mergeO_len l') (fun j hj => by rw [mergeO_at l j hj, mergeO_at l' j hj, ho j hj])]
theorem best_merge (l : List Rg) (n : Int) : bestL (mergeL l).1 n = joinK l n := by
  show bestL (risL (mergeK l)) n = _
  rw [best_ris _ (mergeK_right l), mergeK_at]
def Normed (r : Rg) : Prop := ∃ k : Kn, Right k ∧ r.1 = risL k ∧ r.2.length = 8 ∧ ∀ j, j < 8 → So (r.2.getD j noO)
theorem merge_normed (l : List Rg) : Normed (mergeL l) := ⟨mergeK l, mergeK_right l, rfl, mergeO_len l, fun j hj => by
  show So ((mergeO l).getD j noO)
  rw [mergeO_at l j hj]; exact joinO_so l j⟩
theorem normed_eq {r : Rg} (h : Normed r) {l : List Rg} (hk : ∀ n, joinK l n = bestL r.1 n) (ho : ∀ j, j < 8 → joinO l j = r.2.getD j noO) : mergeL l = r := by
  obtain ⟨k, hr, e1, e2, e3⟩ := h
  refine Prod.ext ?_ ?_
  · show risL (mergeK l) = r.1
    rw [e1]
    refine risL_congr fun n => ?_
    rw [mergeK_at, hk n, e1, best_ris k hr]
  · exact own_ext (mergeO_len l) e2 (fun j hj => by show (mergeO l).getD j noO = _; rw [mergeO_at l j hj, ho j hj])
theorem jK_one (r : Rg) (n : Int) : joinK [r] n = bestL r.1 n := joM_no' (bestL_right _ n)
theorem jO_one (r : Rg) (j : Nat) : joinO [r] j = okO (r.2.getD j noO) := by
  show joO _ noO = _
  rw [joO_comm, joO_no (okO_so _)]
/-! What is changed is newer. -/
theorem best_norm (r : Rg) (n : Int) : bestL (normL r).1 n = bestL r.1 n := by
  show bestL (mergeL [r]).1 n = _
  rw [best_merge, jK_one]
theorem own_norm (r : Rg) (j : Nat) (hj : j < 8) : (normL r).2.getD j noO = okO (r.2.getD j noO) := by
  show (mergeO [r]).getD j noO = _
  rw [mergeO_at _ j hj, jO_one]
theorem best_normK (r : Rg) : bestL (normL r).1 = bestL r.1 := funext (best_norm r)
end Go.Proofs.YthmnjebmnocoiaaGreat

/- What package gossip's Plan tells, in plain words. -/
namespace Go.Proofs.YthmnjebmnocoiaaGreat
open Go.RowKit

def planO (o : Int) (had : Ow) : Ow := if o = had.1 then had else (o, moreN had.2)
def planOs (c : List Int) (os : List Ow) (k : Nat) : List Ow := (List.range 8).map fun j => if j < k then planO (c.getD j 0) (os.getD j noO) else os.getD j noO
theorem planOs_len (c : List Int) (os : List Ow) (k : Nat) : (planOs c os k).length = 8 := by simp [planOs]
theorem planOs_zero (c : List Int) (os : List Ow) (h : os.length = 8) : planOs c os 0 = os := by
  apply List.ext_getElem
  · simp [planOs, h]
  · intro i h1 h2
    simp [planOs, h2]
theorem planOs_at (c : List Int) (os : List Ow) (k : Nat) (hk : k < 8) : (planOs c os k).getD k noO = os.getD k noO := by
  simp [planOs, List.getD_eq_getElem?_getD, hk]
theorem planOs_all (c : List Int) (os : List Ow) (j : Nat) (hj : j < 8) : (planOs c os 8).getD j noO = planO (c.getD j 0) (os.getD j noO) := by
  simp [planOs, List.getD_eq_getElem?_getD, hj]
theorem planOs_succ (c : List Int) (os : List Ow) (k : Nat) : planOs c os (k + 1) = (planOs c os k).set k (planO (c.getD k 0) (os.getD k noO)) := by
  apply List.ext_getElem
  · simp [planOs]
  · intro i h1 h2
    rw [List.getElem_set]
    simp only [planOs, List.getElem_map, List.getElem_range]
    by_cases e : k = i
    · subst e; rw [if_pos rfl, if_pos (by omega)]
    · rw [if_neg e]
      by_cases g : i < k
      · rw [if_pos g, if_pos (by omega)]
      · rw [if_neg g, if_neg (by omega)]
def planL (r : Rg) (n : Int) : Rg :=
  if claimantL (normL r) = 0 ∨ n ≠ claimantL (normL r) then normL r
  else ((turnL (normL r) 3 (membersL (normL r) [2])).1, planOs (claimL (ownersL (normL r)) (membersL (normL r) [1])) (turnL (normL r) 3 (membersL (normL r) [2])).2 8)
theorem mem_members {r : Rg} {ss : List Int} {n : Int} (h : n ∈ membersL r ss) : 1 ≤ n ∧ n ≤ 7 := by
  unfold membersL selL at h
  obtain ⟨m, hm, rfl⟩ := List.mem_map.1 h
  have hm1 := (List.mem_filter.1 hm).1
  have := (mem_risL (mergeK [r]) (mergeK_right _) m).1 hm1
  have hs := (mergeK_right [r]).seen (n := m.1) (by rw [this.2]; exact this.1)
  rw [this.2, okM_iff] at hs
  exact hs.1.1
end Go.Proofs.YthmnjebmnocoiaaGreat
