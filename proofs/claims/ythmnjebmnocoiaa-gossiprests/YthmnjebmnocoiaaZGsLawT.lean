/- An act written out again; what is told fits. -/
import Derived.Test.YthmnjebmnocoiaaZGsLawS
import Derived.Test.YthmnjebmnocoiaaZGsPlanN
namespace Go.Proofs.Ythmnjebmnocoiaa
open Go.RowKit
theorem After.lit {D : List Nat} {a0 a : Act} (h : After D a0 a) : a = ⟨((List.range a0.tmps.size).map fun s => if D.contains s then a.eval (.tmp s) else a0.tmps.getD s undef).toArray, a0.defers⟩ := by
  obtain ⟨A, Df⟩ := a
  have h1 : Df = a0.defers := h.defers
  have h2 : A.size = a0.tmps.size := h.size
  subst h1
  congr 1
  apply Array.ext
  · simp [h2]
  · intro i hi1 hi2
    have e : A[i] = Act.eval ⟨A, a0.defers⟩ (.tmp i) := by
      show A[i] = A.getD i undef
      simp [hi1]
    rw [e]
    simp only [List.getElem_toArray, List.getElem_map, List.getElem_range]
    by_cases hc : D.contains i = true
    · rw [if_pos hc]
    · rw [if_neg hc]
      exact h.old i (by simpa using hc)
theorem join_fit {r : Rg} (h : RFit r) (n : Int) : RFit (joinL r n) := by
  unfold joinL
  split
  · rename_i hc
    exact turn_fit h (by decide) (by
      intro x hx
      simp at hx
      subst hx
      have := hc.1
      simpa [isN] using this)
  · exact norm_fit h
theorem leave_fit {r : Rg} (h : RFit r) (n : Int) : RFit (leaveL r n) := by
  unfold leaveL
  split
  · rename_i hc
    exact turn_fit h (by decide) (by
      intro x hx
      simp at hx
      subst hx
      exact joined_is hc)
  · exact norm_fit h
theorem plan_fit {r : Rg} (h : RFit r) (n : Int) : RFit (planL r n) := by
  unfold planL
  split
  · exact norm_fit h
  · have ht : RFit (turnL (normL r) 3 (membersL (normL r) [2])) := turn_fit (norm_fit h) (by decide) (fun x hx => mem_members hx)
    refine ⟨ht.mem, fun j hj => ?_⟩
    have ho := ht.own j hj
    have e : (planOs (claimL (ownersL (normL r)) (membersL (normL r) [1])) (turnL (normL r) 3 (membersL (normL r) [2])).2 8).getD j noO = planO ((claimL (ownersL (normL r)) (membersL (normL r) [1])).getD j 0) ((turnL (normL r) 3 (membersL (normL r) [2])).2.getD j noO) := by
      unfold planOs
      simp [hj]
    show ((planOs _ _ 8).getD j noO).2 < _
    rw [e]
    unfold planO
    split
    · exact ho
    · exact moreN_lt ho
end Go.Proofs.Ythmnjebmnocoiaa
