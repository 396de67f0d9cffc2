/- What a plan tells is newer than what it was made of. -/
import Derived.Test.YthmnjebmnocoiaaGreatYB1
namespace Go.Proofs.YthmnjebmnocoiaaGreat
open Go.RowKit

theorem claim_so (o ms : List Int) (hm : ∀ x ∈ ms, 1 ≤ x ∧ x ≤ 7) (j : Nat) : 0 ≤ (claimL o ms).getD j 0 ∧ (claimL o ms).getD j 0 ≤ 7 := by
  have hz : ∀ (M : List Int) (i : Nat), (∀ x ∈ M, 1 ≤ x ∧ x ≤ 7) → 0 ≤ M.getD i 0 ∧ M.getD i 0 ≤ 7 := fun M i hM => by
    rw [List.getD_eq_getElem?_getD]
    cases h : M[i]? with
    | none => simp
    | some x =>
      have := hM x (List.mem_of_getElem? h)
      simp only [Option.getD_some]; omega
  have hM : ∀ x ∈ risenL ms, 1 ≤ x ∧ x ≤ 7 := fun x hx => hm x (((risen_facts ms).2 x).1 hx).1
  unfold claimL
  split
  · rw [List.getD_eq_getElem?_getD]
    cases h : (List.replicate 8 (0 : Int))[j]? with
    | none => simp
    | some x =>
      have := List.eq_of_mem_replicate (List.mem_of_getElem? h)
      simp [this]
  · unfold outV
    rw [List.getD_eq_getElem?_getD, List.getElem?_map]
    cases h : (claimI (risenL ms).length (o.map (findI (risenL ms))))[j]? with
    | none => simp
    | some i => exact hz _ i hM
end Go.Proofs.YthmnjebmnocoiaaGreat
