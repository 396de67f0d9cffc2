/- What the law's awake asks, reckoned. -/
import Derived.Test.YtlliijodilnlgaaRgBal
import Derived.Test.YtlliijodilnlgaaRgIn
namespace Go.Proofs.Ytlliijodilnlgaa

theorem risen_lit (l : List Int) (h : l.Pairwise (· < ·)) (hp : ∀ x ∈ l, 0 < x) : risenL l = l := by
  obtain ⟨h1, h2⟩ := risen_facts l
  exact rise_ext _ _ h1 h fun x => by
    rw [h2]
    exact ⟨fun q => q.1, fun q => ⟨q, hp x q⟩⟩
theorem risen4 : risenL [1, 2, 3, 4] = [1, 2, 3, 4] := risen_lit _ (by decide) (by decide)
theorem risen3 : risenL [1, 2, 3] = [1, 2, 3] := risen_lit _ (by decide) (by decide)
theorem lit_prim : primL [1, 2, 3, 1, 2, 3, 1, 2] 2 3 = [3, 1, 2] := by decide
theorem lit_slop : sloppyL [1, 2, 3, 4, 1, 2, 3, 4] 0 3 [1, 3, 4] = [(1, 1), (4, 2), (3, 3)] := by decide
theorem lit_claim4 : claimL [1, 2, 3, 1, 2, 3, 1, 2] [1, 2, 3, 4] = [1, 2, 3, 1, 2, 3, 4, 4] := by
  unfold claimL; rw [risen4]; decide
theorem lit_claim3 : claimL [0, 0, 0, 0, 0, 0, 0, 0] [1, 2, 3] = [1, 1, 1, 2, 2, 2, 3, 3] := by
  unfold claimL; rw [risen3]; decide
theorem lit_mov : movL [1, 2, 3, 1, 2, 3, 1, 2] [1, 2, 3, 1, 2, 3, 4, 4] = [(6, 1, 4), (7, 2, 4)] := by decide
theorem lit_own : ownedL [1, 2, 3, 1, 2, 3, 1, 2] 1 = [0, 3, 6] := by decide
theorem lit_bal : balL [1, 2, 3, 1, 2, 3, 1, 2] [1, 2, 3] = true := by
  unfold balL; rw [risen3]; decide
end Go.Proofs.Ytlliijodilnlgaa
