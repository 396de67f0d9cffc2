/- The rings of the chapter's example. -/
import Derived.Test.YthmnjebmnocoiaaGreatYGsNewW
import Derived.Test.YthmnjebmnocoiaaGreatYGsPlan
namespace Go.Proofs.YthmnjebmnocoiaaGreat
def aR : Rg := ([(1, 1, 1)], [(1, 1), (1, 1), (1, 1), (1, 1), (1, 1), (1, 1), (1, 1), (1, 1)])
def bR : Rg := ([(1, 1, 1), (2, 1, 1)], [(1, 1), (1, 1), (1, 1), (1, 1), (1, 1), (1, 1), (1, 1), (1, 1)])
def pR : Rg := ([(1, 1, 1), (2, 1, 1)], [(1, 1), (1, 1), (1, 1), (1, 1), (2, 2), (2, 2), (2, 2), (2, 2)])
def cR : Rg := ([(1, 2, 2), (2, 1, 1)], [(1, 1), (1, 1), (1, 1), (1, 1), (2, 2), (2, 2), (2, 2), (2, 2)])
def qR : Rg := ([(1, 3, 3), (2, 1, 1)], [(2, 2), (2, 2), (2, 2), (2, 2), (2, 2), (2, 2), (2, 2), (2, 2)])
theorem lit_a : newL 1 = aR := by decide +kernel
theorem lit_b : joinL aR 2 = bR := by decide +kernel
theorem lit_c : leaveL pR 1 = cR := by decide +kernel
theorem risen_lit (l : List Int) (h : l.Pairwise (· < ·)) (hp : ∀ x ∈ l, 0 < x) : risenL l = l := by
  obtain ⟨h1, h2⟩ := risen_facts l
  exact rise_ext _ _ h1 h fun x => by
    rw [h2]
    exact ⟨fun q => q.1, fun q => ⟨q, hp x q⟩⟩
theorem risen12 : risenL [1, 2] = [1, 2] := risen_lit _ (by decide) (by decide)
theorem risen2 : risenL [2] = [2] := risen_lit _ (by decide) (by decide)
theorem clm_p : claimL (ownersL (normL bR)) (membersL (normL bR) [1]) = [1, 1, 1, 1, 2, 2, 2, 2] := by
  rw [show ownersL (normL bR) = [1, 1, 1, 1, 1, 1, 1, 1] by decide +kernel, show membersL (normL bR) [1] = [1, 2] by decide +kernel]
  unfold claimL; rw [risen12]; decide +kernel
theorem clm_q : claimL (ownersL (normL cR)) (membersL (normL cR) [1]) = [2, 2, 2, 2, 2, 2, 2, 2] := by
  rw [show ownersL (normL cR) = [1, 1, 1, 1, 2, 2, 2, 2] by decide +kernel, show membersL (normL cR) [1] = [2] by decide +kernel]
  unfold claimL; rw [risen2]; decide +kernel
theorem lit_p : planL bR 1 = pR := by unfold planL; rw [clm_p]; decide +kernel
theorem lit_q : planL cR 2 = qR := by unfold planL; rw [clm_q]; decide +kernel
theorem lit_clb : claimantL bR = 1 := by decide +kernel
theorem lit_owp : ownersL pR = [1, 1, 1, 1, 2, 2, 2, 2] := by decide +kernel
theorem lit_plb : planL bR 2 = bR := by decide +kernel
theorem lit_clc : claimantL cR = 2 := by decide +kernel
theorem lit_owq : ownersL qR = [2, 2, 2, 2, 2, 2, 2, 2] := by decide +kernel
theorem lit_stq : stateL qR 1 = 3 := by decide +kernel
theorem lit_mac : mergeL [aR, cR] = cR := by decide +kernel
theorem lit_meq : membersL qR [1] = [2] := by decide +kernel
end Go.Proofs.YthmnjebmnocoiaaGreat
