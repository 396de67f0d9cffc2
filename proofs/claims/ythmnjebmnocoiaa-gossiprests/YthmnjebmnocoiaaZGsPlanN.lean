/- What a plan tells is newer than what it was made of. -/
import Derived.Test.YthmnjebmnocoiaaZB1
namespace Go.Proofs.Ythmnjebmnocoiaa
open Go.RowKit

theorem turnK_out {s : Int} : ∀ (ns : List Int) (k : Kn) (x : Int), x ∉ ns → turnK k s ns x = k x
  | [], _, _, _ => rfl
  | n :: ns, k, x, h => by
    have h1 : x ≠ n := fun e => h (by simp [e])
    show turnK (turn1 s k n) s ns x = k x
    rw [turnK_out ns _ x (fun q => h (List.mem_cons_of_mem _ q))]
    show upd k (n, s, moreN (k n).2.2) x = k x
    unfold upd
    rw [if_neg h1]
theorem turnK_in {s : Int} : ∀ (ns : List Int) (k : Kn) (x : Int), ns.Nodup → x ∈ ns → turnK k s ns x = (x, s, moreN (k x).2.2)
  | n :: ns, k, x, hd, h => by
    obtain ⟨hn, hd2⟩ := List.nodup_cons.1 hd
    show turnK (turn1 s k n) s ns x = _
    rcases List.mem_cons.1 h with rfl | h
    · rw [turnK_out ns _ x hn]
      show upd k (x, s, moreN (k x).2.2) x = _
      unfold upd
      rw [if_pos rfl]
    · have hne : x ≠ n := fun e => hn (e ▸ h)
      rw [turnK_in ns _ x hd2 h]
      have : turn1 s k n x = k x := by
        show upd k (n, s, moreN (k n).2.2) x = k x
        unfold upd
        rw [if_neg hne]
      rw [this]
/-- Of whatever nodes, each once. -/
theorem turn_newer_all {r : Rg} (h : Small r) {s : Int} {ns : List Int} (hd : ns.Nodup) (x : Int) : joM (bestL r.1 x) (turnK (bestL r.1) s ns x) = turnK (bestL r.1) s ns x := by
  by_cases hx : x ∈ ns
  · rw [turnK_in ns _ x hd hx]
    exact jo_more (h.1 x)
  · rw [turnK_out ns _ x hx, joM_idem]
theorem members_nodup (r : Rg) (ss : List Int) : (membersL r ss).Nodup := by
  unfold membersL selL
  have hr : (normL r).1.Pairwise fun x y => x.1 < y.1 := risL_rise _ (mergeK_right _)
  have h2 := hr.sublist (List.filter_sublist (p := inS ss))
  exact List.pairwise_map.2 (h2.imp fun {a b} hlt e => by rw [e] at hlt; omega)
theorem claim_so (o ms : List Int) (hm : ∀ x ∈ ms, 1 ≤ x ∧ x ≤ 7) (j : Nat) : 0 ≤ (claimL o ms).getD j 0 ∧ (claimL o ms).getD j 0 ≤ 7 := by
  have hz : ∀ (M : List Int) (i : Nat), (∀ x ∈ M, 1 ≤ x ∧ x ≤ 7) → 0 ≤ M.getD i 0 ∧ M.getD i 0 ≤ 7 := fun M i hM => by
    rw [List.getD_eq_getElem?_getD]
    cases h : M[i]? with
    | none => simp
    | some x =>
      have := hM x (List.mem_of_getElem? h)
      simp only [Option.getD_some]; omega
  have hM : ∀ x ∈ risenL ms, 1 ≤ x ∧ x ≤ 7 := fun x hx => hm x (((risen_facts ms).2 x).1 hx).1
  unfold claimL
  split
  · rw [List.getD_eq_getElem?_getD]
    cases h : (List.replicate 8 (0 : Int))[j]? with
    | none => simp
    | some x =>
      have := List.eq_of_mem_replicate (List.mem_of_getElem? h)
      simp [this]
  · unfold outV
    rw [List.getD_eq_getElem?_getD, List.getElem?_map]
    cases h : (claimI (risenL ms).length (o.map (findI (risenL ms))))[j]? with
    | none => simp
    | some i => exact hz _ i hM
theorem plan_normed {r : Rg} (n : Int) : Normed (planL r n) := by
  unfold planL
  split
  · exact merge_normed _
  · have hm : ∀ x ∈ membersL (normL r) [2], 1 ≤ x ∧ x ≤ 7 := fun x hx => mem_members hx
    obtain ⟨k, h1, h2, _, _⟩ := turn_normed (r := normL r) (s := 3) (by decide) hm
    refine ⟨k, h1, h2, planOs_len _ _ _, fun j hj => ?_⟩
    rw [planOs_all _ _ j hj]
    unfold planO
    split
    · show So ((normL (normL r)).2.getD j noO)
      rw [own_norm _ j hj]; exact okO_so _
    · exact claim_so _ _ (fun x hx => mem_members hx) j
theorem plan_newer {r : Rg} (h : Small r) (n : Int) : mergeL [planL r n, r] = planL r n := by
  rw [merge_comm]
  refine normed_eq (plan_normed n) (fun x => ?_) (fun j hj => ?_)
  · show joM _ (joinK [planL r n] x) = _
    rw [jK_one]
    unfold planL
    split
    · rw [best_norm, joM_idem]
    · have hm : ∀ x ∈ membersL (normL r) [2], 1 ≤ x ∧ x ≤ 7 := fun x hx => mem_members hx
      show joM (bestL r.1 x) (bestL (turnL (normL r) 3 (membersL (normL r) [2])).1 x) = bestL (turnL (normL r) 3 (membersL (normL r) [2])).1 x
      rw [best_turn (by decide) hm, best_normK]
      exact turn_newer_all h (members_nodup _ _) x
  · show joO _ (joinO [planL r n] j) = _
    rw [jO_one]
    unfold planL
    split
    · rw [own_norm r j hj, okO_id (okO_so _), joO_idem]
    · show joO (okO (r.2.getD j noO)) (okO ((planOs _ (normL (normL r)).2 8).getD j noO)) = (planOs _ (normL (normL r)).2 8).getD j noO
      rw [planOs_all _ _ j hj, own_norm _ j hj, own_norm _ j hj, okO_id (okO_so _)]
      unfold planO
      split
      · rw [okO_id (okO_so _), joO_idem]
      · have hso := claim_so (ownersL (normL r)) (membersL (normL r) [1]) (fun x hx => mem_members hx) j
        have hso2 : So ((claimL (ownersL (normL r)) (membersL (normL r) [1])).getD j 0, moreN (okO (r.2.getD j noO)).2) := hso
        rw [okO_id hso2]
        have hv : (okO (r.2.getD j noO)).2 = (r.2.getD j noO).2 := by unfold okO; split <;> rfl
        have h2 := h.2 j hj
        unfold joO
        rw [if_pos ((newO_iff _ _).2 (Or.inl (by
          show (okO (r.2.getD j noO)).2 < moreN (okO (r.2.getD j noO)).2
          rw [hv, moreN_gt h2]; omega)))]
end Go.Proofs.Ythmnjebmnocoiaa
