/- What the document's own ways make of rings, in plain words. -/
import Derived.Test.YthmnjebmnocoiaaGreatYB1
import Derived.Test.YthmnjebmnocoiaaGreatYGsPlanN
import Derived.Test.YthmnjebmnocoiaaGreatYGsNewP
namespace Go.Proofs.YthmnjebmnocoiaaGreat

theorem norm_idem2 (r : Rg) : normL (normL r) = normL r :=
  normed_eq (merge_normed [r]) (fun n => by rw [jK_one]; rfl) (fun j hj => by
    obtain ⟨_, _, _, _, hso⟩ := merge_normed [r]
    rw [jO_one]
    exact okO_id (hso j hj))
theorem norm_so (r : Rg) (j : Nat) (hj : j < 8) : So ((normL r).2.getD j noO) := by
  obtain ⟨_, _, _, _, hso⟩ := merge_normed [r]
  exact hso j hj
def findM (l : List Mb) (n : Int) : Mb := (l.find? fun m => decide (m.1 = n)).getD noM
theorem findM_ris {k : Kn} (hk : Right k) (n : Int) : findM (risL k) n = k n := by
  unfold findM
  cases h : (risL k).find? fun m => decide (m.1 = n) with
  | none =>
    have h1 := List.find?_eq_none.1 h
    by_cases h0 : (k n).2.1 = 0
    · rw [hk.unseen h0]; rfl
    · have h2 := (hk.seen h0).2
      exact absurd (decide_eq_true h2) (h1 (k n) ((mem_risL k hk _).2 ⟨h0, by rw [h2]⟩))
  | some m =>
    have h0 := List.find?_some h
    have h1 : m.1 = n := by simpa using h0
    have h2 := (mem_risL k hk m).1 (List.mem_of_find?_eq_some h)
    show m = k n
    rw [← h1, h2.2]
def putR (r : Rg) (m : Mb) : Rg := normL (r.1.filter (fun x => decide (x.1 ≠ m.1)) ++ [m], r.2)
theorem best_one (x : Mb) (n : Int) : bestL [x] n = if okM x = true ∧ x.1 = n then x else noM := by
  show hear1 noK x n = _
  rw [hear1_at]
  by_cases h : okM x = true ∧ x.1 = n
  · rw [if_pos h, if_pos h]
    exact joM_no (n := n) (.inr h)
  · rw [if_neg h, if_neg h]; rfl
theorem best_drop (a : Int) : ∀ (L : List Mb) (n : Int), bestL (L.filter fun x => decide (x.1 ≠ a)) n = if n = a then noM else bestL L n
  | [], n => by
    show noM = if n = a then noM else noM
    split <;> rfl
  | x :: L, n => by
    have e : x :: L = [x] ++ L := rfl
    rw [e, bestL_append, List.filter_append, bestL_append, best_drop a L n]
    by_cases hx : x.1 = a
    · have h0 : [x].filter (fun x => decide (x.1 ≠ a)) = [] := by simp [hx]
      rw [h0]
      show joM noM _ = _
      by_cases hn : n = a
      · rw [if_pos hn, if_pos hn]; exact joM_idem noM
      · rw [if_neg hn, if_neg hn, best_one, if_neg (by rintro ⟨_, q⟩; exact hn (q.symm.trans hx))]
    · have h0 : [x].filter (fun x => decide (x.1 ≠ a)) = [x] := by simp [hx]
      rw [h0]
      by_cases hn : n = a
      · rw [if_pos hn, if_pos hn, best_one, if_neg (by rintro ⟨_, q⟩; exact hx (q.trans hn))]; exact joM_idem noM
      · rw [if_neg hn, if_neg hn]
theorem put_eq {k : Kn} {os : List Ow} {m : Mb} (hk : Right k) (hm : okM m = true) (h8 : os.length = 8) (hso : ∀ j, j < 8 → So (os.getD j noO)) : putR (risL k, os) m = (risL (upd k m), os) :=
  normed_eq (r := (risL (upd k m), os)) ⟨upd k m, upd_right hk hm, rfl, h8, hso⟩ (fun n => by
    rw [jK_one]
    show bestL ((risL k).filter (fun x => decide (x.1 ≠ m.1)) ++ [m]) n = bestL (risL (upd k m)) n
    rw [bestL_append, best_drop, best_ris k hk, best_ris _ (upd_right hk hm), best_one]
    by_cases e : n = m.1
    · rw [if_pos e, if_pos ⟨hm, e.symm⟩, joM_no (n := m.1) (.inr ⟨hm, rfl⟩)]
      unfold upd
      rw [if_pos e]
    · rw [if_neg e, if_neg (fun q => e q.2.symm), joM_no' (hk n)]
      unfold upd
      rw [if_neg e]) (fun j hj => by
    rw [jO_one]
    exact okO_id (hso j hj))
def rjoinL (r : Rg) (n : Int) : Rg := if n < 1 ∨ 7 < n ∨ (findM (normL r).1 n).2.1 = 1 then normL r else putR (normL r) (n, 1, moreN (findM (normL r).1 n).2.2)
theorem find_norm (r : Rg) (n : Int) : findM (normL r).1 n = bestL r.1 n := findM_ris (bestL_right r.1) n
theorem turn_one (r : Rg) (s n : Int) : turnL r s [n] = (risL (upd (bestL r.1) (n, s, moreN (bestL r.1 n).2.2)), (normL r).2) := by
  show (risL (upd (bestL (normL r).1) (n, s, moreN (bestL (normL r).1 n).2.2)), (normL r).2) = _
  rw [best_normK]
theorem put_turn (r : Rg) (s n : Int) (hs : 1 ≤ s ∧ s ≤ 3) (hn : 1 ≤ n ∧ n ≤ 7) : putR (normL r) (n, s, moreN (findM (normL r).1 n).2.2) = turnL r s [n] := by
  rw [find_norm, turn_one]
  exact put_eq (k := bestL r.1) (os := (normL r).2) (bestL_right r.1) (turn_ok hs hn _) (mergeO_len _) (norm_so r)
theorem rjoin_eq (r : Rg) (n : Int) : rjoinL r n = joinL r n := by
  have hst : stateL r n = (findM (normL r).1 n).2.1 := by rw [find_norm]; rfl
  unfold rjoinL joinL
  rw [hst]
  by_cases h : isN n = true ∧ (findM (normL r).1 n).2.1 ≠ 1
  · have hn := (isN_iff n).1 h.1
    rw [if_neg (by intro q; rcases q with q | q | q; omega; omega; exact h.2 q), if_pos h]
    exact put_turn r 1 n (by decide) hn
  · rw [if_neg h, if_pos]
    by_cases h1 : n < 1
    · exact .inl h1
    · by_cases h2 : 7 < n
      · exact .inr (.inl h2)
      · refine .inr (.inr ?_)
        by_cases h3 : (findM (normL r).1 n).2.1 = 1
        · exact h3
        · exact absurd ⟨(isN_iff n).2 ⟨by omega, by omega⟩, h3⟩ h
def rleaveL (r : Rg) (n : Int) : Rg := if (findM (normL r).1 n).2.1 ≠ 1 then normL r else putR (normL r) (n, 2, moreN (findM (normL r).1 n).2.2)
theorem rleave_eq (r : Rg) (n : Int) : rleaveL r n = leaveL r n := by
  have hst : stateL r n = (findM (normL r).1 n).2.1 := by rw [find_norm]; rfl
  unfold rleaveL leaveL
  by_cases h : stateL r n = 1
  · rw [if_pos h, if_neg (by rw [← hst]; exact fun q => q h)]
    exact put_turn r 2 n (by decide) (joined_is h)
  · rw [if_neg h, if_pos (by rw [← hst]; exact h)]
/-! Merging. -/
def rmA (l : List Rg) : List Mb := l.flatMap fun r => (normL r).1
def rmStep (a : List Ow) (r : Rg) : List Ow := (List.range 8).map fun j => joO (a.getD j noO) ((normL r).2.getD j noO)
def rmO (l : List Rg) : List Ow := l.foldl rmStep noOs
theorem rmStep_eq (a : List Ow) (r : Rg) : rmStep a r = newestL a r.2 := by
  unfold rmStep newestL
  apply List.map_congr_left
  intro j hj
  rw [own_norm r j (List.mem_range.1 hj)]
theorem rmO_eq (l : List Rg) : rmO l = mergeO l := by
  unfold rmO mergeO
  have : rmStep = fun a r => newestL a r.2 := by funext a r; exact rmStep_eq a r
  rw [this]
theorem rmA_at : ∀ (l : List Rg) (n : Int), bestL (rmA l) n = joinK l n
  | [], _ => rfl
  | r :: l, n => by
    show bestL ((normL r).1 ++ rmA l) n = joM (bestL r.1 n) (joinK l n)
    rw [bestL_append, rmA_at l n, best_norm]
theorem rmerge_eq (l : List Rg) : normL (rmA l, rmO l) = mergeL l := merge_ext (fun n => by rw [jK_one]; exact rmA_at l n) (fun j hj => by
  rw [jO_one]
  show okO ((rmO l).getD j noO) = _
  rw [rmO_eq, mergeO_at l j hj, okO_id (joinO_so l j)])
/-! Planning. -/
theorem find_turn (k : Kn) (hk : Right k) (os : List Ow) (h8 : os.length = 8) (hso : ∀ j, j < 8 → So (os.getD j noO)) : ∀ (ns : List Int), (∀ n ∈ ns, 1 ≤ n ∧ n ≤ 7) → ns.foldl (fun r n => putR r (n, 3, moreN (findM r.1 n).2.2)) (risL k, os) = (risL (turnK k 3 ns), os) := by
  intro ns
  induction ns generalizing k with
  | nil => intro _; rfl
  | cons n ns ih =>
    intro h
    have hn := h n (by simp)
    rw [List.foldl_cons]
    have e : putR (risL k, os) (n, 3, moreN (findM (risL k, os).1 n).2.2) = (risL (turn1 3 k n), os) := by
      show putR (risL k, os) (n, 3, moreN (findM (risL k) n).2.2) = _
      rw [findM_ris hk]
      exact put_eq hk (turn_ok (by decide) hn _) h8 hso
    rw [e, ih (turn1 3 k n) (upd_right hk (turn_ok (by decide) hn _)) (fun x hx => h x (by simp [hx]))]
    rfl
def rplanL (r : Rg) (n : Int) : Rg :=
  if n = 0 ∨ claimantL (normL r) ≠ n then normL r
  else (membersL ((normL r).1, planOs (claimL (ownersL (normL r)) (membersL (normL r) [1])) (normL r).2 8) [2]).foldl (fun r n => putR r (n, 3, moreN (findM r.1 n).2.2)) ((normL r).1, planOs (claimL (ownersL (normL r)) (membersL (normL r) [1])) (normL r).2 8)
theorem plan_so (r : Rg) (j : Nat) (hj : j < 8) : So ((planOs (claimL (ownersL (normL r)) (membersL (normL r) [1])) (normL r).2 8).getD j noO) := by
  rw [planOs_all _ _ j hj]
  have h1 := norm_so r j hj
  have h2 := claim_so (ownersL (normL r)) (membersL (normL r) [1]) (fun x hx => mem_members hx) j
  unfold planO
  split
  · exact h1
  · exact h2
theorem rplan_eq (r : Rg) (n : Int) : rplanL r n = planL r n := by
  unfold rplanL planL
  by_cases h : n = 0 ∨ claimantL (normL r) ≠ n
  · rw [if_pos h, if_pos]
    rcases h with h | h
    · by_cases h2 : claimantL (normL r) = 0
      · exact .inl h2
      · exact .inr (by rw [h]; exact fun q => h2 q.symm)
    · exact .inr (fun q => h q.symm)
  · have h1 : ¬ (claimantL (normL r) = 0 ∨ n ≠ claimantL (normL r)) := by
      intro q
      apply h
      rcases q with q | q
      · by_cases h2 : n = 0
        · exact .inl h2
        · exact .inr (by rw [q]; exact fun e => h2 e.symm)
      · exact .inr (fun e => q e.symm)
    rw [if_neg h, if_neg h1]
    generalize hos : planOs (claimL (ownersL (normL r)) (membersL (normL r) [1])) (normL r).2 8 = os
    have h8 : os.length = 8 := by rw [← hos]; exact planOs_len _ _ _
    have hso : ∀ j, j < 8 → So (os.getD j noO) := fun j hj => by rw [← hos]; exact plan_so r j hj
    have hm : membersL ((normL r).1, os) [2] = membersL (normL r) [2] := by
      unfold membersL
      rfl
    have hF := find_turn (bestL r.1) (bestL_right r.1) os h8 hso (membersL (normL r) [2]) (fun x hx => mem_members hx)
    rw [hm]
    refine hF.trans ?_
    have e1 : (turnL (normL r) 3 (membersL (normL r) [2])).1 = risL (turnK (bestL r.1) 3 (membersL (normL r) [2])) := by
      show risL (turnK (bestL (normL (normL r)).1) 3 _) = _
      rw [norm_idem2, best_normK]
    have e2 : (turnL (normL r) 3 (membersL (normL r) [2])).2 = (normL r).2 := by
      show (normL (normL r)).2 = _
      rw [norm_idem2]
    rw [e1, e2, hos]
/-! Whoever is leaving owns nothing in a claim. -/
theorem claim_in (o ms : List Int) (j : Nat) : (claimL o ms).getD j 0 = 0 ∨ (claimL o ms).getD j 0 ∈ ms := by
  unfold claimL
  split
  · rw [List.getD_eq_getElem?_getD]
    cases h : (List.replicate 8 (0 : Int))[j]? with
    | none => exact .inl rfl
    | some x =>
      have := List.eq_of_mem_replicate (List.mem_of_getElem? h)
      exact .inl (by simpa using this)
  · unfold outV
    rw [List.getD_eq_getElem?_getD, List.getElem?_map]
    cases h : (claimI (risenL ms).length (o.map (findI (risenL ms))))[j]? with
    | none => exact .inl rfl
    | some i =>
      show (risenL ms).getD i 0 = 0 ∨ (risenL ms).getD i 0 ∈ ms
      rw [List.getD_eq_getElem?_getD]
      cases h2 : (risenL ms)[i]? with
      | none => exact .inl rfl
      | some x => exact .inr (((risen_facts ms).2 x).1 (List.mem_of_getElem? h2)).1
theorem members_state {r : Rg} {s x : Int} (h : x ∈ membersL r [s]) : (bestL r.1 x).2.1 = s := by
  unfold membersL selL at h
  obtain ⟨m, hm, rfl⟩ := List.mem_map.1 h
  obtain ⟨h1, h2⟩ := List.mem_filter.1 hm
  have h3 := (mem_risL _ (bestL_right r.1) m).1 h1
  rw [h3.2]
  have h4 : (decide (([s] : List Int).length = 0) || ([s] : List Int).contains m.2.1) = true := h2
  simpa using h4
theorem leaving_none (r : Rg) {x : Int} (hx : x ∈ membersL r [2]) (j : Nat) : (claimL (ownersL r) (membersL r [1])).getD j 0 ≠ x := fun e => by
  have h1 := mem_members hx
  rcases claim_in (ownersL r) (membersL r [1]) j with h | h
  · omega
  · rw [e] at h
    have h2 := members_state hx
    have h3 := members_state h
    rw [h2] at h3
    cases h3
end Go.Proofs.YthmnjebmnocoiaaGreat
