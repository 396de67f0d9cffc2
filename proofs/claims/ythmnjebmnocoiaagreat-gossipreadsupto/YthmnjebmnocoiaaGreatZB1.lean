/- GsAlg, GsPlanP. -/
import Derived.Test.YthmnjebmnocoiaaGreatZA7
import Derived.Test.YthmnjebmnocoiaaGreatZA6
/- Merging, in plain words: it hangs on no order and no grouping; what is changed is newer. -/
namespace Go.Proofs.YthmnjebmnocoiaaGreat

def joinK : List Rg → Int → Mb
  | [], _ => noM
  | r :: l, n => joM (bestL r.1 n) (joinK l n)
theorem joinK_sl : ∀ (l : List Rg) (n : Int), Sl n (joinK l n)
  | [], _ => Or.inl rfl
  | r :: l, n => (bestL_right r.1 n).jo (joinK_sl l n)
theorem foldK_at : ∀ (l : List Rg) {k : Kn}, Right k → ∀ n, l.foldl (fun k r => hearL k r.1) k n = joM (k n) (joinK l n)
  | [], k, hk, n => (joM_no' (hk n)).symm
  | r :: l, k, hk, n => by
    rw [List.foldl_cons, foldK_at l (hearL_right r.1 hk) n, hearL_at r.1 hk n, joM_assoc]; rfl
theorem mergeK_at (l : List Rg) (n : Int) : mergeK l n = joinK l n := by
  unfold mergeK
  rw [foldK_at l noK_right n]
  exact joM_no (joinK_sl l n)
def joinO : List Rg → Nat → Ow
  | [], _ => noO
  | r :: l, j => joO (okO (r.2.getD j noO)) (joinO l j)
theorem joinO_so : ∀ (l : List Rg) (j : Nat), So (joinO l j)
  | [], _ => ⟨Int.le_refl 0, show (0 : Int) ≤ 7 by decide⟩
  | r :: l, j => joO_so (okO_so _) (joinO_so l j)
theorem foldO_at : ∀ (l : List Rg) {a : List Ow}, a.length = 8 → ∀ j, j < 8 → (l.foldl (fun a r => newestL a r.2) a).getD j noO = joO (a.getD j noO) (joinO l j) ∨ ¬ So (a.getD j noO)
  | [], a, _, j, _ => by
    by_cases h : So (a.getD j noO)
    · left
      show a.getD j noO = joO (a.getD j noO) noO
      rw [joO_comm, joO_no h]
    · exact Or.inr h
  | r :: l, a, ha, j, hj => by
    by_cases h : So (a.getD j noO)
    · left
      have := foldO_at l (a := newestL a r.2) (newestL_len _ _) j hj
      rw [newestL_at _ _ j hj] at this
      rcases this with e | e
      · rw [List.foldl_cons, e, joO_assoc]; rfl
      · exact absurd (joO_so h (okO_so _)) e
    · exact Or.inr h
theorem noOs_at (j : Nat) (hj : j < 8) : noOs.getD j noO = noO := by
  unfold noOs
  rw [List.getD_eq_getElem?_getD, List.getElem?_replicate, if_pos hj]; rfl
theorem mergeO_at (l : List Rg) (j : Nat) (hj : j < 8) : (mergeO l).getD j noO = joinO l j := by
  have := foldO_at l (a := noOs) rfl j hj
  rw [noOs_at j hj] at this
  rcases this with e | e
  · unfold mergeO
    rw [e]; exact joO_no (joinO_so l j)
  · exact absurd (by unfold So; decide) e
theorem merge_ext {l l' : List Rg} (hk : ∀ n, joinK l n = joinK l' n) (ho : ∀ j, j < 8 → joinO l j = joinO l' j) : mergeL l = mergeL l' := by
  unfold mergeL
  rw [show risL (mergeK l) = risL (mergeK l') from risL_congr (fun n => by rw [mergeK_at, mergeK_at, hk n])]
  rw [own_ext (mergeO_len l) (mergeO_len l') (fun j hj => by rw [mergeO_at l j hj, mergeO_at l' j hj, ho j hj])]
theorem best_merge (l : List Rg) (n : Int) : bestL (mergeL l).1 n = joinK l n := by
  show bestL (risL (mergeK l)) n = _
  rw [best_ris _ (mergeK_right l), mergeK_at]
theorem own_merge (l : List Rg) (j : Nat) (hj : j < 8) : okO ((mergeL l).2.getD j noO) = joinO l j := by
  show okO ((mergeO l).getD j noO) = _
  rw [mergeO_at l j hj, okO_id (joinO_so l j)]
/-- A ring as it should be. -/
def Normed (r : Rg) : Prop := ∃ k : Kn, Right k ∧ r.1 = risL k ∧ r.2.length = 8 ∧ ∀ j, j < 8 → So (r.2.getD j noO)
theorem merge_normed (l : List Rg) : Normed (mergeL l) := ⟨mergeK l, mergeK_right l, rfl, mergeO_len l, fun j hj => by
  show So ((mergeO l).getD j noO)
  rw [mergeO_at l j hj]; exact joinO_so l j⟩
theorem normed_eq {r : Rg} (h : Normed r) {l : List Rg} (hk : ∀ n, joinK l n = bestL r.1 n) (ho : ∀ j, j < 8 → joinO l j = r.2.getD j noO) : mergeL l = r := by
  obtain ⟨k, hr, e1, e2, e3⟩ := h
  refine Prod.ext ?_ ?_
  · show risL (mergeK l) = r.1
    rw [e1]
    refine risL_congr fun n => ?_
    rw [mergeK_at, hk n, e1, best_ris k hr]
  · exact own_ext (mergeO_len l) e2 (fun j hj => by show (mergeO l).getD j noO = _; rw [mergeO_at l j hj, ho j hj])
theorem jK_one (r : Rg) (n : Int) : joinK [r] n = bestL r.1 n := joM_no' (bestL_right _ n)
theorem jO_one (r : Rg) (j : Nat) : joinO [r] j = okO (r.2.getD j noO) := by
  show joO _ noO = _
  rw [joO_comm, joO_no (okO_so _)]
theorem merge_comm (a b : Rg) : mergeL [a, b] = mergeL [b, a] := merge_ext (fun n => by
    show joM _ (joinK [b] n) = joM _ (joinK [a] n)
    rw [jK_one, jK_one, joM_comm (bestL_right _ n) (bestL_right _ n)]) (fun j _ => by
    show joO _ (joinO [b] j) = joO _ (joinO [a] j)
    rw [jO_one, jO_one, joO_comm])
theorem merge_assoc (a b c : Rg) : mergeL [mergeL [a, b], c] = mergeL [a, mergeL [b, c]] := merge_ext (fun n => by
    show joM (bestL (mergeL [a, b]).1 n) (joinK [c] n) = joM (bestL a.1 n) (joinK [mergeL [b, c]] n)
    rw [best_merge, jK_one, jK_one, best_merge]
    show joM (joM _ (joinK [b] n)) _ = joM _ (joM _ (joinK [c] n))
    rw [jK_one, jK_one, joM_assoc]) (fun j hj => by
    show joO (okO ((mergeL [a, b]).2.getD j noO)) (joinO [c] j) = joO (okO (a.2.getD j noO)) (joinO [mergeL [b, c]] j)
    rw [own_merge _ j hj, jO_one, jO_one, own_merge _ j hj]
    show joO (joO _ (joinO [b] j)) _ = joO _ (joO _ (joinO [c] j))
    rw [jO_one, jO_one, joO_assoc])
theorem merge_idem (a : Rg) : mergeL [a, a] = normL a := merge_ext (fun n => by
    show joM _ (joinK [a] n) = _
    rw [jK_one, joM_idem]) (fun j _ => by
    show joO _ (joinO [a] j) = _
    rw [jO_one, joO_idem])
theorem merge_turn (a b c : Rg) : mergeL [a, b, c] = mergeL [c, b, a] := merge_ext (fun n => by
    show joM _ (joM _ (joinK [c] n)) = joM _ (joM _ (joinK [a] n))
    rw [jK_one, jK_one, ← joM_assoc, joM_comm ((bestL_right _ n).jo (bestL_right _ n)) (bestL_right _ n), joM_comm (bestL_right a.1 n) (bestL_right b.1 n)]) (fun j _ => by
    show joO _ (joO _ (joinO [c] j)) = joO _ (joO _ (joinO [a] j))
    rw [jO_one, jO_one, ← joO_assoc, joO_comm _ (okO (c.2.getD j noO)), joO_comm (okO (a.2.getD j noO))])
/-! What is changed is newer. -/
theorem moreN_gt {v : Nat} (h : v + 1 < 18446744073709551616) : moreN v = v + 1 := by unfold moreN; rw [if_neg (by omega)]
theorem jo_more {n s : Int} {m : Mb} (hm : m.2.2 + 1 < 18446744073709551616) : joM m (n, s, moreN m.2.2) = (n, s, moreN m.2.2) := by
  unfold joM
  rw [if_pos ((newM_iff _ _).2 (Or.inl (by rw [moreN_gt hm]; exact Nat.lt_succ_self _)))]
/-- No number is the greatest one. -/
def Small (r : Rg) : Prop := (∀ n, (bestL r.1 n).2.2 + 1 < 18446744073709551616) ∧ ∀ j, j < 8 → (r.2.getD j noO).2 + 1 < 18446744073709551616
theorem best_norm (r : Rg) (n : Int) : bestL (normL r).1 n = bestL r.1 n := by
  show bestL (mergeL [r]).1 n = _
  rw [best_merge, jK_one]
theorem own_norm (r : Rg) (j : Nat) (hj : j < 8) : (normL r).2.getD j noO = okO (r.2.getD j noO) := by
  show (mergeO [r]).getD j noO = _
  rw [mergeO_at _ j hj, jO_one]
theorem best_normK (r : Rg) : bestL (normL r).1 = bestL r.1 := funext (best_norm r)
theorem turn_normed {r : Rg} {s : Int} (hs : 1 ≤ s ∧ s ≤ 3) {ns : List Int} (hn : ∀ n ∈ ns, 1 ≤ n ∧ n ≤ 7) : Normed (turnL r s ns) :=
  ⟨_, turnK_right hs ns hn (bestL_right _), rfl, mergeO_len _, fun j hj => by
    show So ((normL r).2.getD j noO)
    rw [own_norm r j hj]; exact okO_so _⟩
theorem best_turn {r : Rg} {s : Int} (hs : 1 ≤ s ∧ s ≤ 3) {ns : List Int} (hn : ∀ n ∈ ns, 1 ≤ n ∧ n ≤ 7) (n : Int) : bestL (turnL r s ns).1 n = turnK (bestL r.1) s ns n := by
  show bestL (risL (turnK (bestL (normL r).1) s ns)) n = _
  rw [best_ris _ (turnK_right hs ns hn (bestL_right _)), best_normK]
theorem turn_newer {r : Rg} (h : Small r) {s n : Int} (hs : 1 ≤ s ∧ s ≤ 3) (hn : 1 ≤ n ∧ n ≤ 7) : mergeL [r, turnL r s [n]] = turnL r s [n] := by
  have hn' : ∀ x ∈ [n], 1 ≤ x ∧ x ≤ 7 := by simpa using hn
  refine normed_eq (turn_normed hs hn') (fun x => ?_) (fun j hj => ?_)
  · show joM _ (joinK [turnL r s [n]] x) = _
    rw [jK_one, best_turn hs hn']
    show joM (bestL r.1 x) (upd (bestL r.1) (n, s, moreN (bestL r.1 n).2.2) x) = upd (bestL r.1) (n, s, moreN (bestL r.1 n).2.2) x
    unfold upd
    by_cases e : x = n
    · subst e
      rw [if_pos rfl]
      exact jo_more (h.1 x)
    · rw [if_neg (by exact e), joM_idem]
  · show joO _ (joinO [turnL r s [n]] j) = (normL r).2.getD j noO
    rw [jO_one]
    show joO _ (okO ((normL r).2.getD j noO)) = _
    rw [own_norm r j hj, okO_id (okO_so _), joO_idem]
theorem norm_newer (r : Rg) : mergeL [r, normL r] = normL r := normed_eq (merge_normed _) (fun x => by
    show joM _ (joinK [normL r] x) = _
    rw [jK_one, best_norm, joM_idem]; exact (best_norm r x).symm) (fun j hj => by
    show joO _ (joinO [normL r] j) = _
    rw [jO_one, own_norm r j hj, okO_id (okO_so _), joO_idem]; exact (own_norm r j hj).symm)
theorem join_newer {r : Rg} (h : Small r) (n : Int) : mergeL [r, joinL r n] = joinL r n := by
  unfold joinL
  split
  · rename_i hc
    exact turn_newer h (by decide) ((isN_iff n).1 hc.1)
  · exact norm_newer r
theorem leave_newer {r : Rg} (h : Small r) (n : Int) : mergeL [leaveL r n, r] = leaveL r n := by
  rw [merge_comm]
  unfold leaveL
  split
  · rename_i hc
    exact turn_newer h (by decide) (joined_is hc)
  · exact norm_newer r
end Go.Proofs.YthmnjebmnocoiaaGreat

/- What package gossip's Plan tells, in plain words. -/
namespace Go.Proofs.YthmnjebmnocoiaaGreat
open Go.RowKit

def planO (o : Int) (had : Ow) : Ow := if o = had.1 then had else (o, moreN had.2)
def planOs (c : List Int) (os : List Ow) (k : Nat) : List Ow := (List.range 8).map fun j => if j < k then planO (c.getD j 0) (os.getD j noO) else os.getD j noO
theorem planOs_len (c : List Int) (os : List Ow) (k : Nat) : (planOs c os k).length = 8 := by simp [planOs]
theorem planOs_zero (c : List Int) (os : List Ow) (h : os.length = 8) : planOs c os 0 = os := by
  apply List.ext_getElem
  · simp [planOs, h]
  · intro i h1 h2
    simp [planOs, h2]
theorem planOs_at (c : List Int) (os : List Ow) (k : Nat) (hk : k < 8) : (planOs c os k).getD k noO = os.getD k noO := by
  simp [planOs, List.getD_eq_getElem?_getD, hk]
theorem planOs_all (c : List Int) (os : List Ow) (j : Nat) (hj : j < 8) : (planOs c os 8).getD j noO = planO (c.getD j 0) (os.getD j noO) := by
  simp [planOs, List.getD_eq_getElem?_getD, hj]
theorem planOs_succ (c : List Int) (os : List Ow) (k : Nat) : planOs c os (k + 1) = (planOs c os k).set k (planO (c.getD k 0) (os.getD k noO)) := by
  apply List.ext_getElem
  · simp [planOs]
  · intro i h1 h2
    rw [List.getElem_set]
    simp only [planOs, List.getElem_map, List.getElem_range]
    by_cases e : k = i
    · subst e; rw [if_pos rfl, if_pos (by omega)]
    · rw [if_neg e]
      by_cases g : i < k
      · rw [if_pos g, if_pos (by omega)]
      · rw [if_neg g, if_neg (by omega)]
def planL (r : Rg) (n : Int) : Rg :=
  if claimantL (normL r) = 0 ∨ n ≠ claimantL (normL r) then normL r
  else ((turnL (normL r) 3 (membersL (normL r) [2])).1, planOs (claimL (ownersL (normL r)) (membersL (normL r) [1])) (turnL (normL r) 3 (membersL (normL r) [2])).2 8)
theorem mem_members {r : Rg} {ss : List Int} {n : Int} (h : n ∈ membersL r ss) : 1 ≤ n ∧ n ≤ 7 := by
  unfold membersL selL at h
  obtain ⟨m, hm, rfl⟩ := List.mem_map.1 h
  have hm1 := (List.mem_filter.1 hm).1
  have := (mem_risL (mergeK [r]) (mergeK_right _) m).1 hm1
  have hs := (mergeK_right [r]).seen (n := m.1) (by rw [this.2]; exact this.1)
  rw [this.2, okM_iff] at hs
  exact hs.1.1
end Go.Proofs.YthmnjebmnocoiaaGreat
