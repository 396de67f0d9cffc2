/- What rests, in plain words: the plan of all that is known is newer than each part of it, balanced, and its own plan. -/
import Derived.Test.YthmnjebmnocoiaaZGsPlanN
import Derived.Test.YthmnjebmnocoiaaZRgEven
namespace Go.Proofs.Ythmnjebmnocoiaa

/-! A claim, by the members. -/
theorem count_below {M : List Int} (hM : M.Pairwise (· < ·)) (i : Nat) (hi : i < M.length) : M.countP (· < M[i]) = i := by
  have h1 : ∀ (l : List Int), l.Pairwise (· < ·) → ∀ (i : Nat) (x : Int), l[i]? = some x → l.countP (· < x) = i := by
    intro l
    induction l with
    | nil => intro _ i x h; simp at h
    | cons y l ih =>
      intro hp i x h
      obtain ⟨a, b⟩ := List.pairwise_cons.1 hp
      cases i with
      | zero =>
        simp at h; subst h
        rw [List.countP_cons_of_neg (by simp), List.countP_eq_zero]
        intro z hz
        have := a z hz
        simp; omega
      | succ i =>
        have hx : l[i]? = some x := by simpa using h
        have := a x (List.mem_of_getElem? hx)
        rw [List.countP_cons_of_pos (by simpa using this), ih b i x hx]
  exact h1 M hM i M[i] (List.getElem?_eq_getElem hi)
theorem find_place {M : List Int} (hM : M.Pairwise (· < ·)) (i : Nat) (hi : i < M.length) : findI M (M.getD i 0) = some i := by
  have e : M.getD i 0 = M[i] := by simp [hi]
  rw [e]
  unfold findI
  rw [if_pos (by simp), count_below hM i hi]
theorem find_out {M : List Int} (hM : M.Pairwise (· < ·)) (l : List Nat) (hl : ∀ i ∈ l, i < M.length) : (outV M l).map (findI M) = l.map some := by
  unfold outV
  rw [List.map_map]
  exact List.map_congr_left fun i hi => find_place hM i (hl i hi)
theorem claim_places {o ms : List Int} (ho : o.length = 8) (hm : 0 < (risenL ms).length) : (claimL o ms).map (findI (risenL ms)) = (claimI (risenL ms).length (o.map (findI (risenL ms)))).map some := by
  unfold claimL
  rw [if_neg (by omega)]
  exact find_out (risen_facts ms).1 _ (claim_in hm (findI_in (risen_facts ms).1 o) (by simpa using ho))
theorem claim_idem {o ms : List Int} (ho : o.length = 8) (hm : 0 < (risenL ms).length) : claimL (claimL o ms) ms = claimL o ms := by
  have h := claim_places ho hm
  have e : claimL o ms = outV (risenL ms) (claimI (risenL ms).length (o.map (findI (risenL ms)))) := by
    unfold claimL
    rw [if_neg (by omega)]
  generalize hC : claimL o ms = C at h e ⊢
  unfold claimL
  rw [if_neg (by omega), h, claim_again hm (findI_in (risen_facts ms).1 o) (by simpa using ho), e]
theorem fold_two (q : Int) (f : Int → Int → Int) (hf : ∀ a b, f a b = a ∨ f a b = b) : ∀ (l : List Int) (a : Int), (a = q ∨ a = q + 1) → (∀ x ∈ l, x = q ∨ x = q + 1) → (l.foldl f a = q ∨ l.foldl f a = q + 1)
  | [], a, h, _ => h
  | x :: l, a, h, hl => by
    rw [List.foldl_cons]
    refine fold_two q f hf l _ ?_ (fun y hy => hl y (by simp [hy]))
    rcases hf a x with e | e <;> rw [e]
    · exact h
    · exact hl x (by simp)
theorem share_bal (t : List Int) (ht : t ≠ []) : balT (shareI t) = true := by
  have hpos : 0 < t.length := by cases t with | nil => exact absurd rfl ht | cons a l => simp
  have hm : ∀ x ∈ shareI t, x = 8 / (t.length : Int) ∨ x = 8 / (t.length : Int) + 1 := fun x hx => by
    obtain ⟨k, hk, rfl⟩ := List.getElem_of_mem hx
    have := share_vals t k (by rw [shareI_len] at hk; exact hk)
    rw [List.getD_eq_getElem?_getD, List.getElem?_eq_getElem hk, Option.getD_some] at this
    exact this
  have hs := shareI_sum t ht
  obtain ⟨x, l, hx⟩ : ∃ x l, shareI t = x :: l := by
    cases h : shareI t with
    | nil => have := shareI_len t; rw [h] at this; simp at this; omega
    | cons x l => exact ⟨x, l, rfl⟩
  unfold balT
  rw [hs]
  rw [hx] at hm ⊢
  have h1 : Lib.maxOf (x :: l) = 8 / (t.length : Int) ∨ Lib.maxOf (x :: l) = 8 / (t.length : Int) + 1 := fold_two _ max (fun a b => by omega) (x :: l) x (hm x (by simp)) hm
  have h2 : Lib.minOf (x :: l) = 8 / (t.length : Int) ∨ Lib.minOf (x :: l) = 8 / (t.length : Int) + 1 := fold_two _ min (fun a b => by omega) (x :: l) x (hm x (by simp)) hm
  simp; omega
theorem claim_bal {o ms : List Int} (ho : o.length = 8) (hm : 0 < (risenL ms).length) : balL (claimL o ms) ms = true := by
  unfold balL
  rw [if_neg (by omega), claim_places ho hm, claim_tally hm (findI_in (risen_facts ms).1 o) (by simpa using ho)]
  exact share_bal _ (fun e => by have := tallyI_len (risenL ms).length (o.map (findI (risenL ms))); rw [e] at this; simp at this; omega)

/-! Members. -/
theorem normed_id {r : Rg} (h : Normed r) : normL r = r := normed_eq h (fun n => jK_one r n) (fun j hj => by
  obtain ⟨k, _, _, _, hs⟩ := h
  rw [jO_one, okO_id (hs j hj)])
theorem members_iff (r : Rg) (s : Int) (hs : s ≠ 0) (x : Int) : x ∈ membersL r [s] ↔ (bestL r.1 x).2.1 = s := by
  have hk : ∀ n, mergeK [r] n = bestL r.1 n := fun n => by rw [mergeK_at, jK_one]
  unfold membersL selL
  constructor
  · intro h
    obtain ⟨m, hm, rfl⟩ := List.mem_map.1 h
    obtain ⟨h1, h2⟩ := List.mem_filter.1 hm
    have h3 := (mem_risL _ (mergeK_right [r]) m).1 h1
    rw [← hk, h3.2]
    simpa [inS] using h2
  · intro h
    have hsn := (bestL_right r.1).seen (n := x) (by rw [h]; exact hs)
    refine List.mem_map.2 ⟨bestL r.1 x, List.mem_filter.2 ⟨(mem_risL _ (mergeK_right [r]) _).2 ⟨by rw [h]; exact hs, ?_⟩, by simp [inS, h]⟩, hsn.2⟩
    rw [hsn.2, hk]
theorem members_rise (r : Rg) (ss : List Int) : (membersL r ss).Pairwise (· < ·) := by
  unfold membersL selL
  have hr : (normL r).1.Pairwise fun x y => x.1 < y.1 := risL_rise _ (mergeK_right _)
  exact List.pairwise_map.2 (hr.sublist (List.filter_sublist (p := inS ss)))
theorem members_ext {r r' : Rg} {s : Int} (hs : s ≠ 0) (h : ∀ x, (bestL r.1 x).2.1 = s ↔ (bestL r'.1 x).2.1 = s) : membersL r [s] = membersL r' [s] :=
  rise_ext _ _ (members_rise _ _) (members_rise _ _) (fun x => by rw [members_iff r s hs, members_iff r' s hs]; exact h x)
theorem members_none {r : Rg} {s : Int} (hs : s ≠ 0) (h : ∀ x, (bestL r.1 x).2.1 ≠ s) : membersL r [s] = [] := by
  cases e : membersL r [s] with
  | nil => rfl
  | cons x l =>
    exact absurd ((members_iff r s hs x).1 (by rw [e]; simp)) (h x)
theorem risen_members (r : Rg) : risenL (membersL r [1]) = membersL r [1] :=
  rise_ext _ _ (risen_facts _).1 (members_rise _ _) (fun x => by
    rw [(risen_facts _).2 x]
    exact ⟨fun h => h.1, fun h => ⟨h, by have := mem_members h; omega⟩⟩)

/-! The plan. -/
structure Planned (m p : Rg) : Prop where
  best : ∀ x, bestL p.1 x = turnK (bestL m.1) 3 (membersL m [2]) x
  own : p.2 = planOs (claimL (ownersL m) (membersL m [1])) m.2 8
theorem plan_is {m : Rg} (hN : Normed m) (h0 : claimantL m ≠ 0) : Planned m (planL m (claimantL m)) := by
  have e := normed_id hN
  unfold planL
  rw [e, if_neg (by simpa using h0)]
  have hm : ∀ x ∈ membersL m [2], 1 ≤ x ∧ x ≤ 7 := fun x hx => mem_members hx
  refine ⟨fun x => ?_, ?_⟩
  · show bestL (turnL m 3 (membersL m [2])).1 x = _
    rw [best_turn (by decide) hm]
  · show planOs _ (turnL m 3 (membersL m [2])).2 8 = _
    rw [show (turnL m 3 (membersL m [2])).2 = (normL m).2 from rfl, e]
theorem Planned.state {m p : Rg} (h : Planned m p) (x : Int) : (bestL p.1 x).2.1 = if (bestL m.1 x).2.1 = 2 then 3 else (bestL m.1 x).2.1 := by
  rw [h.best x]
  by_cases hx : x ∈ membersL m [2]
  · rw [turnK_in _ _ x (members_nodup _ _) hx, if_pos ((members_iff m 2 (by decide) x).1 hx)]
  · rw [turnK_out _ _ x hx, if_neg (fun q => hx ((members_iff m 2 (by decide) x).2 q))]
theorem Planned.joined {m p : Rg} (h : Planned m p) : membersL p [1] = membersL m [1] := members_ext (by decide) (fun x => by
  rw [h.state x]
  split <;> omega)
theorem Planned.leaving {m p : Rg} (h : Planned m p) : membersL p [2] = [] := members_none (by decide) (fun x => by
  rw [h.state x]
  split <;> omega)
theorem Planned.claimant {m p : Rg} (h : Planned m p) : claimantL p = claimantL m := by
  unfold claimantL
  rw [h.joined]
theorem ownersL_len (r : Rg) : (ownersL r).length = 8 := by
  unfold ownersL
  rw [List.length_map]; exact mergeO_len _
theorem claimL_len {o ms : List Int} (ho : o.length = 8) : (claimL o ms).length = 8 := by
  unfold claimL
  split
  · simp
  · unfold outV
    rw [List.length_map]
    exact claimI_len (by simpa using ho)
theorem planO_fst (c : Int) (o : Ow) : (planO c o).1 = c := by
  unfold planO
  split
  · rename_i h; exact h.symm
  · rfl
theorem Planned.owners {m p : Rg} (h : Planned m p) (hN : Normed p) : ownersL p = claimL (ownersL m) (membersL m [1]) := by
  unfold ownersL
  rw [normed_id hN, h.own]
  show (planOs (claimL (ownersL m) (membersL m [1])) m.2 8).map (·.1) = claimL (ownersL m) (membersL m [1])
  have hl := claimL_len (ms := membersL m [1]) (ownersL_len m)
  generalize claimL (ownersL m) (membersL m [1]) = C at hl ⊢
  apply List.ext_getElem
  · simp [planOs, hl]
  · intro i h1 h2
    have hi : i < 8 := by omega
    simp [planOs, hi, planO_fst, h2]
theorem claimant_some {r : Rg} (h : claimantL r ≠ 0) : 0 < (membersL r [1]).length := by
  unfold claimantL at h
  cases e : membersL r [1] with
  | nil => rw [e] at h; exact absurd rfl h
  | cons x l => simp
theorem claimant_none {r : Rg} (h : claimantL r = 0) : membersL r [1] = [] := by
  unfold claimantL at h
  cases e : membersL r [1] with
  | nil => rfl
  | cons x l =>
    rw [e] at h
    have := mem_members (r := r) (ss := [1]) (n := x) (by rw [e]; simp)
    simp at h; omega
theorem plan_none {m : Rg} (hN : Normed m) (h0 : claimantL m = 0) : planL m (claimantL m) = m := by
  unfold planL
  rw [normed_id hN, if_pos (Or.inl h0)]
theorem Planned.bal {m p : Rg} (h : Planned m p) (hN : Normed p) (h0 : claimantL m ≠ 0) : balL (ownersL p) (membersL p [1]) = true := by
  rw [h.owners hN, h.joined]
  exact claim_bal (ownersL_len m) (by rw [risen_members]; exact claimant_some h0)
theorem Planned.again {m p : Rg} (h : Planned m p) (hN : Normed p) (h0 : claimantL m ≠ 0) : planL p (claimantL p) = p := by
  have hc : claimantL p ≠ 0 := by rw [h.claimant]; exact h0
  have e := normed_id hN
  unfold planL
  rw [e, if_neg (by simpa using hc), h.leaving]
  have hcl : claimL (ownersL p) (membersL p [1]) = ownersL p := by
    rw [h.joined, h.owners hN]
    exact claim_idem (ownersL_len m) (by rw [risen_members]; exact claimant_some h0)
  rw [hcl]
  obtain ⟨k, h1, h2, h3, h4⟩ := hN
  have e1 : (turnL p 3 []).1 = p.1 := by
    show risL (bestL (normL p).1) = p.1
    rw [e, h2, best_ris k h1]
  have e2 : (turnL p 3 []).2 = p.2 := by
    show (normL p).2 = p.2
    rw [e]
  rw [e1, e2]
  refine Prod.ext rfl ?_
  show planOs (ownersL p) p.2 8 = p.2
  refine own_ext (planOs_len _ _ _) h3 (fun j hj => ?_)
  rw [planOs_all _ _ j hj]
  unfold planO
  rw [if_pos]
  unfold ownersL
  rw [e]
  simp [List.getD_eq_getElem?_getD, h3, hj]

/-! What is merged is newer than its parts. -/
theorem join_in {l : List Rg} {a : Rg} (h : a ∈ l) (n : Int) : joM (bestL a.1 n) (joinK l n) = joinK l n := by
  induction l with
  | nil => cases h
  | cons r l ih =>
    show joM _ (joM (bestL r.1 n) (joinK l n)) = joM (bestL r.1 n) (joinK l n)
    rw [← joM_assoc]
    rcases List.mem_cons.1 h with rfl | h
    · rw [joM_idem]
    · rw [joM_comm (bestL_right a.1 n) (bestL_right r.1 n), joM_assoc, ih h]
theorem joinO_in {l : List Rg} {a : Rg} (h : a ∈ l) (j : Nat) : joO (okO (a.2.getD j noO)) (joinO l j) = joinO l j := by
  induction l with
  | nil => cases h
  | cons r l ih =>
    show joO _ (joO (okO (r.2.getD j noO)) (joinO l j)) = joO (okO (r.2.getD j noO)) (joinO l j)
    rw [← joO_assoc]
    rcases List.mem_cons.1 h with rfl | h
    · rw [joO_idem]
    · rw [joO_comm (okO (a.2.getD j noO)), joO_assoc, ih h]
theorem part_newer {l : List Rg} {a p : Rg} (h : a ∈ l) (hp : mergeL [p, mergeL l] = p) : mergeL [a, p] = p := by
  rw [merge_comm] at hp
  have hN : Normed p := by rw [← hp]; exact merge_normed _
  refine normed_eq hN (fun n => ?_) (fun j hj => ?_)
  · show joM (bestL a.1 n) (joinK [p] n) = _
    rw [jK_one]
    have e : bestL p.1 n = joM (joinK l n) (bestL p.1 n) := by
      conv => lhs; rw [← hp]
      rw [best_merge]
      show joM (bestL (mergeL l).1 n) (joinK [p] n) = _
      rw [jK_one, best_merge]
    rw [e, ← joM_assoc, join_in h]
  · show joO (okO (a.2.getD j noO)) (joinO [p] j) = _
    have hs : okO (p.2.getD j noO) = p.2.getD j noO := okO_id (by obtain ⟨_, _, _, _, q⟩ := hN; exact q j hj)
    rw [jO_one, hs]
    have e : p.2.getD j noO = joO (joinO l j) (p.2.getD j noO) := by
      have e1 : okO (p.2.getD j noO) = joinO [mergeL l, p] j := by
        conv => lhs; rw [← hp]
        exact own_merge _ j hj
      rw [hs] at e1
      rw [e1]
      show joO (okO ((mergeL l).2.getD j noO)) (joinO [p] j) = _
      rw [own_merge _ j hj, jO_one, hs]
      have e2 : joinO [mergeL l, p] j = joO (joinO l j) (p.2.getD j noO) := by
        show joO (okO ((mergeL l).2.getD j noO)) (joinO [p] j) = _
        rw [own_merge _ j hj, jO_one, hs]
      rw [e2, ← joO_assoc, joO_idem]
    rw [e, ← joO_assoc, joinO_in h]

/-! How great V's are. -/
structure Vb (B : Nat) (r : Rg) : Prop where
  mem : ∀ n, (bestL r.1 n).2.2 ≤ B
  own : ∀ j, j < 8 → (r.2.getD j noO).2 ≤ B
theorem Vb.mono {B C : Nat} {r : Rg} (h : Vb B r) (hb : B ≤ C) : Vb C r := ⟨fun n => Nat.le_trans (h.mem n) hb, fun j hj => Nat.le_trans (h.own j hj) hb⟩
theorem joM_le {B : Nat} {a b : Mb} (ha : a.2.2 ≤ B) (hb : b.2.2 ≤ B) : (joM a b).2.2 ≤ B := by unfold joM; split <;> assumption
theorem joO_le {B : Nat} {a b : Ow} (ha : a.2 ≤ B) (hb : b.2 ≤ B) : (joO a b).2 ≤ B := by unfold joO; split <;> assumption
theorem okO_le {B : Nat} {a : Ow} (ha : a.2 ≤ B) : (okO a).2 ≤ B := by unfold okO; split <;> assumption
theorem joinK_le {B : Nat} : ∀ {l : List Rg}, (∀ r ∈ l, Vb B r) → ∀ n, (joinK l n).2.2 ≤ B
  | [], _, _ => Nat.zero_le _
  | r :: l, h, n => joM_le ((h r (by simp)).mem n) (joinK_le (fun q hq => h q (by simp [hq])) n)
theorem joinO_le {B : Nat} : ∀ {l : List Rg}, (∀ r ∈ l, Vb B r) → ∀ j, j < 8 → (joinO l j).2 ≤ B
  | [], _, _, _ => Nat.zero_le _
  | r :: l, h, j, hj => joO_le (okO_le ((h r (by simp)).own j hj)) (joinO_le (fun q hq => h q (by simp [hq])) j hj)
theorem vb_merge {B : Nat} {l : List Rg} (h : ∀ r ∈ l, Vb B r) : Vb B (mergeL l) := ⟨fun n => by rw [best_merge]; exact joinK_le h n, fun j hj => by
  show ((mergeO l).getD j noO).2 ≤ B
  rw [mergeO_at l j hj]; exact joinO_le h j hj⟩
theorem vb_norm {B : Nat} {r : Rg} (h : Vb B r) : Vb B (normL r) := vb_merge (by simpa using h)
theorem moreN_le {v B : Nat} (h : v ≤ B) : moreN v ≤ B + 1 := by unfold moreN; split <;> omega
theorem turnK_le {B : Nat} {s : Int} : ∀ (ns : List Int) (k : Kn), ns.Nodup → (∀ n, (k n).2.2 ≤ B) → ∀ n, (turnK k s ns n).2.2 ≤ B + 1 := fun ns k hd hk n => by
  by_cases hn : n ∈ ns
  · rw [turnK_in ns k n hd hn]; exact moreN_le (hk n)
  · rw [turnK_out ns k n hn]; exact Nat.le_succ_of_le (hk n)
theorem vb_turn {B : Nat} {r : Rg} (h : Vb B r) {s : Int} (hs : 1 ≤ s ∧ s ≤ 3) {ns : List Int} (hd : ns.Nodup) (hn : ∀ n ∈ ns, 1 ≤ n ∧ n ≤ 7) : Vb (B + 1) (turnL r s ns) :=
  ⟨fun n => by rw [best_turn hs hn]; exact turnK_le ns _ hd h.mem n, fun j hj => ((vb_norm h).mono (Nat.le_succ _)).own j hj⟩
theorem vb_join {B : Nat} {r : Rg} (h : Vb B r) (n : Int) : Vb (B + 1) (joinL r n) := by
  unfold joinL
  split
  · rename_i hc
    exact vb_turn h (by decide) (by simp) (by simpa using (isN_iff n).1 hc.1)
  · exact (vb_norm h).mono (Nat.le_succ _)
theorem vb_leave {B : Nat} {r : Rg} (h : Vb B r) (n : Int) : Vb (B + 1) (leaveL r n) := by
  unfold leaveL
  split
  · rename_i hc
    exact vb_turn h (by decide) (by simp) (by simpa using joined_is hc)
  · exact (vb_norm h).mono (Nat.le_succ _)
theorem vb_plan {B : Nat} {r : Rg} (h : Vb B r) (n : Int) : Vb (B + 1) (planL r n) := by
  unfold planL
  split
  · exact (vb_norm h).mono (Nat.le_succ _)
  · have ht := vb_turn (vb_norm h) (s := 3) (by decide) (members_nodup (normL r) [2]) (fun x hx => mem_members hx)
    refine ⟨ht.mem, fun j hj => ?_⟩
    show ((planOs _ _ 8).getD j noO).2 ≤ B + 1
    rw [planOs_all _ _ j hj]
    have ho : ((normL (normL r)).2.getD j noO).2 ≤ B := (vb_norm (vb_norm h)).own j hj
    unfold planO
    split
    · exact Nat.le_succ_of_le ho
    · exact moreN_le ho
theorem turn_normed' {r : Rg} {n s : Int} (hs : 1 ≤ s ∧ s ≤ 3) (hn : 1 ≤ n ∧ n ≤ 7) : Normed (turnL r s [n]) := turn_normed hs (by simpa using hn)
theorem join_normed (r : Rg) (n : Int) : Normed (joinL r n) := by
  unfold joinL
  split
  · rename_i hc
    exact turn_normed' (by decide) ((isN_iff n).1 hc.1)
  · exact merge_normed _
theorem leave_normed (r : Rg) (n : Int) : Normed (leaveL r n) := by
  unfold leaveL
  split
  · rename_i hc
    exact turn_normed' (by decide) (joined_is hc)
  · exact merge_normed _
/-- A ring that is as it should be, with V's up to B. -/
structure Gd (B : Nat) (r : Rg) : Prop where
  norm : Normed r
  vb : Vb B r
theorem Gd.mono {B C : Nat} {r : Rg} (h : Gd B r) (hb : B ≤ C) : Gd C r := ⟨h.norm, h.vb.mono hb⟩
theorem Gd.fit {B : Nat} {r : Rg} (h : Gd B r) (hb : B + 1 < 18446744073709551616) : RFit r := ⟨fun m hm => by
    obtain ⟨k, h1, h2, _, _⟩ := h.norm
    have hv := h.vb.mem m.1
    rw [h2] at hm hv
    rw [best_ris k h1, ((mem_risL k h1 m).1 hm).2] at hv
    omega, fun j hj => by have := h.vb.own j hj; omega⟩
theorem Gd.small {B : Nat} {r : Rg} (h : Gd B r) (hb : B + 1 < 18446744073709551616) : Small r := ⟨fun n => by have := h.vb.mem n; omega, fun j hj => by have := h.vb.own j hj; omega⟩
end Go.Proofs.Ythmnjebmnocoiaa
