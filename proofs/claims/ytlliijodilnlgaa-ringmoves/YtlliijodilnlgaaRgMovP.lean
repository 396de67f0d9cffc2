/- RingMoves, in plain words: one more comes, and goes. -/
import Derived.Test.YtlliijodilnlgaaRgLit
namespace Go.Proofs.Ytlliijodilnlgaa

def lift (k i : Nat) : Nat := if i < k then i else i + 1
def drop1 (k j : Nat) : Option Nat := if j = k then none else some (if j < k then j else j - 1)
def ai (m : Nat) : List Nat := claimI m (List.replicate 8 none)
def bi (m k : Nat) : List Nat := claimI (m + 1) ((ai m).map fun i => some (lift k i))
def ci (m k : Nat) : List Nat := claimI m ((bi m k).map (drop1 k))
def chk (m k : Nat) : Bool :=
  decide ((ai m).length = 8) && decide ((bi m k).length = 8) && decide ((ci m k).length = 8) && (ai m).all (fun i => decide (i < m)) && (bi m k).all (fun i => decide (i < m + 1)) && (ci m k).all (fun i => decide (i < m)) &&
  (List.range 8).all (fun p => decide (lift k ((ai m).getD p 0) = (bi m k).getD p 0) || decide ((bi m k).getD p 0 = k)) &&
  (List.range 8).all (fun p => decide (lift k ((ci m k).getD p 0) = (bi m k).getD p 0) || decide ((bi m k).getD p 0 = k)) &&
  balT (tallyI (m + 1) ((bi m k).map some)) && balT (tallyI m ((ci m k).map some))
theorem chk_all : ∀ m, m < 7 → 0 < m → ∀ k, k ≤ m → chk m k = true := by
  have h : ((List.range 7).all fun m => (m == 0) || (List.range (m + 1)).all fun k => chk m k) = true := by decide +kernel
  intro m hm h0 k hk
  have h1 := List.all_eq_true.1 h m (by simpa using hm)
  rw [Bool.or_eq_true] at h1
  rcases h1 with q | q
  · simp at q; omega
  · exact List.all_eq_true.1 q k (by simp; omega)
theorem split_at : ∀ (M : List Int), M.Pairwise (· < ·) → ∀ x : Int, ∃ k, k ≤ M.length ∧ (∀ y ∈ M.take k, y < x) ∧ ∀ y ∈ M.drop k, x ≤ y
  | [], _, _ => ⟨0, Nat.le_refl _, by simp, by simp⟩
  | y :: M, h, x => by
    obtain ⟨h1, h2⟩ := List.pairwise_cons.1 h
    by_cases hy : y < x
    · obtain ⟨k, hk, a, b⟩ := split_at M h2 x
      refine ⟨k + 1, by simp; omega, fun z hz => ?_, fun z hz => b z (by simpa using hz)⟩
      rcases List.mem_cons.1 (by simpa using hz) with rfl | q
      · exact hy
      · exact a z q
    · refine ⟨0, Nat.zero_le _, by simp, fun z hz => ?_⟩
      rcases List.mem_cons.1 (by simpa using hz) with rfl | q
      · omega
      · have := h1 z q; omega
theorem findI_at {M : List Int} (hM : M.Pairwise (· < ·)) (j : Nat) (hj : j < M.length) : findI M (M.getD j 0) = some j := by
  have hmem : M.getD j 0 ∈ M := by rw [List.getD_eq_getElem?_getD, List.getElem?_eq_getElem hj]; exact List.getElem_mem hj
  have hc : M.contains (M.getD j 0) = true := by simpa using hmem
  have hf : findI M (M.getD j 0) = some (M.countP (· < M.getD j 0)) := by unfold findI; rw [if_pos hc]
  obtain ⟨h1, h2, _, _⟩ := findI_some hM hf
  generalize M.countP (· < M.getD j 0) = i at hf h1 h2
  rw [hf]
  congr 1
  rw [List.getD_eq_getElem?_getD, List.getD_eq_getElem?_getD, List.getElem?_eq_getElem h1, List.getElem?_eq_getElem hj] at h2
  have h2 : M[i] = M[j] := h2
  rcases Nat.lt_trichotomy i j with q | q | q
  · have := List.pairwise_iff_getElem.1 hM i j h1 hj q
    omega
  · exact q
  · have := List.pairwise_iff_getElem.1 hM j i hj h1 q
    omega
theorem findI_not {M : List Int} {x : Int} (h : x ∉ M) : findI M x = none := by
  unfold findI
  rw [if_neg (by simpa using h)]
theorem outV_getD (M : List Int) (l : List Nat) (p : Nat) (hp : p < l.length) : (outV M l).getD p 0 = M.getD (l.getD p 0) 0 := by
  simp [outV, List.getD_eq_getElem?_getD, hp]
theorem risen_len (ms : List Int) : (risenL ms).length ≤ ms.length := by
  have h1 : (risenL ms).length ≤ (sortL (posL ms)).length := by
    unfold risenL Lib.compact Lib.compactUpTo
    rw [List.length_map]
    exact Nat.le_trans (List.length_filter_le ..) (by simp)
  have h2 := posL_len ms
  rw [sortL_len] at h1
  omega
/-- what RingMoves asks. -/
theorem moves_facts (ms : List Int) (more : Int) (hp : ∀ x ∈ ms, 0 < x) (hne : ∀ x ∈ ms, x ≠ more) (hm : 0 < more) (h6 : ms.length ≤ 6) (h0 : ms ≠ []) (a b c : List Int)
    (ha : claimL (List.replicate 8 0) ms = a) (hb : claimL a (ms ++ [more]) = b) (hc : claimL b ms = c) :
    a.length = 8 ∧ b.length = 8 ∧ c.length = 8 ∧ (risenL ms).length < 20 ∧ (risenL (ms ++ [more])).length < 20 ∧ (∀ e ∈ movL a b, e.2.2 = more) ∧ (∀ e ∈ movL b c, e.2.1 = more) ∧ balL b (ms ++ [more]) = true ∧ balL c ms = true := by
  obtain ⟨hM, hmem⟩ := risen_facts ms
  obtain ⟨hM', hmem'⟩ := risen_facts (ms ++ [more])
  have hl := risen_len ms
  have hl' := risen_len (ms ++ [more])
  rw [List.length_append] at hl'
  simp only [List.length_cons, List.length_nil] at hl'
  obtain ⟨y, hy⟩ := List.exists_mem_of_ne_nil ms h0
  have hpos : 0 < (risenL ms).length := List.length_pos_of_mem ((hmem y).2 ⟨hy, hp y hy⟩)
  obtain ⟨k, hk, kt, kd⟩ := split_at (risenL ms) hM more
  have hnm : more ∉ risenL ms := fun q => hne more ((hmem more).1 q).1 rfl
  have kd' : ∀ z ∈ (risenL ms).drop k, more < z := fun z hz => by
    have h1 := kd z hz
    have h2 : z ≠ more := fun e => hnm (e ▸ List.mem_of_mem_drop hz)
    omega
  have hIns : risenL (ms ++ [more]) = (risenL ms).take k ++ more :: (risenL ms).drop k := by
    refine rise_ext _ _ hM' ?_ fun x => ?_
    · rw [List.pairwise_append]
      refine ⟨hM.sublist (List.take_sublist ..), List.pairwise_cons.2 ⟨kd', hM.sublist (List.drop_sublist ..)⟩, fun u hu z hz => ?_⟩
      have h1 := kt u hu
      rcases List.mem_cons.1 hz with rfl | q
      · exact h1
      · have := kd' z q; omega
    · simp only [hmem', List.mem_append, List.mem_cons, List.not_mem_nil, or_false]
      have hs : x ∈ risenL ms ↔ (x ∈ (risenL ms).take k ∨ x ∈ (risenL ms).drop k) := by
        rw [← List.mem_append, List.take_append_drop]
      have := hmem x
      rw [hs] at this
      constructor
      · rintro ⟨q | q, r⟩
        · rcases this.2 ⟨q, r⟩ with t | t
          · exact Or.inl t
          · exact Or.inr (Or.inr t)
        · exact Or.inr (Or.inl q)
      · rintro (q | q | q)
        · have t := this.1 (Or.inl q); exact ⟨Or.inl t.1, t.2⟩
        · exact ⟨Or.inr q, by omega⟩
        · have t := this.1 (Or.inr q); exact ⟨Or.inl t.1, t.2⟩
  have hpM : ∀ x ∈ risenL ms, 0 < x := fun x hx => ((hmem x).1 hx).2
  unfold claimL at ha hb hc
  unfold balL
  generalize risenL (ms ++ [more]) = M' at *
  generalize risenL ms = M at *
  clear hmem hmem' hp hne hy
  obtain ⟨m, hmm⟩ : ∃ m, M.length = m := ⟨_, rfl⟩
  have hlM' : M'.length = m + 1 := by rw [hIns]; simp; omega
  rw [if_neg (by omega), hmm] at ha hc
  rw [if_neg (by omega), hlM'] at hb
  rw [if_neg (by omega), if_neg (by omega), hlM', hmm]
  have hck := chk_all m (by omega) (by omega) k (by omega)
  unfold chk at hck
  simp only [Bool.and_eq_true, List.all_eq_true, decide_eq_true_eq, Bool.or_eq_true, List.mem_range] at hck
  obtain ⟨⟨⟨⟨⟨⟨⟨⟨⟨l1, l2⟩, l3⟩, r1⟩, r2⟩, r3⟩, m1⟩, m2⟩, t1⟩, t2⟩ := hck
  have gk : M'.getD k 0 = more := by
    rw [hIns, List.getD_eq_getElem?_getD, List.getElem?_append_right (by simp; omega)]
    simp [show k - min k M.length = 0 by omega]
  have gl : ∀ i, i < m → M'.getD (lift k i) 0 = M.getD i 0 ∧ lift k i < m + 1 := fun i hi => by
    unfold lift
    by_cases hik : i < k
    · rw [if_pos hik, hIns, List.getD_eq_getElem?_getD, List.getElem?_append_left (by simp; omega), List.getElem?_take_of_lt hik, List.getD_eq_getElem?_getD]
      exact ⟨rfl, by omega⟩
    · rw [if_neg hik, hIns, List.getD_eq_getElem?_getD, List.getElem?_append_right (by simp; omega), List.length_take, Nat.min_eq_left (by omega), show i + 1 - k = (i - k) + 1 by omega, List.getElem?_cons_succ, List.getElem?_drop, show k + (i - k) = i by omega, List.getD_eq_getElem?_getD]
      exact ⟨rfl, by omega⟩
  have e1 : (List.replicate 8 (0 : Int)).map (findI M) = List.replicate 8 none := by
    rw [List.map_replicate, findI_not (fun q => by have := hpM 0 q; omega)]
  rw [e1] at ha
  have e2 : a.map (findI M') = (ai m).map fun i => some (lift k i) := by
    rw [← ha]
    unfold outV
    rw [List.map_map]
    apply List.map_congr_left
    intro i hi
    have := gl i (r1 i hi)
    simp only [Function.comp_apply]
    rw [← this.1, findI_at hM' _ (by omega)]
  rw [e2] at hb
  have e3 : b.map (findI M) = (bi m k).map (drop1 k) := by
    rw [← hb]
    unfold outV
    rw [List.map_map]
    apply List.map_congr_left
    intro j hj
    have hj1 := r2 j hj
    simp only [Function.comp_apply]
    unfold drop1
    by_cases hjk : j = k
    · rw [if_pos hjk, hjk, gk, findI_not hnm]
    · rw [if_neg hjk]
      have hi : (if j < k then j else j - 1) < m := by split <;> omega
      have hli : lift k (if j < k then j else j - 1) = j := by
        unfold lift
        by_cases q : j < k
        · rw [if_pos q, if_pos q]
        · rw [if_neg q, if_neg (by omega)]; omega
      have := gl _ hi
      rw [hli] at this
      rw [this.1, findI_at hM _ (by omega)]
  rw [e3] at hc
  have ha' : outV M (ai m) = a := ha
  have hb' : outV M' (bi m k) = b := hb
  have hc' : outV M (ci m k) = c := hc
  have e4 : b.map (findI M') = (bi m k).map some := by
    rw [← hb']
    unfold outV
    rw [List.map_map]
    apply List.map_congr_left
    intro j hj
    exact findI_at hM' j (by have := r2 j hj; omega)
  have e5 : c.map (findI M) = (ci m k).map some := by
    rw [← hc']
    unfold outV
    rw [List.map_map]
    apply List.map_congr_left
    intro j hj
    exact findI_at hM j (by have := r3 j hj; omega)
  have rr : ∀ (l : List Nat) (n : Nat), (∀ x ∈ l, x < n) → ∀ p, p < l.length → l.getD p 0 < n := fun l n h p hp => by
    rw [List.getD_eq_getElem?_getD, List.getElem?_eq_getElem hp]
    exact h _ (List.getElem_mem hp)
  refine ⟨by rw [← ha', outV_len, l1], by rw [← hb', outV_len, l2], by rw [← hc', outV_len, l3], by omega, by omega, ?_, ?_, by rw [e4]; exact t1, by rw [e5]; exact t2⟩
  · intro e he
    unfold movL movTo at he
    obtain ⟨i, hi, rfl⟩ := List.mem_map.1 he
    obtain ⟨hi8, hcond⟩ := List.mem_filter.1 hi
    have hi8 : i < 8 := by simpa using hi8
    simp only [decide_eq_true_eq] at hcond
    rw [← ha', ← hb', outV_getD _ _ _ (by omega), outV_getD _ _ _ (by omega)] at hcond
    show b.getD i 0 = more
    rw [← hb', outV_getD _ _ _ (by omega)]
    rcases m1 i hi8 with q | q
    · exfalso
      apply hcond.1
      rw [← q, (gl _ (rr _ m r1 i (by omega))).1]
    · rw [q, gk]
  · intro e he
    unfold movL movTo at he
    obtain ⟨i, hi, rfl⟩ := List.mem_map.1 he
    obtain ⟨hi8, hcond⟩ := List.mem_filter.1 hi
    have hi8 : i < 8 := by simpa using hi8
    simp only [decide_eq_true_eq] at hcond
    rw [← hb', ← hc', outV_getD _ _ _ (by omega), outV_getD _ _ _ (by omega)] at hcond
    show b.getD i 0 = more
    rw [← hb', outV_getD _ _ _ (by omega)]
    rcases m2 i hi8 with q | q
    · exfalso
      apply hcond.1
      rw [← q, (gl _ (rr _ m r3 i (by omega))).1]
    · rw [q, gk]
end Go.Proofs.Ytlliijodilnlgaa
