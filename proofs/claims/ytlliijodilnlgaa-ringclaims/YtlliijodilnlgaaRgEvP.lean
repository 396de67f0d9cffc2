/- RingEven, in plain words: a claim is balanced, its own claim, and no balanced division keeps more. -/
import Derived.Test.YtlliijodilnlgaaRgMost
namespace Go.Proofs.Ytlliijodilnlgaa

/-! A claim, by the members. -/
theorem rise_count {M : List Int} (hM : M.Pairwise (· < ·)) (i : Nat) (hi : i < M.length) : M.countP (· < M[i]) = i := by
  have h1 : ∀ (l : List Int), l.Pairwise (· < ·) → ∀ (i : Nat) (x : Int), l[i]? = some x → l.countP (· < x) = i := by
    intro l
    induction l with
    | nil => intro _ i x h; simp at h
    | cons y l ih =>
      intro hp i x h
      obtain ⟨a, b⟩ := List.pairwise_cons.1 hp
      cases i with
      | zero =>
        simp at h; subst h
        rw [List.countP_cons_of_neg (by simp), List.countP_eq_zero]
        intro z hz
        have := a z hz
        simp; omega
      | succ i =>
        have hx : l[i]? = some x := by simpa using h
        have := a x (List.mem_of_getElem? hx)
        rw [List.countP_cons_of_pos (by simpa using this), ih b i x hx]
  exact h1 M hM i M[i] (List.getElem?_eq_getElem hi)
theorem find_place {M : List Int} (hM : M.Pairwise (· < ·)) (i : Nat) (hi : i < M.length) : findI M (M.getD i 0) = some i := by
  have e : M.getD i 0 = M[i] := by simp [hi]
  rw [e]
  unfold findI
  rw [if_pos (by simp), rise_count hM i hi]
theorem find_out {M : List Int} (hM : M.Pairwise (· < ·)) (l : List Nat) (hl : ∀ i ∈ l, i < M.length) : (outV M l).map (findI M) = l.map some := by
  unfold outV
  rw [List.map_map]
  exact List.map_congr_left fun i hi => find_place hM i (hl i hi)
theorem claim_places {o ms : List Int} (ho : o.length = 8) (hm : 0 < (risenL ms).length) : (claimL o ms).map (findI (risenL ms)) = (claimI (risenL ms).length (o.map (findI (risenL ms)))).map some := by
  unfold claimL
  rw [if_neg (by omega)]
  exact find_out (risen_facts ms).1 _ (claim_in hm (findI_in (risen_facts ms).1 o) (by simpa using ho))
theorem claim_idem {o ms : List Int} (ho : o.length = 8) (hm : 0 < (risenL ms).length) : claimL (claimL o ms) ms = claimL o ms := by
  have h := claim_places ho hm
  have e : claimL o ms = outV (risenL ms) (claimI (risenL ms).length (o.map (findI (risenL ms)))) := by
    unfold claimL
    rw [if_neg (by omega)]
  generalize hC : claimL o ms = C at h e ⊢
  unfold claimL
  rw [if_neg (by omega), h, claim_again hm (findI_in (risen_facts ms).1 o) (by simpa using ho), e]
theorem fold_two (q : Int) (f : Int → Int → Int) (hf : ∀ a b, f a b = a ∨ f a b = b) : ∀ (l : List Int) (a : Int), (a = q ∨ a = q + 1) → (∀ x ∈ l, x = q ∨ x = q + 1) → (l.foldl f a = q ∨ l.foldl f a = q + 1)
  | [], a, h, _ => h
  | x :: l, a, h, hl => by
    rw [List.foldl_cons]
    refine fold_two q f hf l _ ?_ (fun y hy => hl y (by simp [hy]))
    rcases hf a x with e | e <;> rw [e]
    · exact h
    · exact hl x (by simp)
theorem share_bal (t : List Int) (ht : t ≠ []) : balT (shareI t) = true := by
  have hpos : 0 < t.length := by cases t with | nil => exact absurd rfl ht | cons a l => simp
  have hm : ∀ x ∈ shareI t, x = 8 / (t.length : Int) ∨ x = 8 / (t.length : Int) + 1 := fun x hx => by
    obtain ⟨k, hk, rfl⟩ := List.getElem_of_mem hx
    have := share_vals t k (by rw [shareI_len] at hk; exact hk)
    rw [List.getD_eq_getElem?_getD, List.getElem?_eq_getElem hk, Option.getD_some] at this
    exact this
  have hs := shareI_sum t ht
  obtain ⟨x, l, hx⟩ : ∃ x l, shareI t = x :: l := by
    cases h : shareI t with
    | nil => have := shareI_len t; rw [h] at this; simp at this; omega
    | cons x l => exact ⟨x, l, rfl⟩
  unfold balT
  rw [hs]
  rw [hx] at hm ⊢
  have h1 : Lib.maxOf (x :: l) = 8 / (t.length : Int) ∨ Lib.maxOf (x :: l) = 8 / (t.length : Int) + 1 := fold_two _ max (fun a b => by omega) (x :: l) x (hm x (by simp)) hm
  have h2 : Lib.minOf (x :: l) = 8 / (t.length : Int) ∨ Lib.minOf (x :: l) = 8 / (t.length : Int) + 1 := fold_two _ min (fun a b => by omega) (x :: l) x (hm x (by simp)) hm
  simp; omega
theorem claim_bal {o ms : List Int} (ho : o.length = 8) (hm : 0 < (risenL ms).length) : balL (claimL o ms) ms = true := by
  unfold balL
  rw [if_neg (by omega), claim_places ho hm, claim_tally hm (findI_in (risen_facts ms).1 o) (by simpa using ho)]
  exact share_bal _ (fun e => by have := tallyI_len (risenL ms).length (o.map (findI (risenL ms))); rw [e] at this; simp at this; omega)

/-! How many partitions stay. -/
theorem count_some (k : Nat) : ∀ l : List Nat, (l.map some).count (some k) = l.count k
  | [] => rfl
  | x :: l => by
    rw [List.map_cons, List.count_cons, List.count_cons, count_some k l]
    by_cases h : x = k <;> simp [h]
def eqTo (o d : List Int) (k : Nat) : Nat := (List.range k).countP fun i => decide (d.getD i 0 = o.getD i 0)
theorem eqTo_succ (o d : List Int) (k : Nat) : eqTo o d (k + 1) = eqTo o d k + if d.getD k 0 = o.getD k 0 then 1 else 0 := by
  unfold eqTo
  rw [List.range_succ, List.countP_append]
  simp
theorem eqTo_le (o d : List Int) (k : Nat) : eqTo o d k ≤ k := by
  unfold eqTo
  exact Nat.le_trans List.countP_le_length (by simp)
theorem find_iff {M : List Int} (hM : M.Pairwise (· < ·)) (i : Nat) (hi : i < M.length) (y : Int) : findI M y = some i ↔ M.getD i 0 = y := by
  constructor
  · intro h; exact (findI_some hM h).2.1
  · intro h; rw [← h]; exact find_place hM i hi
theorem eqTo_zip : ∀ (o d : List Int), o.length = d.length → eqTo o d o.length = (o.zip d).countP fun p => decide (p.2 = p.1)
  | [], [], _ => rfl
  | [], _ :: _, h => by simp at h
  | _ :: _, [], h => by simp at h
  | x :: o, y :: d, h => by
    have ih := eqTo_zip o d (by simpa using h)
    rw [List.zip_cons_cons, List.countP_cons, ← ih]
    unfold eqTo
    rw [List.length_cons, List.range_succ_eq_map, List.countP_cons, List.countP_map]
    rfl
theorem stay_eq {M : List Int} (hM : M.Pairwise (· < ·)) : ∀ (o : List Int) (dp : List Nat), (∀ i ∈ dp, i < M.length) → o.length = dp.length → (o.zip (outV M dp)).countP (fun p => decide (p.2 = p.1)) = stayN (o.map (findI M)) dp
  | [], [], _, _ => rfl
  | [], _ :: _, _, h => by simp at h
  | _ :: _, [], _, h => by simp at h
  | x :: o, i :: dp, hi, h => by
    have ih := stay_eq hM o dp (fun j hj => hi j (by simp [hj])) (by simpa using h)
    have e : (decide (M.getD i 0 = x)) = decide (findI M x = some i) := by
      rw [decide_eq_decide]; exact (find_iff hM i (hi i (by simp)) x).symm
    show ((x, M.getD i 0) :: o.zip (outV M dp)).countP _ = ((findI M x, i) :: (o.map (findI M)).zip dp).countP _
    rw [List.countP_cons, List.countP_cons]
    unfold stayN at ih
    rw [ih]
    congr 1
    show (if decide (M.getD i 0 = x) = true then 1 else 0) = if decide (findI M x = some i) = true then 1 else 0
    rw [e]
theorem foldl_min_le : ∀ (l : List Int) (a : Int), l.foldl min a ≤ a ∧ ∀ x ∈ l, l.foldl min a ≤ x
  | [], a => ⟨Int.le_refl _, fun x hx => by cases hx⟩
  | y :: l, a => by
    obtain ⟨h1, h2⟩ := foldl_min_le l (min a y)
    rw [List.foldl_cons]
    refine ⟨by omega, fun x hx => ?_⟩
    rcases List.mem_cons.1 hx with rfl | hx
    · omega
    · exact h2 x hx
theorem foldl_max_le : ∀ (l : List Int) (a : Int), a ≤ l.foldl max a ∧ ∀ x ∈ l, x ≤ l.foldl max a
  | [], a => ⟨Int.le_refl _, fun x hx => by cases hx⟩
  | y :: l, a => by
    obtain ⟨h1, h2⟩ := foldl_max_le l (max a y)
    rw [List.foldl_cons]
    refine ⟨by omega, fun x hx => ?_⟩
    rcases List.mem_cons.1 hx with rfl | hx
    · omega
    · exact h2 x hx
theorem even_pure {o d ms : List Int} (ho : o.length = 8) (hd : d.length = 8) (hin : ∀ x ∈ d, x ∈ risenL ms) (hm : 0 < (risenL ms).length) (hb : balL d ms = true) : eqTo o d 8 ≤ eqTo o (claimL o ms) 8 := by
  obtain ⟨hM, _⟩ := risen_facts ms
  have hcl : claimL o ms = outV (risenL ms) (claimI (risenL ms).length (o.map (findI (risenL ms)))) := by
    unfold claimL
    rw [if_neg (by omega)]
  have hci := claim_in hm (findI_in hM o) (by simpa using ho)
  have hcn : (claimI (risenL ms).length (o.map (findI (risenL ms)))).length = 8 := claimI_len (by simpa using ho)
  unfold balL at hb
  rw [if_neg (by omega)] at hb
  have hkm := @keeps_most (risenL ms).length hm (o.map (findI (risenL ms))) (findI_in hM o)
  rw [hcl]
  generalize risenL ms = M at *
  obtain ⟨dp, hdp⟩ : ∃ dp : List Nat, dp = d.map fun x => M.countP (· < x) := ⟨_, rfl⟩
  have hf : ∀ x ∈ d, findI M x = some (M.countP (· < x)) := fun x hx => by
    unfold findI
    rw [if_pos (by simpa using hin x hx)]
  have e1 : d.map (findI M) = dp.map some := by
    rw [hdp, List.map_map]
    exact List.map_congr_left hf
  have hdn : ∀ i ∈ dp, i < M.length := fun i hi => by
    rw [hdp] at hi
    obtain ⟨x, hx, rfl⟩ := List.mem_map.1 hi
    exact (findI_some hM (hf x hx)).1
  have e2 : outV M dp = d := by
    rw [hdp]
    unfold outV
    rw [List.map_map]
    conv => rhs; rw [← List.map_id d]
    exact List.map_congr_left fun x hx => (findI_some hM (hf x hx)).2.1
  have hl : dp.length = 8 := by rw [hdp, List.length_map, hd]
  rw [e1] at hb
  unfold balT at hb
  rw [Bool.and_eq_true] at hb
  have hb2 := of_decide_eq_true hb.2
  have hcount : ∀ k, k < M.length → (dp.count k : Int) ∈ tallyI M.length (dp.map some) := fun k hk => by
    unfold tallyI
    refine List.mem_map.2 ⟨k, List.mem_range.2 hk, ?_⟩
    rw [count_some]
  have hkm2 := @hkm dp hdn hl (Lib.minOf (tallyI M.length (dp.map some))) (fun k hk => by
    have h1 := (foldl_min_le (tallyI M.length (dp.map some)) ((tallyI M.length (dp.map some)).headD 0)).2 _ (hcount k hk)
    have h2 := (foldl_max_le (tallyI M.length (dp.map some)) ((tallyI M.length (dp.map some)).headD 0)).2 _ (hcount k hk)
    unfold Lib.maxOf Lib.minOf at hb2
    unfold Lib.minOf
    omega)
  have s1 := stay_eq hM o dp hdn (by rw [ho, hl])
  have s2 := stay_eq hM o _ hci (by rw [ho, hcn])
  have z1 := eqTo_zip o d (by rw [ho, hd])
  have z2 := eqTo_zip o (outV M (claimI M.length (o.map (findI M)))) (by rw [ho, outV_len, hcn])
  rw [ho] at z1 z2
  rw [e2] at s1
  rw [z1, z2, s1, s2]
  exact hkm2
/-! Another division. -/
def ixI (other : List Int) (i : Nat) : Int := if (if i < other.length then other.getD i 0 else (i : Int)) < 0 then -((if i < other.length then other.getD i 0 else (i : Int)) + 1) else if i < other.length then other.getD i 0 else (i : Int)
theorem ixI_nonneg (other : List Int) (i : Nat) : 0 ≤ ixI other i := by unfold ixI; split <;> omega
def divTo (l other : List Int) (k : Nat) : List Int := ((List.range k).map fun i => l.getD ((ixI other i).toNat % l.length) 0) ++ List.replicate (8 - k) 0
theorem divTo_len (l other : List Int) (k : Nat) (h : k ≤ 8) : (divTo l other k).length = 8 := by simp [divTo]; omega
theorem divTo_succ (l other : List Int) (k : Nat) (h : k < 8) : divTo l other (k + 1) = (divTo l other k).set k (l.getD ((ixI other k).toNat % l.length) 0) := by
  unfold divTo
  rw [List.range_succ, List.map_append, List.append_assoc, List.set_append_right _ _ (by simp)]
  congr 1
  rw [show 8 - k = (8 - (k + 1)) + 1 by omega, List.replicate_succ]
  simp
theorem divTo_in (l other : List Int) (hl : 0 < l.length) : ∀ x ∈ divTo l other 8, x ∈ l := fun x hx => by
  unfold divTo at hx
  simp only [Nat.sub_self, List.replicate_zero, List.append_nil] at hx
  obtain ⟨i, _, rfl⟩ := List.mem_map.1 hx
  have h := Nat.mod_lt (ixI other i).toNat hl
  rw [List.getD_eq_getElem?_getD, List.getElem?_eq_getElem h]
  exact List.getElem_mem h
theorem risen_pos (ms : List Int) (x : Int) : x ∈ risenL ms ↔ x ∈ posL ms := by
  rw [(risen_facts ms).2]
  unfold posL
  simp
theorem risen_zero (ms : List Int) : (risenL ms).length = 0 ↔ (posL ms).length = 0 := by
  constructor
  · intro h
    cases hp : posL ms with
    | nil => rfl
    | cons x l =>
      have : x ∈ risenL ms := (risen_pos ms x).2 (by rw [hp]; simp)
      rw [List.eq_nil_of_length_eq_zero h] at this; cases this
  · intro h
    cases hp : risenL ms with
    | nil => rfl
    | cons x l =>
      have : x ∈ posL ms := (risen_pos ms x).1 (by rw [hp]; simp)
      rw [List.eq_nil_of_length_eq_zero h] at this; cases this
theorem claimL_len (o ms : List Int) (ho : o.length = 8) : (claimL o ms).length = 8 := by
  unfold claimL
  split
  · simp
  · rw [outV_len]; exact claimI_len (by simpa using ho)
/-- The law's answer. -/
theorem even_ok {o ms other : List Int} (ho : o.length = 8) (hp : (posL ms).length ≠ 0) : (!(balL (divTo (posL ms) other 8) ms) || decide (eqTo o (divTo (posL ms) other 8) 8 ≤ eqTo o (claimL o ms) 8)) = true := by
  have hm : 0 < (risenL ms).length := by
    have := risen_zero ms
    omega
  cases hb : balL (divTo (posL ms) other 8) ms with
  | false => rfl
  | true =>
    have := even_pure (o := o) (d := divTo (posL ms) other 8) (ms := ms) ho (divTo_len _ _ 8 (Nat.le_refl _)) (fun x hx => (risen_pos ms x).2 (divTo_in _ _ (by omega) x hx)) hm hb
    simpa using this
theorem claim_none {o ms : List Int} (h : (posL ms).length = 0) : claimL o ms = List.replicate 8 0 := by
  unfold claimL
  rw [if_pos ((risen_zero ms).2 h)]
theorem bal_none {ms : List Int} (h : (posL ms).length = 0) : balL (List.replicate 8 0) ms = true := by
  unfold balL
  rw [if_pos ((risen_zero ms).2 h)]
  rfl
theorem claim_bal' (o ms : List Int) (ho : o.length = 8) : balL (claimL o ms) ms = true := by
  by_cases h : (posL ms).length = 0
  · rw [claim_none h]; exact bal_none h
  · exact claim_bal ho (by have := risen_zero ms; omega)
theorem claim_idem' (o ms : List Int) (ho : o.length = 8) : claimL (claimL o ms) ms = claimL o ms := by
  by_cases h : (posL ms).length = 0
  · rw [claim_none h, claim_none h]
  · exact claim_idem ho (by have := risen_zero ms; omega)
end Go.Proofs.Ytlliijodilnlgaa
