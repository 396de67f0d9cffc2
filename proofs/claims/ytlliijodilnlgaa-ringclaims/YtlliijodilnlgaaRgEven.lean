/- A claim, in plain words: each member has its share; claiming again changes nothing. -/
import Derived.Test.YtlliijodilnlgaaRgKeepP
import Derived.Test.YtlliijodilnlgaaRgClaim
namespace Go.Proofs.Ytlliijodilnlgaa

theorem getD_set_eq (l : List Int) (i : Nat) (x : Int) (k : Nat) : (l.set i x).getD k 0 = if i = k ∧ k < l.length then x else l.getD k 0 := by
  rw [List.getD_eq_getElem?_getD, List.getElem?_set, List.getD_eq_getElem?_getD]
  by_cases e : i = k
  · subst e
    by_cases h : i < l.length
    · simp [h]
    · simp [h]
  · rw [if_neg e, if_neg (fun q => e q.1)]
/-- Keeping: who is kept and who has room are together as before. -/
theorem keep_count (n : Nat) : ∀ (oi : List (Option Nat)) (s : List (Option Nat) × List Int), (∀ i, some i ∈ oi → i < n) → s.2.length = n → ∀ k, ((oi.foldl keepS s).1.count (some k) : Int) + (oi.foldl keepS s).2.getD k 0 = (s.1.count (some k) : Int) + s.2.getD k 0
  | [], s, _, _, k => rfl
  | x :: oi, s, h0, h1, k => by
    rw [List.foldl_cons, keep_count n oi (keepS s x) (fun i hi => h0 i (by simp [hi])) (by rw [(keepS_len s x).2]; exact h1) k]
    unfold keepS
    cases x with
    | none => simp
    | some i =>
      have hi : i < s.2.length := by rw [h1]; exact h0 i (by simp)
      dsimp only
      split
      · rw [getD_set_eq]
        by_cases e : i = k
        · subst e
          rw [if_pos ⟨rfl, hi⟩]; simp; omega
        · rw [if_neg (fun q => e q.1)]
          simp [List.count_append, e]
      · simp
theorem getD_sum_zero {l : List Int} (hr : R8 l) (hs : l.sum = 0) : ∀ k, l.getD k 0 = 0 := by
  induction l with
  | nil => intro k; simp
  | cons x l ih =>
    have hx := hr 0
    simp at hx
    have hl : R8 l := fun i => by have := hr (i + 1); simpa using this
    have hn : 0 ≤ l.sum := by
      clear ih hs hr hx
      induction l with
      | nil => simp
      | cons y l ih2 =>
        have hy := hl 0
        simp at hy
        have := ih2 (fun i => by have := hl (i + 1); simpa using this)
        simp only [List.sum_cons]; omega
    simp only [List.sum_cons] at hs
    intro k
    cases k with
    | zero => simp; omega
    | succ k => simpa using ih hl (by omega) k
/-- Filling: the same. -/
theorem fill_count (n : Nat) : ∀ (left : List (Option Nat)) (s : List Nat × List Int × Nat), FillOk n s left → (∀ i, some i ∈ left → i < n) → ∀ k, ((left.foldl fillS s).1.count k : Int) = (s.1.count k : Int) + (left.count (some k) : Int) + s.2.1.getD k 0
  | [], s, h, _, k => by
    have hz := getD_sum_zero h.r8 (by have := h.sum; simpa using this) k
    rw [hz]; simp
  | some i :: left, s, h, h0, k => by
    rw [List.foldl_cons, fill_count n left _ h.some (fun j hj => h0 j (by simp [hj])) k]
    show ((s.1 ++ [i]).count k : Int) + _ + s.2.1.getD k 0 = _
    rw [List.count_append]
    by_cases e : i = k
    · subst e; simp; omega
    · simp [e]
  | none :: left, s, h, h0, k => by
    have hs : 0 < s.2.1.sum := by rw [h.sum]; simp
    obtain ⟨k0, k1, k2, k3⟩ := skip_facts s.2.1 s.2.2 h.zeros hs
    rw [List.foldl_cons, fill_count n left _ h.none (fun j hj => h0 j (by simp [hj])) k]
    show ((s.1 ++ [skipI s.2.1 s.2.2]).count k : Int) + _ + (s.2.1.set (skipI s.2.1 s.2.2) (s.2.1.getD (skipI s.2.1 s.2.2) 0 - 1)).getD k 0 = _
    rw [List.count_append, getD_set_eq]
    by_cases e : skipI s.2.1 s.2.2 = k
    · subst e; rw [if_pos ⟨rfl, k1⟩]; simp; omega
    · rw [if_neg (fun q => e q.1)]; simp [e]
theorem fill_in (n : Nat) : ∀ (left : List (Option Nat)) (s : List Nat × List Int × Nat), FillOk n s left → (∀ i, some i ∈ left → i < n) → (∀ i ∈ s.1, i < n) → ∀ i ∈ (left.foldl fillS s).1, i < n
  | [], s, _, _, h1 => h1
  | some j :: left, s, h, h0, h1 => by
    rw [List.foldl_cons]
    refine fill_in n left _ h.some (fun j hj => h0 j (by simp [hj])) (fun i hi => ?_)
    rcases List.mem_append.1 hi with q | q
    · exact h1 i q
    · simp at q; subst q; exact h0 i (by simp)
  | none :: left, s, h, h0, h1 => by
    have hs : 0 < s.2.1.sum := by rw [h.sum]; simp
    obtain ⟨k0, k1, k2, k3⟩ := skip_facts s.2.1 s.2.2 h.zeros hs
    rw [List.foldl_cons]
    refine fill_in n left _ h.none (fun j hj => h0 j (by simp [hj])) (fun i hi => ?_)
    rcases List.mem_append.1 hi with q | q
    · exact h1 i q
    · simp at q; subst q; rw [← h.len]; exact k1
theorem fill_len : ∀ (left : List (Option Nat)) (s : List Nat × List Int × Nat), (left.foldl fillS s).1.length = s.1.length + left.length
  | [], s => by simp
  | x :: left, s => by
    rw [List.foldl_cons, fill_len left]
    cases x <;> simp [fillS] <;> omega
theorem foldl_keep_len : ∀ (oi : List (Option Nat)) (s : List (Option Nat) × List Int), (oi.foldl keepS s).1.length = s.1.length + oi.length
  | [], s => by simp
  | x :: oi, s => by
    rw [List.foldl_cons, foldl_keep_len oi, (keepS_len s x).1]; simp; omega
/-- what is between keeping and filling. -/
theorem mid_ok {n : Nat} (hn : 0 < n) {oi : List (Option Nat)} (h0 : ∀ i, some i ∈ oi → i < n) (h8 : oi.length = 8) :
    FillOk n ([], (keepI oi (shareI (tallyI n oi))).2, 0) (keepI oi (shareI (tallyI n oi))).1 ∧ ∀ i, some i ∈ (keepI oi (shareI (tallyI n oi))).1 → i < n := by
  have ht : tallyI n oi ≠ [] := fun e => by have := tallyI_len n oi; rw [e] at this; simp at this; omega
  obtain ⟨a1, a2, a3, a4, a5⟩ := keepI_facts n oi ([], shareI (tallyI n oi)) h0 (by rw [shareI_len, tallyI_len]) (shareI_R8 _) (by simp)
  refine ⟨⟨a2, a3, fun j hj => absurd hj (Nat.not_lt_zero _), ?_⟩, a4⟩
  have := shareI_sum _ ht
  simp only [h8, this] at a5
  show (List.foldl keepS _ oi).2.sum = _
  unfold keepI
  simp at a5
  omega
theorem claim_count {n : Nat} (hn : 0 < n) {oi : List (Option Nat)} (h0 : ∀ i, some i ∈ oi → i < n) (h8 : oi.length = 8) (k : Nat) : ((claimI n oi).count k : Int) = (shareI (tallyI n oi)).getD k 0 := by
  obtain ⟨h1, h2⟩ := mid_ok hn h0 h8
  have := fill_count n _ _ h1 h2 k
  have h3 := keep_count n oi ([], shareI (tallyI n oi)) h0 (by rw [shareI_len, tallyI_len]) k
  show ((List.foldl fillS _ _).1.count k : Int) = _
  rw [this]
  simp only [List.count_nil] at h3 ⊢
  unfold keepI
  omega
theorem claim_in {n : Nat} (hn : 0 < n) {oi : List (Option Nat)} (h0 : ∀ i, some i ∈ oi → i < n) (h8 : oi.length = 8) : ∀ i ∈ claimI n oi, i < n := by
  obtain ⟨h1, h2⟩ := mid_ok hn h0 h8
  exact fill_in n _ _ h1 h2 (by simp)
theorem claimI_len {n : Nat} {oi : List (Option Nat)} (h8 : oi.length = 8) : (claimI n oi).length = 8 := by
  show (List.foldl fillS _ _).1.length = 8
  rw [fill_len]
  unfold keepI
  rw [foldl_keep_len]; simp [h8]
theorem claim_tally {n : Nat} (hn : 0 < n) {oi : List (Option Nat)} (h0 : ∀ i, some i ∈ oi → i < n) (h8 : oi.length = 8) : tallyI n ((claimI n oi).map some) = shareI (tallyI n oi) := by
  apply List.ext_getElem
  · rw [tallyI_len, shareI_len, tallyI_len]
  · intro k h1 h2
    have := claim_count hn h0 h8 k
    rw [List.getD_eq_getElem?_getD, List.getElem?_eq_getElem h2, Option.getD_some] at this
    rw [← this]
    simp only [tallyI, List.getElem_map, List.getElem_range]
    congr 1
    rw [List.count, List.countP_map]
    rw [List.count]
    congr 1
/-- Shares again are the same. -/
theorem range_count_le (n : Nat) (p q : Nat → Bool) (h : ∀ j, j < n → p j = true → q j = true) : (List.range n).countP p ≤ (List.range n).countP q :=
  List.countP_mono_left (fun x hx => h x (List.mem_range.1 hx))
theorem share_vals (t : List Int) (k : Nat) (hk : k < t.length) : (shareI t).getD k 0 = 8 / (t.length : Int) ∨ (shareI t).getD k 0 = 8 / (t.length : Int) + 1 := by
  have : (shareI t).getD k 0 = quotaI t.length (rankI t k) := by
    unfold shareI
    rw [List.getD_eq_getElem?_getD, List.getElem?_map, List.getElem?_range hk]; rfl
  rw [this]
  unfold quotaI
  split
  · exact Or.inr rfl
  · left; simp
theorem sum_two (q : Int) : ∀ (l : List Int), (∀ x ∈ l, x = q ∨ x = q + 1) → l.sum = l.length * q + (l.countP (fun x => decide (x = q + 1)) : Nat)
  | [], _ => by simp
  | x :: l, h => by
    have ih := sum_two q l (fun y hy => h y (by simp [hy]))
    rw [List.sum_cons, ih, List.countP_cons, List.length_cons]
    rcases h x (by simp) with rfl | rfl
    · have hx : ¬ x = x + 1 := by omega
      simp [hx]; rw [Int.add_mul]; omega
    · simp; rw [Int.add_mul]; omega
theorem countP_range_eq (l : List Int) (p : Int → Bool) : (List.range l.length).countP (fun j => p (l.getD j 0)) = l.countP p := by
  have : l = (List.range l.length).map (fun j => l.getD j 0) := by
    apply List.ext_getElem
    · simp
    · intro i h1 h2
      simp [h1]
  conv => rhs; rw [this]
  rw [List.countP_map]; rfl
theorem share_again (t : List Int) (ht : t ≠ []) : shareI (shareI t) = shareI t := by
  obtain ⟨s, hs⟩ : ∃ s, shareI t = s := ⟨_, rfl⟩
  have hl : s.length = t.length := by rw [← hs]; exact shareI_len t
  have hpos : 0 < t.length := by cases t with | nil => exact absurd rfl ht | cons a l => simp
  have hsum : s.sum = 8 := by rw [← hs]; exact shareI_sum t ht
  obtain ⟨q, hq⟩ : ∃ q : Int, 8 / (t.length : Int) = q := ⟨_, rfl⟩
  have hv : ∀ k, k < t.length → s.getD k 0 = q ∨ s.getD k 0 = q + 1 := fun k hk => by rw [← hs, ← hq]; exact share_vals t k hk
  have hm : ∀ x ∈ s, x = q ∨ x = q + 1 := fun x hx => by
    obtain ⟨k, hk, rfl⟩ := List.getElem_of_mem hx
    have := hv k (by omega)
    rw [List.getD_eq_getElem?_getD, List.getElem?_eq_getElem hk, Option.getD_some] at this
    exact this
  have h2 := sum_two q s hm
  rw [hsum, hl] at h2
  have hmod : ((8 % t.length : Nat) : Int) = 8 - t.length * q := by
    have := Int.mul_ediv_add_emod 8 (t.length : Int)
    rw [hq] at this
    have e : ((8 % t.length : Nat) : Int) = 8 % (t.length : Int) := by simp
    rw [e]; omega
  have hc : (List.range s.length).countP (fun j => decide (s.getD j 0 = q + 1)) = 8 % t.length := by
    rw [countP_range_eq s (fun x => decide (x = q + 1))]
    omega
  rw [hs]
  apply List.ext_getElem
  · rw [shareI_len]
  · intro k h1 hk
    have hk' : k < t.length := by omega
    have e1 : (shareI s)[k] = quotaI s.length (rankI s k) := by simp [shareI]
    have e2 : s[k] = s.getD k 0 := by rw [List.getD_eq_getElem?_getD, List.getElem?_eq_getElem hk]; rfl
    rw [e1, e2]
    unfold quotaI
    rw [hl, hq]
    rcases hv k hk' with e | e
    · have : ¬ rankI s k < 8 % t.length := by
        unfold rankI
        rw [← hc]
        have := range_count_le s.length (fun j => decide (s.getD j 0 = q + 1)) (fun j => aheadB s j k) (fun j hj hjj => by
          rw [aheadB_iff]
          have := of_decide_eq_true hjj
          left; omega)
        omega
      rw [if_neg this, e]; simp
    · have : rankI s k < 8 % t.length := by
        unfold rankI
        rw [← hc]
        have hlt : (List.range s.length).countP (fun j => aheadB s j k) < (List.range s.length).countP (fun j => decide (s.getD j 0 = q + 1)) := by
          refine Nat.lt_of_lt_of_le ?_ (range_count_le s.length (fun j => aheadB s j k || decide (j = k)) _ (fun j hj hjj => ?_))
          · have hd : (List.range s.length).countP (fun j => aheadB s j k || decide (j = k)) = (List.range s.length).countP (fun j => aheadB s j k) + (List.range s.length).countP (fun j => decide (j = k)) := by
              have : ∀ l : List Nat, l.countP (fun j => aheadB s j k || decide (j = k)) = l.countP (fun j => aheadB s j k) + l.countP (fun j => decide (j = k)) := by
                intro l
                induction l with
                | nil => rfl
                | cons x l ih =>
                  rw [List.countP_cons, List.countP_cons, List.countP_cons, ih]
                  by_cases ex : x = k
                  · subst ex; simp [aheadB_irrefl]; omega
                  · simp [ex]; omega
              exact this _
            rw [hd]
            have : 0 < (List.range s.length).countP (fun j => decide (j = k)) := List.countP_pos_iff.2 ⟨k, List.mem_range.2 hk, by simp⟩
            omega
          · have hj' := hv j (by omega)
            rcases Bool.or_eq_true _ _ ▸ hjj with g | g
            · rw [aheadB_iff] at g
              exact decide_eq_true (by omega)
            · obtain rfl := of_decide_eq_true g
              exact decide_eq_true e
        exact hlt
      rw [if_pos this, e]
/-- Keeping what has its share keeps all. -/
theorem keep_all (n : Nat) : ∀ (l : List Nat) (out : List (Option Nat)) (room : List Int), (∀ k, room.getD k 0 = (l.count k : Int)) → (∀ i ∈ l, i < room.length) → (l.map some).foldl keepS (out, room) = (out ++ l.map some, (l.map some).foldl keepS (out, room) |>.2)
  | [], out, room, _, _ => by simp
  | i :: l, out, room, h, hi => by
    have h0 := h i
    have hp : 0 < room.getD i 0 := by rw [h0]; simp
    have e : keepS (out, room) (some i) = (out ++ [some i], room.set i (room.getD i 0 - 1)) := by
      show (if 0 < room.getD i 0 then _ else _) = _
      rw [if_pos hp]
    rw [List.map_cons, List.foldl_cons, e, keep_all n l _ _ (fun k => by
      rw [getD_set_eq]
      have := h k
      rw [List.count_cons] at this
      by_cases ek : i = k
      · subst ek
        rw [if_pos ⟨rfl, hi i (by simp)⟩, h0]; simp
      · rw [if_neg (fun q => ek q.1), this]; simp [ek]) (fun j hj => by rw [List.length_set]; exact hi j (by simp [hj]))]
    simp
theorem fill_all : ∀ (l : List Nat) (s : List Nat × List Int × Nat), ((l.map some).foldl fillS s).1 = s.1 ++ l
  | [], s => by simp
  | i :: l, s => by
    rw [List.map_cons, List.foldl_cons, fill_all l]
    simp [fillS]
theorem claim_again {n : Nat} (hn : 0 < n) {oi : List (Option Nat)} (h0 : ∀ i, some i ∈ oi → i < n) (h8 : oi.length = 8) : claimI n ((claimI n oi).map some) = claimI n oi := by
  have ht : tallyI n oi ≠ [] := fun e => by have := tallyI_len n oi; rw [e] at this; simp at this; omega
  have e1 : shareI (tallyI n ((claimI n oi).map some)) = shareI (tallyI n oi) := by rw [claim_tally hn h0 h8, share_again _ ht]
  have hk := keep_all n (claimI n oi) [] (shareI (tallyI n oi)) (fun k => (claim_count hn h0 h8 k).symm) (fun i hi => by rw [shareI_len, tallyI_len]; exact claim_in hn h0 h8 i hi)
  show fillI (keepI ((claimI n oi).map some) (shareI (tallyI n ((claimI n oi).map some)))).1 _ = _
  rw [e1]
  have hk1 : (keepI ((claimI n oi).map some) (shareI (tallyI n oi))).1 = (claimI n oi).map some := by
    show (List.foldl keepS _ _).1 = _
    rw [hk]; simp
  rw [hk1]
  show (List.foldl fillS _ _).1 = _
  rw [fill_all]; simp
end Go.Proofs.Ytlliijodilnlgaa
