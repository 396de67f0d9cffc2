/- A claim, in plain words: no balanced division keeps more partitions where they are. -/
import Derived.Test.YtlliijodilnlgaaRgEven
import Derived.Test.YtlliijodilnlgaaRgBal
namespace Go.Proofs.Ytlliijodilnlgaa

def sumI (f : Nat → Int) : Nat → Int
  | 0 => 0
  | n + 1 => sumI f n + f n
theorem sumI_le {f g : Nat → Int} : ∀ n, (∀ k, k < n → f k ≤ g k) → sumI f n ≤ sumI g n
  | 0, _ => Int.le_refl _
  | n + 1, h => by
    have := sumI_le n (fun k hk => h k (by omega))
    have := h n (by omega)
    simp only [sumI]; omega
theorem sumI_eq {f g : Nat → Int} : ∀ n, (∀ k, k < n → f k = g k) → sumI f n = sumI g n
  | 0, _ => rfl
  | n + 1, h => by simp only [sumI]; rw [sumI_eq n (fun k hk => h k (by omega)), h n (by omega)]
theorem sumI_add (f g : Nat → Int) : ∀ n, sumI (fun k => f k + g k) n = sumI f n + sumI g n
  | 0 => rfl
  | n + 1 => by simp only [sumI]; rw [sumI_add f g n]; omega
theorem sumI_const (c : Int) : ∀ n : Nat, sumI (fun _ => c) n = n * c
  | 0 => by simp [sumI]
  | n + 1 => by
    simp only [sumI]; rw [sumI_const c n]
    rw [show ((n + 1 : Nat) : Int) = (n : Int) + 1 by omega, Int.add_mul]; omega
theorem sumI_ind (p : Nat → Bool) : ∀ n, sumI (fun k => if p k then 1 else 0) n = ((List.range n).countP p : Nat)
  | 0 => rfl
  | n + 1 => by
    simp only [sumI]; rw [sumI_ind p n, List.range_succ, List.countP_append]
    cases h : p n <;> simp [h]
theorem sumI_one (x : Nat) (c : Int) : ∀ n, sumI (fun k => if x = k then c else 0) n = if x < n then c else 0
  | 0 => by simp [sumI]
  | n + 1 => by
    simp only [sumI]; rw [sumI_one x c n]
    by_cases h : x = n
    · subst h; simp
    · by_cases h' : x < n
      · rw [if_pos h', if_neg h, if_pos (by omega)]; omega
      · rw [if_neg h', if_neg h, if_neg (by omega)]; omega
/-- What is counted of a row is counted member by member. -/
theorem count_split {β : Type} (P : β → Bool) (v : β → Nat) (n : Nat) : ∀ (l : List β), (∀ x ∈ l, v x < n) → (l.countP P : Int) = sumI (fun k => (l.countP (fun x => P x && decide (v x = k)) : Nat)) n
  | [], _ => by
    rw [sumI_eq (g := fun _ => 0) n (fun k _ => by simp), sumI_const]; simp
  | x :: l, h => by
    have ih := count_split P v n l (fun y hy => h y (by simp [hy]))
    have hx := h x (by simp)
    rw [sumI_eq (g := fun k => ((l.countP (fun x => P x && decide (v x = k)) : Nat) : Int) + (if v x = k then (if P x then 1 else 0) else 0)) n (fun k _ => ?_), sumI_add, ← ih, sumI_one, if_pos hx, List.countP_cons]
    · cases P x <;> simp
    · rw [List.countP_cons]
      cases P x <;> by_cases e : v x = k <;> simp [e]
theorem zip_fst_le (P : Option Nat × Nat → Bool) (Q : Option Nat → Bool) (h : ∀ p, P p = true → Q p.1 = true) : ∀ (a : List (Option Nat)) (b : List Nat), (a.zip b).countP P ≤ a.countP Q
  | [], _ => by simp
  | _ :: _, [] => by simp
  | x :: a, y :: b => by
    rw [List.zip_cons_cons, List.countP_cons, List.countP_cons]
    have := zip_fst_le P Q h a b
    by_cases hp : P (x, y) = true
    · rw [if_pos hp, if_pos (h _ hp)]; omega
    · rw [if_neg hp]; omega
theorem zip_snd_le (P : Option Nat × Nat → Bool) (Q : Nat → Bool) (h : ∀ p, P p = true → Q p.2 = true) : ∀ (a : List (Option Nat)) (b : List Nat), (a.zip b).countP P ≤ b.countP Q
  | [], _ => by simp
  | _ :: _, [] => by simp
  | x :: a, y :: b => by
    rw [List.zip_cons_cons, List.countP_cons, List.countP_cons]
    have := zip_snd_le P Q h a b
    by_cases hp : P (x, y) = true
    · rw [if_pos hp, if_pos (h _ hp)]; omega
    · rw [if_neg hp]; omega
/-- How many stay where they are. -/
def stayN (oi : List (Option Nat)) (d : List Nat) : Nat := (oi.zip d).countP fun p => decide (p.1 = some p.2)
theorem stay_le {n : Nat} (oi : List (Option Nat)) (d : List Nat) (hd : ∀ i ∈ d, i < n) : (stayN oi d : Int) ≤ sumI (fun k => min (oi.count (some k) : Int) (d.count k : Int)) n := by
  unfold stayN
  rw [count_split _ (fun p => p.2) n _ (fun p hp => hd p.2 (List.of_mem_zip hp).2)]
  refine sumI_le n (fun k _ => ?_)
  have h1 := zip_fst_le (fun p => decide (p.1 = some p.2) && decide (p.2 = k)) (fun x => x == some k) (fun p hp => by
    simp at hp ⊢; rw [hp.1, hp.2]) oi d
  have h2 := zip_snd_le (fun p => decide (p.1 = some p.2) && decide (p.2 = k)) (fun x => x == k) (fun p hp => by
    simp at hp ⊢; exact hp.2) oi d
  simp only [List.count]
  omega
/-! What a claim keeps. -/
theorem keep_room : ∀ (oi : List (Option Nat)) (s : List (Option Nat) × List Int), (∀ i, some i ∈ oi → i < s.2.length) → (∀ k, 0 ≤ s.2.getD k 0) → ∀ k, (oi.foldl keepS s).2.getD k 0 = max 0 (s.2.getD k 0 - (oi.count (some k) : Int))
  | [], s, _, h, k => by
    have := h k
    rw [List.count_nil, List.foldl_nil]; omega
  | x :: oi, s, h0, h, k => by
    rw [List.foldl_cons, keep_room oi (keepS s x) (fun i hi => by rw [(keepS_len s x).2]; exact h0 i (by simp [hi])) ?_ k]
    · cases x with
      | none => simp [keepS]
      | some i =>
        have hi := h0 i (by simp)
        have hk := h k
        unfold keepS
        dsimp only
        split
        · rw [getD_set_eq]
          by_cases e : i = k
          · subst e
            rw [if_pos ⟨rfl, hi⟩, List.count_cons_self]; omega
          · rw [if_neg (fun q => e q.1), List.count_cons_of_ne (by simpa using e)]
        · by_cases e : i = k
          · subst e; rw [List.count_cons_self]; dsimp only; omega
          · rw [List.count_cons_of_ne (by simpa using e)]
    · intro k'
      cases x with
      | none => exact h k'
      | some i =>
        unfold keepS
        dsimp only
        split
        · rw [getD_set_eq]
          have := h k'
          split
          · rename_i e; obtain ⟨rfl, _⟩ := e; omega
          · exact this
        · exact h k'
/-- One row is the other with some taken out. -/
def Sub : List (Option Nat) → List (Option Nat) → Prop
  | [], [] => True
  | x :: a, y :: b => (y = none ∨ y = x) ∧ Sub a b
  | _, _ => False
theorem keep_sub : ∀ (oi : List (Option Nat)) (s : List (Option Nat) × List Int), ∃ r, (oi.foldl keepS s).1 = s.1 ++ r ∧ Sub oi r
  | [], s => ⟨[], by simp, trivial⟩
  | x :: oi, s => by
    have hx : ∃ y, (keepS s x).1 = s.1 ++ [y] ∧ (y = none ∨ y = x) := by
      cases x with
      | none => exact ⟨none, rfl, Or.inl rfl⟩
      | some i =>
        unfold keepS
        dsimp only
        split
        · exact ⟨_, rfl, Or.inr rfl⟩
        · exact ⟨_, rfl, Or.inl rfl⟩
    obtain ⟨y, h1, h2⟩ := hx
    obtain ⟨r, h3, h4⟩ := keep_sub oi (keepS s x)
    exact ⟨y :: r, by rw [List.foldl_cons, h3, h1]; simp, h2, h4⟩
theorem fill_stay : ∀ (oi kept : List (Option Nat)) (s : List Nat × List Int × Nat), Sub oi kept → ∃ r, (kept.foldl fillS s).1 = s.1 ++ r ∧ kept.countP Option.isSome ≤ stayN oi r
  | [], [], s, _ => ⟨[], by simp, by simp⟩
  | [], _ :: _, _, h => h.elim
  | _ :: _, [], _, h => h.elim
  | x :: a, y :: b, s, h => by
    have hy : ∃ z, (fillS s y).1 = s.1 ++ [z] ∧ (y = none ∨ y = some z) := by
      cases y with
      | none => exact ⟨_, rfl, Or.inl rfl⟩
      | some i => exact ⟨_, rfl, Or.inr rfl⟩
    obtain ⟨z, h1, h2⟩ := hy
    obtain ⟨r, h3, h4⟩ := fill_stay a b (fillS s y) h.2
    refine ⟨z :: r, by rw [List.foldl_cons, h3, h1]; simp, ?_⟩
    unfold stayN at *
    rw [List.countP_cons, List.zip_cons_cons, List.countP_cons]
    rcases h2 with rfl | rfl
    · simp; omega
    · rcases h.1 with q | q
      · cases q
      · rw [← q]; simp; omega
theorem kept_least {n : Nat} {oi : List (Option Nat)} (hn : 0 < n) (h0 : ∀ i, some i ∈ oi → i < n) : sumI (fun k => min (oi.count (some k) : Int) ((shareI (tallyI n oi)).getD k 0)) n ≤ (stayN oi (claimI n oi) : Int) := by
  obtain ⟨r, h1, h2⟩ := keep_sub oi ([], shareI (tallyI n oi))
  obtain ⟨c, h3, h4⟩ := fill_stay oi r ([], (keepI oi (shareI (tallyI n oi))).2, 0) h2
  have e1 : (keepI oi (shareI (tallyI n oi))).1 = r := by unfold keepI; rw [h1]; simp
  have e2 : claimI n oi = c := by
    show (List.foldl fillS _ _).1 = c
    rw [e1, h3]; simp
  rw [e2]
  have hin : ∀ i, some i ∈ r → i < n := by
    have := (keepI_facts n oi ([], shareI (tallyI n oi)) h0 (by rw [shareI_len, tallyI_len]) (shareI_R8 _) (by simp)).2.2.2.1
    rw [h1] at this
    simpa using this
  have hr := count_split (fun x : Option Nat => x.isSome) (fun x => x.getD 0) n r (fun x hx => by
    cases x with
    | none => simpa using hn
    | some i => exact hin i hx)
  have hle : (r.countP (fun x : Option Nat => x.isSome) : Int) ≤ (stayN oi c : Int) := by exact_mod_cast h4
  refine Int.le_trans (Int.le_of_eq ?_) hle
  rw [hr]
  refine sumI_eq n (fun k _ => ?_)
  have hk := keep_count n oi ([], shareI (tallyI n oi)) h0 (by rw [shareI_len, tallyI_len]) k
  have hm := keep_room oi ([], shareI (tallyI n oi)) (fun i hi => by rw [shareI_len, tallyI_len]; exact h0 i hi) (fun j => (shareI_R8 _ j).1) k
  rw [h1, hm] at hk
  have : (r.countP (fun x => x.isSome && decide (x.getD 0 = k))) = r.count (some k) := by
    rw [List.count]
    apply List.countP_congr
    intro x _
    cases x with
    | none => simp
    | some i => simp
  rw [this]
  simp only [List.nil_append, List.count_nil] at hk
  have := (shareI_R8 (tallyI n oi) k).1
  omega
/-! Who is high is ahead. -/
theorem high_rank (t : List Int) (c : Int) (k : Nat) (hk : k < t.length) : c ≤ t.getD k 0 ↔ rankI t k < (List.range t.length).countP (fun j => decide (c ≤ t.getD j 0)) := by
  constructor
  · intro h
    unfold rankI
    have hlt : (List.range t.length).countP (fun j => aheadB t j k) + 1 ≤ (List.range t.length).countP (fun j => aheadB t j k || decide (j = k)) := by
      have : ∀ l : List Nat, l.countP (fun j => aheadB t j k || decide (j = k)) = l.countP (fun j => aheadB t j k) + l.countP (fun j => decide (j = k)) := by
        intro l
        induction l with
        | nil => rfl
        | cons x l ih =>
          rw [List.countP_cons, List.countP_cons, List.countP_cons, ih]
          by_cases ex : x = k
          · subst ex; simp [aheadB_irrefl]; omega
          · simp [ex]; omega
      rw [this]
      have : 0 < (List.range t.length).countP (fun j => decide (j = k)) := List.countP_pos_iff.2 ⟨k, List.mem_range.2 hk, by simp⟩
      omega
    have := range_count_le t.length (fun j => aheadB t j k || decide (j = k)) (fun j => decide (c ≤ t.getD j 0)) (fun j _ hj => by
      rcases Bool.or_eq_true _ _ ▸ hj with g | g
      · rw [aheadB_iff] at g
        exact decide_eq_true (by omega)
      · obtain rfl := of_decide_eq_true g
        exact decide_eq_true h)
    omega
  · intro h
    apply Decidable.byContradiction
    intro hc
    have := range_count_le t.length (fun j => decide (c ≤ t.getD j 0)) (fun j => aheadB t j k) (fun j _ hj => by
      have := of_decide_eq_true hj
      rw [aheadB_iff]; left; omega)
    unfold rankI at h
    omega
theorem count_below (n m : Nat) (h : m ≤ n) : (List.range n).countP (fun p => decide (p < m)) = m := by
  obtain ⟨d, rfl⟩ : ∃ d, n = m + d := ⟨n - m, by omega⟩
  rw [List.range_add, List.countP_append, List.countP_eq_length.2 (fun x hx => by simpa using hx), List.length_range, List.countP_eq_zero.2 (fun x hx => by
    simp at hx ⊢
    obtain ⟨a, _, rfl⟩ := hx
    omega)]
  omega
theorem count_rank (t : List Int) (m : Nat) (h : m ≤ t.length) : (List.range t.length).countP (fun k => decide (rankI t k < m)) = m := by
  obtain ⟨r, hr⟩ := order_exists t
  rw [← hr.perm.countP_eq]
  have : r.countP (fun k => decide (rankI t k < m)) = (r.map (rankI t)).countP (fun p => decide (p < m)) := by rw [List.countP_map]; rfl
  rw [this, hr.ranks, count_below _ _ h]
/-- Shares keep the most. -/
theorem share_most (t : List Int) (ht : 0 < t.length) (d : Nat → Int) (lo : Int) (hb : ∀ k, k < t.length → lo ≤ d k ∧ d k ≤ lo + 1) (hs : sumI d t.length = 8) :
    sumI (fun k => min (t.getD k 0) (d k)) t.length ≤ sumI (fun k => min (t.getD k 0) ((shareI t).getD k 0)) t.length := by
  obtain ⟨n, hn⟩ : ∃ n, t.length = n := ⟨_, rfl⟩
  rw [hn] at ht hb hs ⊢
  have hB : sumI d n = n * lo + ((List.range n).countP (fun k => decide (d k = lo + 1)) : Nat) := by
    rw [← sumI_ind, ← sumI_const, ← sumI_add]
    refine sumI_eq n (fun k hk => ?_)
    have := hb k hk
    by_cases e : d k = lo + 1
    · rw [if_pos (decide_eq_true e)]; exact e
    · rw [if_neg (by simpa using e)]; omega
  have hsh : ∀ k, k < n → (shareI t).getD k 0 = 8 / (n : Int) + (if rankI t k < 8 % n then 1 else 0) := fun k hk => by
    have : (shareI t).getD k 0 = quotaI t.length (rankI t k) := by
      unfold shareI
      rw [List.getD_eq_getElem?_getD, List.getElem?_map, List.getElem?_range (by omega)]; rfl
    rw [this, hn]; rfl
  have hle : (List.range n).countP (fun k => decide (d k = lo + 1)) ≤ n := by
    have := List.countP_le_length (p := fun k => decide (d k = lo + 1)) (l := List.range n)
    simpa using this
  rw [hs] at hB
  obtain ⟨B, hBe⟩ : ∃ B, (List.range n).countP (fun k => decide (d k = lo + 1)) = B := ⟨_, rfl⟩
  rw [hBe] at hB hle
  rcases Nat.lt_or_ge B n with hlt | hge
  · have hq : 8 / (n : Int) = lo := by
      rw [hB, Int.add_comm, Int.add_mul_ediv_left _ _ (by omega), Int.ediv_eq_zero_of_lt (by omega) (by omega)]; omega
    have hmod : 8 % n = B := by
      have := Int.mul_ediv_add_emod 8 (n : Int)
      rw [hq] at this
      have e : ((8 % n : Nat) : Int) = 8 % (n : Int) := by simp
      omega
    obtain ⟨A, hA⟩ : ∃ A, (List.range n).countP (fun j => decide (lo + 1 ≤ t.getD j 0)) = A := ⟨_, rfl⟩
    have hAn : A ≤ n := by
      have := List.countP_le_length (p := fun j => decide (lo + 1 ≤ t.getD j 0)) (l := List.range n)
      rw [hA] at this; simpa using this
    have e1 : sumI (fun k => min (t.getD k 0) (d k)) n = sumI (fun k => min (t.getD k 0) lo) n + ((List.range n).countP (fun k => decide (d k = lo + 1) && decide (lo + 1 ≤ t.getD k 0)) : Nat) := by
      rw [← sumI_ind, ← sumI_add]
      refine sumI_eq n (fun k hk => ?_)
      have := hb k hk
      by_cases a : d k = lo + 1 <;> by_cases b : lo + 1 ≤ t.getD k 0 <;> simp only [a, b, decide_true, decide_false, Bool.and_true, Bool.and_false, if_true, Bool.false_eq_true, if_false] <;> omega
    have e2 : sumI (fun k => min (t.getD k 0) ((shareI t).getD k 0)) n = sumI (fun k => min (t.getD k 0) lo) n + ((List.range n).countP (fun k => decide (rankI t k < min B A)) : Nat) := by
      rw [← sumI_ind, ← sumI_add]
      refine sumI_eq n (fun k hk => ?_)
      rw [hsh k hk, hq, hmod]
      have hr := high_rank t (lo + 1) k (by omega)
      rw [hn, hA] at hr
      by_cases a : rankI t k < B <;> by_cases b : rankI t k < A
      · have := hr.2 b
        rw [if_pos a, if_pos (decide_eq_true (by omega))]; omega
      · have : ¬ lo + 1 ≤ t.getD k 0 := fun q => b (hr.1 q)
        rw [if_pos a, if_neg (by simp; omega)]; omega
      · rw [if_neg a, if_neg (by simp; omega)]; omega
      · rw [if_neg a, if_neg (by simp; omega)]; omega
    have e3 := count_rank t (min B A) (by omega)
    rw [hn] at e3
    rw [e1, e2, e3]
    have i1 := range_count_le n (fun k => decide (d k = lo + 1) && decide (lo + 1 ≤ t.getD k 0)) (fun k => decide (d k = lo + 1)) (fun k _ h => (Bool.and_eq_true _ _ ▸ h).1)
    have i2 := range_count_le n (fun k => decide (d k = lo + 1) && decide (lo + 1 ≤ t.getD k 0)) (fun k => decide (lo + 1 ≤ t.getD k 0)) (fun k _ h => (Bool.and_eq_true _ _ ▸ h).2)
    omega
  · have hBn : B = n := by omega
    have hall : ∀ k, k < n → d k = lo + 1 := fun k hk => by
      have := List.countP_eq_length.1 (show (List.range n).countP (fun k => decide (d k = lo + 1)) = (List.range n).length by simp; omega) k (List.mem_range.2 hk)
      exact of_decide_eq_true this
    have h8 : (8 : Int) = n * (lo + 1) := by rw [hB, hBn, Int.mul_add]; omega
    have hq : 8 / (n : Int) = lo + 1 := by rw [h8]; exact Int.mul_ediv_cancel_left _ (by omega)
    refine sumI_le n (fun k hk => ?_)
    rw [hsh k hk, hq, hall k hk]
    split <;> omega
/-- No balanced division keeps more. -/
theorem keeps_most {n : Nat} (hn : 0 < n) {oi : List (Option Nat)} (h0 : ∀ i, some i ∈ oi → i < n) {d : List Nat} (hd : ∀ i ∈ d, i < n) (hd8 : d.length = 8) (lo : Int) (hb : ∀ k, k < n → lo ≤ (d.count k : Int) ∧ (d.count k : Int) ≤ lo + 1) :
    stayN oi d ≤ stayN oi (claimI n oi) := by
  have h1 := stay_le oi d hd
  have h2 := kept_least hn h0
  have hl : (tallyI n oi).length = n := tallyI_len n oi
  have hs : sumI (fun k => (d.count k : Int)) n = 8 := by
    have := count_split (fun _ : Nat => true) (fun x => x) n d hd
    rw [List.countP_eq_length.2 (fun _ _ => rfl), hd8] at this
    rw [show (8 : Int) = ((8 : Nat) : Int) from rfl, this]
    refine sumI_eq n (fun k _ => ?_)
    congr 1
  have h3 := share_most (tallyI n oi) (by omega) (fun k => (d.count k : Int)) lo (by rw [hl]; exact hb) (by rw [hl]; exact hs)
  rw [hl] at h3
  have ht : ∀ k, k < n → (tallyI n oi).getD k 0 = (oi.count (some k) : Int) := fun k hk => by
    unfold tallyI
    rw [List.getD_eq_getElem?_getD, List.getElem?_map, List.getElem?_range hk]; rfl
  rw [sumI_eq (f := fun k => min ((tallyI n oi).getD k 0) (d.count k : Int)) (g := fun k => min (oi.count (some k) : Int) (d.count k : Int)) n (fun k hk => by rw [ht k hk]),
    sumI_eq (f := fun k => min ((tallyI n oi).getD k 0) ((shareI (tallyI n oi)).getD k 0)) (g := fun k => min (oi.count (some k) : Int) ((shareI (tallyI n oi)).getD k 0)) n (fun k hk => by rw [ht k hk])] at h3
  omega
end Go.Proofs.Ytlliijodilnlgaa
