/- QuorumMeets, in plain words: those that said yes, counted. -/
import Derived.Test.YtmhpfncbbboamaaGreatQmPure
namespace Go.Proofs.YtmhpfncbbboamaaGreat

/-- Of the nodes 1, 2, .. the first i say yes where r tells so. -/
def upTo (r : Nat → Bool) : Nat → Ses → Ses
  | 0, l => l
  | i + 1, l => if r i then sayS 1 (upTo r i l) ((i : Int) + 1) else upTo r i l
def tgN (n : Nat) : List (Int × Int) := (List.range n).map fun (j : Nat) => ((j : Int) + 1, (j : Int) + 1)
def stN (n i : Nat) (r : Nat → Bool) : Ses := (List.range n).map fun (j : Nat) => ((j : Int) + 1, (j : Int) + 1, if decide (j < i) && r j then 1 else 0)
theorem tgN_succ (n : Nat) : tgN (n + 1) = tgN n ++ [((n : Int) + 1, (n : Int) + 1)] := by simp [tgN, List.range_succ]
theorem tgN_len (n : Nat) : (tgN n).length = n := by simp [tgN]
theorem hasN_st {n i : Nat} {r : Nat → Bool} : hasN (stN n i r) ((n : Int) + 1) = false := by
  cases h : hasN (stN n i r) ((n : Int) + 1) with
  | false => rfl
  | true =>
    exfalso
    have := hasN_iff.1 h
    simp [stN] at this
    obtain ⟨j, hj, e⟩ := this
    omega
theorem seats_tgN (n : Nat) (r : Nat → Bool) : seats (tgN n) = stN n 0 r := by
  induction n with
  | zero => rfl
  | succ n ih =>
    rw [tgN_succ, seats_snoc, ih]
    unfold askS
    rw [if_neg (by rw [hasN_st]; decide)]
    simp [stN, List.range_succ]
theorem upTo_st (n : Nat) (r : Nat → Bool) : ∀ i, i ≤ n → upTo r i (stN n 0 r) = stN n i r
  | 0, _ => rfl
  | i + 1, hi => by
    unfold upTo
    rw [upTo_st n r i (by omega)]
    cases hr : r i with
    | false =>
      rw [if_neg (by decide)]
      unfold stN
      apply List.map_congr_left
      intro j _
      have : (decide (j < i) && r j) = (decide (j < i + 1) && r j) := by
        by_cases e : j = i
        · subst e; simp [hr]
        · have : decide (j < i) = decide (j < i + 1) := by
            by_cases q : j < i
            · simp [q]; omega
            · simp [q]; omega
          rw [this]
      rw [this]
    | true =>
      rw [if_pos rfl]
      unfold sayS stN
      rw [List.map_map]
      apply List.map_congr_left
      intro j _
      show (if opens ((i : Int) + 1) ((j : Int) + 1, (j : Int) + 1, if decide (j < i) && r j then 1 else 0) then _ else _) = _
      by_cases e : j = i
      · subst e
        simp [opens, hr]
      · have h1 : opens ((i : Int) + 1) ((j : Int) + 1, (j : Int) + 1, if decide (j < i) && r j then 1 else 0) = false := by
          unfold opens
          have : ¬ ((j : Int) + 1 = (i : Int) + 1) := by omega
          simp [this]
        have h2 : decide (j < i) = decide (j < i + 1) := by
          by_cases q : j < i
          · simp [q]; omega
          · simp [q]; omega
        rw [h1, h2]; rfl
theorem cnt_st (n : Nat) (r : Nat → Bool) : cntA (stN n n r) 1 = (List.range n).countP r := by
  unfold cntA stN
  rw [List.countP_map]
  apply List.countP_congr
  intro j hj
  have hj := List.mem_range.1 hj
  cases hr : r j <;> simp [hj, hr]
/-- Where none says yes to both, all yes together are not more than all. -/
theorem both_of {n : Nat} {r s : Nat → Bool} (h : n < (List.range n).countP r + (List.range n).countP s) : ((List.range n).any fun j => r j && s j) = true := by
  cases q : ((List.range n).any fun j => r j && s j) with
  | true => rfl
  | false =>
    exfalso
    have : ∀ l : List Nat, (l.any fun j => r j && s j) = false → l.countP r + l.countP s ≤ l.length := by
      intro l
      induction l with
      | nil => intro _; simp
      | cons a l ih =>
        intro hl
        simp only [List.any_cons, Bool.or_eq_false_iff] at hl
        have := ih hl.2
        simp only [List.countP_cons, List.length_cons]
        have h1 := hl.1
        cases hr : r a <;> cases hs : s a <;> simp [hr, hs] at h1 ⊢ <;> omega
    have := this _ q
    rw [List.length_range] at this
    omega
/-- Both were enough, and together they are more than all: they meet. -/
theorem meets_pure {n : Nat} {r s : Nat → Bool} {a b : Int} (ha : verd a 0 (stN n n r) = 1) (hb : verd b 0 (stN n n s) = 1) (h : (n : Int) < a + b) : ((List.range n).any fun j => r j && s j) = true := by
  have key : ∀ (c : Int) (t : Nat → Bool), verd c 0 (stN n n t) = 1 → c ≤ ((List.range n).countP t : Int) := fun c t hc => by
    unfold verd at hc
    split at hc
    · rename_i q
      rw [cnt_st] at q
      exact q.1
    · split at hc <;> cases hc
  have h1 := key a r ha
  have h2 := key b s hb
  exact both_of (by omega)
theorem any_snoc (n : Nat) (f : Nat → Bool) : ((List.range (n + 1)).any f) = (((List.range n).any f) || f n) := by rw [List.range_succ, List.any_append]; simp
end Go.Proofs.YtmhpfncbbboamaaGreat
