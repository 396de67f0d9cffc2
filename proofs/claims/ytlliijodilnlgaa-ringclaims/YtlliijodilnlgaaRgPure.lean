/- The ring's asking, in plain words: the walk, the primaries, who is asked. -/
import Derived.Test.YtlliijodilnlgaaProg
namespace Go.Proofs.Ytlliijodilnlgaa

/-- one owner more on a walk: somebody, and once. -/
def addN (l : List Int) (x : Int) : List Int := if 0 < x ∧ l.contains x = false then l ++ [x] else l
/-- the first i steps of a walk from s. -/
def walkUp (o : List Int) (s : Nat) : Nat → List Int
  | 0 => []
  | i + 1 => addN (walkUp o s i) (o.getD ((s + i) % 8) 0)
def startOf (p : Int) : Nat := (max p 0 % 8).toNat
def walkL (o : List Int) (p : Int) : List Int := walkUp o (startOf p) 8
def cutN (n : Int) (l : List Int) : Nat := (min (max n 0) (l.length : Int)).toNat
def primL (o : List Int) (p n : Int) : List Int := (walkL o p).take (cutN n (walkL o p))
def restL (o : List Int) (p n : Int) : List Int := (walkL o p).drop (cutN n (walkL o p))
def amongL (l up : List Int) : List Int := l.filter fun x => up.contains x
def slop (up : List Int) : List Int → List Int → List (Int × Int)
  | [], _ => []
  | x :: xs, ot => if up.contains x then (x, x) :: slop up xs ot else match ot with
    | [] => slop up xs []
    | y :: ys => (y, x) :: slop up xs ys
def sloppyL (o : List Int) (p n : Int) (up : List Int) : List (Int × Int) := slop up (primL o p n) (amongL (restL o p n) up)

theorem addN_nodup {l : List Int} (h : l.Nodup) (x : Int) : (addN l x).Nodup := by
  unfold addN
  split
  · rename_i g
    rw [List.nodup_append]
    refine ⟨h, by simp, ?_⟩
    intro a ha b hb
    simp at hb; subst hb
    intro e; subst e
    have := g.2
    simp at this
    exact this ha
  · exact h
theorem walkUp_nodup (o : List Int) (s : Nat) : ∀ i, (walkUp o s i).Nodup
  | 0 => by simp [walkUp]
  | i + 1 => addN_nodup (walkUp_nodup o s i) _
theorem addN_len (l : List Int) (x : Int) : (addN l x).length ≤ l.length + 1 := by
  unfold addN; split <;> simp
theorem walkUp_len (o : List Int) (s : Nat) : ∀ i, (walkUp o s i).length ≤ i
  | 0 => by simp [walkUp]
  | i + 1 => by have := addN_len (walkUp o s i) (o.getD ((s + i) % 8) 0); have := walkUp_len o s i; simp only [walkUp]; omega
theorem walkL_len (o : List Int) (p : Int) : (walkL o p).length ≤ 8 := walkUp_len _ _ _
theorem cutN_le (n : Int) (l : List Int) : cutN n l ≤ l.length := by unfold cutN; omega
theorem primL_len (o : List Int) (p n : Int) : (primL o p n).length = cutN n (walkL o p) := by
  unfold primL; rw [List.length_take]; have := cutN_le n (walkL o p); omega
theorem primL_all (o : List Int) (p : Int) : primL o p 8 = walkL o p := by
  have h : cutN 8 (walkL o p) = (walkL o p).length := by have := walkL_len o p; unfold cutN; omega
  unfold primL; rw [h, List.take_length]
theorem prim_rest (o : List Int) (p n : Int) : primL o p n ++ restL o p n = walkL o p := List.take_append_drop _ _

theorem slop_mem (up : List Int) : ∀ (f ot : List Int) (e : Int × Int), e ∈ slop up f ot → (e.1 = e.2 ∧ e.2 ∈ f ∧ e.1 ∈ up) ∨ (e.1 ∈ ot ∧ e.2 ∈ f)
  | [], _, e, h => by simp [slop] at h
  | x :: xs, ot, e, h => by
    unfold slop at h
    split at h
    · rename_i g
      simp only [List.mem_cons] at h
      rcases h with rfl | h
      · exact Or.inl ⟨rfl, by simp, by simpa using g⟩
      · rcases slop_mem up xs ot e h with q | q
        · exact Or.inl ⟨q.1, by simp [q.2.1], q.2.2⟩
        · exact Or.inr ⟨q.1, by simp [q.2]⟩
    · cases ot with
      | nil =>
        rcases slop_mem up xs [] e h with q | q
        · exact Or.inl ⟨q.1, by simp [q.2.1], q.2.2⟩
        · exact Or.inr ⟨q.1, by simp [q.2]⟩
      | cons y ys =>
        simp only [List.mem_cons] at h
        rcases h with rfl | h
        · exact Or.inr ⟨by simp, by simp⟩
        · rcases slop_mem up xs ys e h with q | q
          · exact Or.inl ⟨q.1, by simp [q.2.1], q.2.2⟩
          · exact Or.inr ⟨by simp [q.1], by simp [q.2]⟩
theorem slop_fst (up : List Int) : ∀ (f ot : List Int), (f ++ ot).Nodup → ((slop up f ot).map Prod.fst).Nodup
  | [], _, _ => by simp [slop]
  | x :: xs, ot, h => by
    have hx : x ∉ xs ++ ot := (List.nodup_cons.mp h).1
    have ht : (xs ++ ot).Nodup := (List.nodup_cons.mp h).2
    unfold slop
    split
    · rw [List.map_cons, List.nodup_cons]
      refine ⟨?_, slop_fst up xs ot ht⟩
      intro hm
      obtain ⟨e, he, hx'⟩ := List.mem_map.mp hm
      apply hx
      rw [List.mem_append]
      rcases slop_mem up xs ot e he with q | q
      · left; simp at hx'; rw [← hx', q.1]; exact q.2.1
      · right; simp at hx'; rw [← hx']; exact q.1
    · cases ot with
      | nil => exact slop_fst up xs [] ht
      | cons y ys =>
        have hy : y ∉ xs ++ ys ∧ (xs ++ ys).Nodup := by
          have := List.perm_middle.nodup_iff.mp ht
          exact List.nodup_cons.mp this
        show (((y, x) :: slop up xs ys).map Prod.fst).Nodup
        rw [List.map_cons, List.nodup_cons]
        refine ⟨?_, slop_fst up xs ys hy.2⟩
        intro hm
        obtain ⟨e, he, hx'⟩ := List.mem_map.mp hm
        apply hy.1
        rw [List.mem_append]
        rcases slop_mem up xs ys e he with q | q
        · left; simp at hx'; rw [← hx', q.1]; exact q.2.1
        · right; simp at hx'; rw [← hx']; exact q.1
theorem slop_snd (up : List Int) : ∀ (f ot : List Int), f.Nodup → ((slop up f ot).map Prod.snd).Nodup
  | [], _, _ => by simp [slop]
  | x :: xs, ot, h => by
    obtain ⟨hx, ht⟩ := List.nodup_cons.mp h
    have hn : ∀ ot', x ∉ (slop up xs ot').map Prod.snd := fun ot' hm => by
      obtain ⟨e, he, hx'⟩ := List.mem_map.mp hm
      apply hx
      rcases slop_mem up xs ot' e he with q | q
      · rw [← hx']; exact q.2.1
      · rw [← hx']; exact q.2
    unfold slop
    split
    · rw [List.map_cons, List.nodup_cons]; exact ⟨hn ot, slop_snd up xs ot ht⟩
    · cases ot with
      | nil => exact slop_snd up xs [] ht
      | cons y ys =>
        show (((y, x) :: slop up xs ys).map Prod.snd).Nodup
        rw [List.map_cons, List.nodup_cons]; exact ⟨hn ys, slop_snd up xs ys ht⟩
theorem slop_len (up : List Int) : ∀ (f ot : List Int), (slop up f ot).length = min f.length (f.countP (up.contains ·) + ot.length)
  | [], _ => by simp [slop]
  | x :: xs, ot => by
    have hle : xs.countP (up.contains ·) ≤ xs.length := List.countP_le_length
    unfold slop
    split
    · rename_i g
      rw [List.length_cons, slop_len up xs ot, List.length_cons, List.countP_cons_of_pos (p := (up.contains ·)) g]; omega
    · rename_i g
      cases ot with
      | nil => 
        have := slop_len up xs []
        rw [show (match ([] : List Int) with | [] => slop up xs [] | y :: ys => (y, x) :: slop up xs ys) = slop up xs [] from rfl, this, List.length_cons, List.countP_cons_of_neg (p := (up.contains ·)) g]
        simp only [List.length_nil]; omega
      | cons y ys =>
        have := slop_len up xs ys
        rw [show (match (y :: ys : List Int) with | [] => slop up xs [] | y :: ys => (y, x) :: slop up xs ys) = (y, x) :: slop up xs ys from rfl, List.length_cons, this, List.length_cons, List.length_cons, List.countP_cons_of_neg (p := (up.contains ·)) g]
        omega

/-- P11.4, of those that are asked: so many; each up, for a primary, itself just where it is a primary; unlike. -/
theorem sloppy_facts (o : List Int) (p n : Int) (up : List Int) :
    (sloppyL o p n up).length = min (primL o p n).length ((walkL o p).countP (up.contains ·)) ∧
    (∀ e ∈ sloppyL o p n up, up.contains e.1 = true ∧ (primL o p n).contains e.2 = true ∧ (primL o p n).contains e.1 = decide (e.1 = e.2)) ∧
    ((sloppyL o p n up).map Prod.fst).Nodup ∧ ((sloppyL o p n up).map Prod.snd).Nodup := by
  have hn : (primL o p n ++ restL o p n).Nodup := by rw [prim_rest]; exact walkUp_nodup _ _ _
  obtain ⟨h1, h2, h3⟩ := List.nodup_append.mp hn
  have hf : (primL o p n ++ amongL (restL o p n) up).Nodup := by
    rw [List.nodup_append]
    exact ⟨h1, h2.filter _, fun a ha b hb => h3 a ha b (List.mem_filter.mp hb).1⟩
  refine ⟨?_, ?_, slop_fst up _ _ hf, slop_snd up _ _ h1⟩
  · unfold sloppyL
    rw [slop_len, ← prim_rest o p n, List.countP_append, show (amongL (restL o p n) up).length = (restL o p n).countP (up.contains ·) by unfold amongL; rw [List.countP_eq_length_filter]]
  · intro e he
    rcases slop_mem up _ _ e he with ⟨q1, q2, q3⟩ | ⟨q1, q2⟩
    · refine ⟨by simpa using q3, by simpa using q2, ?_⟩
      rw [q1]; simp [q2]
    · have hm := List.mem_filter.mp q1
      have hne : e.1 ≠ e.2 := fun h => h3 _ q2 _ hm.1 h.symm
      refine ⟨hm.2, by simpa using q2, ?_⟩
      have hni : e.1 ∉ primL o p n := fun h => h3 _ h _ hm.1 rfl
      simp [hni, hne]
end Go.Proofs.Ytlliijodilnlgaa
