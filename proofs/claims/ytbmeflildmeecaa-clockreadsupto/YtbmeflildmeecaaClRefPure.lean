/- What the document's own Norm does with a dot. -/
import Derived.Test.YtbmeflildmeecaaClBytes
namespace Go.Proofs.Ytbmeflildmeecaa

/-- The first i dots, each with its actor's greatest N of all. -/
def full (c : List Dt) (i : Nat) : List Dt := (c.take i).map (fun d => (d.1, getN c d.1))
theorem full_zero (c : List Dt) : full c 0 = [] := by simp [full]
theorem full_step {c : List Dt} {i : Nat} {d : Dt} (h : c[i]? = some d) : full c (i + 1) = full c i ++ [(d.1, getN c d.1)] := by
  unfold full
  rw [List.take_add_one, h]
  simp
theorem full_all (c : List Dt) : norm (full c c.length) = norm c := by
  refine norm_eq (fun a => ?_)
  unfold full
  rw [List.take_length]
  rcases Nat.eq_zero_or_pos (getN c a) with h | h
  · rw [h]
    have : ∀ m : List Dt, getN (m.map (fun d => (d.1, getN c d.1))) a = 0 := by
      intro m
      induction m with
      | nil => rfl
      | cons e m ih =>
        rw [List.map_cons, getN_cons, ih]
        split
        · rename_i q; have q : e.1 = a := q; simp only [q, h]; omega
        · rfl
    exact this c
  · have hm := getN_mem h
    have h1 : (a, getN c a) ∈ c.map (fun d => (d.1, getN c d.1)) := List.mem_map.2 ⟨(a, getN c a), hm, rfl⟩
    have h2 := getN_ge h1
    have h3 : getN (c.map (fun d => (d.1, getN c d.1))) a ≤ getN c a := by
      rcases Nat.eq_zero_or_pos (getN (c.map (fun d => (d.1, getN c d.1))) a) with q | q
      · omega
      · obtain ⟨e, _, he⟩ := List.mem_map.1 (getN_mem q)
        simp only [Prod.mk.injEq] at he
        rw [← he.2, he.1]
        exact Nat.le_refl _
    have h2 : getN c a ≤ getN (c.map (fun d => (d.1, getN c d.1))) a := h2
    omega
theorem full_le (c : List Dt) (i a : Nat) : getN (full c i) a ≤ getN c a := by
  rcases Nat.eq_zero_or_pos (getN (full c i) a) with q | q
  · omega
  · have hm := getN_mem q
    unfold full at hm
    obtain ⟨e, _, he⟩ := List.mem_map.1 hm
    simp only [Prod.mk.injEq] at he
    have h2 : getN c e.1 = getN (full c i) a := he.2
    rw [← h2, he.1]
    exact Nat.le_refl _
theorem full_none {c : List Dt} {i a : Nat} (h : getN c a = 0) : norm (full c i ++ [(a, getN c a)]) = norm (full c i) := norm_eq (fun x => by
  rw [getN_append, getN_one, h]
  split <;> simp)
theorem full_there {c : List Dt} {i k : Nat} {d : Dt} (h : (norm (full c i))[k]? = some d) : norm (full c i ++ [(d.1, getN c d.1)]) = norm (full c i) := norm_eq (fun x => by
  have hm := List.mem_of_getElem? h
  have hge := getN_ge hm
  have h0 := (norm_right (full c i)).2 d hm
  rw [getN_norm] at hge
  have hle := full_le c i d.1
  obtain ⟨e, _, he⟩ := List.mem_map.1 (norm_mem hm)
  have hd : getN c d.1 = d.2 := by rw [← he]
  rw [getN_append, getN_one]
  split
  · rename_i q
    have q : d.1 = x := q
    subst q
    simp only
    omega
  · omega)
theorem full_new {c : List Dt} {i k a : Nat} (h0 : 0 < getN c a) (h1 : ∀ d ∈ (norm (full c i)).take k, d.1 < a) (h2 : ∀ d ∈ (norm (full c i)).drop k, a < d.1) :
    norm (full c i ++ [(a, getN c a)]) = (norm (full c i)).take k ++ ((a, getN c a) :: (norm (full c i)).drop k) := by
  have hR := norm_right (full c i)
  have hg := getN_norm (full c i)
  generalize norm (full c i) = O at *
  have hsplit : O.take k ++ O.drop k = O := List.take_append_drop k O
  refine (norm_of ⟨?_, ?_⟩ (fun x => ?_)).symm
  · have hp := hR.1
    rw [← hsplit, List.pairwise_append] at hp
    rw [List.pairwise_append]
    refine ⟨hp.1, List.pairwise_cons.2 ⟨fun y hy => h2 y hy, hp.2.1⟩, fun x hx y hy => ?_⟩
    rcases List.mem_cons.1 hy with rfl | hy
    · exact h1 x hx
    · exact hp.2.2 x hx y hy
  · intro d hd
    rcases List.mem_append.1 hd with q | q
    · exact hR.2 d (List.mem_of_mem_take q)
    · rcases List.mem_cons.1 q with rfl | q
      · exact h0
      · exact hR.2 d (List.mem_of_mem_drop q)
  · have hO : getN O x = max (getN (O.take k) x) (getN (O.drop k) x) := by rw [← getN_append, hsplit]
    rw [getN_append, getN_cons, getN_append, getN_one, ← hg, hO]
    split <;> omega
end Go.Proofs.Ytbmeflildmeecaa
