/- The document's disk: a file is laid, in the place of one of its name. -/
import Derived.Test.YthaknjbcmflegaaRefGone
namespace Go.Proofs.Ythaknjbcmflegaa
open Go.RowKit Go.Maps Go.WideMaps

/-- A file is put. -/
def putS (S : Dk) (k : List UInt8) (f : Fl) : Dk := { S with fs := put k f S.fs }
/-- How far the new row is. -/
def InsAt (fs : Fs) (k : List UInt8) (f : Fl) (i : Nat) (done : Bool) (l : Fs) : Prop :=
  (done = false ∧ l = fs.take i ∧ put k f fs = fs.take i ++ put k f (fs.drop i)) ∨ (done = true ∧ l ++ fs.drop i = put k f fs)
theorem InsAt.start (fs : Fs) (k : List UInt8) (f : Fl) : InsAt fs k f 0 false [] := .inl ⟨rfl, by simp, by simp⟩
theorem drop_at {fs : Fs} {i : Nat} {p : List UInt8 × Fl} (h : fs[i]? = some p) : fs.drop i = p :: fs.drop (i + 1) := by
  obtain ⟨hl, e⟩ := List.getElem?_eq_some_iff.1 h
  rw [List.drop_eq_getElem_cons hl, e]
theorem take_at {fs : Fs} {i : Nat} {p : List UInt8 × Fl} (h : fs[i]? = some p) : fs.take (i + 1) = fs.take i ++ [p] := by
  rw [List.take_add_one, h]; rfl
theorem InsAt.late {fs : Fs} {k : List UInt8} {f : Fl} {i : Nat} {l : Fs} {p : List UInt8 × Fl} (h : InsAt fs k f i true l) (hp : fs[i]? = some p) : InsAt fs k f (i + 1) true (l ++ [p]) := by
  rcases h with ⟨h, _⟩ | ⟨_, h⟩
  · cases h
  · refine .inr ⟨rfl, ?_⟩
    rw [← h, drop_at hp, List.append_assoc]; rfl
theorem InsAt.now {fs : Fs} {k : List UInt8} {f : Fl} {i : Nat} {l : Fs} {p : List UInt8 × Fl} (h : InsAt fs k f i false l) (hp : fs[i]? = some p) (hlt : k < p.1) (hne : ¬ k = p.1) : InsAt fs k f (i + 1) true (l ++ [(k, f)] ++ [p]) := by
  rcases h with ⟨_, h1, h2⟩ | ⟨h, _⟩
  · refine .inr ⟨rfl, ?_⟩
    rw [h2, h1, drop_at hp, put_lt hne hlt]; simp
  · cases h
theorem InsAt.wait {fs : Fs} {k : List UInt8} {f : Fl} {i : Nat} {l : Fs} {p : List UInt8 × Fl} (h : InsAt fs k f i false l) (hp : fs[i]? = some p) (hlt : ¬ k < p.1) (hne : ¬ k = p.1) : InsAt fs k f (i + 1) false (l ++ [p]) := by
  rcases h with ⟨_, h1, h2⟩ | ⟨h, _⟩
  · refine .inl ⟨rfl, by rw [take_at hp, h1], ?_⟩
    rw [h2, drop_at hp, put_gt hne hlt, take_at hp]; simp
  · cases h
theorem InsAt.endT {fs : Fs} {k : List UInt8} {f : Fl} {i : Nat} {l : Fs} (h : InsAt fs k f i true l) (hi : fs.length ≤ i) : l = put k f fs := by
  rcases h with ⟨h, _⟩ | ⟨_, h⟩
  · cases h
  · rw [List.drop_eq_nil_of_le hi, List.append_nil] at h; exact h
theorem InsAt.endF {fs : Fs} {k : List UInt8} {f : Fl} {i : Nat} {l : Fs} (h : InsAt fs k f i false l) (hi : fs.length ≤ i) : l ++ [(k, f)] = put k f fs := by
  rcases h with ⟨_, h1, h2⟩ | ⟨h, _⟩
  · rw [h2, h1, List.drop_eq_nil_of_le hi]; rfl
  · cases h
theorem InsAt.len {fs : Fs} {k : List UInt8} {f : Fl} {i : Nat} {d : Bool} {l : Fs} (h : InsAt fs k f i d l) (hi : i ≤ fs.length) : l.length ≤ i + 1 := by
  rcases h with ⟨_, h1, _⟩ | ⟨_, h⟩
  · rw [h1, List.length_take]; omega
  · have e := congrArg List.length h
    have := len_put_le fs k f
    simp at e
    omega
/-- A file put behind one of its name was taken away. -/
theorem put_del {l : Fs} (hr : Rising l) (k : List UInt8) (f : Fl) : put k f (del k l) = put k f l := by
  induction l with
  | nil => rfl
  | cons p r ih =>
    have hr2 := List.pairwise_cons.1 hr
    by_cases e : k = p.1
    · rw [del, if_pos e, put_eq e]
      cases r with
      | nil => rfl
      | cons q r2 =>
        have h1 : p.1 < q.1 := hr2.1 q (by simp)
        have h2 : ¬ k = q.1 := fun e2 => by rw [← e, e2] at h1; exact List.lt_irrefl _ h1
        rw [put_lt h2 (by rw [e]; exact h1)]
    · rw [del, if_neg e]
      by_cases h : k < p.1
      · rw [put_lt e h, put_lt e h]
        congr 2
        exact del_ne (fun q hq e2 => by
          have h3 := hr2.1 q hq
          rw [e2] at h3
          exact List.lt_irrefl _ (List.lt_trans h h3))
      · rw [put_gt e h, put_gt e h, ih hr2.2]
theorem not_in_del {l : Fs} (hr : Rising l) (k : List UInt8) : ∀ p ∈ del k l, ¬ k = p.1 := fun p hp e => by
  have := get_del hr k k
  rw [if_pos rfl] at this
  have h2 := (get_isSome (del k l) k).2 (List.mem_map.2 ⟨p, hp, e.symm⟩)
  rw [this] at h2; cases h2
end Go.Proofs.Ythaknjbcmflegaa
