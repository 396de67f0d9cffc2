/- Tallies as lists of seats: a node, whom it stands for, what it said (0 nothing, 1 yes, 2 no). -/
import Derived.Test.YtmhpfncbbboamaaGreatLaws
namespace Go.Proofs.YtmhpfncbbboamaaGreat

abbrev Se := Int × Int × Nat
abbrev Ses := List Se
def prB (s : Se) : Bool := decide (s.1 = s.2.1)
def cntA (l : Ses) (k : Nat) : Nat := l.countP fun s => s.2.2 == k
def cntP (l : Ses) (k : Nat) : Nat := l.countP fun s => s.2.2 == k && prB s
def hasN (l : Ses) (x : Int) : Bool := l.any fun s => decide (s.1 = x)
def askS (l : Ses) (t : Int × Int) : Ses := if hasN l t.1 then l else l ++ [(t.1, t.2, 0)]
def seats (ts : List (Int × Int)) : Ses := ts.foldl askS []
def opens (x : Int) (s : Se) : Bool := decide (s.1 = x) && s.2.2 == 0
def sayS (k : Nat) (l : Ses) (x : Int) : Ses := l.map fun s => if opens x s then (s.1, s.2.1, k) else s
def heardB (l : Ses) (x : Int) : Bool := l.any (opens x)
def verd (need prime : Int) (l : Ses) : Nat :=
  if need ≤ cntA l 1 ∧ prime ≤ cntP l 1 then 1
  else if need ≤ (cntA l 1 : Int) + cntA l 0 ∧ prime ≤ (cntP l 1 : Int) + cntP l 0 then 0 else 2
/-- Each node once. -/
def Once (l : Ses) : Prop := (l.map (·.1)).Nodup
theorem hasN_iff {l : Ses} {x : Int} : hasN l x = true ↔ x ∈ l.map (·.1) := by
  simp [hasN]
theorem once_nil : Once [] := List.nodup_nil
theorem Once.ask {l : Ses} (h : Once l) (t : Int × Int) : Once (askS l t) := by
  unfold askS
  split
  · exact h
  · rename_i hn
    have hn : t.1 ∉ l.map (·.1) := fun q => hn (hasN_iff.2 q)
    show (List.map (·.1) (l ++ [(t.1, t.2, 0)])).Nodup
    rw [List.map_append]
    exact List.nodup_append.2 ⟨h, by simp, fun a ha b hb => by simp at hb; subst hb; exact fun e => hn (e ▸ ha)⟩
theorem seats_snoc (ts : List (Int × Int)) (t : Int × Int) : seats (ts ++ [t]) = askS (seats ts) t := by simp [seats, List.foldl_append]
theorem seats_once (ts : List (Int × Int)) : Once (seats ts) := by
  unfold seats
  suffices h : ∀ l, Once l → Once (ts.foldl askS l) from h [] once_nil
  induction ts with
  | nil => exact fun l h => h
  | cons t ts ih => exact fun l h => ih _ (h.ask t)
theorem nodes_say (k : Nat) (l : Ses) (x : Int) : (sayS k l x).map (·.1) = l.map (·.1) := by
  unfold sayS
  rw [List.map_map]
  apply List.map_congr_left
  intro s _
  show (if opens x s then (s.1, s.2.1, k) else s).1 = s.1
  split <;> rfl
theorem Once.say {l : Ses} (h : Once l) (k : Nat) (x : Int) : Once (sayS k l x) := by unfold Once; rw [nodes_say]; exact h
theorem len_say (k : Nat) (l : Ses) (x : Int) : (sayS k l x).length = l.length := by simp [sayS]
theorem say_none {k : Nat} {l : Ses} {x : Int} (h : heardB l x = false) : sayS k l x = l := by
  unfold sayS
  conv => rhs; rw [← List.map_id l]
  apply List.map_congr_left
  intro s hs
  have : opens x s = false := by
    cases q : opens x s with
    | false => rfl
    | true => rw [show heardB l x = true from List.any_eq_true.2 ⟨s, hs, q⟩] at h; cases h
  rw [this]; rfl
/-- Where the seat of a node is open, it alone is turned. -/
theorem say_at {k : Nat} {l : Ses} {x : Int} {i : Nat} {f : Int} (h : Once l) (hi : l[i]? = some (x, f, 0)) : sayS k l x = l.set i (x, f, k) := by
  apply List.ext_getElem?
  intro j
  unfold sayS
  rw [List.getElem?_map, List.getElem?_set]
  have hil := (List.getElem?_eq_some_iff.1 hi).1
  by_cases e : i = j
  · subst e
    rw [if_pos rfl, if_pos hil, hi]
    simp [opens]
  · rw [if_neg e]
    cases hj : l[j]? with
    | none => rfl
    | some s =>
      have hne : s.1 ≠ x := fun q => e (by
        have hjl := (List.getElem?_eq_some_iff.1 hj).1
        have h1 : (l.map (·.1))[i]? = some x := by rw [List.getElem?_map, hi]; rfl
        have h2 : (l.map (·.1))[j]? = some x := by rw [List.getElem?_map, hj, ← q]; rfl
        exact (List.getElem?_inj (by simpa using hil) h).1 (h1.trans h2.symm))
      simp [opens, hne]
theorem heard_at {l : Ses} {x : Int} {i : Nat} {f : Int} (hi : l[i]? = some (x, f, 0)) : heardB l x = true :=
  List.any_eq_true.2 ⟨_, List.mem_of_getElem? hi, by simp [opens]⟩
theorem heard_not {l : Ses} {x : Int} {i : Nat} {f : Int} {k : Nat} (h : Once l) (hi : l[i]? = some (x, f, k)) (hk : k ≠ 0) : heardB l x = false := by
  cases q : heardB l x with
  | false => rfl
  | true =>
    obtain ⟨s, hs, ho⟩ := List.any_eq_true.1 q
    obtain ⟨j, hj⟩ := List.mem_iff_getElem?.1 hs
    simp [opens] at ho
    have hil := (List.getElem?_eq_some_iff.1 hi).1
    have h1 : (l.map (·.1))[i]? = some x := by rw [List.getElem?_map, hi]; rfl
    have h2 : (l.map (·.1))[j]? = some x := by rw [List.getElem?_map, hj, ← ho.1]; rfl
    have e := (List.getElem?_inj (by simpa using hil) h).1 (h1.trans h2.symm)
    subst e
    rw [hi] at hj
    cases hj
    exact absurd ho.2 hk
theorem heard_out {l : Ses} {x : Int} (h : hasN l x = false) : heardB l x = false := by
  cases q : heardB l x with
  | false => rfl
  | true =>
    obtain ⟨s, hs, ho⟩ := List.any_eq_true.1 q
    simp [opens] at ho
    rw [show hasN l x = true from List.any_eq_true.2 ⟨s, hs, by simp [ho.1]⟩] at h
    cases h
/-! Counts. -/
theorem countP_set {α : Type} (p : α → Bool) : ∀ (l : List α) (i : Nat) (a b : α), l[i]? = some a → (l.set i b).countP p + (if p a then 1 else 0) = l.countP p + (if p b then 1 else 0)
  | [], i, a, b, h => by simp at h
  | c :: l, 0, a, b, h => by
    simp at h; subst h
    simp only [List.set_cons_zero, List.countP_cons]; omega
  | c :: l, i + 1, a, b, h => by
    have := countP_set p l i a b (by simpa using h)
    simp only [List.set_cons_succ, List.countP_cons]; omega
theorem cntA_set {l : Ses} {i : Nat} {x f : Int} {k : Nat} (hi : l[i]? = some (x, f, 0)) (hk : k ≠ 0) (j : Nat) : cntA (l.set i (x, f, k)) j + (if j = 0 then 1 else 0) = cntA l j + (if j = k then 1 else 0) := by
  have := countP_set (fun s : Se => s.2.2 == j) l i (x, f, 0) (x, f, k) hi
  unfold cntA
  simp only [beq_iff_eq] at this
  rcases Nat.eq_zero_or_pos j with e | e
  · subst e; simp [hk, Ne.symm hk] at this ⊢; omega
  · have e0 : ¬ 0 = j := by omega
    have e1 : ¬ j = 0 := by omega
    by_cases q : k = j
    · subst q; simp [e0, e1] at this ⊢; omega
    · have q' : ¬ j = k := fun r => q r.symm
      simp [e0, e1, q, q'] at this ⊢; omega
theorem cntP_set {l : Ses} {i : Nat} {x f : Int} {k : Nat} (hi : l[i]? = some (x, f, 0)) (hk : k ≠ 0) (j : Nat) : cntP (l.set i (x, f, k)) j + (if j = 0 ∧ x = f then 1 else 0) = cntP l j + (if j = k ∧ x = f then 1 else 0) := by
  have := countP_set (fun s : Se => s.2.2 == j && prB s) l i (x, f, 0) (x, f, k) hi
  unfold cntP
  by_cases hxf : x = f
  · subst hxf
    simp only [prB, decide_true, Bool.and_true, beq_iff_eq] at this
    rcases Nat.eq_zero_or_pos j with e | e
    · subst e; simp [hk, Ne.symm hk, prB] at this ⊢; omega
    · have e0 : ¬ 0 = j := by omega
      have e1 : ¬ j = 0 := by omega
      by_cases q : k = j
      · subst q; simp [e0, e1, prB] at this ⊢; omega
      · have q' : ¬ j = k := fun r => q r.symm
        simp [e0, e1, q, q', prB] at this ⊢; omega
  · simp [prB, hxf] at this ⊢; omega
theorem cntA_snoc (l : Ses) (x f : Int) (j : Nat) : cntA (l ++ [(x, f, 0)]) j = cntA l j + (if j = 0 then 1 else 0) := by
  unfold cntA
  rw [List.countP_append]
  by_cases e : j = 0
  · subst e; simp
  · have : ¬ 0 = j := fun q => e q.symm
    simp [e, this]
theorem cntP_snoc (l : Ses) (x f : Int) (j : Nat) : cntP (l ++ [(x, f, 0)]) j = cntP l j + (if j = 0 ∧ x = f then 1 else 0) := by
  unfold cntP
  rw [List.countP_append]
  by_cases e : j = 0
  · subst e
    by_cases q : x = f <;> simp [prB, q]
  · have : ¬ 0 = j := fun q => e q.symm
    simp [e, this]
theorem cntA_le (l : Ses) (k : Nat) : cntA l k ≤ l.length := List.countP_le_length
theorem cntP_le (l : Ses) (k : Nat) : cntP l k ≤ l.length := List.countP_le_length
theorem open_at {l : Ses} {x : Int} (h : heardB l x = true) : ∃ (i : Nat) (f : Int), l[i]? = some (x, f, 0) := by
  obtain ⟨s, hs, ho⟩ := List.any_eq_true.1 h
  obtain ⟨i, hi⟩ := List.mem_iff_getElem?.1 hs
  simp [opens] at ho
  obtain ⟨s1, s2, s3⟩ := s
  obtain ⟨rfl, h0⟩ := ho
  simp at h0
  subst h0
  exact ⟨i, s2, hi⟩
/-- What was told stays. -/
theorem verd_stays {need prime : Int} {l : Ses} (h : Once l) (k : Nat) (hk : k = 1 ∨ k = 2) (x : Int) (hv : verd need prime l ≠ 0) : verd need prime (sayS k l x) = verd need prime l := by
  cases hh : heardB l x with
  | false => rw [say_none hh]
  | true =>
    obtain ⟨i, f, hi⟩ := open_at hh
    rw [say_at h hi]
    have hk0 : k ≠ 0 := by omega
    have a1 := cntA_set hi hk0 1
    have a0 := cntA_set hi hk0 0
    have p1 := cntP_set hi hk0 1
    have p0 := cntP_set hi hk0 0
    have hk0' : ¬ 0 = k := by omega
    simp [hk0'] at a0 p0 a1 p1
    show (if need ≤ ((cntA (l.set i (x, f, k)) 1 : Nat) : Int) ∧ prime ≤ ((cntP (l.set i (x, f, k)) 1 : Nat) : Int) then 1 else if need ≤ ((cntA (l.set i (x, f, k)) 1 : Nat) : Int) + ((cntA (l.set i (x, f, k)) 0 : Nat) : Int) ∧ prime ≤ ((cntP (l.set i (x, f, k)) 1 : Nat) : Int) + ((cntP (l.set i (x, f, k)) 0 : Nat) : Int) then 0 else 2) = (if need ≤ ((cntA l 1 : Nat) : Int) ∧ prime ≤ ((cntP l 1 : Nat) : Int) then 1 else if need ≤ ((cntA l 1 : Nat) : Int) + ((cntA l 0 : Nat) : Int) ∧ prime ≤ ((cntP l 1 : Nat) : Int) + ((cntP l 0 : Nat) : Int) then 0 else 2)
    have hA : (cntA (l.set i (x, f, k)) 1 : Int) + cntA (l.set i (x, f, k)) 0 ≤ (cntA l 1 : Int) + cntA l 0 := by split at a1 <;> omega
    have hP : (cntP (l.set i (x, f, k)) 1 : Int) + cntP (l.set i (x, f, k)) 0 ≤ (cntP l 1 : Int) + cntP l 0 := by
      by_cases hxf : x = f
      · simp [hxf] at p1 p0
        rw [hxf]
        split at p1 <;> omega
      · simp [hxf] at p1 p0; omega
    have hA1 : cntA l 1 ≤ cntA (l.set i (x, f, k)) 1 := by omega
    have hP1 : cntP l 1 ≤ cntP (l.set i (x, f, k)) 1 := by omega
    clear a1 a0 p1 p0
    generalize cntA (l.set i (x, f, k)) 1 = A1 at *
    generalize cntA (l.set i (x, f, k)) 0 = A0 at *
    generalize cntP (l.set i (x, f, k)) 1 = P1 at *
    generalize cntP (l.set i (x, f, k)) 0 = P0 at *
    unfold verd at hv
    split at hv
    · rename_i c
      rw [if_pos c, if_pos ⟨by omega, by omega⟩]
    · rename_i c
      split at hv
      · exact absurd rfl hv
      · rename_i d
        rw [if_neg c, if_neg d, if_neg (fun q => d ⟨by omega, by omega⟩), if_neg (fun q => d ⟨by omega, by omega⟩)]
end Go.Proofs.YtmhpfncbbboamaaGreat
