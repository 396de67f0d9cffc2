/- Files by their names, as lists: what a disk has, without memory. -/
import Derived.Sort.KeysCollected
namespace Go.Proofs.YtbfadapffpijpaaDoor

/-- A file: its bytes, and how many of the first ones are firm. -/
structure Fl where
  bytes : List UInt8
  firm : Nat
/-- Names with their files, by rising names. -/
abbrev Fs := List (List UInt8 × Fl)
def get : Fs → List UInt8 → Option Fl
  | [], _ => none
  | p :: r, k => if k = p.1 then some p.2 else get r k
def put (k : List UInt8) (f : Fl) : Fs → Fs
  | [] => [(k, f)]
  | p :: r => if k = p.1 then (k, f) :: r else if k < p.1 then (k, f) :: p :: r else p :: put k f r
def del (k : List UInt8) : Fs → Fs
  | [] => []
  | p :: r => if k = p.1 then r else p :: del k r
def used : Fs → Nat
  | [] => 0
  | p :: r => p.2.bytes.length + used r
def Rising (l : Fs) : Prop := l.Pairwise fun p q => p.1 < q.1

theorem get_put (k : List UInt8) (f : Fl) : ∀ (l : Fs) (k' : List UInt8), get (put k f l) k' = if k' = k then some f else get l k'
  | [], k' => by
    by_cases h : k' = k <;> simp [put, get, h]
  | p :: r, k' => by
    have ih := get_put k f r k'
    unfold put
    by_cases h : k = p.1
    · rw [if_pos h]
      by_cases h2 : k' = k
      · simp [get, h2]
      · rw [get, if_neg h2, if_neg h2, get, if_neg (by rw [← h]; exact h2)]
    · rw [if_neg h]
      by_cases h3 : k < p.1
      · rw [if_pos h3]
        by_cases h2 : k' = k <;> simp [get, h2]
      · rw [if_neg h3, get, ih]
        by_cases h2 : k' = k
        · subst h2
          rw [if_neg h, if_pos rfl, if_pos rfl]
        · rw [if_neg h2, if_neg h2, get]
theorem keys_put (k : List UInt8) (f : Fl) : ∀ (l : Fs) (p : List UInt8 × Fl), p ∈ put k f l → p = (k, f) ∨ p ∈ l
  | [], p, h => by
    rw [put] at h
    exact .inl (by simpa using h)
  | q :: r, p, h => by
    rw [put] at h
    split at h
    · rcases List.mem_cons.1 h with h | h
      · exact .inl h
      · exact .inr (List.mem_cons_of_mem _ h)
    · split at h
      · rcases List.mem_cons.1 h with h | h
        · exact .inl h
        · exact .inr h
      · rcases List.mem_cons.1 h with h | h
        · exact .inr (by rw [h]; exact List.mem_cons_self ..)
        · rcases keys_put k f r p h with h | h
          · exact .inl h
          · exact .inr (List.mem_cons_of_mem _ h)
theorem lt_of_not {a b : List UInt8} (h1 : ¬ a = b) (h2 : ¬ a < b) : b < a := by
  have h3 : b ≤ a := List.not_lt.1 h2
  exact List.not_le.1 (fun h => h1 (List.le_antisymm h h3))
theorem Rising.put {l : Fs} (h : Rising l) (k : List UInt8) (f : Fl) : Rising (put k f l) := by
  induction l with
  | nil => exact List.pairwise_cons.2 ⟨by simp, List.Pairwise.nil⟩
  | cons p r ih =>
    obtain ⟨h1, h2⟩ := List.pairwise_cons.1 h
    unfold YtbfadapffpijpaaDoor.put
    split
    · rename_i e
      exact List.pairwise_cons.2 ⟨fun q hq => by rw [e]; exact h1 q hq, h2⟩
    · split
      · rename_i e e2
        refine List.pairwise_cons.2 ⟨fun q hq => ?_, h⟩
        rcases List.mem_cons.1 hq with rfl | hq
        · exact e2
        · exact List.lt_trans e2 (h1 q hq)
      · rename_i e e2
        refine List.pairwise_cons.2 ⟨fun q hq => ?_, ih h2⟩
        rcases keys_put k f r q hq with rfl | hq
        · exact lt_of_not e e2
        · exact h1 q hq
theorem get_none_of_lt {l : Fs} {k : List UInt8} (h : ∀ p ∈ l, k < p.1) : get l k = none := by
  induction l with
  | nil => rfl
  | cons p r ih =>
    rw [get, if_neg (fun e => by have := h p (List.mem_cons_self ..); rw [e] at this; exact List.lt_irrefl _ this)]
    exact ih (fun q hq => h q (List.mem_cons_of_mem _ hq))
theorem get_isSome (l : Fs) (k : List UInt8) : (get l k).isSome = true ↔ k ∈ l.map Prod.fst := by
  induction l with
  | nil => simp [get]
  | cons p r ih =>
    rw [get]
    by_cases h : k = p.1
    · rw [if_pos h]; simp [h]
    · rw [if_neg h, ih]
      simp [h]
theorem del_sub (k : List UInt8) : ∀ l : Fs, (del k l).Sublist l
  | [] => List.Sublist.refl _
  | p :: r => by
    unfold del
    split
    · exact List.sublist_cons_self _ _
    · exact List.Sublist.cons_cons _ (del_sub k r)
theorem Rising.del {l : Fs} (h : Rising l) (k : List UInt8) : Rising (del k l) := h.sublist (del_sub k l)
theorem get_del {l : Fs} (hl : Rising l) (k k' : List UInt8) : get (del k l) k' = if k' = k then none else get l k' := by
  induction l with
  | nil => simp [del, get]
  | cons p r ih =>
    obtain ⟨h1, h2⟩ := List.pairwise_cons.1 hl
    unfold del
    by_cases h : k = p.1
    · rw [if_pos h]
      by_cases h2' : k' = k
      · rw [if_pos h2', h2', h]
        exact get_none_of_lt h1
      · rw [if_neg h2', get, if_neg (by rw [← h]; exact h2')]
    · rw [if_neg h, get, ih h2]
      by_cases h2' : k' = k
      · subst h2'
        rw [if_neg h, if_pos rfl, if_pos rfl]
      · rw [if_neg h2', if_neg h2', get]
/-- How many bytes a name's file has. -/
def lenAt (l : Fs) (k : List UInt8) : Nat := match get l k with | some f => f.bytes.length | none => 0
theorem lenAt_cons_ne (p : List UInt8 × Fl) (r : Fs) (k : List UInt8) (h : ¬ k = p.1) : lenAt (p :: r) k = lenAt r k := by
  unfold lenAt
  rw [get, if_neg h]
theorem lenAt_cons_eq (p : List UInt8 × Fl) (r : Fs) : lenAt (p :: r) p.1 = p.2.bytes.length := by
  unfold lenAt
  rw [get, if_pos rfl]
theorem lenAt_none {l : Fs} {k : List UInt8} (h : get l k = none) : lenAt l k = 0 := by
  unfold lenAt
  rw [h]
theorem lenAt_some {l : Fs} {k : List UInt8} {f : Fl} (h : get l k = some f) : lenAt l k = f.bytes.length := by
  unfold lenAt
  rw [h]
theorem used_put {l : Fs} (hl : Rising l) (k : List UInt8) (f : Fl) : used (put k f l) + lenAt l k = used l + f.bytes.length := by
  induction l with
  | nil => simp [put, used, lenAt, get]
  | cons p r ih =>
    obtain ⟨h1, h2⟩ := List.pairwise_cons.1 hl
    unfold put
    by_cases h : k = p.1
    · rw [if_pos h, h, lenAt_cons_eq]; simp only [used]; omega
    · rw [if_neg h, lenAt_cons_ne p r k h]
      by_cases h3 : k < p.1
      · rw [if_pos h3, lenAt_none (get_none_of_lt (fun q hq => List.lt_trans h3 (h1 q hq)))]
        simp only [used]; omega
      · rw [if_neg h3]
        have := ih h2
        simp only [used]; omega
theorem used_del (l : Fs) (k : List UInt8) : used (del k l) + lenAt l k = used l := by
  induction l with
  | nil => simp [del, used, lenAt, get]
  | cons p r ih =>
    unfold del
    by_cases h : k = p.1
    · rw [if_pos h, h, lenAt_cons_eq, used]; omega
    · rw [if_neg h, lenAt_cons_ne p r k h]
      simp only [used]; omega
theorem len_put_le (l : Fs) (k : List UInt8) (f : Fl) : (put k f l).length ≤ l.length + 1 := by
  induction l with
  | nil => simp [put]
  | cons p r ih =>
    unfold put
    split
    · simp
    · split
      · simp
      · simp; omega
theorem len_put_old {l : Fs} (hl : Rising l) (k : List UInt8) (f g : Fl) (h : get l k = some g) : (put k f l).length = l.length := by
  induction l with
  | nil => simp [get] at h
  | cons p r ih =>
    obtain ⟨h1, h2⟩ := List.pairwise_cons.1 hl
    unfold put
    by_cases e : k = p.1
    · rw [if_pos e]; simp
    · rw [get, if_neg e] at h
      rw [if_neg e]
      by_cases e2 : k < p.1
      · rw [get_none_of_lt (fun q hq => List.lt_trans e2 (h1 q hq))] at h
        cases h
      · rw [if_neg e2, List.length_cons, ih h2 h, List.length_cons]
theorem len_del (l : Fs) (k : List UInt8) : (del k l).length ≤ l.length := (del_sub k l).length_le
theorem len_del_some (l : Fs) (k : List UInt8) (g : Fl) (h : get l k = some g) : (del k l).length + 1 = l.length := by
  induction l with
  | nil => simp [get] at h
  | cons p r ih =>
    unfold del
    by_cases e : k = p.1
    · rw [if_pos e]; simp
    · rw [get, if_neg e] at h
      rw [if_neg e, List.length_cons, List.length_cons, ih h]
theorem Rising.nodup {l : Fs} (h : Rising l) : (l.map Prod.fst).Nodup :=
  List.pairwise_map.2 (h.imp fun {p q} hlt e => by rw [e] at hlt; exact List.lt_irrefl _ hlt)
theorem mem_put (k : List UInt8) (f : Fl) (l : Fs) (p : List UInt8 × Fl) (h : p ∈ put k f l) : p.1 = k ∨ p ∈ l := by
  rcases keys_put k f l p h with rfl | h
  · exact .inl rfl
  · exact .inr h
theorem get_mem {l : Fs} {k : List UInt8} {f : Fl} (h : get l k = some f) : (k, f) ∈ l := by
  induction l with
  | nil => simp [get] at h
  | cons p r ih =>
    rw [get] at h
    split at h
    · rename_i e
      cases h
      rw [e]
      exact List.mem_cons_self ..
    · exact List.mem_cons_of_mem _ (ih h)
theorem mem_get {l : Fs} (hl : Rising l) {p : List UInt8 × Fl} (h : p ∈ l) : get l p.1 = some p.2 := by
  induction l with
  | nil => cases h
  | cons q r ih =>
    obtain ⟨h1, h2⟩ := List.pairwise_cons.1 hl
    rw [get]
    rcases List.mem_cons.1 h with rfl | h
    · rw [if_pos rfl]
    · rw [if_neg (fun e => by have := h1 p h; rw [e] at this; exact List.lt_irrefl _ this)]
      exact ih h2 h
/-- What has been met so far, together. -/
def sumOf (c : List UInt8 → Bool) : Fs → Nat
  | [] => 0
  | p :: r => (if c p.1 then p.2.bytes.length else 0) + sumOf c r
theorem sumOf_all (c : List UInt8 → Bool) (h : ∀ k, c k = true) : ∀ l : Fs, sumOf c l = used l
  | [] => rfl
  | p :: r => by rw [sumOf, used, h, sumOf_all c h r]; simp
theorem sumOf_none (c : List UInt8 → Bool) : ∀ l : Fs, (∀ p ∈ l, c p.1 = false) → sumOf c l = 0
  | [], _ => rfl
  | p :: r, h => by rw [sumOf, h p (List.mem_cons_self ..), sumOf_none c r (fun q hq => h q (List.mem_cons_of_mem _ hq))]; simp
theorem sumOf_congr (c d : List UInt8 → Bool) : ∀ l : Fs, (∀ p ∈ l, c p.1 = d p.1) → sumOf c l = sumOf d l
  | [], _ => rfl
  | p :: r, h => by rw [sumOf, sumOf, h p (List.mem_cons_self ..), sumOf_congr c d r (fun q hq => h q (List.mem_cons_of_mem _ hq))]
theorem sumOf_step {l : Fs} (hl : Rising l) (c d : List UInt8 → Bool) (x : List UInt8) (f : Fl) (hx : get l x = some f) (hc : c x = false) (hd : d x = true) (h : ∀ k, k ≠ x → d k = c k) : sumOf d l = sumOf c l + f.bytes.length := by
  induction l with
  | nil => simp [get] at hx
  | cons p r ih =>
    obtain ⟨h1, h2⟩ := List.pairwise_cons.1 hl
    rw [get] at hx
    rw [sumOf, sumOf]
    by_cases e : x = p.1
    · rw [if_pos e] at hx
      cases hx
      rw [← e, hc, hd]
      have : sumOf d r = sumOf c r := sumOf_congr d c r (fun q hq => h q.1 (fun e2 => by have := h1 q hq; rw [← e, e2] at this; exact List.lt_irrefl _ this))
      rw [this]
      simp; omega
    · rw [if_neg e] at hx
      rw [h p.1 (fun e2 => e e2.symm), ih h2 hx]
      omega
theorem sumOf_le (c : List UInt8 → Bool) : ∀ l : Fs, sumOf c l ≤ used l
  | [] => Nat.le_refl _
  | p :: r => by
    have := sumOf_le c r
    rw [sumOf, used]
    split <;> omega
end Go.Proofs.YtbfadapffpijpaaDoor
