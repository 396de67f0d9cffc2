/- Timers by name, without memory: what package wheel tells. -/
import Derived.WalkKit
namespace Go.Proofs.Ytklkonmdllgeeaa

/-- A timer: its name, its time, its turn. -/
abbrev Tm := List UInt8 × Int × Nat
/-- Timers, in the order in which they were set. -/
abbrev Ts := List Tm
structure Fine (l : Ts) (t : Nat) : Prop where
  nodup : (l.map (·.1)).Nodup
  rise : l.Pairwise fun x y => x.2.2 < y.2.2
  le : ∀ x ∈ l, x.2.2 ≤ t
  len : l.length ≤ t
def findT (l : Ts) (k : List UInt8) : Option Tm := l.find? fun x => decide (x.1 = k)
def dropT (k : List UInt8) (l : Ts) : Ts := l.filter fun x => decide (x.1 ≠ k)
def setT (k : List UInt8) (a : Int) (t : Nat) (l : Ts) : Ts := dropT k l ++ [(k, a, t)]
def setAll (a : Int) : List (List UInt8) → Ts → Nat → Ts
  | [], l, _ => l
  | k :: ks, l, t => setAll a ks (setT k a (t + 1) l) (t + 1)
def dropAll : List (List UInt8) → Ts → Ts
  | [], l => l
  | k :: ks, l => dropAll ks (dropT k l)
theorem fine_nil : Fine [] 0 := ⟨List.nodup_nil, List.Pairwise.nil, by simp, by simp⟩
theorem dropT_sub (k : List UInt8) (l : Ts) : (dropT k l).Sublist l := List.filter_sublist
theorem Fine.sub {l m : Ts} {t : Nat} (h : Fine l t) (hs : m.Sublist l) : Fine m t :=
  ⟨(hs.map _).nodup h.nodup, h.rise.sublist hs, fun x hx => h.le x (hs.subset hx), Nat.le_trans hs.length_le h.len⟩
theorem Fine.mono {l : Ts} {t u : Nat} (h : Fine l t) (hu : t ≤ u) : Fine l u := ⟨h.nodup, h.rise, fun x hx => Nat.le_trans (h.le x hx) hu, Nat.le_trans h.len hu⟩
theorem mem_dropT {k : List UInt8} {l : Ts} {x : Tm} : x ∈ dropT k l ↔ x ∈ l ∧ x.1 ≠ k := by simp [dropT]
theorem Fine.drop {l : Ts} {t : Nat} (h : Fine l t) (k : List UInt8) : Fine (dropT k l) t := h.sub (dropT_sub k l)
theorem Fine.set {l : Ts} {t : Nat} (h : Fine l t) (k : List UInt8) (a : Int) : Fine (setT k a (t + 1) l) (t + 1) := by
  have hd := h.drop k
  refine ⟨?_, ?_, ?_, ?_⟩
  · unfold setT
    rw [List.map_append]
    refine List.nodup_append.2 ⟨hd.nodup, by simp, fun x hx y hy => ?_⟩
    simp at hy
    subst hy
    obtain ⟨z, hz, rfl⟩ := List.mem_map.1 hx
    exact (mem_dropT.1 hz).2
  · unfold setT
    refine List.pairwise_append.2 ⟨hd.rise, by simp, fun x hx y hy => ?_⟩
    simp at hy
    subst hy
    have := hd.le x hx
    show x.2.2 < t + 1
    omega
  · intro x hx
    rcases List.mem_append.1 hx with hx | hx
    · have := hd.le x hx
      omega
    · simp at hx; subst hx; exact Nat.le_refl _
  · unfold setT
    have := hd.len
    simp; omega
theorem Fine.setAll {l : Ts} {t : Nat} (h : Fine l t) (a : Int) (ks : List (List UInt8)) : Fine (setAll a ks l t) (t + ks.length) := by
  induction ks generalizing l t with
  | nil => exact h
  | cons k ks ih =>
    have := ih (h.set k a)
    have e : t + (k :: ks).length = t + 1 + ks.length := by simp; omega
    rw [e]; exact this
theorem dropAll_sub (ks : List (List UInt8)) (l : Ts) : (dropAll ks l).Sublist l := by
  induction ks generalizing l with
  | nil => exact List.Sublist.refl _
  | cons k ks ih => exact (ih _).trans (dropT_sub k l)
theorem Fine.dropAll {l : Ts} {t : Nat} (h : Fine l t) (ks : List (List UInt8)) : Fine (dropAll ks l) t := h.sub (dropAll_sub ks l)
theorem dropAll_eq (ks : List (List UInt8)) (l : Ts) : dropAll ks l = l.filter fun x => decide (x.1 ∉ ks) := by
  induction ks generalizing l with
  | nil => exact (List.filter_eq_self.2 (by simp)).symm
  | cons k ks ih =>
    rw [dropAll, ih, dropT, List.filter_filter]
    congr 1
    funext x
    by_cases h1 : x.1 = k <;> by_cases h2 : x.1 ∈ ks <;> simp [h1, h2]
/-- Whom a name finds. -/
theorem findT_some {l : Ts} {k : List UInt8} {x : Tm} (h : findT l k = some x) : x ∈ l ∧ x.1 = k := by
  unfold findT at h
  exact ⟨List.mem_of_find?_eq_some h, by simpa using List.find?_some h⟩
theorem findT_none {l : Ts} {k : List UInt8} : findT l k = none ↔ ∀ x ∈ l, x.1 ≠ k := by
  unfold findT
  rw [List.find?_eq_none]
  simp
theorem nodup_one {l : Ts} (h : (l.map (·.1)).Nodup) {x y : Tm} (hx : x ∈ l) (hy : y ∈ l) (e : x.1 = y.1) : x = y := by
  induction l with
  | nil => cases hx
  | cons z l ih =>
    rw [List.map_cons, List.nodup_cons] at h
    rcases List.mem_cons.1 hx with ex | hx'
    · rcases List.mem_cons.1 hy with ey | hy'
      · rw [ex, ey]
      · exact absurd (List.mem_map.2 ⟨y, hy', by rw [← e, ex]⟩) h.1
    · rcases List.mem_cons.1 hy with ey | hy'
      · exact absurd (List.mem_map.2 ⟨x, hx', by rw [e, ey]⟩) h.1
      · exact ih h.2 hx' hy'
theorem findT_mem {l : Ts} (h : (l.map (·.1)).Nodup) {x : Tm} (hx : x ∈ l) : findT l x.1 = some x := by
  cases hf : findT l x.1 with
  | none => exact absurd rfl (findT_none.1 hf x hx)
  | some y =>
    obtain ⟨h1, h2⟩ := findT_some hf
    rw [nodup_one h h1 hx h2]
theorem findT_drop (l : Ts) (k j : List UInt8) : findT (dropT k l) j = if j = k then none else findT l j := by
  unfold findT dropT
  rw [List.find?_filter]
  by_cases e : j = k
  · subst e
    rw [if_pos rfl, List.find?_eq_none]
    intro x _
    simp
  · rw [if_neg e]
    congr 1
    funext x
    by_cases h : x.1 = j
    · have : x.1 ≠ k := fun q => e (h.symm.trans q)
      simp [h, e]
    · simp [h]
theorem findT_append (l m : Ts) (k : List UInt8) : findT (l ++ m) k = (findT l k).or (findT m k) := by
  unfold findT
  rw [List.find?_append]
theorem findT_set (l : Ts) (k : List UInt8) (a : Int) (t : Nat) (j : List UInt8) : findT (setT k a t l) j = if j = k then some (k, a, t) else findT l j := by
  unfold setT
  rw [findT_append, findT_drop]
  by_cases e : j = k
  · subst e; simp [findT]
  · have : ¬ k = j := fun q => e q.symm
    rw [if_neg e, if_neg e]
    have : findT [(k, a, t)] j = none := by simp [findT, this]
    rw [this]; simp

/-- Those that are due: by rising times, of one time as they were set. -/
def leT (x y : Tm) : Bool := decide (x.2.1 < y.2.1 ∨ (x.2.1 = y.2.1 ∧ x.2.2 ≤ y.2.2))
def upT (now : Int) (l : Ts) : Ts := l.filter fun x => decide (x.2.1 ≤ now)
def dueT (now : Int) (l : Ts) : Ts := (upT now l).mergeSort leT
def leftT (now : Int) (l : Ts) : Ts := l.filter fun x => decide (now < x.2.1)
theorem leT_trans (a b c : Tm) (h1 : leT a b = true) (h2 : leT b c = true) : leT a c = true := by
  simp [leT] at *; omega
theorem leT_total (a b : Tm) : (leT a b || leT b a) = true := by
  simp [leT]; omega
theorem dueT_perm (now : Int) (l : Ts) : (dueT now l).Perm (upT now l) := List.mergeSort_perm _ _
theorem dueT_sorted (now : Int) (l : Ts) : (dueT now l).Pairwise fun x y => leT x y = true := List.pairwise_mergeSort leT_trans leT_total _
theorem rise_inj {l : Ts} (h : l.Pairwise fun x y => x.2.2 < y.2.2) {x y : Tm} (hx : x ∈ l) (hy : y ∈ l) (e : x.2.2 = y.2.2) : x = y := by
  induction l with
  | nil => cases hx
  | cons z l ih =>
    obtain ⟨h1, h2⟩ := List.pairwise_cons.1 h
    rcases List.mem_cons.1 hx with ex | hx'
    · rcases List.mem_cons.1 hy with ey | hy'
      · rw [ex, ey]
      · have := h1 y hy'; rw [ex] at e; omega
    · rcases List.mem_cons.1 hy with ey | hy'
      · have := h1 x hx'; rw [ey] at e; omega
      · exact ih h2 hx' hy'
/-- A sorted list of the same timers is this one. -/
theorem due_sorted {l : Ts} {t : Nat} (h : Fine l t) {now : Int} {m : Ts} (hp : m.Perm (upT now l)) (hs : m.Pairwise fun x y => leT x y = true) : m = dueT now l := by
  refine List.Perm.eq_of_pairwise (le := fun x y : Tm => leT x y = true) (fun a b ha hb h1 h2 => ?_) hs (dueT_sorted now l) (hp.trans (dueT_perm now l).symm)
  have ha' : a ∈ l := (List.mem_filter.1 (hp.mem_iff.1 ha)).1
  have hb' : b ∈ l := (List.mem_filter.1 ((dueT_perm now l).mem_iff.1 hb)).1
  refine rise_inj h.rise ha' hb' ?_
  simp [leT] at h1 h2; omega
theorem mem_dueT {now : Int} {l : Ts} {x : Tm} : x ∈ dueT now l ↔ x ∈ l ∧ x.2.1 ≤ now := by
  rw [(dueT_perm now l).mem_iff, upT, List.mem_filter]; simp
/-- Behind it the others are left. -/
theorem drop_due {l : Ts} {t : Nat} (h : Fine l t) (now : Int) : dropAll ((dueT now l).map (·.1)) l = leftT now l := by
  rw [dropAll_eq, leftT]
  refine List.filter_congr fun x hx => ?_
  have : x.1 ∈ (dueT now l).map (·.1) ↔ x.2.1 ≤ now := by
    rw [List.mem_map]
    constructor
    · rintro ⟨y, hy, e⟩
      obtain ⟨hy1, hy2⟩ := mem_dueT.1 hy
      rw [← nodup_one h.nodup hy1 hx e]; exact hy2
    · intro hx2
      exact ⟨x, mem_dueT.2 ⟨hx, hx2⟩, rfl⟩
  simp [this]
theorem due_left (now : Int) (l : Ts) : (dueT now l).length + (leftT now l).length = l.length := by
  rw [(dueT_perm now l).length_eq, upT, leftT]
  induction l with
  | nil => rfl
  | cons x l ih =>
    by_cases hx : x.2.1 ≤ now
    · have h2 : ¬ now < x.2.1 := by omega
      simp [hx, h2]; omega
    · have h2 : now < x.2.1 := by omega
      simp [hx, h2]; omega
theorem due_nodup {l : Ts} {t : Nat} (h : Fine l t) (now : Int) : ((dueT now l).map (·.1)).Nodup := by
  have hp := (dueT_perm now l).map (·.1)
  exact hp.nodup_iff.2 ((List.filter_sublist.map _).nodup h.nodup)
/-- The least time. -/
def minT : Ts → Int
  | [] => 0
  | [x] => x.2.1
  | x :: y :: l => if x.2.1 ≤ minT (y :: l) then x.2.1 else minT (y :: l)
theorem minT_le {l : Ts} {x : Tm} (hx : x ∈ l) : minT l ≤ x.2.1 := by
  induction l with
  | nil => cases hx
  | cons z l ih =>
    cases l with
    | nil => simp at hx; subst hx; exact Int.le_refl _
    | cons y l =>
      rw [minT]
      rcases List.mem_cons.1 hx with rfl | hx
      · split <;> omega
      · have := ih hx
        split <;> omega
theorem minT_mem {l : Ts} (h : l ≠ []) : ∃ x ∈ l, x.2.1 = minT l := by
  induction l with
  | nil => exact absurd rfl h
  | cons z l ih =>
    cases l with
    | nil => exact ⟨z, by simp, rfl⟩
    | cons y l =>
      rw [minT]
      split
      · exact ⟨z, by simp, rfl⟩
      · obtain ⟨x, hx, e⟩ := ih (by simp)
        exact ⟨x, List.mem_cons_of_mem _ hx, e⟩
theorem minT_is {l : Ts} {a : Int} (h1 : ∃ x ∈ l, x.2.1 = a) (h2 : ∀ x ∈ l, a ≤ x.2.1) : minT l = a := by
  obtain ⟨x, hx, e⟩ := h1
  have q1 := minT_le hx
  obtain ⟨y, hy, e2⟩ := minT_mem (l := l) (fun q => by rw [q] at hx; cases hx)
  have := h2 y hy
  omega
theorem minT_perm {l m : Ts} (h : l.Perm m) : minT l = minT m := by
  cases hm : m with
  | nil => rw [hm] at h; rw [h.eq_nil]
  | cons z r =>
    obtain ⟨y, hy, e⟩ := minT_mem (l := m) (by rw [hm]; simp)
    rw [← hm]
    exact minT_is ⟨y, h.mem_iff.2 hy, e⟩ fun x hx => minT_le (h.mem_iff.1 hx)
theorem minT_snoc (l : Ts) (x : Tm) : minT (l ++ [x]) = if l = [] then x.2.1 else if x.2.1 < minT l then x.2.1 else minT l := by
  by_cases h : l = []
  · subst h; rfl
  · rw [if_neg h]
    obtain ⟨y, hy, e⟩ := minT_mem h
    refine minT_is ?_ fun z hz => ?_
    · split
      · exact ⟨x, by simp, rfl⟩
      · exact ⟨y, by simp [hy], e⟩
    · rcases List.mem_append.1 hz with hz | hz
      · have := minT_le hz
        split <;> omega
      · simp at hz; subst hz
        split <;> omega
end Go.Proofs.Ytklkonmdllgeeaa
