/- What WheelOnce holds from call to call, without memory. -/
import Derived.Test.YtklkonmdllgeeaaWhPure
namespace Go.Proofs.Ytklkonmdllgeeaa

def five : List (List UInt8) := [[97], [98], [99], [100], [101]]
def nm (m : Nat) : List UInt8 := five.getD m []
def I63 (x : Int) : Prop := -9223372036854775808 ≤ x ∧ x ≤ 9223372036854775807
theorem nm_inj {a b : Nat} (ha : a < 5) (hb : b < 5) (h : nm a = nm b) : a = b := by
  have : ∀ a : Fin 5, ∀ b : Fin 5, nm a.1 = nm b.1 → a.1 = b.1 := by decide
  exact this ⟨a, ha⟩ ⟨b, hb⟩ h
theorem nm_mem {k : List UInt8} (h : k ∈ five) : ∃ m, m < 5 ∧ nm m = k := by
  simp [five] at h
  rcases h with rfl | rfl | rfl | rfl | rfl
  · exact ⟨0, by decide, rfl⟩
  · exact ⟨1, by decide, rfl⟩
  · exact ⟨2, by decide, rfl⟩
  · exact ⟨3, by decide, rfl⟩
  · exact ⟨4, by decide, rfl⟩
theorem nm_five {m : Nat} (h : m < 5) : nm m ∈ five := by
  have : ∀ a : Fin 5, nm a.1 ∈ five := by decide
  exact this ⟨m, h⟩
/-- The timers are those that the law has set, and that were not due since. -/
structure Lk (l : Ts) (las : List Int) (set : List Bool) : Prop where
  las5 : las.length = 5
  set5 : set.length = 5
  is : ∀ m, m < 5 → (findT l (nm m)).map (·.2.1) = if set.getD m false = true then some (las.getD m 0) else none
  names : ∀ x ∈ l, x.1 ∈ five
  max : ∀ x ∈ l, x.2.1 ≤ 9223372036854775807
theorem lk_nil : Lk [] [0, 0, 0, 0, 0] [false, false, false, false, false] := ⟨rfl, rfl, fun m hm => by
  have : ∀ a : Fin 5, [false, false, false, false, false].getD a.1 false = false := by decide
  rw [this ⟨m, hm⟩]; rfl, by simp, by simp⟩
theorem getD_set {α : Type} (l : List α) (i j : Nat) (x d : α) (hi : i < l.length) : (l.set i x).getD j d = if j = i then x else l.getD j d := by
  rw [List.getD_eq_getElem?_getD, List.getElem?_set, List.getD_eq_getElem?_getD]
  by_cases h : j = i
  · subst h; simp [hi]
  · have : ¬ i = j := fun q => h q.symm
    simp [h, this]
theorem Lk.set {l : Ts} {las : List Int} {set : List Bool} (h : Lk l las set) (k : Nat) (hk : k < 5) (a : Int) (ha : a ≤ 9223372036854775807) (t : Nat) : Lk (setT (nm k) a t l) (las.set k a) (set.set k true) := by
  refine ⟨by simp [h.las5], by simp [h.set5], fun m hm => ?_, fun x hx => ?_, fun x hx => ?_⟩
  · rw [findT_set, getD_set _ _ _ _ _ (by rw [h.set5]; exact hk), getD_set _ _ _ _ _ (by rw [h.las5]; exact hk)]
    by_cases e : m = k
    · subst e; simp
    · have : ¬ nm m = nm k := fun q => e (nm_inj hm hk q)
      rw [if_neg this, if_neg e, if_neg e, h.is m hm]
  · rcases List.mem_append.1 hx with hx | hx
    · exact h.names x (mem_dropT.1 hx).1
    · simp at hx; subst hx; exact nm_five hk
  · rcases List.mem_append.1 hx with hx | hx
    · exact h.max x (mem_dropT.1 hx).1
    · simp at hx; subst hx; exact ha
/-- Who is due was set, and its time has come. -/
theorem Lk.due {l : Ts} {las : List Int} {set : List Bool} (h : Lk l las set) {t : Nat} (hf : Fine l t) {now : Int} {k : List UInt8} (hk : k ∈ (dueT now l).map (·.1)) {m : Nat} (hm : m < 5) (e : nm m = k) : set.getD m false = true ∧ las.getD m 0 ≤ now := by
  obtain ⟨x, hx, rfl⟩ := List.mem_map.1 hk
  obtain ⟨h1, h2⟩ := mem_dueT.1 hx
  have := h.is m hm
  rw [e, findT_mem hf.nodup h1] at this
  by_cases hs : set.getD m false = true
  · rw [if_pos hs] at this
    simp at this
    exact ⟨hs, by rw [List.getD_eq_getElem?_getD, ← this]; exact h2⟩
  · rw [if_neg hs] at this
    cases this
theorem Lk.come {l : Ts} {las : List Int} {set : List Bool} (h : Lk l las set) {now : Int} {m : Nat} (hm : m < 5) (hs : set.getD m false = true) (hl : las.getD m 0 ≤ now) : nm m ∈ (dueT now l).map (·.1) := by
  have := h.is m hm
  rw [if_pos hs] at this
  cases hf : findT l (nm m) with
  | none => rw [hf] at this; cases this
  | some x =>
    rw [hf] at this
    obtain ⟨q1, q2⟩ := findT_some hf
    have e : x.2.1 = las.getD m 0 := by simpa using this
    exact List.mem_map.2 ⟨x, mem_dueT.2 ⟨q1, by rw [e]; exact hl⟩, q2⟩
/-- What is set while those due are told: those ahead, and of this one the places below mm. -/
def seenB (set : List Bool) (ks : List (List UInt8)) (k : List UInt8) (mm : Nat) : List Bool := (List.range 5).map fun m => set.getD m false && decide (nm m ∉ ks) && !(decide (m < mm) && decide (nm m = k))
def goneB (set : List Bool) (ks : List (List UInt8)) : List Bool := (List.range 5).map fun m => set.getD m false && decide (nm m ∉ ks)
theorem goneB_len (set : List Bool) (ks : List (List UInt8)) : (goneB set ks).length = 5 := by simp [goneB]
theorem seenB_len (set : List Bool) (ks : List (List UInt8)) (k : List UInt8) (mm : Nat) : (seenB set ks k mm).length = 5 := by simp [seenB]
theorem getD_range {α : Type} (f : Nat → α) (n m : Nat) (d : α) (h : m < n) : ((List.range n).map f).getD m d = f m := by
  rw [List.getD_eq_getElem?_getD, List.getElem?_map, List.getElem?_range h]; rfl
theorem goneB_at (set : List Bool) (ks : List (List UInt8)) {m : Nat} (h : m < 5) : (goneB set ks).getD m false = (set.getD m false && decide (nm m ∉ ks)) := getD_range _ 5 m _ h
theorem seenB_at (set : List Bool) (ks : List (List UInt8)) (k : List UInt8) (mm : Nat) {m : Nat} (h : m < 5) : (seenB set ks k mm).getD m false = (set.getD m false && decide (nm m ∉ ks) && !(decide (m < mm) && decide (nm m = k))) := getD_range _ 5 m _ h
theorem five_ext {a b : List Bool} (ha : a.length = 5) (hb : b.length = 5) (h : ∀ m, m < 5 → a.getD m false = b.getD m false) : a = b := by
  refine List.ext_getElem (by omega) fun i h1 h2 => ?_
  have := h i (by omega)
  rw [List.getD_eq_getElem?_getD, List.getD_eq_getElem?_getD, List.getElem?_eq_getElem h1, List.getElem?_eq_getElem h2] at this
  exact this
theorem gone_nil {set : List Bool} (h : set.length = 5) : goneB set [] = set := five_ext (goneB_len _ _) h fun m hm => by rw [goneB_at _ _ hm]; simp
theorem seen_zero (set : List Bool) (ks : List (List UInt8)) (k : List UInt8) : seenB set ks k 0 = goneB set ks := five_ext (seenB_len _ _ _ _) (goneB_len _ _) fun m hm => by rw [goneB_at _ _ hm, seenB_at _ _ _ _ hm]; simp
theorem seen_five (set : List Bool) (ks : List (List UInt8)) (k : List UInt8) : seenB set ks k 5 = goneB set (ks ++ [k]) := five_ext (seenB_len _ _ _ _) (goneB_len _ _) fun m hm => by
  rw [goneB_at _ _ hm, seenB_at _ _ _ _ hm]
  by_cases h1 : nm m ∈ ks <;> by_cases h2 : nm m = k <;> simp [h1, h2, hm]
theorem seen_other {set : List Bool} {ks : List (List UInt8)} {k : List UInt8} {mm : Nat} (hne : nm mm ≠ k) : seenB set ks k (mm + 1) = seenB set ks k mm := five_ext (seenB_len _ _ _ _) (seenB_len _ _ _ _) fun m hm => by
  rw [seenB_at _ _ _ _ hm, seenB_at _ _ _ _ hm]
  by_cases h : m = mm
  · subst h; simp [hne]
  · have : (m < mm + 1) ↔ m < mm := by omega
    simp [this]
theorem seen_set {set : List Bool} {ks : List (List UInt8)} {k : List UInt8} {mm : Nat} (hm5 : mm < 5) (he : nm mm = k) : (seenB set ks k mm).set mm false = seenB set ks k (mm + 1) := five_ext (by rw [List.length_set, seenB_len]) (seenB_len _ _ _ _) fun m hm => by
  rw [getD_set _ _ _ _ _ (by rw [seenB_len]; exact hm5), seenB_at _ _ _ _ hm, seenB_at _ _ _ _ hm]
  by_cases h : m = mm
  · subst h; simp [he]
  · have : (m < mm + 1) ↔ m < mm := by omega
    rw [if_neg h]
    simp [this]
theorem seen_here {set : List Bool} {ks : List (List UInt8)} {k : List UInt8} {mm : Nat} (hm5 : mm < 5) (he : nm mm = k) (hk : k ∉ ks) (hs : set.getD mm false = true) : (seenB set ks k mm).getD mm false = true := by
  rw [seenB_at _ _ _ _ hm5, hs, he]
  simp [hk]
theorem findT_left {l : Ts} (hl : (l.map (·.1)).Nodup) (now : Int) (k : List UInt8) : findT (leftT now l) k = if k ∈ (dueT now l).map (·.1) then none else findT l k := by
  by_cases h : k ∈ (dueT now l).map (·.1)
  · rw [if_pos h, findT_none]
    intro x hx e
    obtain ⟨y, hy, e2⟩ := List.mem_map.1 h
    obtain ⟨q1, q2⟩ := mem_dueT.1 hy
    obtain ⟨r1, r2⟩ := List.mem_filter.1 hx
    have := nodup_one hl q1 r1 (e2.trans e.symm)
    subst this
    simp at r2; omega
  · rw [if_neg h]
    cases hf : findT l k with
    | none =>
      rw [findT_none] at hf ⊢
      exact fun x hx => hf x (List.mem_filter.1 hx).1
    | some x =>
      obtain ⟨q1, rfl⟩ := findT_some hf
      have hx : x ∈ leftT now l := List.mem_filter.2 ⟨q1, by
        have : ¬ x.2.1 ≤ now := fun q => h (List.mem_map.2 ⟨x, mem_dueT.2 ⟨q1, q⟩, rfl⟩)
        simp; omega⟩
      exact findT_mem ((List.filter_sublist.map _).nodup hl) hx
theorem Lk.left {l : Ts} {las : List Int} {set : List Bool} (h : Lk l las set) {t : Nat} (hf : Fine l t) (now : Int) : Lk (leftT now l) las (goneB set ((dueT now l).map (·.1))) := by
  refine ⟨h.las5, goneB_len _ _, fun m hm => ?_, fun x hx => h.names x (List.mem_filter.1 hx).1, fun x hx => h.max x (List.mem_filter.1 hx).1⟩
  rw [goneB_at _ _ hm, findT_left hf.nodup]
  by_cases hd : nm m ∈ (dueT now l).map (·.1)
  · have hd' : decide (nm m ∉ (dueT now l).map (·.1)) = false := decide_eq_false (fun q => q hd)
    rw [if_pos hd, hd', Bool.and_false]; rfl
  · have hd' : decide (nm m ∉ (dueT now l).map (·.1)) = true := decide_eq_true hd
    rw [if_neg hd, hd', Bool.and_true, h.is m hm]
/-- How many are set. -/
def countB (set : List Bool) (n : Nat) : Nat := ((List.range n).filter fun m => set.getD m false).length
theorem countB_succ (set : List Bool) (n : Nat) : countB set (n + 1) = countB set n + if set.getD n false = true then 1 else 0 := by
  unfold countB
  rw [List.range_succ, List.filter_append, List.length_append]
  by_cases h : set.getD n false = true
  · rw [List.filter_cons_of_pos (p := fun m => set.getD m false) h, if_pos h]; rfl
  · rw [List.filter_cons_of_neg (p := fun m => set.getD m false) h, if_neg h]; rfl
theorem Lk.count {l : Ts} {las : List Int} {set : List Bool} (h : Lk l las set) {t : Nat} (hf : Fine l t) : countB set 5 = l.length := by
  have hp : (((List.range 5).filter fun m => set.getD m false).map nm).Perm (l.map (·.1)) := by
    refine (List.perm_ext_iff_of_nodup ?_ hf.nodup).2 fun k => ?_
    · refine List.pairwise_map.2 ((List.nodup_range.filter _).imp_of_mem fun {a b} ha hb hne e => hne ?_)
      exact nm_inj (List.mem_range.1 (List.mem_filter.1 ha).1) (List.mem_range.1 (List.mem_filter.1 hb).1) e
    · constructor
      · intro hk
        obtain ⟨m, hm, rfl⟩ := List.mem_map.1 hk
        obtain ⟨h1, h2⟩ := List.mem_filter.1 hm
        have := h.is m (List.mem_range.1 h1)
        rw [if_pos h2] at this
        cases hf2 : findT l (nm m) with
        | none => rw [hf2] at this; cases this
        | some x => exact List.mem_map.2 ⟨x, (findT_some hf2).1, (findT_some hf2).2⟩
      · intro hk
        obtain ⟨x, hx, rfl⟩ := List.mem_map.1 hk
        obtain ⟨m, hm, e⟩ := nm_mem (h.names x hx)
        refine List.mem_map.2 ⟨m, List.mem_filter.2 ⟨List.mem_range.2 hm, ?_⟩, e⟩
        have := h.is m hm
        rw [e, findT_mem hf.nodup hx] at this
        by_cases hs : set.getD m false = true
        · exact hs
        · rw [if_neg hs] at this; cases this
  have := hp.length_eq
  rw [List.length_map, List.length_map] at this
  exact this
theorem all_due {l : Ts} (h : ∀ x ∈ l, x.2.1 ≤ 9223372036854775807) : (dueT 9223372036854775807 l).length = l.length ∧ leftT 9223372036854775807 l = [] := by
  have h1 : leftT 9223372036854775807 l = [] := by
    unfold leftT
    rw [List.filter_eq_nil_iff]
    intro x hx
    have := h x hx
    simp; omega
  have := due_left 9223372036854775807 l
  rw [h1] at this
  exact ⟨by simpa using this, h1⟩
end Go.Proofs.Ytklkonmdllgeeaa
