/- Why two trees with the same keys and sums are the same: without memory. -/
import Derived.Test.YtbfadapffpijpaaDoorTrKeys
namespace Go.Proofs.YtbfadapffpijpaaDoor

/-- What a tree has of a key. -/
def cont (T : Tr) (k : List UInt8) : Option (List UInt8) := (get (leafAt T (leafOf k)) k).map Fl.bytes
/-- Every key is in its leaf. -/
def Home (T : Tr) : Prop := ∀ i k, i < 256 → (get (leafAt T i) k).isSome = true → leafOf k = i
theorem leafAt_set {T : Tr} (h : T.lv.length = 256) {i : Nat} (hi : i < 256) (l : Fs) (j : Nat) : leafAt (setT T i l) j = if j = i then l else leafAt T j := by
  show (T.lv.set i l).getD j [] = _
  rw [getD_set _ _ _ _ _ (by omega)]; rfl
theorem cont_put {T : Tr} (h : T.Ok) (k s k' : List UInt8) : cont (putT T k s) k' = if k' = k then some s else cont T k' := by
  unfold putT
  split
  · rename_i e
    by_cases hk : k' = k
    · subst hk; rw [if_pos rfl]; exact e
    · rw [if_neg hk]
  · unfold cont
    rw [leafAt_set h.lv (leafOf_lt k)]
    by_cases hl : leafOf k' = leafOf k
    · rw [if_pos hl, get_put]
      by_cases hk : k' = k
      · rw [if_pos hk, if_pos hk]; rfl
      · rw [if_neg hk, if_neg hk, hl]
    · rw [if_neg hl, if_neg (fun e => hl (by rw [e]))]
theorem cont_del {T : Tr} (h : T.Ok) (k k' : List UInt8) : cont (delT T k) k' = if k' = k then none else cont T k' := by
  unfold delT
  split
  · unfold cont
    rw [leafAt_set h.lv (leafOf_lt k)]
    by_cases hl : leafOf k' = leafOf k
    · rw [if_pos hl, get_del (h.rise _ (leafAt_mem h.lv (leafOf_lt k)))]
      by_cases hk : k' = k
      · rw [if_pos hk, if_pos hk]; rfl
      · rw [if_neg hk, if_neg hk, hl]
    · rw [if_neg hl, if_neg (fun e => hl (by rw [e]))]
  · rename_i e
    by_cases hk : k' = k
    · subst hk
      rw [if_pos rfl]
      unfold cont
      cases hg : get (leafAt T (leafOf k')) k' with
      | none => rfl
      | some f => rw [hg] at e; exact absurd rfl e
    · rw [if_neg hk]
theorem home_new : Home newT := fun i k hi hg => by
  have e : leafAt newT i = [] := getD_rep _ _ _ _ hi
  rw [e] at hg; cases hg
theorem home_put {T : Tr} (h : T.Ok) (hh : Home T) (k s : List UInt8) : Home (putT T k s) := fun i k' hi hg => by
  unfold putT at hg
  split at hg
  · exact hh i k' hi hg
  · rw [leafAt_set h.lv (leafOf_lt k)] at hg
    by_cases hl : i = leafOf k
    · rw [if_pos hl, get_put] at hg
      by_cases hk : k' = k
      · rw [hk, hl]
      · rw [if_neg hk, ← hl] at hg
        exact hh i k' hi hg
    · rw [if_neg hl] at hg
      exact hh i k' hi hg
theorem home_del {T : Tr} (h : T.Ok) (hh : Home T) (k : List UInt8) : Home (delT T k) := fun i k' hi hg => by
  unfold delT at hg
  split at hg
  · rw [leafAt_set h.lv (leafOf_lt k)] at hg
    by_cases hl : i = leafOf k
    · rw [if_pos hl, get_del (h.rise _ (leafAt_mem h.lv (leafOf_lt k)))] at hg
      by_cases hk : k' = k
      · rw [if_pos hk] at hg; cases hg
      · rw [if_neg hk, ← hl] at hg
        exact hh i k' hi hg
    · rw [if_neg hl] at hg
      exact hh i k' hi hg
  · exact hh i k' hi hg
theorem lv_ext {T S : Tr} (h : T.Ok) (h' : S.Ok) (hh : Home T) (hh' : Home S) (hc : ∀ k, cont T k = cont S k) : T.lv = S.lv := by
  have l1 := h.lv
  have l2 := h'.lv
  apply List.ext_getElem?
  intro i
  by_cases hi : i < 256
  · have e : leafAt T i = leafAt S i := by
      refine fs_ext (h.rise _ (leafAt_mem l1 hi)) (h'.rise _ (leafAt_mem l2 hi)) (fun k => ?_)
      by_cases hk : leafOf k = i
      · have := hc k
        unfold cont at this
        rw [hk] at this
        cases h1 : get (leafAt T i) k with
        | none =>
          cases h2 : get (leafAt S i) k with
          | none => rfl
          | some g => rw [h1, h2] at this; cases this
        | some f =>
          cases h2 : get (leafAt S i) k with
          | none => rw [h1, h2] at this; cases this
          | some g =>
            rw [h1, h2] at this
            have q1 := (h.v32 _ (leafAt_mem l1 hi) _ (get_mem h1)).2
            have q2 := (h'.v32 _ (leafAt_mem l2 hi) _ (get_mem h2)).2
            obtain ⟨fb, ff⟩ := f
            obtain ⟨gb, gf⟩ := g
            simp at this q1 q2
            rw [this, q1, q2]
      · cases h1 : get (leafAt T i) k with
        | some f => exact absurd (hh i k hi (by rw [h1]; rfl)) hk
        | none =>
          cases h2 : get (leafAt S i) k with
          | none => rfl
          | some g => exact absurd (hh' i k hi (by rw [h2]; rfl)) hk
    unfold leafAt at e
    rw [List.getD_eq_getElem?_getD, List.getD_eq_getElem?_getD, List.getElem?_eq_getElem (by omega), List.getElem?_eq_getElem (by omega)] at e
    rw [List.getElem?_eq_getElem (by omega), List.getElem?_eq_getElem (by omega)]
    exact congrArg some e
  · rw [List.getElem?_eq_none (by omega), List.getElem?_eq_none (by omega)]
/-- Keys with sums, put one behind the other. -/
abbrev Ps := List (ByteArray × List UInt8)
def putAll (T : Tr) (l : Ps) : Tr := l.foldl (fun T p => putT T p.1.data.toList p.2) T
theorem putAll_take (T : Tr) (l : Ps) (k : Nat) (p : ByteArray × List UInt8) (h : l[k]? = some p) : putAll T (l.take (k + 1)) = putT (putAll T (l.take k)) p.1.data.toList p.2 := by
  rw [List.take_add_one, h, putAll, List.foldl_append]; rfl
/-- A tree that is right and weighs no more than m. -/
structure Good (T : Tr) (m : Nat) : Prop where
  ok : T.Ok
  home : Home T
  fit : Fit T m
theorem good_new : Good newT 0 := ⟨newT_ok, home_new, newT_fit 0⟩
theorem Good.mono {T : Tr} {m k : Nat} (h : Good T m) (hk : m ≤ k) : Good T k := ⟨h.ok, h.home, h.fit.mono hk⟩
theorem Good.reck {T : Tr} {m : Nat} (h : Good T m) : Good (reckT T) m := ⟨reckT_ok h.ok, h.home, h.fit⟩
def wtP (l : Ps) : Nat := (l.map fun p => p.1.size + 64).sum
theorem wtP_take (l : Ps) (k : Nat) : wtP (l.take k) ≤ wtP l := by
  have : wtP l = wtP (l.take k) + wtP (l.drop k) := by
    unfold wtP
    rw [← List.sum_append, ← List.map_append, List.take_append_drop]
  omega
theorem Good.putAll {T : Tr} {m : Nat} (h : Good T m) : ∀ (l : Ps), (∀ p ∈ l, p.2.length = 32) → Good (putAll T l) (m + wtP l) := fun l h32 => by
  induction l generalizing T m with
  | nil => exact h.mono (by omega)
  | cons p l ih =>
    have hz : p.1.data.toList.length = p.1.size := Array.length_toList
    have hp : Good (putT T p.1.data.toList p.2) (m + p.1.data.toList.length + 64) := ⟨putT_ok h.ok _ _ (h32 p (List.mem_cons_self ..)), home_put h.ok h.home _ _, fit_put h.ok h.fit _ _⟩
    have := ih hp (fun q hq => h32 q (List.mem_cons_of_mem _ hq))
    refine this.mono ?_
    simp only [wtP, List.map_cons, List.sum_cons]
    omega
theorem Good.delAll {T : Tr} {m : Nat} (h : Good T m) : ∀ (l : List ByteArray), Good (delAll T l) m := fun l => by
  induction l generalizing T with
  | nil => exact h
  | cons x l ih => exact ih ⟨delT_ok h.ok _, home_del h.ok h.home _, fit_del h.ok h.fit _⟩
def updP (l : Ps) (k : List UInt8) (o : Option (List UInt8)) : Option (List UInt8) := l.foldl (fun o p => if k = p.1.data.toList then some p.2 else o) o
theorem cont_putAll (k : List UInt8) : ∀ (l : Ps) {T : Tr} {m : Nat}, Good T m → (∀ p ∈ l, p.2.length = 32) → cont (putAll T l) k = updP l k (cont T k)
  | [], _, _, _, _ => rfl
  | p :: l, T, m, h, h32 => by
    have hp : Good (putT T p.1.data.toList p.2) (m + p.1.data.toList.length + 64) := ⟨putT_ok h.ok _ _ (h32 p (List.mem_cons_self ..)), home_put h.ok h.home _ _, fit_put h.ok h.fit _ _⟩
    have ih := cont_putAll k l hp (fun q hq => h32 q (List.mem_cons_of_mem _ hq))
    show cont (putAll (putT T p.1.data.toList p.2) l) k = updP l k (if k = p.1.data.toList then some p.2 else cont T k)
    rw [ih, cont_put h.ok]
theorem cont_delAll (k : List UInt8) : ∀ (l : List ByteArray) {T : Tr} {m : Nat}, Good T m → cont (delAll T l) k = if (l.any fun x => decide (k = x.data.toList)) = true then none else cont T k
  | [], _, _, _ => rfl
  | x :: l, T, m, h => by
    have hp : Good (delT T x.data.toList) m := ⟨delT_ok h.ok _, home_del h.ok h.home _, fit_del h.ok h.fit _⟩
    have ih := cont_delAll k l hp
    show cont (delAll (delT T x.data.toList) l) k = _
    rw [ih, cont_del h.ok, List.any_cons]
    by_cases hk : k = x.data.toList
    · simp [hk]
    · simp [hk]
theorem updP_not (k : List UInt8) : ∀ (l : Ps) (o : Option (List UInt8)), (∀ p ∈ l, ¬ k = p.1.data.toList) → updP l k o = o
  | [], _, _ => rfl
  | p :: l, o, h => by
    show updP l k (if k = p.1.data.toList then some p.2 else o) = o
    rw [if_neg (h p (List.mem_cons_self ..)), updP_not k l o (fun q hq => h q (List.mem_cons_of_mem _ hq))]
theorem updP_mem (k : List UInt8) : ∀ (l : Ps) (o o' : Option (List UInt8)), (∃ p ∈ l, k = p.1.data.toList) → updP l k o = updP l k o'
  | [], _, _, h => by obtain ⟨p, hp, _⟩ := h; cases hp
  | p :: l, o, o', h => by
    show updP l k (if k = p.1.data.toList then some p.2 else o) = updP l k (if k = p.1.data.toList then some p.2 else o')
    by_cases hk : k = p.1.data.toList
    · rw [if_pos hk, if_pos hk]
    · rw [if_neg hk, if_neg hk]
      obtain ⟨q, hq, e⟩ := h
      rcases List.mem_cons.1 hq with rfl | hq
      · exact absurd e hk
      · exact updP_mem k l o o' ⟨q, hq, e⟩
/-- Whatever came and went between: the keys and sums are those of the list. -/
theorem order_same (l : Ps) (h32 : ∀ p ∈ l, p.2.length = 32) (os : List ByteArray) (m : Nat) (s9 : List UInt8) (h9 : s9.length = 32) (l1 : Ps) (h1 : ∀ p ∈ l1, p.2.length = 32) (hl1 : ∀ p ∈ l1, ∃ q ∈ l, q.1 = p.1) :
    (putAll newT l).lv = (putAll (putAll (delAll (reckT (putAll newT ((os.take m).map fun x => (x, s9)))) os) l1) l).lv := by
  have g1 := good_new.putAll ((os.take m).map fun x => (x, s9)) (fun p hp => by obtain ⟨x, _, rfl⟩ := List.mem_map.1 hp; exact h9)
  have g2 := g1.reck.delAll os
  have g3 := g2.putAll l1 h1
  refine lv_ext (good_new.putAll l h32).ok (g3.putAll l h32).ok (good_new.putAll l h32).home (g3.putAll l h32).home (fun k => ?_)
  rw [cont_putAll k l good_new h32, cont_putAll k l g3 h32]
  by_cases hk : ∃ p ∈ l, k = p.1.data.toList
  · exact updP_mem k l _ _ hk
  · have hn : ∀ p ∈ l, ¬ k = p.1.data.toList := fun p hp e => hk ⟨p, hp, e⟩
    rw [updP_not k l _ hn, updP_not k l _ hn, cont_putAll k l1 g2 h1, updP_not k l1 _ (fun p hp e => by
      obtain ⟨q, hq, e2⟩ := hl1 p hp
      exact hn q hq (e2 ▸ e)), cont_delAll k os g1.reck]
    have c0 : cont newT k = none := by
      have e : leafAt newT (leafOf k) = [] := getD_rep _ _ _ _ (leafOf_lt k)
      unfold cont
      rw [e]; rfl
    rw [c0]
    by_cases ho : (os.any fun x => decide (k = x.data.toList)) = true
    · rw [if_pos ho]
    · rw [if_neg ho]
      have := cont_putAll k ((os.take m).map fun x => (x, s9)) good_new (fun p hp => by obtain ⟨x, _, rfl⟩ := List.mem_map.1 hp; exact h9)
      rw [updP_not k _ _ (fun p hp e => by
        obtain ⟨x, hx, rfl⟩ := List.mem_map.1 hp
        exact ho (List.any_eq_true.2 ⟨x, List.mem_of_mem_take hx, by simpa using e⟩)), c0] at this
      exact this.symm
end Go.Proofs.YtbfadapffpijpaaDoor
