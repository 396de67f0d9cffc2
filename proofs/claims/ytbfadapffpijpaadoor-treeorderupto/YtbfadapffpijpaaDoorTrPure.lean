/- The plain mathematics of package tree: keys in leaves, hashes, what is dirty. -/
import Derived.Test.YtbfadapffpijpaaDoorPure
import Derived.Test.YtbfadapffpijpaaDoorShSum
import Derived.Test.YtbfadapffpijpaaDoorPkPure
namespace Go.Proofs.YtbfadapffpijpaaDoor

/-- The sum of bytes. -/
def shaL (l : List UInt8) : List UInt8 := sumL (putN newL l)
theorem shaL_len (l : List UInt8) : (shaL l).length = 32 := sumL_length _ (putN_ok _ _ newL_ok)
/-- A key's leaf. -/
def leafOf (k : List UInt8) : Nat := ((shaL k).getD 0 0).toNat
theorem leafOf_lt (k : List UInt8) : leafOf k < 256 := UInt8.toNat_lt _
def zero32 : List UInt8 := List.replicate 32 0
/-- What is hashed of a key. -/
def rowB (p : List UInt8 × Fl) : List UInt8 := Pk.numL p.1.length ++ (p.1 ++ p.2.bytes)
def leafB (l : Fs) : List UInt8 := l.flatMap rowB
/-- A leaf's hash. -/
def leafH (l : Fs) : List UInt8 := if l.length = 0 then zero32 else shaL (leafB l)
theorem leafH_len (l : Fs) : (leafH l).length = 32 := by
  unfold leafH
  split
  · rfl
  · exact shaL_len _
/-- A branch's hash, of the leaves' hashes. -/
def brH (H : List (List UInt8)) (j : Nat) : List UInt8 := shaL ((H.drop (16 * j)).take 16).flatten
theorem brH_len (H : List (List UInt8)) (j : Nat) : (brH H j).length = 32 := shaL_len _
/-- A tree: its leaves' keys, the hashes that are kept, which leaves are dirty, which branches' hashes hold. -/
structure Tr where
  lv : List Fs
  sums : List (List UInt8)
  dirty : List Bool
  br : List (List UInt8)
  jn : List Bool
def newT : Tr := ⟨List.replicate 256 [], List.replicate 256 zero32, List.replicate 256 false, List.replicate 16 zero32, List.replicate 16 false⟩
/-- The sizes are right. -/
structure Tr.Sz (T : Tr) : Prop where
  sums : T.sums.length = 256
  s32 : ∀ s ∈ T.sums, s.length = 32
  dirty : T.dirty.length = 256
  br : T.br.length = 16
  b32 : ∀ s ∈ T.br, s.length = 32
  jn : T.jn.length = 16
structure Tr.Ok (T : Tr) : Prop where
  lv : T.lv.length = 256
  sums : T.sums.length = 256
  s32 : ∀ s ∈ T.sums, s.length = 32
  dirty : T.dirty.length = 256
  br : T.br.length = 16
  b32 : ∀ s ∈ T.br, s.length = 32
  jn : T.jn.length = 16
  rise : ∀ l ∈ T.lv, Rising l
  v32 : ∀ l ∈ T.lv, ∀ p ∈ l, p.2.bytes.length = 32 ∧ p.2.firm = 0
  clean : ∀ i, i < 256 → T.dirty.getD i false = false → T.sums.getD i [] = leafH (T.lv.getD i [])
  held : ∀ j, j < 16 → T.jn.getD j false = true → T.br.getD j [] = brH T.sums j ∧ ∀ i, i / 16 = j → T.dirty.getD i false = false
theorem Tr.Ok.sz {T : Tr} (h : T.Ok) : T.Sz := ⟨h.sums, h.s32, h.dirty, h.br, h.b32, h.jn⟩
theorem getD_rep {α : Type} (n : Nat) (x : α) (i : Nat) (d : α) (h : i < n) : (List.replicate n x).getD i d = x := by
  rw [List.getD_eq_getElem?_getD, List.getElem?_replicate, if_pos h]; rfl
theorem newT_ok : newT.Ok := by
  refine ⟨List.length_replicate .., List.length_replicate .., fun s hs => ?_, List.length_replicate .., List.length_replicate .., fun s hs => ?_, List.length_replicate .., fun l hl => ?_, fun l hl => ?_, fun i hi _ => ?_, fun j hj h => ?_⟩
  · rw [List.eq_of_mem_replicate hs]; rfl
  · rw [List.eq_of_mem_replicate hs]; rfl
  · rw [List.eq_of_mem_replicate hl]; exact List.Pairwise.nil
  · rw [List.eq_of_mem_replicate hl]; intro p hp; cases hp
  · have e1 : newT.sums.getD i [] = zero32 := getD_rep _ _ _ _ hi
    have e2 : newT.lv.getD i [] = [] := getD_rep _ _ _ _ hi
    rw [e1, e2]; rfl
  · have h2 : (List.replicate 16 false).getD j false = true := h
    rw [getD_rep _ _ _ _ hj] at h2; cases h2
def soilT (T : Tr) (i : Nat) : Tr := { T with dirty := T.dirty.set i true, jn := T.jn.set (i / 16) false }
def leafAt (T : Tr) (i : Nat) : Fs := T.lv.getD i []
def setT (T : Tr) (i : Nat) (l : Fs) : Tr := soilT { T with lv := T.lv.set i l } i
def putT (T : Tr) (k s : List UInt8) : Tr := if (get (leafAt T (leafOf k)) k).map Fl.bytes = some s then T else setT T (leafOf k) (put k ⟨s, 0⟩ (leafAt T (leafOf k)))
def delT (T : Tr) (k : List UInt8) : Tr := if (get (leafAt T (leafOf k)) k).isSome = true then setT T (leafOf k) (del k (leafAt T (leafOf k))) else T
def allH (T : Tr) : List (List UInt8) := T.lv.map leafH
def allB (T : Tr) : List (List UInt8) := (List.range 16).map (brH (allH T))
/-- Behind all is reckoned. -/
def reckT (T : Tr) : Tr := ⟨T.lv, allH T, List.replicate 256 false, allB T, List.replicate 16 true⟩
def rootH (T : Tr) : List UInt8 := shaL (allB T).flatten

theorem leafAt_mem {T : Tr} (h : T.lv.length = 256) {i : Nat} (hi : i < 256) : leafAt T i ∈ T.lv := by
  unfold leafAt
  rw [List.getD_eq_getElem?_getD, List.getElem?_eq_getElem (by omega)]
  exact List.getElem_mem _
theorem getD_set {α : Type} (l : List α) (i j : Nat) (v d : α) (hi : i < l.length) : (l.set i v).getD j d = if j = i then v else l.getD j d := by
  rw [List.getD_eq_getElem?_getD, List.getD_eq_getElem?_getD, List.getElem?_set]
  by_cases h : j = i
  · subst h
    simp [hi]
  · rw [if_neg (fun e => h e.symm), if_neg h]
theorem setT_ok {T : Tr} (h : T.Ok) {i : Nat} (hi : i < 256) {l : Fs} (hr : Rising l) (hv : ∀ p ∈ l, p.2.bytes.length = 32 ∧ p.2.firm = 0) : (setT T i l).Ok := by
  have h1 := h.lv
  have h2 := h.dirty
  have h3 := h.jn
  refine ⟨by simp [setT, soilT, h.lv], h.sums, h.s32, by simp [setT, soilT, h.dirty], h.br, h.b32, by simp [setT, soilT, h.jn], fun m hm => ?_, fun m hm => ?_, fun j hj hd => ?_, fun j hj hd => ?_⟩
  · rcases List.mem_or_eq_of_mem_set hm with hm | rfl
    · exact h.rise m hm
    · exact hr
  · rcases List.mem_or_eq_of_mem_set hm with hm | rfl
    · exact h.v32 m hm
    · exact hv
  · have hd' : (T.dirty.set i true).getD j false = false := hd
    rw [getD_set _ _ _ _ _ (by omega)] at hd'
    show T.sums.getD j [] = leafH ((T.lv.set i l).getD j [])
    rw [getD_set _ _ _ _ _ (by omega)]
    by_cases e : j = i
    · rw [if_pos e] at hd'; cases hd'
    · rw [if_neg e] at hd' ⊢
      exact h.clean j hj hd'
  · have hd' : (T.jn.set (i / 16) false).getD j false = true := hd
    rw [getD_set _ _ _ _ _ (by omega)] at hd'
    by_cases e : j = i / 16
    · rw [if_pos e] at hd'; cases hd'
    · rw [if_neg e] at hd'
      obtain ⟨q1, q2⟩ := h.held j hj hd'
      refine ⟨q1, fun k hk => ?_⟩
      show (T.dirty.set i true).getD k false = false
      rw [getD_set _ _ _ _ _ (by omega), if_neg (by rintro rfl; exact e hk.symm)]
      exact q2 k hk
theorem putT_ok {T : Tr} (h : T.Ok) (k s : List UInt8) (hs : s.length = 32) : (putT T k s).Ok := by
  unfold putT
  split
  · exact h
  · have hm := leafAt_mem h.lv (leafOf_lt k)
    refine setT_ok h (leafOf_lt k) ((h.rise _ hm).put _ _) (fun p hp => ?_)
    rcases keys_put _ _ _ p hp with rfl | hp
    · exact ⟨hs, rfl⟩
    · exact h.v32 _ hm p hp
theorem delT_ok {T : Tr} (h : T.Ok) (k : List UInt8) : (delT T k).Ok := by
  unfold delT
  split
  · have hm := leafAt_mem h.lv (leafOf_lt k)
    exact setT_ok h (leafOf_lt k) ((h.rise _ hm).del _) (fun p hp => h.v32 _ hm p ((del_sub _ _).subset hp))
  · exact h
theorem allH_len {T : Tr} (h : T.Ok) : (allH T).length = 256 := by simp [allH, h.lv]
theorem allH_32 (T : Tr) : ∀ s ∈ allH T, s.length = 32 := fun s hs => by
  obtain ⟨l, _, rfl⟩ := List.mem_map.1 hs
  exact leafH_len l
theorem allB_len (T : Tr) : (allB T).length = 16 := by simp [allB]
theorem allB_32 (T : Tr) : ∀ s ∈ allB T, s.length = 32 := fun s hs => by
  obtain ⟨l, _, rfl⟩ := List.mem_map.1 hs
  exact brH_len _ l
theorem allH_at {T : Tr} (h : T.Ok) {i : Nat} (hi : i < 256) : (allH T).getD i [] = leafH (leafAt T i) := by
  have := h.lv
  unfold allH leafAt
  rw [List.getD_eq_getElem?_getD, List.getD_eq_getElem?_getD, List.getElem?_map, List.getElem?_eq_getElem (by omega)]; rfl
theorem allB_at (T : Tr) {j : Nat} (hj : j < 16) : (allB T).getD j [] = brH (allH T) j := by
  unfold allB
  rw [List.getD_eq_getElem?_getD, List.getElem?_map, List.getElem?_range hj]; rfl
theorem reckT_ok {T : Tr} (h : T.Ok) : (reckT T).Ok := by
  refine ⟨h.lv, allH_len h, allH_32 T, List.length_replicate .., allB_len T, allB_32 T, List.length_replicate .., h.rise, h.v32, fun i hi _ => allH_at h hi, fun j hj _ => ⟨allB_at T hj, fun i _ => ?_⟩⟩
  show (List.replicate 256 false).getD i false = false
  rw [List.getD_eq_getElem?_getD, List.getElem?_replicate]
  split <;> rfl
/-- How much a leaf weighs, at most. -/
def wt (l : Fs) : Nat := (l.map fun p => p.1.length + 64).sum
theorem wt_len (l : Fs) : l.length * 64 ≤ wt l := by
  induction l with
  | nil => simp [wt]
  | cons p r ih => simp only [wt, List.map_cons, List.sum_cons, List.length_cons] at ih ⊢; omega
theorem wt_key {l : Fs} {p : List UInt8 × Fl} (h : p ∈ l) : p.1.length + 64 ≤ wt l := by
  induction l with
  | nil => cases h
  | cons q r ih =>
    simp only [wt, List.map_cons, List.sum_cons]
    rcases List.mem_cons.1 h with rfl | h
    · omega
    · have := ih h
      simp only [wt] at this
      omega
theorem wt_put (k : List UInt8) (f : Fl) : ∀ l : Fs, wt (put k f l) ≤ wt l + k.length + 64
  | [] => by simp [put, wt]
  | p :: r => by
    have ih := wt_put k f r
    unfold put
    split
    · rename_i e
      simp only [wt, List.map_cons, List.sum_cons, e] at ih ⊢; omega
    · split
      · simp only [wt, List.map_cons, List.sum_cons] at ih ⊢; omega
      · simp only [wt, List.map_cons, List.sum_cons] at ih ⊢; omega
theorem wt_del (k : List UInt8) : ∀ l : Fs, wt (del k l) ≤ wt l
  | [] => by simp [del]
  | p :: r => by
    have ih := wt_del k r
    unfold del
    split
    · simp only [wt, List.map_cons, List.sum_cons] at ih ⊢; omega
    · simp only [wt, List.map_cons, List.sum_cons] at ih ⊢; omega
theorem leafB_len {l : Fs} (h : ∀ p ∈ l, p.2.bytes.length = 32 ∧ p.2.firm = 0) (hk : wt l < 9223372036854775808) : (leafB l).length ≤ wt l := by
  induction l with
  | nil => simp [leafB]
  | cons p r ih =>
    have h1 := (h p (List.mem_cons_self ..)).1
    simp only [wt, List.map_cons, List.sum_cons] at hk
    have h2 := ih (fun q hq => h q (List.mem_cons_of_mem _ hq)) (by simp only [wt]; omega)
    have h3 := Pk.numL_len10 p.1.length (by omega)
    simp only [leafB, List.flatMap_cons, List.length_append, rowB, wt, List.map_cons, List.sum_cons] at h2 ⊢
    omega
/-- No leaf weighs more than m. -/
def Fit (T : Tr) (m : Nat) : Prop := ∀ l ∈ T.lv, wt l ≤ m
theorem Fit.mono {T : Tr} {m n : Nat} (h : Fit T m) (hn : m ≤ n) : Fit T n := fun l hl => Nat.le_trans (h l hl) hn
theorem newT_fit (m : Nat) : Fit newT m := fun l hl => by rw [List.eq_of_mem_replicate hl]; exact Nat.zero_le _
theorem fit_set {T : Tr} {m : Nat} (h : Fit T m) (i : Nat) {l : Fs} (hl : wt l ≤ m) : Fit (setT T i l) m := fun r hr => by
  rcases List.mem_or_eq_of_mem_set (show r ∈ T.lv.set i l from hr) with hr | rfl
  · exact h r hr
  · exact hl
theorem fit_put {T : Tr} {m : Nat} (ho : T.Ok) (h : Fit T m) (k s : List UInt8) : Fit (putT T k s) (m + k.length + 64) := by
  unfold putT
  split
  · exact h.mono (by omega)
  · refine fit_set (h.mono (by omega)) _ ?_
    have h1 := wt_put k ⟨s, 0⟩ (leafAt T (leafOf k))
    have h2 := h _ (leafAt_mem ho.lv (leafOf_lt k))
    omega
theorem fit_del {T : Tr} {m : Nat} (ho : T.Ok) (h : Fit T m) (k : List UInt8) : Fit (delT T k) m := by
  unfold delT
  split
  · exact fit_set h _ (Nat.le_trans (wt_del _ _) (h _ (leafAt_mem ho.lv (leafOf_lt k))))
  · exact h
theorem fit_reck {T : Tr} {m : Nat} (h : Fit T m) : Fit (reckT T) m := h
/-- A list of keys that rise is told by what is got of it. -/
theorem fs_ext : ∀ {l m : Fs}, Rising l → Rising m → (∀ k, get l k = get m k) → l = m
  | [], [], _, _, _ => rfl
  | [], q :: m, _, _, h => by have := h q.1; simp [get] at this
  | p :: l, [], _, _, h => by have := h p.1; simp [get] at this
  | p :: l, q :: m, hl, hm, h => by
    obtain ⟨l1, l2⟩ := List.pairwise_cons.1 hl
    obtain ⟨m1, m2⟩ := List.pairwise_cons.1 hm
    have hp : get (q :: m) p.1 = some p.2 := by rw [← h]; simp [get]
    have hq : get (p :: l) q.1 = some q.2 := by rw [h]; simp [get]
    have hpq : p = q := by
      rcases List.mem_cons.1 (get_mem hp) with e | e
      · rw [← e]
      · rcases List.mem_cons.1 (get_mem hq) with e2 | e2
        · rw [← e2]
        · exact absurd (List.lt_trans (m1 _ e) (l1 _ e2)) (List.lt_irrefl _)
    subst hpq
    rw [fs_ext l2 m2 (fun k => ?_)]
    by_cases e : k = p.1
    · subst e
      rw [get_none_of_lt l1, get_none_of_lt m1]
    · have := h k
      rw [get, get, if_neg e, if_neg e] at this
      exact this
end Go.Proofs.YtbfadapffpijpaaDoor
