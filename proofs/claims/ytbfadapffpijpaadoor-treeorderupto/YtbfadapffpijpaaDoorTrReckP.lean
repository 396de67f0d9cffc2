/- What reckoning comes to, step by step: without memory. -/
import Derived.Test.YtbfadapffpijpaaDoorTrPure
namespace Go.Proofs.YtbfadapffpijpaaDoor

theorem mix_set {α : Type} (A S : List α) (k : Nat) (x : α) (hA : A[k]? = some x) (hl : A.length = S.length) : (A.take k ++ S.drop k).set k x = A.take (k + 1) ++ S.drop (k + 1) := by
  have hk : k < A.length := (List.getElem?_eq_some_iff.1 hA).1
  have ht : (A.take k).length = k := by rw [List.length_take, Nat.min_eq_left (by omega)]
  rw [List.set_append_right _ _ (by omega), ht, Nat.sub_self, List.drop_eq_getElem_cons (by omega), List.set_cons_zero, List.take_add_one, hA]
  simp
theorem mix_noop {α : Type} (A S : List α) (k : Nat) (x : α) (hA : A[k]? = some x) (hS : S[k]? = some x) : A.take k ++ S.drop k = A.take (k + 1) ++ S.drop (k + 1) := by
  have hk : k < S.length := (List.getElem?_eq_some_iff.1 hS).1
  rw [List.take_add_one, hA, List.drop_eq_getElem_cons hk]
  rw [List.getElem?_eq_getElem hk] at hS
  simp at hS
  simp [hS]
theorem mix_len {α : Type} (A S : List α) (k : Nat) (h : A.length = S.length) (hk : k ≤ A.length) : (A.take k ++ S.drop k).length = S.length := by
  rw [List.length_append, List.length_take, List.length_drop, Nat.min_eq_left hk]; omega
theorem mix_mem {α : Type} {A S : List α} {k : Nat} {x : α} (h : x ∈ A.take k ++ S.drop k) : x ∈ A ∨ x ∈ S := by
  rcases List.mem_append.1 h with h | h
  · exact .inl (List.mem_of_mem_take h)
  · exact .inr (List.mem_of_mem_drop h)
theorem mix_at {α : Type} (A S : List α) (k : Nat) (hk : k ≤ A.length) : (A.take k ++ S.drop k)[k]? = S[k]? := by
  rw [List.getElem?_append_right (by rw [List.length_take]; omega), List.length_take, Nat.min_eq_left hk, Nat.sub_self, List.getElem?_drop, Nat.add_zero]
theorem mix_all {α : Type} (A S : List α) (k : Nat) (hA : A.length = k) (hS : S.length = k) : A.take k ++ S.drop k = A := by
  rw [List.take_of_length_le (by omega), List.drop_of_length_le (by omega)]; simp

/-- Behind k leaves. -/
def reck1 (T : Tr) (k : Nat) : Tr := { T with sums := (allH T).take k ++ T.sums.drop k, dirty := (List.replicate 256 false).take k ++ T.dirty.drop k }
theorem reck1_zero (T : Tr) : reck1 T 0 = T := by unfold reck1; simp
theorem rep_at {α : Type} (n : Nat) (x : α) (k : Nat) (h : k < n) : (List.replicate n x)[k]? = some x := by rw [List.getElem?_replicate, if_pos h]
theorem getD_at {α : Type} {l : List α} {k : Nat} {d x : α} (h : k < l.length) (hx : l.getD k d = x) : l[k]? = some x := by
  rw [List.getD_eq_getElem?_getD, List.getElem?_eq_getElem h] at hx
  rw [List.getElem?_eq_getElem h, ← hx]; rfl
theorem reck1_sz {T : Tr} (h : T.Ok) {k : Nat} (hk : k ≤ 256) : (reck1 T k).Sz := by
  have h1 := allH_len h
  have h2 := h.sums
  have h3 := h.dirty
  refine ⟨?_, fun s hs => ?_, ?_, h.br, h.b32, h.jn⟩
  · show ((allH T).take k ++ T.sums.drop k).length = 256
    rw [mix_len _ _ _ (by omega) (by omega)]; exact h2
  · rcases mix_mem (show s ∈ (allH T).take k ++ T.sums.drop k from hs) with hs | hs
    · exact allH_32 T s hs
    · exact h.s32 s hs
  · show ((List.replicate 256 false).take k ++ T.dirty.drop k).length = 256
    rw [mix_len _ _ _ (by rw [List.length_replicate]; omega) (by rw [List.length_replicate]; omega)]; exact h3
theorem reck1_dirty {T : Tr} {k : Nat} (hk : k < 256) : (reck1 T k).dirty.getD k false = T.dirty.getD k false := by
  show ((List.replicate 256 false).take k ++ T.dirty.drop k).getD k false = _
  rw [List.getD_eq_getElem?_getD, mix_at _ _ _ (by rw [List.length_replicate]; omega), ← List.getD_eq_getElem?_getD]
theorem reck1_step {T : Tr} (h : T.Ok) {k : Nat} (hk : k < 256) : ({ reck1 T k with sums := (reck1 T k).sums.set k (leafH (leafAt T k)), dirty := (reck1 T k).dirty.set k false } : Tr) = reck1 T (k + 1) := by
  have h1 := allH_len h
  have h2 := h.sums
  have h3 := h.dirty
  have e1 : ((allH T).take k ++ T.sums.drop k).set k (leafH (leafAt T k)) = (allH T).take (k + 1) ++ T.sums.drop (k + 1) := mix_set _ _ _ _ (getD_at (d := []) (by omega) (allH_at h hk)) (by omega)
  have e2 : ((List.replicate 256 false).take k ++ T.dirty.drop k).set k false = (List.replicate 256 false).take (k + 1) ++ T.dirty.drop (k + 1) := mix_set _ _ _ _ (rep_at _ _ _ hk) (by rw [List.length_replicate]; omega)
  unfold reck1
  dsimp only
  rw [e1, e2]
theorem reck1_noop {T : Tr} (h : T.Ok) {k : Nat} (hk : k < 256) (hd : T.dirty.getD k false = false) : reck1 T k = reck1 T (k + 1) := by
  have h1 := allH_len h
  have h2 := h.sums
  have h3 := h.dirty
  have e1 : (allH T).take k ++ T.sums.drop k = (allH T).take (k + 1) ++ T.sums.drop (k + 1) := mix_noop _ _ _ (leafH (leafAt T k)) (getD_at (d := []) (by omega) (allH_at h hk)) (getD_at (d := []) (by omega) (h.clean k hk hd))
  have e2 : (List.replicate 256 false).take k ++ T.dirty.drop k = (List.replicate 256 false).take (k + 1) ++ T.dirty.drop (k + 1) := mix_noop _ _ _ false (rep_at _ _ _ hk) (getD_at (d := false) (by omega) hd)
  unfold reck1
  rw [e1, e2]
/-- Behind all leaves and j branches. -/
def reck2 (T : Tr) (j : Nat) : Tr := ⟨T.lv, allH T, List.replicate 256 false, (allB T).take j ++ T.br.drop j, (List.replicate 16 true).take j ++ T.jn.drop j⟩
theorem reck2_zero {T : Tr} (h : T.Ok) : reck1 T 256 = reck2 T 0 := by
  unfold reck1 reck2
  rw [mix_all _ _ _ (allH_len h) h.sums, mix_all _ _ _ (List.length_replicate ..) h.dirty, List.take_zero, List.take_zero, List.drop_zero, List.drop_zero, List.nil_append, List.nil_append]
theorem reck2_all {T : Tr} (h : T.Ok) : reck2 T 16 = reckT T := by
  unfold reck2 reckT
  rw [mix_all _ _ _ (allB_len T) h.br, mix_all _ _ _ (List.length_replicate ..) h.jn]
theorem reck2_sz {T : Tr} (h : T.Ok) {j : Nat} (hj : j ≤ 16) : (reck2 T j).Sz := by
  have h1 := allB_len T
  have h2 := h.br
  have h3 := h.jn
  refine ⟨allH_len h, allH_32 T, List.length_replicate .., ?_, fun s hs => ?_, ?_⟩
  · show ((allB T).take j ++ T.br.drop j).length = 16
    rw [mix_len _ _ _ (by omega) (by omega)]; exact h2
  · rcases mix_mem (show s ∈ (allB T).take j ++ T.br.drop j from hs) with hs | hs
    · exact allB_32 T s hs
    · exact h.b32 s hs
  · show ((List.replicate 16 true).take j ++ T.jn.drop j).length = 16
    rw [mix_len _ _ _ (by rw [List.length_replicate]; omega) (by rw [List.length_replicate]; omega)]; exact h3
theorem reck2_jn {T : Tr} {j : Nat} (hj : j < 16) : (reck2 T j).jn.getD j false = T.jn.getD j false := by
  show ((List.replicate 16 true).take j ++ T.jn.drop j).getD j false = _
  rw [List.getD_eq_getElem?_getD, mix_at _ _ _ (by rw [List.length_replicate]; omega), ← List.getD_eq_getElem?_getD]
theorem reck2_step {T : Tr} (h : T.Ok) {j : Nat} (hj : j < 16) : ({ reck2 T j with br := (reck2 T j).br.set j (brH (allH T) j), jn := (reck2 T j).jn.set j true } : Tr) = reck2 T (j + 1) := by
  have h1 := allB_len T
  have h2 := h.br
  have h3 := h.jn
  have e1 : ((allB T).take j ++ T.br.drop j).set j (brH (allH T) j) = (allB T).take (j + 1) ++ T.br.drop (j + 1) := mix_set _ _ _ _ (getD_at (d := []) (by omega) (allB_at T hj)) (by omega)
  have e2 : ((List.replicate 16 true).take j ++ T.jn.drop j).set j true = (List.replicate 16 true).take (j + 1) ++ T.jn.drop (j + 1) := mix_set _ _ _ _ (rep_at _ _ _ hj) (by rw [List.length_replicate]; omega)
  unfold reck2
  dsimp only
  rw [e1, e2]
theorem brH_same {T : Tr} (h : T.Ok) {j : Nat} (hj : j < 16) (hd : ∀ i, i / 16 = j → T.dirty.getD i false = false) : brH T.sums j = brH (allH T) j := by
  have h1 := allH_len h
  have h2 := h.sums
  unfold brH
  congr 2
  apply List.ext_getElem?
  intro i
  rw [List.getElem?_take, List.getElem?_take]
  by_cases hi : i < 16
  · rw [if_pos hi, if_pos hi, List.getElem?_drop, List.getElem?_drop]
    have hc := h.clean (16 * j + i) (by omega) (hd _ (by omega))
    rw [getD_at (d := []) (by omega) hc, getD_at (d := []) (by omega) (allH_at h (i := 16 * j + i) (by omega))]; rfl
  · rw [if_neg hi, if_neg hi]
theorem reck2_noop {T : Tr} (h : T.Ok) {j : Nat} (hj : j < 16) (hd : T.jn.getD j false = true) : reck2 T j = reck2 T (j + 1) := by
  have h1 := allB_len T
  have h2 := h.br
  have h3 := h.jn
  obtain ⟨q1, q2⟩ := h.held j hj hd
  rw [brH_same h hj q2] at q1
  have e1 : (allB T).take j ++ T.br.drop j = (allB T).take (j + 1) ++ T.br.drop (j + 1) := mix_noop _ _ _ (brH (allH T) j) (getD_at (d := []) (by omega) (allB_at T hj)) (getD_at (d := []) (by omega) q1)
  have e2 : (List.replicate 16 true).take j ++ T.jn.drop j = (List.replicate 16 true).take (j + 1) ++ T.jn.drop (j + 1) := mix_noop _ _ _ true (rep_at _ _ _ hj) (getD_at (d := false) (by omega) hd)
  unfold reck2
  rw [e1, e2]
end Go.Proofs.YtbfadapffpijpaaDoor
