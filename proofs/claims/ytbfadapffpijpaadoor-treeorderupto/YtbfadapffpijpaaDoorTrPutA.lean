/- What package tree's Put does. -/
import Derived.Test.YtbfadapffpijpaaDoorTrHash
import Derived.Test.YtbfadapffpijpaaDoorTrEql
namespace Go.Proofs.YtbfadapffpijpaaDoor
open Go.RowKit Go.Maps Go.WideMaps
attribute [local go_sem ↓] rule_eql rule_neq rule_eqlD rule_neqD rule26

theorem TreeAt.setMap {w w' w'' : World} {N b : Nat} {mv : List Value} {T : Tr} (h : TreeAt w N b mv T) {i mb : Nat} (hi : i < 256) (hm : mv[i]? = some (.map (some mb))) {l : Fs} (ok : (setT T i l).Ok) (hu : TUpd (Is mb) w w') (hk : KeysAt w' mb l) (hu2 : TUpd (Is b) w' w'') (hh : Holds w'' b (treeV mv (soilT T i)) 32) : TreeAt w'' N b mv (setT T i l) := by
  have hlv := h.ok.lv
  have hmb : mb ≠ b := fun e => h.bm (e ▸ List.mem_of_getElem? hm)
  refine ⟨hh, h.len, ok, fun j hj => ?_, h.apart, h.low⟩
  by_cases e : j = i
  · subst e
    have e1 : leafAt (setT T j l) j = l := by
      show (T.lv.set j l).getD j [] = l
      rw [getD_set _ _ _ _ _ (by omega), if_pos rfl]
    rw [e1, List.getD_eq_getElem?_getD, hm]
    exact .inr ⟨mb, rfl, hk.same (hu2.block mb hk.lt hmb)⟩
  · have e1 : leafAt (setT T i l) j = leafAt T j := by
      show (T.lv.set i l).getD j [] = _
      rw [getD_set _ _ _ _ _ (by omega), if_neg e]; rfl
    rw [e1]
    refine (h.maps j hj).same (fun m hm2 => ?_)
    have hm3 := getD_mem hm2
    have hlt := h.lt m (.inr (List.mem_of_getElem? hm3))
    have n1 : m ≠ mb := fun q => e (h.apart j i mb (q ▸ hm3) hm)
    have n2 : m ≠ b := fun q => h.bm (q ▸ List.mem_of_getElem? hm3)
    rw [hu2.block m (Nat.lt_of_lt_of_le hlt hu.size) n2, hu.block m hlt n1]
/-- A leaf gets a map. -/
theorem TreeAt.newMap {w : World} {N b : Nat} {mv : List Value} {T : Tr} (h : TreeAt w N b mv T) (hN : N ≤ w.heap.size) {i : Nat} (hi : i < 256) (hm : mv.getD i (.map none) = .map none) : TreeAt ((w.alloc (.map #[] 0)).setCell ⟨b, i, none⟩ (.map (some w.heap.size))) N b (mv.set i (.map (some w.heap.size))) T := by
  have hlen := h.len
  have hb := h.holds.lt
  have hl0 : leafAt T i = [] := by
    have := h.maps i hi
    rw [hm] at this
    rcases this with ⟨_, e⟩ | ⟨mb, e, _⟩
    · exact e
    · cases e
  have hne : w.heap.size ≠ b := by omega
  have hnot : ∀ j : Nat, mv[j]? ≠ some (.map (some w.heap.size)) := fun j hj => by
    have := h.lt _ (.inr (List.mem_of_getElem? hj))
    omega
  have hset : ∀ (j m : Nat), (mv.set i (.map (some w.heap.size)))[j]? = some (.map (some m)) → (j = i ∧ m = w.heap.size) ∨ (j ≠ i ∧ mv[j]? = some (.map (some m))) := fun j m hj => by
    rw [List.getElem?_set] at hj
    by_cases e : i = j
    · subst e
      rw [if_pos rfl, if_pos (by omega)] at hj
      simp at hj
      exact .inl ⟨rfl, hj.symm⟩
    · rw [if_neg e] at hj
      exact .inr ⟨fun q => e q.symm, hj⟩
  have hh := ((h.holds.alloc (.map #[] 0)).set i (.map (some w.heap.size)))
  rw [set_map hlen hi] at hh
  have hbl : ∀ m, m < w.heap.size → m ≠ b → ((w.alloc (.map #[] 0)).setCell ⟨b, i, none⟩ (.map (some w.heap.size))).heap[m]? = w.heap[m]? := fun m hm1 hm2 => by
    rw [heap_setCell_other _ ⟨b, i, none⟩ m _ hm2, Below.heap_alloc _ _ m hm1]
  refine ⟨hh, by simpa using hlen, h.ok, fun j hj => ?_, fun x y m hx hy => ?_, fun x hx => ?_⟩
  · by_cases e : j = i
    · subst e
      rw [getD_set _ _ _ _ _ (by omega), if_pos rfl, hl0]
      exact .inr ⟨_, rfl, (keys_made w).same (heap_setCell_other _ ⟨b, j, none⟩ _ _ hne)⟩
    · rw [getD_set _ _ _ _ _ (by omega), if_neg e]
      exact (h.maps j hj).same (fun m hm2 => hbl m (h.lt m (.inr (List.mem_of_getElem? (getD_mem hm2)))) (fun q => h.bm (q ▸ List.mem_of_getElem? (getD_mem hm2))))
  · rcases hset x m hx with ⟨x1, x2⟩ | ⟨x1, x2⟩
    · rcases hset y m hy with ⟨y1, y2⟩ | ⟨y1, y2⟩
      · rw [x1, y1]
      · rw [x2] at y2; exact absurd y2 (hnot y)
    · rcases hset y m hy with ⟨y1, y2⟩ | ⟨y1, y2⟩
      · rw [y2] at x2; exact absurd x2 (hnot x)
      · exact h.apart x y m x2 y2
  · rcases hx with rfl | hx
    · exact h.low _ (.inl rfl)
    · rcases List.mem_or_eq_of_mem_set hx with hx | hx
      · exact h.low _ (.inr hx)
      · cases hx; exact hN
/-- What Put leaves. -/
def PutP (N b : Nat) (mv : List Value) (T : Tr) (w w' : World) : Prop := ∃ mv', TreeAt w' N b mv' T ∧ TUpd (Own b mv) w w' ∧ ∀ i, Own b mv' i → Own b mv i ∨ w.heap.size ≤ i
theorem put_nil (k s : Value) (w : World) (hk : ∃ x, k = .string x) (hs : ∃ l : List UInt8, l.length = 32 ∧ s = .agg (l.map byteV).toArray) : Calls Tryd.prog 7 #[.pointer none, k, s] w fun e w' => e = .returned (.tuple #[]) ∧ Below w.heap.size w w' := by
  obtain ⟨x, rfl⟩ := hk
  obtain ⟨l, hl, rfl⟩ := hs
  obtain ⟨n, hn⟩ : ∃ n, w.heap.size = n := ⟨_, rfl⟩
  rw [hn]
  go_enter Tryd.func7, Tryd.ntmps7
  go_wp2_with (refine wpList_box_new 5 rfl rfl 26 _ rfl n hn (l.map byteV) rfl ?_; intro w1 h1)
  exact bodyPost_ret (results_none (by kernel_rfl) _ _ _) rfl ⟨rfl, h1.below⟩
end Go.Proofs.YtbfadapffpijpaaDoor
