/- The insertion sort of a part of the row: stable, in memory. -/
import Derived.Test.YtlliijodilnlgaaRgStP
namespace Go.Proofs.Ytlliijodilnlgaa
open Go.RowKit Go.Sort
variable {m : Nat}
theorem insInner_sameA (t : List Int) (a : Nat) : ∀ (j : Nat) (d : Array (Fin (m + 1))), j < d.size → (∀ p, a ≤ p → p < j → d[p]! < d[j]!) → insInner (ltOf (cfI t)) a j d = insInner (lt2 t) a j d
  | 0, _, _, _ => rfl
  | j + 1, d, hs, h => by
    rw [insInner, insInner]
    by_cases ha : a ≤ j
    · rw [lt_same t _ _ (h j ha (by omega))]
      split
      · apply insInner_sameA t a j
        · rw [size_swp]; omega
        · intro p h1 hp
          rw [swp_other _ _ _ _ (by omega) (by omega), swp_right _ _ _ (by omega)]
          exact h p h1 (by omega)
      · rfl
    · rw [decide_eq_false (show ¬ (j + 1 > a) by omega), Bool.false_and, Bool.false_and]
      rfl
theorem insInner_fromA (t : List Int) (a : Nat) : ∀ (j : Nat) (d : Array (Fin (m + 1))), j < d.size → (insInner (lt2 t) a j d).size = d.size ∧ (∀ q, j < q → (insInner (lt2 t) a j d)[q]! = d[q]!) ∧ ∀ p, a ≤ p → p ≤ j → ∃ p', a ≤ p' ∧ p' ≤ j ∧ (insInner (lt2 t) a j d)[p]! = d[p']!
  | 0, d, _ => ⟨rfl, fun _ _ => rfl, fun p ha hp => ⟨p, ha, hp, rfl⟩⟩
  | j + 1, d, hs => by
    rw [insInner]
    split
    · rename_i hc
      rw [Bool.and_eq_true] at hc
      have hc1 := of_decide_eq_true hc.1
      obtain ⟨i1, i2, i3⟩ := insInner_fromA t a j (swp d (j + 1) j) (by rw [size_swp]; omega)
      refine ⟨by rw [i1, size_swp], fun q hq => by rw [i2 q (by omega), swp_other _ _ _ _ (by omega) (by omega)], fun p ha hp => ?_⟩
      rcases Nat.lt_or_ge j p with g | g
      · have : p = j + 1 := by omega
        subst this
        rw [i2 _ (by omega), swp_left _ _ _ (by omega) (by omega)]
        exact ⟨j, by omega, by omega, rfl⟩
      · obtain ⟨p', h0, h1, h2⟩ := i3 p ha g
        rw [h2]
        by_cases e : p' = j
        · subst e
          rw [swp_right _ _ _ (by omega)]
          exact ⟨_, by omega, Nat.le_refl _, rfl⟩
        · rw [swp_other _ _ _ _ (by omega) e]
          exact ⟨p', h0, by omega, rfl⟩
    · exact ⟨rfl, fun _ _ => rfl, fun p ha hp => ⟨p, ha, hp, rfl⟩⟩
theorem insOuter_sameA (t : List Int) (a b : Nat) : ∀ (n i : Nat) (d : Array (Fin (m + 1))), n = b - i → b ≤ d.size → (∀ p q, a ≤ p → p < q → i ≤ q → q < b → d[p]! < d[q]!) → insOuter (ltOf (cfI t)) a b i d = insOuter (lt2 t) a b i d
  | 0, i, d, hn, _, _ => by
    rw [insOuter_stop _ _ _ _ _ (by omega), insOuter_stop _ _ _ _ _ (by omega)]
  | n + 1, i, d, hn, hb, h => by
    have hlt : i < b := by omega
    rw [insOuter_go _ _ _ _ _ hlt, insOuter_go _ _ _ _ _ hlt, insInner_sameA t a i d (by omega) (fun p h1 hp => h p i h1 hp (Nat.le_refl _) hlt)]
    obtain ⟨i1, i2, i3⟩ := insInner_fromA t a i d (by omega)
    refine insOuter_sameA t a b n (i + 1) _ (by omega) (by rw [i1]; exact hb) fun p q hpa hpq hq hqb => ?_
    rw [i2 q (by omega)]
    rcases Nat.lt_or_ge i p with g | g
    · rw [i2 p g]; exact h p q hpa hpq (by omega) hqb
    · obtain ⟨p', h0, h1, h2⟩ := i3 p hpa g
      rw [h2]
      exact h p' q h0 (by omega) (by omega) hqb
/-- A row as an array of places. -/
def arrF (m : Nat) (f : Nat → Nat) (hf : ∀ k, k < m + 1 → f k < m + 1) : Array (Fin (m + 1)) := Array.ofFn fun k : Fin (m + 1) => ⟨f k.val, hf k.val k.isLt⟩
theorem arrF_size (m : Nat) (f : Nat → Nat) (hf : ∀ k, k < m + 1 → f k < m + 1) : (arrF m f hf).size = m + 1 := by simp [arrF]
theorem arrF_at (m : Nat) (f : Nat → Nat) (hf : ∀ k, k < m + 1 → f k < m + 1) (k : Nat) (hk : k < m + 1) : (arrF m f hf)[k]! = ⟨f k, hf k hk⟩ := by
  simp [arrF, hk]
/-- What the sort of the places from a to b comes to. -/
theorem ins_pure (t : List Int) (f : Nat → Nat) (hf : ∀ k, k < m + 1 → f k < m + 1) (a b : Nat) (hab : a ≤ b) (hb : b ≤ m + 1) (hr : ∀ p q, a ≤ p → p < q → q < b → f p < f q) :
    ∃ f' : Nat → Nat, (insertionSort (ltOf (cfI t)) (arrF m f hf) a b).size = m + 1 ∧ (∀ k, k < m + 1 → (insertionSort (ltOf (cfI t)) (arrF m f hf) a b)[k]!.val = f' k) ∧ Sm.Sorted (ltT t) f' a b ∧ Sm.PermOn a b f f' := by
  have he : insertionSort (ltOf (cfI t)) (arrF m f hf) a b = insertionSort (lt2 t) (arrF m f hf) a b := by
    unfold insertionSort
    refine insOuter_sameA t a b _ (a + 1) _ rfl (by rw [arrF_size]; omega) fun p q hp hpq _ hq => ?_
    rw [arrF_at _ _ _ p (by omega), arrF_at _ _ _ q (by omega)]
    exact hr p q hp hpq hq
  obtain ⟨⟨h1, h2, h3⟩, h4⟩ := insertionSort_holds (lt := lt2 (m := m) t) (lt2_swo t) (arrF m f hf) a b hab (by rw [arrF_size]; omega)
  rw [he]
  rw [arrF_size] at h1
  generalize insertionSort (lt2 t) (arrF m f hf) a b = r at h1 h2 h3 h4
  have hinj : ∀ i j, a ≤ i → i < b → a ≤ j → j < b → f i = f j → i = j := fun i j a1 a2 b1 b2 e => by
    rcases Nat.lt_trichotomy i j with g | g | g
    · have := hr i j a1 g b2; omega
    · exact g
    · have := hr j i b1 g a2; omega
  have hnd0 : ((arrF m f hf).extract a b).toList.Nodup := by
    rw [List.nodup_iff_pairwise_ne, List.pairwise_iff_getElem]
    intro i j hi hj hij e
    have hi' : i < b - a := by simpa [arrF_size] using (show i < _ from hi) |> fun h => (by simp [arrF_size] at h; omega)
    have hj' : j < b - a := by simpa [arrF_size] using (show j < _ from hj) |> fun h => (by simp [arrF_size] at h; omega)
    simp only [Array.getElem_toList, Array.getElem_extract] at e
    have ei := arrF_at m f hf (a + i) (by omega)
    have ej := arrF_at m f hf (a + j) (by omega)
    rw [getElem!_pos (arrF m f hf) (a + i) (by rw [arrF_size]; omega)] at ei
    rw [getElem!_pos (arrF m f hf) (a + j) (by rw [arrF_size]; omega)] at ej
    rw [ei, ej] at e
    have := hinj _ _ (by omega) (by omega) (by omega) (by omega) (Fin.mk.inj e)
    omega
  have hnd : (r.extract a b).toList.Nodup := h3.nodup_iff.2 hnd0
  have hrinj : ∀ i j, a ≤ i → i < b → a ≤ j → j < b → r[i]! = r[j]! → i = j := fun i j a1 a2 b1 b2 e => by
    rw [getElem!_pos r i (by omega), getElem!_pos r j (by omega)] at e
    have hp := List.pairwise_iff_getElem.1 (List.nodup_iff_pairwise_ne.1 hnd)
    rcases Nat.lt_trichotomy i j with g | g | g
    · have := hp (i - a) (j - a) (by simp; omega) (by simp; omega) (by omega)
      simp only [Array.getElem_toList, Array.getElem_extract, show a + (i - a) = i by omega, show a + (j - a) = j by omega] at this
      exact absurd e this
    · exact g
    · have := hp (j - a) (i - a) (by simp; omega) (by simp; omega) (by omega)
      simp only [Array.getElem_toList, Array.getElem_extract, show a + (i - a) = i by omega, show a + (j - a) = j by omega] at this
      exact absurd e.symm this
  have hfrom : ∀ k, ∃ i, a ≤ k → k < b → a ≤ i ∧ i < b ∧ r[k]!.val = f i := fun k => by
    by_cases hk : a ≤ k ∧ k < b
    · have hm : r[k]! ∈ (r.extract a b).toList := by
        rw [getElem!_pos r k (by omega)]
        refine List.mem_iff_getElem.2 ⟨k - a, by simp; omega, ?_⟩
        simp only [Array.getElem_toList, Array.getElem_extract, show a + (k - a) = k by omega]
      have hm2 := h3.mem_iff.1 hm
      obtain ⟨i, hi, e⟩ := List.mem_iff_getElem.1 hm2
      have hi' : i < b - a := by simp [arrF_size] at hi; omega
      refine ⟨a + i, fun _ _ => ⟨by omega, by omega, ?_⟩⟩
      simp only [Array.getElem_toList, Array.getElem_extract] at e
      have ei := arrF_at m f hf (a + i) (by omega)
      rw [getElem!_pos (arrF m f hf) (a + i) (by rw [arrF_size]; omega)] at ei
      rw [ei] at e
      rw [← e]
    · exact ⟨0, fun q1 q2 => absurd ⟨q1, q2⟩ hk⟩
  obtain ⟨s, hs⟩ := Classical.axiomOfChoice hfrom
  refine ⟨fun k => if k < m + 1 then r[k]!.val else f k, h1, fun k hk => (if_pos hk).symm, fun i j i1 i2 i3 => ?_, fun k hk => ?_, s, fun k k1 k2 => ?_, fun i j a1 a2 b1 b2 e => ?_⟩
  · dsimp only
    rw [if_pos (by omega), if_pos (by omega)]
    have hne : r[j]!.val ≠ r[i]!.val := fun e => by
      have := hrinj i j i1 (by omega) (by omega) i3 (Fin.ext e.symm)
      omega
    exact aheadB_total t _ _ hne (h4 i j i1 i2 i3)
  · by_cases q : k < m + 1
    · rw [if_pos q, h2 k hk, arrF_at _ _ _ k q]
    · rw [if_neg q]
  · obtain ⟨q1, q2, q3⟩ := hs k k1 k2
    exact ⟨q1, q2, by rw [if_pos (by omega), q3]⟩
  · obtain ⟨_, _, q3⟩ := hs i a1 a2
    obtain ⟨_, _, r3⟩ := hs j b1 b2
    rw [e, ← r3] at q3
    exact hrinj i j a1 a2 b1 b2 (Fin.ext q3)
set_option maxHeartbeats 1000000 in
theorem ins_any (c g : Nat) (t : List Int) (bk N cap a b : Nat) (f : Nat → Nat) (w : World) (h : Holds w bk (rowN N f) 3) (hB : By c g N t w) (hc : c ≠ bk) (hg : g ≠ bk) (hf : ∀ k, k < N → f k < N) (hr : ∀ p q, a ≤ p → p < q → q < b → f p < f q) (hab : a ≤ b) (hbN : b ≤ N) (hN : N ≤ 17592186043904) (h0 : 0 < N) :
    Calls Try.prog 54 #[.slice (some ⟨bk, 0, none⟩) N cap, .int .i64 (a : Int), .int .i64 (b : Int), .func (.func 36) #[] #[.pointer (some ⟨c, 0, none⟩)]] w fun e w' => e = .returned (.tuple #[]) ∧ Merged t bk N a b f w w' := by
  obtain ⟨m, rfl⟩ : ∃ m, N = m + 1 := ⟨N - 1, by omega⟩
  have eg : ∀ args w, (callFunc 36 args).run Try.prog w = .ok (.enter 36 args) w := enters_of Try.func36 (by kernel_rfl) rfl
  have hlen : (rowN (m + 1) f).length = m + 1 := by simp [rowN, rowF, intV]
  have hHs : Go.Sort.Holds (encF (m := m)) w bk 0 (arrF m f hf) := fun j hj => by
    have hj' : j < m + 1 := by rw [arrF_size] at hj; exact hj
    refine ⟨?_, h.frozen _⟩
    rw [Nat.zero_add, h.at j _ (rowF_at _ _ j hj'), arrF_at m f hf j hj']
    rfl
  have hcmp : CmpReads Try.prog 36 #[.pointer (some ⟨c, 0, none⟩)] (encF (m := m)) (cfI t) bk 0 (m + 1) w := by
    intro q os dk hdk x y
    have hp := (put_row encF (tl := []) (by rw [List.append_nil]; exact h) dk (by rw [hdk, hlen]) q os).2
    exact cmp_any c g (m + 1) t _ x.val y.val x.isLt y.isLt hB.len hB.r8 (hB.box.upd hp hc) (hB.row.upd hp hg)
  have hk := Try.insertionSortCmpFunc_one (encF (m := m)) (fun x => rfl) (cfI t) 36 #[.pointer (some ⟨c, 0, none⟩)] bk 0 cap a b (arrF m f hf) w eg (by rw [arrF_size]; exact hcmp) hHs hab (by rw [arrF_size]; omega) (by rw [arrF_size]; omega)
  rw [arrF_size] at hk
  refine hk.mono ?_
  rintro e w' ⟨rfl, n, rfl⟩
  rw [putRow_drewN]
  obtain ⟨f', z1, z2, z3, z4⟩ := ins_pure t f hf a b hab hbN hr
  generalize insertionSort (ltOf (cfI t)) (arrF m f hf) a b = r at z1 z2
  have hp := put_row encF (tl := []) (by rw [List.append_nil]; exact h) r (by rw [z1, hlen]) n #[]
  have er : r.toList.map encF = rowN (m + 1) f' := by
    unfold rowN rowF intV
    apply List.ext_getElem
    · simp [z1]
    · intro i h1 h2
      have hi : i < m + 1 := by simpa [z1] using h1
      have := z2 i hi
      rw [getElem!_pos r i (by omega)] at this
      simp only [List.getElem_map, Array.getElem_toList, List.getElem_range, encF]
      rw [this]
  rw [List.append_nil, er] at hp
  exact ⟨rfl, f', hp.1, hp.2, z3, z4⟩
end Go.Proofs.Ytlliijodilnlgaa
