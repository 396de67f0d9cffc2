/- What package ring's Claim answers. -/
import Derived.Test.YtlliijodilnlgaaRgFill
import Derived.Test.YtlliijodilnlgaaRgRisen
namespace Go.Proofs.Ytlliijodilnlgaa
open Go.RowKit

theorem compact_upto (d : Array Int) (hs : ∀ i j, i ≤ j → j < d.size → d[i]! ≤ d[j]!) : ∀ m, m ≤ d.size → (Lib.compactUpTo d m).Pairwise (· < ·) ∧ (∀ x, x ∈ Lib.compactUpTo d m ↔ ∃ j, j < m ∧ d[j]! = x)
  | 0, _ => ⟨by simp [Lib.compactUpTo], by simp [Lib.compactUpTo]⟩
  | m + 1, hm => by
    obtain ⟨h1, h2⟩ := compact_upto d hs m (by omega)
    rw [Lib.compactUpTo_succ]
    by_cases hk : Lib.keeps d m = true
    · rw [if_pos hk]
      refine ⟨?_, fun x => ?_⟩
      · rw [List.pairwise_append]
        refine ⟨h1, by simp, fun a ha b hb => ?_⟩
        simp at hb
        subst hb
        obtain ⟨j, hj, rfl⟩ := (h2 a).1 ha
        have hne : d[m]! ≠ d[m - 1]! := by
          simp only [Lib.keeps, decide_eq_true_eq] at hk
          rcases hk with h0 | h0
          · omega
          · exact h0
        have q1 := hs j (m - 1) (by omega) (by omega)
        have q2 := hs (m - 1) m (by omega) (by omega)
        omega
      · rw [List.mem_append, h2]
        constructor
        · rintro (⟨j, hj, e⟩ | q)
          · exact ⟨j, by omega, e⟩
          · simp at q; exact ⟨m, by omega, q.symm⟩
        · rintro ⟨j, hj, e⟩
          by_cases hjm : j = m
          · subst hjm; right; simp [← e]
          · left; exact ⟨j, by omega, e⟩
    · rw [if_neg hk, List.append_nil]
      refine ⟨h1, fun x => ?_⟩
      rw [h2]
      constructor
      · rintro ⟨j, hj, e⟩; exact ⟨j, by omega, e⟩
      · rintro ⟨j, hj, e⟩
        by_cases hjm : j = m
        · subst hjm
          have : j ≠ 0 ∧ d[j]! = d[j - 1]! := by
            simp only [Lib.keeps, decide_eq_true_eq] at hk
            refine ⟨fun q => hk (Or.inl q), ?_⟩
            by_cases q : d[j]! = d[j - 1]!
            · exact q
            · exact absurd (Or.inr q) hk
          exact ⟨j - 1, by omega, by rw [← this.2]; exact e⟩
        · exact ⟨j, by omega, e⟩
theorem sortL_rising (l : List Int) : (sortL l).Pairwise (· ≤ ·) := by
  have := List.pairwise_mergeSort (le := fun x y : Int => decide (x ≤ y)) (by intro a b c; simp; omega) (by intro a b; simp; omega) l
  exact this.imp (by simp)
theorem risen_facts (ms : List Int) : (risenL ms).Pairwise (· < ·) ∧ ∀ x, x ∈ risenL ms ↔ (x ∈ ms ∧ 0 < x) := by
  have hs : ∀ i j, i ≤ j → j < (sortL (posL ms)).toArray.size → (sortL (posL ms)).toArray[i]! ≤ (sortL (posL ms)).toArray[j]! := fun i j hij hj => by
    have hj' : j < (sortL (posL ms)).length := by simpa using hj
    rcases Nat.lt_or_eq_of_le hij with g | g
    · have := List.pairwise_iff_getElem.1 (sortL_rising (posL ms)) i j (by omega) hj' g
      simpa [hj', show i < (sortL (posL ms)).length by omega] using this
    · subst g; exact Int.le_refl _
  obtain ⟨h1, h2⟩ := compact_upto (sortL (posL ms)).toArray hs (sortL (posL ms)).length (by simp)
  refine ⟨h1, fun x => ?_⟩
  have hm : x ∈ sortL (posL ms) ↔ (x ∈ ms ∧ 0 < x) := by
    unfold sortL
    rw [(List.mergeSort_perm _ _).mem_iff]
    simp [posL]
  rw [← hm]
  refine (h2 x).trans ?_
  constructor
  · rintro ⟨j, hj, e⟩
    rw [← e]
    simp [hj]
  · intro hx
    obtain ⟨j, hj, e⟩ := List.getElem_of_mem hx
    exact ⟨j, hj, by simp [hj, e]⟩
theorem rise_ext : ∀ (l m : List Int), l.Pairwise (· < ·) → m.Pairwise (· < ·) → (∀ x, x ∈ l ↔ x ∈ m) → l = m
  | [], [], _, _, _ => rfl
  | [], y :: m, _, _, h => by have := (h y).2 (by simp); simp at this
  | x :: l, [], _, _, h => by have := (h x).1 (by simp); simp at this
  | x :: l, y :: m, hl, hm, h => by
    obtain ⟨a1, a2⟩ := List.pairwise_cons.1 hl
    obtain ⟨b1, b2⟩ := List.pairwise_cons.1 hm
    have e : x = y := by
      rcases List.mem_cons.1 ((h x).1 (by simp)) with q | q
      · exact q
      · rcases List.mem_cons.1 ((h y).2 (by simp)) with r | r
        · exact r.symm
        · have := b1 x q; have := a1 y r; omega
    subst e
    congr 1
    refine rise_ext l m a2 b2 fun z => ?_
    constructor
    · intro hz
      rcases List.mem_cons.1 ((h z).1 (by simp [hz])) with q | q
      · subst q; have := a1 z hz; omega
      · exact q
    · intro hz
      rcases List.mem_cons.1 ((h z).2 (by simp [hz])) with q | q
      · subst q; have := b1 z hz; omega
      · exact q
theorem quotaI_le (n r : Nat) (hn : 0 < n) : quotaI n r ≤ 8 := by
  unfold quotaI
  by_cases h1 : n = 1
  · subst h1; simp
  · have h2 : 8 / (n : Int) ≤ 4 := by
      exact Int.ediv_le_of_le_mul (by omega) (by omega)
    split <;> omega
theorem shareI_R8 (t : List Int) : R8 (shareI t) := fun i => by
  rw [List.getD_eq_getElem?_getD]
  rcases Nat.lt_or_ge i t.length with g | g
  · simp only [shareI, List.getElem?_map, List.getElem?_range g, Option.map_some, Option.getD_some]
    exact ⟨quotaI_nonneg _ _, quotaI_le _ _ (by omega)⟩
  · rw [List.getElem?_eq_none (by rw [shareI_len]; omega)]; simp
/-- Claim, in plain words. -/
def claimL (o ms : List Int) : List Int := if (risenL ms).length = 0 then List.replicate 8 0 else outV (risenL ms) (claimI (risenL ms).length (o.map (findI (risenL ms))))
theorem findI_in {M : List Int} (hM : M.Pairwise (· < ·)) (o : List Int) : ∀ i, some i ∈ o.map (findI M) → i < M.length := fun i hi => by
  obtain ⟨x, _, hx⟩ := List.mem_map.1 hi
  exact (findI_some hM hx).1
/-- what fill is handed. -/
theorem claim_mid (M o : List Int) (hM : M.Pairwise (· < ·)) (ho : o.length = 8) (hn : 0 < M.length) : (keepI (o.map (findI M)) (shareI (tallyI M.length (o.map (findI M))))).1.length = 8 ∧ (∀ i, some i ∈ (keepI (o.map (findI M)) (shareI (tallyI M.length (o.map (findI M))))).1 → i < M.length) ∧ FillOk M.length ([], (keepI (o.map (findI M)) (shareI (tallyI M.length (o.map (findI M))))).2, 0) (keepI (o.map (findI M)) (shareI (tallyI M.length (o.map (findI M))))).1 := by
  have hsl : (shareI (tallyI M.length (o.map (findI M)))).length = M.length := by rw [shareI_len, tallyI_len]
  have hss : (shareI (tallyI M.length (o.map (findI M)))).sum = 8 := shareI_sum _ (fun e => by
    have h1 := tallyI_len M.length (o.map (findI M))
    have h2 : (tallyI M.length (o.map (findI M))).length = 0 := by rw [e]; rfl
    omega)
  obtain ⟨a1, a2, a3, a4, a5⟩ := keepI_facts M.length (o.map (findI M)) ([], shareI (tallyI M.length (o.map (findI M)))) (findI_in hM o) hsl (shareI_R8 _) (fun i hi => by simp at hi)
  refine ⟨by unfold keepI; rw [a1]; simp [ho], a4, ⟨a2, a3, fun j hj => by simp at hj, ?_⟩⟩
  show (keepI _ _).2.sum = _
  unfold keepI
  have hl8 : (o.map (findI M)).length = 8 := by simp [ho]
  rw [hl8] at a5
  dsimp only at a5
  rw [hss] at a5
  simp only [List.count_nil] at a5
  omega
theorem agg_of_zero : (Value.agg (intV (List.replicate 8 0)).toArray) = .agg #[.int .i64 0, .int .i64 0, .int .i64 0, .int .i64 0, .int .i64 0, .int .i64 0, .int .i64 0, .int .i64 0] := rfl
set_option maxHeartbeats 2000000 in
theorem claim_any (B : Nat) (o : List Int) (ho : o.length = 8) (v : Value) (ms : List Int) (w : World) (hv : Ints B w v ms) (hB : B ≤ w.heap.size) (hl : ms.length ≤ 17592186043904) :
    Calls Try.prog 10 #[.agg (intV o).toArray, v] w fun e w' => e = .returned (.agg (intV (claimL o ms)).toArray) ∧ Below w.heap.size w w' := by
  obtain ⟨N, hN⟩ : ∃ N, w.heap.size = N := ⟨_, rfl⟩
  rw [hN] at hB ⊢
  obtain ⟨hM, hmem⟩ := risen_facts ms
  have HRi : Hid (∀ W, Below N w W → Calls Try.prog 19 #[v] W fun e w' => ∃ u, e = .returned u ∧ Ints w'.heap.size w' u (risenL ms) ∧ Below W.heap.size W w') := fun W hW => risen_any B v ms W (hv.below (hW.mono hB)) (by have := hW.size; omega) hl
  have HO : Hid (o.length = 8) := ho
  have hpos : ∀ x ∈ risenL ms, 0 < x := fun x hx => ((hmem x).1 hx).2
  have HCl : Hid (claimL o ms = if (risenL ms).length = 0 then List.replicate 8 0 else outV (risenL ms) (claimI (risenL ms).length (o.map (findI (risenL ms))))) := rfl
  have h20 : (risenL ms).length ≤ 17592186043904 := by
    have h1 : (risenL ms).length ≤ (sortL (posL ms)).length := by
      unfold risenL Lib.compact Lib.compactUpTo
      rw [List.length_map]
      exact Nat.le_trans (List.length_filter_le ..) (by simp)
    have h2 := posL_len ms
    rw [sortL_len] at h1
    omega
  generalize risenL ms = M at hM hpos HRi HCl h20
  clear hmem hv hl
  by_cases h0 : M.length = 0
  · have hcl : Hid (claimL o ms = List.replicate 8 0) := by
      show _ = _
      rw [HCl.out, if_pos h0]
    go_enter Try.func10, Try.ntmps10
    go_wp2_with (first
      | (refine wpList_box_new 2 rfl rfl 23 _ rfl N hN _ rfl ?_; intro w1 h1)
      | (refine wpList_alloc_new 4 rfl rfl 23 rfl (N + 1) h1.size _ zero23 ?_; intro w2 h2)
      | (go_at_call 19; refine (HRi.out w2 (h1.below.trans (h2.below.mono (by omega)))).mono ?_; rintro e w3 ⟨u, rfl, I3, b3⟩; obtain ⟨ua, uc, rfl⟩ := I3.len; rw [h0] at I3 ⊢; have HR3 := h2.holds.below b3 (by rw [h2.size]; omega))
      | (refine wpList_store_all rfl 23 (.tmp 4) (.tmp 12) rfl (N + 1) rfl (intV (List.replicate 8 0)) rfl 23 _ HR3 (by rw [siz23]; rfl) rfl (intV_one _) ?_; intro w5 h5))
    refine bodyPost_ret (results_cell_row (p := 4) (by kernel_rfl) _ w5 (N + 1) 23 (intV (List.replicate 8 0)).toArray (0, 0) _ rfl h5.holds und23 rfl (by rw [siz23]; rfl)) rfl ⟨by rw [hcl.out], ?_⟩
    exact ((h1.below.trans (h2.below.mono (by omega))).trans (b3.mono (by rw [h2.size]; omega))).trans (h5.below (by omega))
  · obtain ⟨m, hm⟩ : ∃ m, M.length = m + 1 := ⟨M.length - 1, by omega⟩
    have HTa : Hid (∀ W u, Ints W.heap.size W u M → Calls Try.prog 21 #[.agg (intV o).toArray, u] W fun e w' => ∃ g, e = .returned (.slice (some ⟨g, 0, none⟩) M.length M.length) ∧ W.heap.size ≤ g ∧ Holds w' g (intV (tallyI M.length (o.map (findI M)))) 3 ∧ Below W.heap.size W w') := fun W u hu => tally_any _ o ho u M hM (by omega) W hu (Nat.le_refl _)
    have HSh : Hid (∀ W g, Holds W g (intV (tallyI M.length (o.map (findI M)))) 3 → Calls Try.prog 20 #[.slice (some ⟨g, 0, none⟩) (m + 1) (m + 1)] W fun e w' => ∃ g', e = .returned (.slice (some ⟨g', 0, none⟩) (m + 1) (m + 1)) ∧ W.heap.size ≤ g' ∧ Holds w' g' (intV (shareI (tallyI M.length (o.map (findI M))))) 3 ∧ Below W.heap.size W w') := fun W g hg => shares_any m (by omega) g _ W (by rw [tallyI_len]; exact hm) (fun k => by have h := tallyI_le M.length (o.map (findI M)) k; rw [List.length_map, ho] at h; exact h) hg
    obtain ⟨c1, c2, c3⟩ := claim_mid M o hM ho (by omega)
    have hsl : (shareI (tallyI M.length (o.map (findI M)))).length = M.length := by rw [shareI_len, tallyI_len]
    have HKe : Hid (∀ C W u g, C ≤ W.heap.size → C ≤ g → Ints C W u M → Holds W g (intV (shareI (tallyI M.length (o.map (findI M))))) 3 → Calls Try.prog 23 #[.agg (intV o).toArray, u, .slice (some ⟨g, 0, none⟩) M.length M.length] W fun e w' => e = .returned (.agg (intV (keptV M (keepI (o.map (findI M)) (shareI (tallyI M.length (o.map (findI M))))).1)).toArray) ∧ Holds w' g (intV (keepI (o.map (findI M)) (shareI (tallyI M.length (o.map (findI M))))).2) 3 ∧ Upd g W w') := fun C W u g h1 h2 hu hg => keep_any C o ho u M hM (by omega) g _ hsl (shareI_R8 _) W hu h1 h2 hg
    have HFi : Hid (∀ C W u g, C ≤ W.heap.size → C ≤ g → Ints C W u M → Holds W g (intV (keepI (o.map (findI M)) (shareI (tallyI M.length (o.map (findI M))))).2) 3 → Calls Try.prog 22 #[.agg (intV (keptV M (keepI (o.map (findI M)) (shareI (tallyI M.length (o.map (findI M))))).1)).toArray, u, .slice (some ⟨g, 0, none⟩) M.length M.length] W fun e w' => e = .returned (.agg (intV (outV M (claimI M.length (o.map (findI M))))).toArray) ∧ Upd g W w') := fun C W u g h1 h2 hu hg => fill_any C u M hpos (by omega) g _ c1 c2 _ c3 W hu h1 h2 hg
    have hcl : Hid (claimL o ms = outV M (claimI M.length (o.map (findI M)))) := by
      show _ = _
      rw [HCl.out, if_neg h0]
    have hol : Hid ((outV M (claimI M.length (o.map (findI M)))).length = 8) := by
      show _ = _
      rw [outV_len]
      show (fillI _ _).length = 8
      unfold fillI
      rw [fold_len, c1]; rfl
    rw [hm] at HTa HSh HKe HFi hcl hol
    generalize outV M (claimI (m + 1) (o.map (findI M))) = RES at HFi hcl hol
    generalize keepI (o.map (findI M)) (shareI (tallyI (m + 1) (o.map (findI M)))) = KK at HKe HFi
    generalize shareI (tallyI (m + 1) (o.map (findI M))) = SH at HSh HKe
    generalize tallyI (m + 1) (o.map (findI M)) = TL at HTa HSh
    generalize hnn : m + 1 = n at *
    have hn0 : ¬ (n : Int) = 0 := by omega
    clear c1 c2 c3 hsl hM hpos HCl ho h20
    have HMl : Hid (M.length = n) := hm
    clear hm h0 hnn
    go_enter Try.func10, Try.ntmps10
    go_wp2_with (first
      | (refine wpList_box_new 2 rfl rfl 23 _ rfl N hN _ rfl ?_; intro w1 h1)
      | (refine wpList_alloc_new 4 rfl rfl 23 rfl (N + 1) h1.size _ zero23 ?_; intro w2 h2; have H12 := h1.holds.below h2.below (by omega))
      | (go_at_call 19; refine (HRi.out w2 (h1.below.trans (h2.below.mono (by omega)))).mono ?_; rintro e w3 ⟨u, rfl, I3, b3⟩; obtain ⟨ua, uc, rfl⟩ := I3.len; rw [HMl.out] at I3 ⊢; have HR3 := h2.holds.below b3 (by rw [h2.size]; omega); have HO3 := H12.below b3 (by rw [h2.size]; omega); have hz3 : N + 2 ≤ w3.heap.size := by (have := b3.size; rw [h2.size] at this; exact this))
      | (refine wpList_load_all rfl 23 _ rfl _ rfl 23 (intV o) 8 3 HO3 und23 (by rw [siz23, intV_len, HO.out]) ?_)
      | (go_at_call 21; refine (HTa.out w3 _ I3).mono ?_; rintro e w4 ⟨g4, rfl, hg4, T4, b4⟩)
      | (go_at_call 20; refine (HSh.out w4 g4 T4).mono ?_; rintro e w5 ⟨g5, rfl, hg5, S5, b5⟩; have b35 := b4.trans (b5.mono (by have := b4.size; omega)); have HO5 := HO3.below b35 (by omega); have HR5 := HR3.below b35 (by omega); have I5 := I3.below b35; have hz5 : w3.heap.size ≤ w5.heap.size := b35.size)
      | (refine wpList_load_all rfl 23 _ rfl _ rfl 23 (intV o) 8 3 HO5 und23 (by rw [siz23, intV_len, HO.out]) ?_)
      | (go_at_call 23; refine (HKe.out w3.heap.size w5 _ g5 hz5 (by have := b4.size; omega) I5 S5).mono ?_; rintro e w6 ⟨rfl, K6, U6⟩; have I6 := I5.below (U6.below (B := w3.heap.size) (by have := b4.size; omega) hz5); have hz6 : w3.heap.size ≤ w6.heap.size := Nat.le_trans hz5 U6.size)
      | (go_at_call 22; refine (HFi.out w3.heap.size w6 _ g5 hz6 (by have := b4.size; omega) I6 K6).mono ?_; rintro e w7 ⟨rfl, U7⟩; have U57 := U6.trans U7; have HR7 := HR5.upd U57 (by have := b4.size; omega))
      | (refine wpList_store_all rfl 23 (.tmp 4) (.tmp 23) rfl (N + 1) rfl (intV RES) rfl 23 _ HR7 (by rw [siz23, intV_len, hol.out]) (by rw [intV_len, intV_len, hol.out]; rfl) (intV_one _) ?_; intro w8 h8))
    refine bodyPost_ret (results_cell_row (p := 4) (by kernel_rfl) _ w8 (N + 1) 23 (intV RES).toArray (0, 0) _ rfl h8.holds und23 rfl (by rw [siz23, List.size_toArray, intV_len, hol.out])) rfl ⟨by rw [hcl.out], ?_⟩
    have bb := (h1.below.trans (h2.below.mono (by omega))).trans (b3.mono (by rw [h2.size]; omega))
    exact ((bb.trans (b35.mono (by omega))).trans (U57.below (by have := b4.size; omega) (by omega))).trans (h8.below (by omega))
end Go.Proofs.Ytlliijodilnlgaa
