/- What package gossip's newestOwners tells. -/
import Derived.Deep.RegionWith
import Derived.Test.YthmnjebmnocoiaaGreatYGsHear
namespace Go.Proofs.YthmnjebmnocoiaaGreat
open Go.RowKit

theorem ownV_cell : ∀ {l : List Ow} {i : Nat} {p : Ow}, l[i]? = some p → ∀ (j : Nat), j < 2 → (ownV l)[i * 2 + j]? = (owV p)[j]?
  | [], i, p, h, j, hj => by simp at h
  | q :: l, 0, p, h, j, hj => by
    simp at h
    subst h
    rw [Nat.zero_mul, Nat.zero_add]
    have e : ownV (q :: l) = owV q ++ ownV l := by simp [ownV]
    rw [e, List.getElem?_append_left (by simpa [owV] using hj)]
  | q :: l, i + 1, p, h, j, hj => by
    have := ownV_cell (l := l) (i := i) (p := p) (by simpa using h) j hj
    have e : ownV (q :: l) = owV q ++ ownV l := by simp [ownV]
    rw [e, List.getElem?_append_right (by simp [owV]; omega), ← this]
    congr 1
    simp [owV]; omega
theorem ownV_set : ∀ (l : List Ow) (k : Nat) (o : Ow), k < l.length → overV (ownV l) (k * 2) (owV o) = ownV (l.set k o)
  | [], k, o, h => by simp at h
  | q :: l, 0, o, _ => by simp [overV, ownV, owV]
  | q :: l, k + 1, o, h => by
    have ih := ownV_set l k o (by simpa using h)
    have e : ownV (q :: l) = owV q ++ ownV l := by simp [ownV]
    have e2 : ownV ((q :: l).set (k + 1) o) = owV q ++ ownV (l.set k o) := by simp [ownV]
    rw [e, e2, ← ih]
    unfold overV
    rw [List.take_append, List.drop_append]
    simp only [owV, List.length_cons, List.length_nil]
    have h1 : (k + 1) * 2 - (0 + 1 + 1) = k * 2 := by omega
    have h2 : (k + 1) * 2 + (0 + 1 + 1) - (0 + 1 + 1) = k * 2 + (0 + 1 + 1) := by omega
    rw [h1, h2, List.take_of_length_le (by simp; omega), List.drop_eq_nil_of_le (by simp)]
    simp
theorem getD_some {l : List Ow} {k : Nat} (h : k < l.length) : l[k]? = some (l.getD k noO) := by simp [h]
theorem agg25 (w : World) : (isAgg 25).run Tryz.prog w = .ok true w := by kernel_rfl
theorem run_index26 (l : List Ow) (hl : l.length = 8) (k : Nat) (hk : k < 8) (w : World) : (Instr.index 26 (.agg (ownV l).toArray) (.int .i64 (k : Int))).run Tryz.prog w = .ok (.agg (owV (l.getD k noO)).toArray) w := by
  have h0 : (0 : Int) ≤ k ∧ (k : Int) < (8 : Nat) := by omega
  simp only [Instr.index, asIntOf, Sem.run_bind, Sem.run_pure, Result.andThen_ok, run_underlying und26 w, h0, and_self, if_true, run_sizeOf siz25, part, agg25 w]
  congr 2
  apply Array.ext_getElem?
  intro i
  have hc := ownV_cell (getD_some (l := l) (k := k) (by omega))
  have hz : (ownV l).length = 16 := by rw [ownV_len, hl]
  rw [Array.getElem?_extract]
  simp only [List.size_toArray, Int.toNat_natCast, List.getElem?_toArray]
  by_cases hi : i < 2
  · rw [if_pos (by omega), hc i hi]
  · rw [if_neg (by omega)]
    rw [List.getElem?_eq_none]
    simp [owV]; omega
set_option maxRecDepth 100000 in
set_option maxHeartbeats 4000000 in
theorem newest_any (a b : List Ow) (ha : a.length = 8) (hb : b.length = 8) (w : World) :
    Calls Tryz.prog 35 #[.agg (ownV a).toArray, .agg (ownV b).toArray] w fun e w' => e = .returned (.agg (ownV (newestL a b)).toArray) ∧ Below w.heap.size w w' := by
  obtain ⟨N, hN⟩ : ∃ N, w.heap.size = N := ⟨_, rfl⟩
  rw [hN]
  have hnew := fun W => newerOwner_any W
  have hidx : Hid (∀ k : Nat, k < 8 → ∀ W, (Instr.index 26 (.agg (ownV b).toArray) (.int .i64 (k : Int))).run Tryz.prog W = .ok (.agg (owV (b.getD k noO)).toArray) W) := fun k hk W => run_index26 b hb k hk W
  have HA : Hid (a.length = 8) := ha
  have HB : Hid (b.length = 8) := hb
  have hlb : (ownV b).length = 16 := by rw [ownV_len, hb]
  clear ha hb
  go_enter Tryz.func35, Tryz.ntmps35
  go_wp2_with (first
    | (refine wpList_box_new 2 rfl rfl 26 _ rfl N hN _ rfl ?_; intro w1 h1)
    | (refine wpList_box_new 3 rfl rfl 26 _ rfl (N + 1) h1.size _ rfl ?_; intro w2 h2)
    | (refine wpList_alloc_new 4 rfl rfl 26 rfl (N + 2) h2.size _ zero26 ?_; intro w3 h3)
    | (go_at_call 62; refine (hnew _).mono ?_; rintro e w4 ⟨rfl, h4⟩; have e3 : w3.heap.size = N + 3 := h3.size; rw [e3] at h4 ⊢; have HH2 := (h2.holds.below h3.below (by omega)).below h4.below (by omega))
    | (refine wpList_load_all rfl 26 _ rfl _ rfl 26 (ownV b) 8 25 HH2 und26 (by rw [siz26, hlb]) ?_))
  have HF : Hid (Holds w4 (N + 3) [.func (.func 90) #[] #[]] 123) := h4.holds
  have HO : Hid (Holds w4 N (ownV a) 26) := (((h1.holds.below h2.below (by omega)).below h3.below (by omega)).below h4.below (by omega))
  have HR : Hid (Holds w4 (N + 2) (ownV noOs) 26) := h3.holds.below h4.below (by omega)
  have HW : Hid (Below N w w4) := ((h1.below.trans (h2.below.mono (by omega))).trans (h3.below.mono (by omega))).trans (h4.below.mono (by omega))
  have HZ : Hid (w4.heap.size = N + 4) := h4.size
  clear h1 h2 h3 h4 hnew HH2
  go_loopw [10] (fun c wr => ∃ i : Nat, i ≤ 8 ∧ c = .int .i64 (i : Int) ∧ Hid (Holds wr N (ownV (mixO a b i)) 26 ∧ Upd N w4 wr)) (fun c _ => 8 - (intOf c).toNat)
  case atStart => exact ⟨0, Nat.zero_le _, rfl, by rw [mixO_zero a b HA.out]; exact HO.out, Upd.refl _ _⟩
  case round =>
  obtain ⟨i, hi, rfl, hI⟩ := hrel
  by_cases hlt : i < 8
  · have hlt' : (i : Int) < 8 := by omega
    have hi0 : (0 : Int) ≤ (i : Int) := by omega
    have hx := hidx.out i hlt
    have hsu := mixO_succ a b i
    have hat := mixO_at a b i hlt
    have hml := mixO_len a b i
    generalize b.getD i noO = bo at hx hsu
    generalize a.getD i noO = ao at hsu hat
    generalize mixO a b i = cu at hsu hat hml hI
    obtain ⟨hH, hU⟩ := hI.out
    have HH : Hid (Holds wr N (ownV cu) 26) := hH
    have HU : Hid (Upd N w4 wr) := hU
    obtain ⟨M, hM⟩ : ∃ M, wr.heap.size = M := ⟨_, rfl⟩
    have hMN : N + 4 ≤ M := by have := hU.size; rw [HZ.out, hM] at this; exact this
    have hcu : cu[i]? = some ao := by rw [getD_some (by omega), hat]
    have hc0 : (ownV cu)[i * 2]? = _ := ownV_cell hcu 0 (by omega)
    have hc1 := ownV_cell hcu 1 (by omega)
    have HFr : Hid (∀ W, Below M wr W → Holds W (N + 3) [.func (.func 90) #[] #[]] 123) := fun W hW => (HF.out.upd HU.out (by omega)).below hW (by omega)
    have HHr : Hid (∀ W, Below M wr W → Holds W N (ownV cu) 26) := fun W hW => HH.out.below hW (by omega)
    have hN1 := fun W => isNode_any bo.1 W
    clear hI hH hU
    obtain ⟨b1, b2⟩ := bo
    obtain ⟨a1, a2⟩ := ao
    have hcmp : ∀ x1 : Int, Hid (∀ W, Holds W (N + 3) [.func (.func 90) #[] #[]] 123 → Calls Tryz.prog 107 #[.agg #[.int .i64 x1, .int .u64 (b2 : Int)], .agg #[.int .i64 a1, .int .u64 (a2 : Int)], .pointer (some ⟨N + 3, 0, none⟩)] W fun e w' => e = .returned (.int .i64 (cmpAge b2 a2 x1 a1)) ∧ Below W.heap.size W w') := fun x1 W h => newerO_any (x1, b2) (a1, a2) (N + 3) W h
    have hcp : ∀ x1 : Int, 0 < cmpAge b2 a2 x1 a1 ↔ newO (x1, b2) (a1, a2) = true := fun x1 => by rw [cmpAge_pos, newO_iff]
    by_cases hok : isN b1 = true
    · have hbo : okO (b1, b2) = (b1, b2) := by unfold okO; rw [if_pos hok]
      rw [hbo] at hsu
      have hN2 := hN1
      simp only [hok] at hN2
      have hcm := hcmp b1
      have hcq := hcp b1
      generalize cmpAge b2 a2 b1 a1 = cc at hcm hcq
      clear hcmp hcp hN1
      by_cases hcc : 0 < cc
      · have hjo : joO (a1, a2) (b1, b2) = (b1, b2) := by unfold joO; rw [if_pos (hcq.1 hcc)]
        rw [hjo] at hsu
        clear hcq
        go_upto_region 7 with (first
          | (refine wpList_alloc_new 7 rfl rfl 25 rfl M hM _ zero25 ?_; intro w5 h5)
          | (refine wpList_store_all rfl 25 _ _ rfl M rfl (owV (b1, b2)) rfl 25 _ h5.holds siz25 rfl (owV_one _) ?_; intro w6 h6; have b6 : Below M wr w6 := h5.below.trans (h6.below (Nat.le_refl _)); have p0 := h6.holds.at 0 _ rfl; have p1 := h6.holds.at 1 _ rfl; have HO6 := HHr.out w6 b6; have q0 := HO6.at _ _ hc0; have q1 := HO6.at _ _ hc1)
          | (go_at_call 37; refine (hN2 _).mono ?_; rintro e w7 ⟨rfl, rfl⟩))
        have hzW : w7.heap.size = M + 1 := by rw [h6.size, h5.size]
        have HM : Hid (Holds w7 M (owV (b1, b2)) 25) := h6.holds
        have CALL : Hid (∀ W, Below M wr W → Calls Tryz.prog 107 #[.agg #[.int .i64 b1, .int .u64 (b2 : Int)], .agg #[.int .i64 a1, .int .u64 (a2 : Int)], .pointer (some ⟨N + 3, 0, none⟩)] W fun e w' => e = .returned (.int .i64 cc) ∧ Below W.heap.size W w') := fun W hW => hcm.out W (HFr.out W hW)
        have HUP : Hid (∀ W, Below M wr W → Upd N w4 W) := fun W hW => HU.out.to (hM ▸ hW)
        clear h5 h6
        go_region_with (go_at_call 107; refine (CALL.out _ b6.drew).mono ?_; rintro e w8 ⟨rfl, b8⟩)
        all_goals (
          rw [show (w7.drew).heap.size = M + 1 from hzW] at b8
          have c8 : Below M wr w8 := b6.drew.trans (b8.mono (by omega))
          have HM8 := HM.out.drew.below b8 (by omega)
          have HO8 := HHr.out w8 c8
          have t0 := HM8.at 0 _ rfl
          have t1 := HM8.at 1 _ rfl
          go_wp2_with (refine wpList_store_part rfl 25 _ _ rfl N (i * 2) rfl (owV (b1, b2)) rfl 26 (ownV cu) HO8 siz25 (by rw [ownV_len, hml]; simp [owV]; omega) (owV_one _) ?_; intro w10 h10)
          exact ⟨⟨i + 1, by omega, by go_num, by rw [hsu, ← ownV_set cu i _ (by omega)]; exact ⟨h10.holds, (HUP.out w8 c8).trans ⟨h10.os, h10.tape, h10.output, Nat.le_of_eq h10.size.symm, fun k _ hk => h10.others k hk⟩⟩⟩, by simp [intOf]; omega⟩)
      · have hcc' : decide (0 < cc) = false := by simpa using hcc
        have hjo : joO (a1, a2) (b1, b2) = (a1, a2) := by unfold joO; rw [if_neg (fun h => hcc (hcq.2 h))]
        rw [hjo, ← hat, set_getD_id] at hsu
        clear hcq
        go_upto_region 7 with (first
          | (refine wpList_alloc_new 7 rfl rfl 25 rfl M hM _ zero25 ?_; intro w5 h5)
          | (refine wpList_store_all rfl 25 _ _ rfl M rfl (owV (b1, b2)) rfl 25 _ h5.holds siz25 rfl (owV_one _) ?_; intro w6 h6; have b6 : Below M wr w6 := h5.below.trans (h6.below (Nat.le_refl _)); have p0 := h6.holds.at 0 _ rfl; have p1 := h6.holds.at 1 _ rfl; have HO6 := HHr.out w6 b6; have q0 := HO6.at _ _ hc0; have q1 := HO6.at _ _ hc1)
          | (go_at_call 37; refine (hN2 _).mono ?_; rintro e w7 ⟨rfl, rfl⟩))
        have hzW : w7.heap.size = M + 1 := by rw [h6.size, h5.size]
        have HM : Hid (Holds w7 M (owV (b1, b2)) 25) := h6.holds
        have CALL : Hid (∀ W, Below M wr W → Calls Tryz.prog 107 #[.agg #[.int .i64 b1, .int .u64 (b2 : Int)], .agg #[.int .i64 a1, .int .u64 (a2 : Int)], .pointer (some ⟨N + 3, 0, none⟩)] W fun e w' => e = .returned (.int .i64 cc) ∧ Below W.heap.size W w') := fun W hW => hcm.out W (HFr.out W hW)
        have HUP : Hid (∀ W, Below M wr W → Upd N w4 W) := fun W hW => HU.out.to (hM ▸ hW)
        clear h5 h6
        go_region_with (go_at_call 107; refine (CALL.out _ b6.drew).mono ?_; rintro e w8 ⟨rfl, b8⟩)
        all_goals (
          rw [show (w7.drew).heap.size = M + 1 from hzW] at b8
          have c8 : Below M wr w8 := b6.drew.trans (b8.mono (by omega))
          go_wp2
          exact ⟨⟨i + 1, by omega, by go_num, by rw [hsu]; exact ⟨HHr.out w8 c8, HUP.out w8 c8⟩⟩, by simp [intOf]; omega⟩)
    · have hok' : isN b1 = false := by simpa using hok
      have hbo : okO (b1, b2) = (0, b2) := by unfold okO; rw [if_neg hok]
      rw [hbo] at hsu
      have hN2 := hN1
      simp only [hok'] at hN2
      have hcm := hcmp 0
      have hcq := hcp 0
      generalize cmpAge b2 a2 0 a1 = cc at hcm hcq
      clear hcmp hcp hN1
      by_cases hcc : 0 < cc
      · have hjo : joO (a1, a2) (0, b2) = (0, b2) := by unfold joO; rw [if_pos (hcq.1 hcc)]
        rw [hjo] at hsu
        clear hcq
        go_upto_region 7 with (first
          | (refine wpList_alloc_new 7 rfl rfl 25 rfl M hM _ zero25 ?_; intro w5 h5)
          | (refine wpList_store_all rfl 25 _ _ rfl M rfl (owV (b1, b2)) rfl 25 _ h5.holds siz25 rfl (owV_one _) ?_; intro w6 h6; have b6 : Below M wr w6 := h5.below.trans (h6.below (Nat.le_refl _)); have p0 := h6.holds.at 0 _ rfl; have p1 := h6.holds.at 1 _ rfl; have HO6 := HHr.out w6 b6; have q0 := HO6.at _ _ hc0; have q1 := HO6.at _ _ hc1)
          | (go_at_call 37; refine (hN2 _).mono ?_; rintro e w7 ⟨rfl, rfl⟩)
          | (refine wpList_store_int rfl 3 _ _ rfl siz3 M 0 rfl .i64 0 rfl _ 25 h6.holds (by simp [owV]) ?_; intro w9 h9; have b9 : Below M wr w9 := b6.trans (h9.below (Nat.le_refl _)); have r0 := h9.holds.at 0 _ rfl; have r1 := h9.holds.at 1 _ rfl; have HO9 := HHr.out w9 b9; have s0 := HO9.at _ _ hc0; have s1 := HO9.at _ _ hc1))
        have hzW : w9.heap.size = M + 1 := by rw [h9.size, h6.size, h5.size]
        have HM : Hid (Holds w9 M (owV (0, b2)) 25) := h9.holds
        have CALL : Hid (∀ W, Below M wr W → Calls Tryz.prog 107 #[.agg #[.int .i64 0, .int .u64 (b2 : Int)], .agg #[.int .i64 a1, .int .u64 (a2 : Int)], .pointer (some ⟨N + 3, 0, none⟩)] W fun e w' => e = .returned (.int .i64 cc) ∧ Below W.heap.size W w') := fun W hW => hcm.out W (HFr.out W hW)
        have HUP : Hid (∀ W, Below M wr W → Upd N w4 W) := fun W hW => HU.out.to (hM ▸ hW)
        clear h5 h6
        go_region_with (go_at_call 107; refine (CALL.out _ b9.drew).mono ?_; rintro e w8 ⟨rfl, b8⟩)
        all_goals (
          rw [show (w9.drew).heap.size = M + 1 from hzW] at b8
          have c8 : Below M wr w8 := b9.drew.trans (b8.mono (by omega))
          have HM8 := HM.out.drew.below b8 (by omega)
          have HO8 := HHr.out w8 c8
          have t0 := HM8.at 0 _ rfl
          have t1 := HM8.at 1 _ rfl
          go_wp2_with (refine wpList_store_part rfl 25 _ _ rfl N (i * 2) rfl (owV (0, b2)) rfl 26 (ownV cu) HO8 siz25 (by rw [ownV_len, hml]; simp [owV]; omega) (owV_one _) ?_; intro w10 h10)
          exact ⟨⟨i + 1, by omega, by go_num, by rw [hsu, ← ownV_set cu i _ (by omega)]; exact ⟨h10.holds, (HUP.out w8 c8).trans ⟨h10.os, h10.tape, h10.output, Nat.le_of_eq h10.size.symm, fun k _ hk => h10.others k hk⟩⟩⟩, by simp [intOf]; omega⟩)
      · have hcc' : decide (0 < cc) = false := by simpa using hcc
        have hjo : joO (a1, a2) (0, b2) = (a1, a2) := by unfold joO; rw [if_neg (fun h => hcc (hcq.2 h))]
        rw [hjo, ← hat, set_getD_id] at hsu
        clear hcq
        go_upto_region 7 with (first
          | (refine wpList_alloc_new 7 rfl rfl 25 rfl M hM _ zero25 ?_; intro w5 h5)
          | (refine wpList_store_all rfl 25 _ _ rfl M rfl (owV (b1, b2)) rfl 25 _ h5.holds siz25 rfl (owV_one _) ?_; intro w6 h6; have b6 : Below M wr w6 := h5.below.trans (h6.below (Nat.le_refl _)); have p0 := h6.holds.at 0 _ rfl; have p1 := h6.holds.at 1 _ rfl; have HO6 := HHr.out w6 b6; have q0 := HO6.at _ _ hc0; have q1 := HO6.at _ _ hc1)
          | (go_at_call 37; refine (hN2 _).mono ?_; rintro e w7 ⟨rfl, rfl⟩)
          | (refine wpList_store_int rfl 3 _ _ rfl siz3 M 0 rfl .i64 0 rfl _ 25 h6.holds (by simp [owV]) ?_; intro w9 h9; have b9 : Below M wr w9 := b6.trans (h9.below (Nat.le_refl _)); have r0 := h9.holds.at 0 _ rfl; have r1 := h9.holds.at 1 _ rfl; have HO9 := HHr.out w9 b9; have s0 := HO9.at _ _ hc0; have s1 := HO9.at _ _ hc1))
        have hzW : w9.heap.size = M + 1 := by rw [h9.size, h6.size, h5.size]
        have HM : Hid (Holds w9 M (owV (0, b2)) 25) := h9.holds
        have CALL : Hid (∀ W, Below M wr W → Calls Tryz.prog 107 #[.agg #[.int .i64 0, .int .u64 (b2 : Int)], .agg #[.int .i64 a1, .int .u64 (a2 : Int)], .pointer (some ⟨N + 3, 0, none⟩)] W fun e w' => e = .returned (.int .i64 cc) ∧ Below W.heap.size W w') := fun W hW => hcm.out W (HFr.out W hW)
        have HUP : Hid (∀ W, Below M wr W → Upd N w4 W) := fun W hW => HU.out.to (hM ▸ hW)
        clear h5 h6
        go_region_with (go_at_call 107; refine (CALL.out _ b9.drew).mono ?_; rintro e w8 ⟨rfl, b8⟩)
        all_goals (
          rw [show (w9.drew).heap.size = M + 1 from hzW] at b8
          have c8 : Below M wr w8 := b9.drew.trans (b8.mono (by omega))
          go_wp2
          exact ⟨⟨i + 1, by omega, by go_num, by rw [hsu]; exact ⟨HHr.out w8 c8, HUP.out w8 c8⟩⟩, by simp [intOf]; omega⟩)
  · have e8 : i = 8 := by omega
    subst e8
    rw [mixO_all] at hI
    obtain ⟨hH, hU⟩ := hI.out
    have HR8 := HR.out.upd hU (by omega)
    have hnl : (ownV (newestL a b)).length = 16 := by rw [ownV_len, newestL_len]
    have HU : Hid (Upd N w4 wr) := hU
    clear hI hU
    go_wp2_with (first
      | (refine wpList_load_all rfl 26 _ rfl _ rfl 26 (ownV (newestL a b)) 8 25 hH und26 (by rw [siz26, hnl]) ?_)
      | (refine wpList_store_all rfl 26 _ _ rfl (N + 2) rfl (ownV (newestL a b)) rfl 26 _ HR8 (by rw [siz26, hnl]) (by rw [hnl]; rfl) (ownV_one _) ?_; intro w9 h9))
    refine bodyPost_ret (results_cell_row (p := 4) (by kernel_rfl) _ w9 (N + 2) 26 (ownV (newestL a b)).toArray (0, 0) _ rfl h9.holds und26 rfl (by rw [siz26, List.size_toArray, hnl])) rfl ⟨rfl, ?_⟩
    exact (HW.out.trans (HU.out.below (Nat.le_refl _) (by rw [HZ.out]; omega))).trans (h9.below (by omega))
end Go.Proofs.YthmnjebmnocoiaaGreat
