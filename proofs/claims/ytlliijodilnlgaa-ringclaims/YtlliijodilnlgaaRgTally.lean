/- What package ring's tally answers. -/
import Derived.Test.YtlliijodilnlgaaRgSlop
import Derived.Test.YtlliijodilnlgaaRgClP
namespace Go.Proofs.Ytlliijodilnlgaa
open Go.RowKit

theorem made_holds {w : World} {base b n : Nat} (h : w.ownsRow base 3 1 (.slice (some ⟨b, 0, none⟩) n n) n (madeCells (Value.int .i64 0).cells (n * 1)).toList) : Holds w b (intV (List.replicate n 0)) 3 := by
  rcases h.2 with ⟨e, _⟩ | ⟨g, cap, cur, e, _, hg, _, _, hs, ht⟩
  · cases e
  · cases e
    have hl : cur.toList.length = n := by simpa using hs
    have h1 : cur.toList = (madeCells (Value.int .i64 0).cells (n * 1)).toList := by
      rw [← ht, List.take_of_length_le (by omega)]
    have h2 : (madeCells (Value.int .i64 0).cells (n * 1)).toList = intV (List.replicate n 0) := by
      apply List.ext_getElem?
      intro i
      rw [Nat.mul_one]
      rcases Nat.lt_or_ge i n with g | g
      · have e1 : (madeCells (Value.int .i64 0).cells n)[i]? = some (.int .i64 0) := by
          simp [madeCells, Value.cells, g, Nat.mod_one]
        rw [Array.getElem?_toList, e1, intV_at _ _ (by simpa using g)]
        simp [g, List.getD_eq_getElem?_getD]
      · rw [List.getElem?_eq_none (by simp [size_madeCells]; omega), List.getElem?_eq_none (by simp [intV]; omega)]
    unfold Holds
    rw [hg, ← h2, ← h1]
theorem findI_some {M : List Int} {x : Int} {i : Nat} (hM : M.Pairwise (· < ·)) (h : findI M x = some i) : i < M.length ∧ M.getD i 0 = x ∧ M.contains x = true ∧ M.countP (· < x) = i := by
  unfold findI at h
  split at h
  · rename_i hc
    have hi : M.countP (· < x) = i := Option.some.inj h
    refine ⟨?_, ?_, hc, hi⟩
    · subst hi
      have hmem : x ∈ M := by simpa using hc
      clear h hc hM
      induction M with
      | nil => simp at hmem
      | cons y M ih =>
        rcases List.mem_cons.1 hmem with rfl | hm
        · rw [List.countP_cons_of_neg (by simp)]
          have := List.countP_le_length (p := fun z => decide (z < x)) (l := M)
          simp only [List.length_cons]; omega
        · have := ih hm
          rw [List.countP_cons]; simp only [List.length_cons]; split <;> omega
    · subst hi
      have hmem : x ∈ M := by simpa using hc
      clear h hc
      induction M with
      | nil => simp at hmem
      | cons y M ih =>
        obtain ⟨h1, h2⟩ := List.pairwise_cons.1 hM
        rcases List.mem_cons.1 hmem with rfl | hm
        · rw [List.countP_cons_of_neg (by simp), List.countP_eq_zero.2 (fun a ha => by have := h1 a ha; simp; omega)]
          rfl
        · have := h1 x hm
          rw [List.countP_cons_of_pos (by simpa using this), List.getD_cons_succ]
          exact ih h2 hm
  · cases h
theorem findI_none {M : List Int} {x : Int} (h : findI M x = none) : M.contains x = false := by
  unfold findI at h
  split at h
  · cases h
  · rename_i hc; simpa using hc
theorem tallyI_some (n : Nat) (l : List (Option Nat)) (i : Nat) (hi : i < n) : tallyI n (l ++ [some i]) = (tallyI n l).set i ((tallyI n l).getD i 0 + 1) := by
  apply List.ext_getElem
  · simp [tallyI]
  · intro k h1 h2
    have hk : k < n := by simpa [tallyI] using h1
    rw [List.getElem_set]
    by_cases e : i = k
    · subst e
      rw [if_pos rfl]
      simp [tallyI, hi, List.getD_eq_getElem?_getD, List.count_append]
    · rw [if_neg e]
      simp [tallyI, List.count_append, e]
theorem tallyI_none (n : Nat) (l : List (Option Nat)) : tallyI n (l ++ [none]) = tallyI n l := by
  unfold tallyI
  apply List.map_congr_left
  intro i _
  simp [List.count_append]
theorem tallyI_le (n : Nat) (l : List (Option Nat)) (i : Nat) : 0 ≤ (tallyI n l).getD i 0 ∧ (tallyI n l).getD i 0 ≤ l.length := by
  rw [List.getD_eq_getElem?_getD]
  rcases Nat.lt_or_ge i n with g | g
  · simp only [tallyI, List.getElem?_map, List.getElem?_range g, Option.map_some, Option.getD_some]
    have := List.count_le_length (a := some i) (l := l)
    omega
  · rw [List.getElem?_eq_none (by simp [tallyI]; omega)]; simp
theorem intV_set (l : List Int) (i : Nat) (x : Int) : (intV l).set i (.int .i64 x) = intV (l.set i x) := by simp [intV, List.map_set]
/-- slices.BinarySearch, of a rising list. -/
theorem search_any (B : Nat) (w : World) (v : Value) (M : List Int) (x : Int) (h : Ints B w v M) (hM : M.Pairwise (· < ·)) (hl : M.length < 4611686018427387904) :
    Calls Try.prog 37 #[v, .int .i64 x] w fun e w' => e = .returned (.tuple #[.int .i64 (M.countP (· < x) : Nat), .bool (M.contains x)]) ∧ ∃ q, w' = w.drewN q := by
  obtain ⟨a, cap, rfl, -, h0 | ⟨g, o, rfl, _, hc⟩⟩ := h
  · have e : M = [] := List.eq_nil_of_length_eq_zero h0
    subst e
    refine (Try.slices_BinarySearch_int_empty a cap x w).mono ?_
    rintro e w' ⟨rfl, rfl⟩
    exact ⟨rfl, 0, rfl⟩
  · have := Try.slices_BinarySearch_int g o M.length cap M x w (Nat.le_refl _) hl hc (by rw [List.take_length]; exact hM.imp (fun h => by omega))
    rwa [List.take_length] at this
theorem search_some (B : Nat) (w : World) (v : Value) (M : List Int) (x : Int) (i : Nat) (h : Ints B w v M) (hM : M.Pairwise (· < ·)) (hl : M.length < 4611686018427387904) (hf : findI M x = some i) :
    Calls Try.prog 37 #[v, .int .i64 x] w fun e w' => e = .returned (.tuple #[.int .i64 (i : Int), .bool true]) ∧ ∃ q, w' = w.drewN q := by
  have := search_any B w v M x h hM hl
  obtain ⟨_, _, h3, h4⟩ := findI_some hM hf
  rwa [h3, h4] at this
theorem search_none (B : Nat) (w : World) (v : Value) (M : List Int) (x : Int) (h : Ints B w v M) (hM : M.Pairwise (· < ·)) (hl : M.length < 4611686018427387904) (hf : findI M x = none) :
    Calls Try.prog 37 #[v, .int .i64 x] w fun e w' => ∃ j : Int, e = .returned (.tuple #[.int .i64 j, .bool false]) ∧ ∃ q, w' = w.drewN q := by
  have := search_any B w v M x h hM hl
  rw [findI_none hf] at this
  refine this.mono ?_
  rintro e w' ⟨rfl, q⟩
  exact ⟨_, rfl, q⟩
theorem index_own (o : List Int) (ho : o.length = 8) (k : Nat) (hk : k < 8) (w : World) : (Instr.index 23 (.agg (intV o).toArray) (.int .i64 (k : Int))).run Try.prog w = .ok (.int .i64 (o.getD k 0)) w :=
  run_index_array w 23 3 8 .i64 und23 und3 siz3 (intV o) k hk _ (intV_at o k (by omega))
theorem getD_at (o : List Int) (k : Nat) (h : k < o.length) : o[k]? = some (o.getD k 0) := by simp [List.getD_eq_getElem?_getD, h]
theorem Holds.drewN {w : World} {b : Nat} {cs : List Value} {t : TypeId} (h : Holds w b cs t) (q : Nat) : Holds (w.drewN q) b cs t := by
  unfold Holds at *; simpa using h

set_option maxHeartbeats 1000000 in
theorem tally_any (B : Nat) (o : List Int) (ho : o.length = 8) (v : Value) (M : List Int) (hM : M.Pairwise (· < ·)) (hl : M.length ≤ 17592186043904) (w : World) (hv : Ints B w v M) (hB : B ≤ w.heap.size) :
    Calls Try.prog 21 #[.agg (intV o).toArray, v] w fun e w' => ∃ g, e = .returned (.slice (some ⟨g, 0, none⟩) M.length M.length) ∧ w.heap.size ≤ g ∧ Holds w' g (intV (tallyI M.length (o.map (findI M)))) 3 ∧ Below w.heap.size w w' := by
  obtain ⟨m, hm⟩ : ∃ m, w.heap.size = m := ⟨_, rfl⟩
  rw [hm] at hB ⊢
  obtain ⟨i3, f3, hz3, hs3, hb3⟩ := inf3
  have F3 : Hid (Try.prog.info? 3 = some i3) := f3
  have HS : Hid (∀ W x i, Below m w W → findI M x = some i → Calls Try.prog 37 #[v, .int .i64 x] W fun e w' => e = .returned (.tuple #[.int .i64 (i : Int), .bool true]) ∧ ∃ q, w' = W.drewN q) := fun W x i hW hf => search_some B W v M x i (hv.below (hW.mono hB)) hM (by omega) hf
  have HN : Hid (∀ W x, Below m w W → findI M x = none → Calls Try.prog 37 #[v, .int .i64 x] W fun e w' => ∃ j : Int, e = .returned (.tuple #[.int .i64 j, .bool false]) ∧ ∃ q, w' = W.drewN q) := fun W x hW hf => search_none B W v M x (hv.below (hW.mono hB)) hM (by omega) hf
  have HI : Hid (∀ k : Nat, k < 8 → ∀ W, (Instr.index 23 (.agg (intV o).toArray) (.int .i64 (k : Int))).run Try.prog W = .ok (.int .i64 (o.getD k 0)) W) := fun k hk W => index_own o ho k hk W
  have HM : Hid (M.Pairwise (· < ·)) := hM
  have HO : Hid (o.length = 8) := ho
  obtain ⟨a, cap, rfl⟩ := hv.len
  obtain ⟨n, hn⟩ : ∃ n, M.length = n := ⟨_, rfl⟩
  have HL : Hid (M.length = n) := hn
  rw [hn] at hl HS HN ⊢
  clear hn hv hM ho f3
  go_enter Try.func21, Try.ntmps21
  go_wp2_with (first
    | (refine wpList_box_new 2 rfl rfl 23 _ rfl m hm _ rfl ?_; intro w1 h1)
    | (refine wpList_make_full _ rfl _ _ 24 rfl (m + 1) 3 i3 _ 1 und24 F3.out hz3 hs3 .i64 .i64 _ _ n rfl rfl rfl rfl (by rw [hb3]; omega) (by unfold maxLen; omega) (by rw [h1.size]; omega) ?_; rw [h1.size]; intro w2 own2 gr2; have H2 : Holds w2 m (intV o) 23 := by (unfold Holds; rw [gr2.block m (by rw [h1.size]; omega) (by simp)]; exact h1.holds))
    | (refine wpList_load_all rfl 23 _ rfl _ rfl 23 (intV o) 8 3 H2 und23 (by rw [siz23, intV_len, HO.out]) ?_))
  have hR := made_holds own2
  have hB2 : Below m w w2 := h1.below.trans ⟨gr2.os, gr2.tape, gr2.output, gr2.size, fun k hk => gr2.block k (by rw [h1.size]; omega) (by simp)⟩
  have hsz2 : m + 1 < w2.heap.size := hR.lt
  have HB2 : Hid (Below m w w2) := hB2
  have HR : Hid (Holds w2 (m + 1) (intV (tallyI n ((o.take 0).map (findI M)))) 3) := by
    have : tallyI n ((o.take 0).map (findI M)) = List.replicate n 0 := by
      unfold tallyI
      simp [List.map_const']
    show Holds _ _ _ _
    rw [this]; exact hR
  clear hR own2 gr2 h1 H2 hB2
  go_loopw [14] (fun c wr => ∃ k : Nat, k ≤ 8 ∧ c = .int .i64 (k : Int) ∧ Holds wr (m + 1) (intV (tallyI n ((o.take k).map (findI M)))) 3 ∧ Below (m + 1) w2 wr) (fun c _ => 8 - (intOf c).toNat)
  case atStart => exact ⟨0, by omega, rfl, HR.out, Below.refl _ _⟩
  case round =>
  clear HR
  obtain ⟨k, hk, rfl, hh, hBe⟩ := hrel
  by_cases hlt : k < 8
  · have hix := HI.out k hlt
    have hstep : (o.take (k + 1)).map (findI M) = (o.take k).map (findI M) ++ [findI M (o.getD k 0)] := by
      rw [List.take_add_one, getD_at o k (by rw [HO.out]; exact hlt), List.map_append]; rfl
    have hlen : ((o.take k).map (findI M)).length ≤ 8 := by simp; omega
    generalize o.getD k 0 = x at hix hstep
    generalize (o.take k).map (findI M) = S at hh hstep hlen
    have i0 : (0 : Int) ≤ (k : Int) := by omega
    have i1 : (k : Int) < 8 := by omega
    have hb : Below m w wr := HB2.out.trans (hBe.mono (by omega))
    have HBe : Hid (Below (m + 1) w2 wr) := hBe
    cases hf : findI M x with
    | some i =>
      obtain ⟨hi, -, -, -⟩ := findI_some HM.out hf
      rw [HL.out] at hi
      have hC : Hid (Calls Try.prog 37 #[.slice a n cap, .int .i64 x] wr fun e w' => e = .returned (.tuple #[.int .i64 (i : Int), .bool true]) ∧ ∃ q, w' = wr.drewN q) := HS.out wr x i hb hf
      rw [hf] at hstep
      have hst : Hid (tallyI n ((o.take (k + 1)).map (findI M)) = (tallyI n S).set i ((tallyI n S).getD i 0 + 1)) := by
        show _ = _
        rw [hstep, tallyI_some n S i hi]
      obtain ⟨y0, y1⟩ := tallyI_le n S i
      have hcell : ∀ q, (wr.drewN q).cell? ⟨m + 1, i, none⟩ = some (.int .i64 ((tallyI n S).getD i 0)) := fun q => (hh.drewN q).at i _ (intV_at _ i (by rw [tallyI_len]; exact hi))
      have hfr : ∀ q, (wr.drewN q).frozen? ⟨m + 1, i, none⟩ = false := fun q => (hh.drewN q).frozen i
      generalize (tallyI n S).getD i 0 = y at hst y0 y1 hcell
      have y2 : y ≤ 8 := by omega
      have HH : Hid (Holds wr (m + 1) (intV (tallyI n S)) 3) := hh
      have j0 : (0 : Int) ≤ (i : Int) := by omega
      have j1 : (i : Int) < (n : Int) := by omega
      clear hf hstep hh hBe hb y1
      go_wp2_with (go_at_call 37; refine hC.out.mono ?_; rintro e w3 ⟨rfl, q, rfl⟩; have hcq := hcell q; have hfq := hfr q; clear hcell hfr)
      refine ⟨⟨k + 1, by omega, by go_num, ?_, ?_⟩, by simp [intOf]; omega⟩
      · rw [hst.out, ← intV_set]
        exact (HH.out.drewN q).set i _
      · have := (turned_set (HH.out.drewN q) i (.int .i64 (y + 1))).below (B := m + 1) (by omega)
        exact (HBe.out.trans (below_drewN _ _ q)).trans this
    | none =>
      have hC : Hid (Calls Try.prog 37 #[.slice a n cap, .int .i64 x] wr fun e w' => ∃ j : Int, e = .returned (.tuple #[.int .i64 j, .bool false]) ∧ ∃ q, w' = wr.drewN q) := HN.out wr x hb hf
      rw [hf] at hstep
      have hst : Hid (tallyI n ((o.take (k + 1)).map (findI M)) = tallyI n S) := by
        show _ = _
        rw [hstep, tallyI_none n S]
      have HH : Hid (Holds wr (m + 1) (intV (tallyI n S)) 3) := hh
      clear hf hstep hh hBe hb
      go_wp2_with (go_at_call 37; refine hC.out.mono ?_; rintro e w3 ⟨j, rfl, q, rfl⟩)
      refine ⟨⟨k + 1, by omega, by go_num, ?_, ?_⟩, by simp [intOf]; omega⟩
      · rw [hst.out]
        exact HH.out.drewN q
      · exact HBe.out.trans (below_drewN _ _ q)
  · have e8 : k = 8 := by omega
    subst e8
    rw [List.take_of_length_le (by rw [HO.out]; omega)] at hh
    have HH : Hid (Holds wr (m + 1) (intV (tallyI n (o.map (findI M)))) 3) := hh
    have HBe : Hid (Below (m + 1) w2 wr) := hBe
    clear hh hBe
    go_wp2
    go_ret
    exact ⟨_, rfl, by omega, HH.out, HB2.out.trans (HBe.out.mono (by omega))⟩
end Go.Proofs.Ytlliijodilnlgaa
