/- What package ring's keep answers. -/
import Derived.Test.YtlliijodilnlgaaRgShare
import Derived.Test.YtlliijodilnlgaaRgKeepP
namespace Go.Proofs.Ytlliijodilnlgaa
open Go.RowKit

/-- What is told of the world behind a call that turns blocks of L alone. -/
structure TUpd (L : Nat → Prop) (w w' : World) : Prop where
  os : w'.os = w.os
  tape : w'.tape = w.tape
  output : w'.output = w.output
  size : w.heap.size ≤ w'.heap.size
  block : ∀ k, k < w.heap.size → ¬ L k → w'.heap[k]? = w.heap[k]?
theorem TUpd.refl (L : Nat → Prop) (w : World) : TUpd L w w := ⟨rfl, rfl, rfl, Nat.le_refl _, fun _ _ _ => rfl⟩
theorem TUpd.trans {L : Nat → Prop} {x y z : World} (h : TUpd L x y) (k : TUpd L y z) : TUpd L x z :=
  ⟨k.os.trans h.os, k.tape.trans h.tape, k.output.trans h.output, Nat.le_trans h.size k.size, fun i hi hb => (k.block i (Nat.lt_of_lt_of_le hi h.size) hb).trans (h.block i hi hb)⟩
theorem TUpd.ofUpd {L : Nat → Prop} {b : Nat} {x y : World} (h : Upd b x y) (hb : L b) : TUpd L x y := ⟨h.os, h.tape, h.output, h.size, fun k hk hl => h.block k hk (fun e => hl (e ▸ hb))⟩
theorem TUpd.setCell {L : Nat → Prop} {b : Nat} {x y : World} (h : TUpd L x y) (hb : L b) (i : Nat) (v : Value) : TUpd L x (y.setCell ⟨b, i, none⟩ v) := h.trans (TUpd.ofUpd ((Upd.refl b y).setCell i v) hb)
theorem TUpd.drewN {L : Nat → Prop} {x y : World} (h : TUpd L x y) (q : Nat) : TUpd L x (y.drewN q) := by
  have hb := below_drewN y.heap.size y q
  exact h.trans ⟨hb.os, hb.tape, hb.output, hb.size, fun k hk _ => hb.block k hk⟩
theorem TUpd.below {L : Nat → Prop} {B : Nat} {x y : World} (h : TUpd L x y) (hs : B ≤ x.heap.size) (hl : ∀ k, k < B → ¬ L k) : Below B x y :=
  ⟨h.os, h.tape, h.output, h.size, fun k hk => h.block k (by omega) (hl k hk)⟩
theorem Holds.tupd {L : Nat → Prop} {w w' : World} {b : Nat} {cs : List Value} {t : TypeId} (h : Holds w b cs t) (hu : TUpd L w w') (hl : ¬ L b) : Holds w' b cs t := by
  unfold Holds
  rw [hu.block b h.lt hl]; exact h
theorem zero23 (w : World) : (zeroValue 23).run Try.prog w = .ok (.agg (intV (List.replicate 8 0)).toArray) w := Try.zeroValue23 w

set_option maxHeartbeats 2000000 in
theorem keep_any (B : Nat) (o : List Int) (ho : o.length = 8) (v : Value) (M : List Int) (hM : M.Pairwise (· < ·)) (hl : M.length ≤ 17592186043904) (g : Nat) (room : List Int) (hr : room.length = M.length) (hr8 : R8 room) (w : World) (hv : Ints B w v M) (hB : B ≤ w.heap.size) (hBg : B ≤ g) (hg : Holds w g (intV room) 3) :
    Calls Try.prog 23 #[.agg (intV o).toArray, v, .slice (some ⟨g, 0, none⟩) M.length M.length] w fun e w' => e = .returned (.agg (intV (keptV M (keepI (o.map (findI M)) room).1)).toArray) ∧ Holds w' g (intV (keepI (o.map (findI M)) room).2) 3 ∧ Upd g w w' := by
  obtain ⟨N, hN⟩ : ∃ N, w.heap.size = N := ⟨_, rfl⟩
  have hgN : g < N := by rw [← hN]; exact hg.lt
  rw [hN] at hB
  have HS : Hid (∀ W x i, Below B w W → findI M x = some i → Calls Try.prog 37 #[v, .int .i64 x] W fun e w' => e = .returned (.tuple #[.int .i64 (i : Int), .bool true]) ∧ ∃ q, w' = W.drewN q) := fun W x i hW hf => search_some B W v M x i (hv.below hW) hM (by omega) hf
  have HN : Hid (∀ W x, Below B w W → findI M x = none → Calls Try.prog 37 #[v, .int .i64 x] W fun e w' => ∃ j : Int, e = .returned (.tuple #[.int .i64 j, .bool false]) ∧ ∃ q, w' = W.drewN q) := fun W x hW hf => search_none B W v M x (hv.below hW) hM (by omega) hf
  have HI : Hid (∀ k : Nat, k < 8 → ∀ W, (Instr.index 23 (.agg (intV o).toArray) (.int .i64 (k : Int))).run Try.prog W = .ok (.int .i64 (o.getD k 0)) W) := fun k hk W => index_own o ho k hk W
  have HM : Hid (M.Pairwise (· < ·)) := hM
  have HO : Hid (o.length = 8) := ho
  have HG : Hid (Holds w g (intV room) 3) := hg
  have hF : ∀ k, ((o.take k).map (findI M)).length = min k 8 ∧ ∀ i, some i ∈ (o.take k).map (findI M) → i < M.length := fun k => by
    refine ⟨by simp [ho], fun i hi => ?_⟩
    obtain ⟨x, _, hx⟩ := List.mem_map.1 hi
    exact (findI_some hM hx).1
  have HK : Hid (∀ k, k ≤ 8 → (((o.take k).map (findI M)).foldl keepS ([], room)).1.length = k ∧ (((o.take k).map (findI M)).foldl keepS ([], room)).2.length = M.length ∧ R8 (((o.take k).map (findI M)).foldl keepS ([], room)).2) := fun k hk => by
    obtain ⟨a1, a2, a3, _⟩ := keepI_facts M.length ((o.take k).map (findI M)) ([], room) (hF k).2 hr hr8 (fun i hi => by simp at hi)
    refine ⟨?_, a2, a3⟩
    rw [a1, (hF k).1, Nat.min_eq_left hk]
    simp
  obtain ⟨a, cap, rfl⟩ := hv.len
  obtain ⟨n, hn⟩ : ∃ n, M.length = n := ⟨_, rfl⟩
  have HL : Hid (M.length = n) := hn
  rw [hn] at hl HS HN HK ⊢
  clear hn hv hM ho hr hr8 hF hg
  go_enter Try.func23, Try.ntmps23
  go_wp2_with (first
    | (refine wpList_box_new 3 rfl rfl 23 _ rfl N hN _ rfl ?_; intro w1 h1)
    | (refine wpList_alloc_new 6 rfl rfl 23 rfl (N + 1) h1.size _ zero23 ?_; intro w2 h2)
    | (refine wpList_alloc_new 7 rfl rfl 23 rfl (N + 2) h2.size _ zero23 ?_; intro w3 h3; have H13 := (h1.holds.below h2.below (by omega)).below h3.below (by omega))
    | (refine wpList_load_all rfl 23 _ rfl _ rfl 23 (intV o) 8 3 H13 und23 (by rw [siz23, intV_len, HO.out]) ?_))
  have B3 : Below N w w3 := (h1.below.trans (h2.below.mono (by omega))).trans (h3.below.mono (by omega))
  have HB3 : Hid (Below N w w3) := B3
  have HG3 : Hid (Holds w3 g (intV (((o.take 0).map (findI M)).foldl keepS ([], room)).2) 3) := HG.out.below B3 hgN
  have HK3 : Hid (Holds w3 (N + 2) (intV (keptV M (((o.take 0).map (findI M)).foldl keepS ([], room)).1 ++ List.replicate (8 - 0) 0)) 23) := h3.holds
  have HR3 : Hid (Holds w3 (N + 1) (intV (List.replicate 8 0)) 23) := h2.holds.below h3.below (by omega)
  have hz3 : w3.heap.size = N + 3 := h3.size
  clear B3 h1 h2 h3 H13
  go_loopw [13] (fun c wr => ∃ k : Nat, k ≤ 8 ∧ c = .int .i64 (k : Int) ∧ Holds wr g (intV (((o.take k).map (findI M)).foldl keepS ([], room)).2) 3 ∧ Holds wr (N + 2) (intV (keptV M (((o.take k).map (findI M)).foldl keepS ([], room)).1 ++ List.replicate (8 - k) 0)) 23 ∧ TUpd (fun i => i = g ∨ i = N + 2) w3 wr) (fun c _ => 8 - (intOf c).toNat)
  case atStart => exact ⟨0, by omega, rfl, HG3.out, HK3.out, TUpd.refl _ _⟩
  case round =>
  clear HG3 HK3
  obtain ⟨k, hk, rfl, hh, hkp, hU⟩ := hrel
  by_cases hlt : k < 8
  · have hix := HI.out k hlt
    have hstep : (o.take (k + 1)).map (findI M) = (o.take k).map (findI M) ++ [findI M (o.getD k 0)] := by
      rw [List.take_add_one, getD_at o k (by rw [HO.out]; exact hlt), List.map_append]; rfl
    obtain ⟨f1, f2, f3⟩ := HK.out k hk
    have hfold : ((o.take (k + 1)).map (findI M)).foldl keepS ([], room) = keepS (((o.take k).map (findI M)).foldl keepS ([], room)) (findI M (o.getD k 0)) := by
      rw [hstep, List.foldl_append]; rfl
    generalize o.getD k 0 = x at hix hfold
    generalize ((o.take k).map (findI M)).foldl keepS ([], room) = S at hh hkp hfold f1 f2 f3
    obtain ⟨K, R⟩ := S
    replace hh : Holds wr g (intV R) 3 := hh
    replace hkp : Holds wr (N + 2) (intV (keptV M K ++ List.replicate (8 - k) 0)) 23 := hkp
    replace f1 : K.length = k := f1
    replace f2 : R.length = n := f2
    replace f3 : R8 R := f3
    have i0 : (0 : Int) ≤ (k : Int) := by omega
    have i1 : (k : Int) < 8 := by omega
    have hb : Below B w wr := (HB3.out.mono hB).trans (hU.below (by omega) (fun i hi q => by omega))
    have HU : Hid (TUpd (fun i => i = g ∨ i = N + 2) w3 wr) := hU
    have HH : Hid (Holds wr g (intV R) 3) := hh
    have HKP : Hid (Holds wr (N + 2) (intV (keptV M K ++ List.replicate (8 - k) 0)) 23) := hkp
    cases hf : findI M x with
    | some i =>
      obtain ⟨hi, hMi, -, -⟩ := findI_some HM.out hf
      rw [HL.out] at hi
      have hC : Hid (Calls Try.prog 37 #[.slice a n cap, .int .i64 x] wr fun e w' => e = .returned (.tuple #[.int .i64 (i : Int), .bool true]) ∧ ∃ q, w' = wr.drewN q) := HS.out wr x i hb hf
      rw [hf] at hfold
      obtain ⟨y0, y1⟩ := f3 i
      have hcell : ∀ q, (wr.drewN q).cell? ⟨g, i, none⟩ = some (.int .i64 (R.getD i 0)) := fun q => (hh.drewN q).at i _ (intV_at _ i (by omega))
      have hfr : ∀ q, (wr.drewN q).frozen? ⟨g, i, none⟩ = false := fun q => (hh.drewN q).frozen i
      have kl : k < (keptV M K ++ List.replicate (8 - k) (0 : Int)).length := by rw [List.length_append, keptV_len, f1, List.length_replicate]; omega
      have kcell : ∀ q, (wr.drewN q).cell? ⟨N + 2, k, none⟩ = some (.int .i64 ((keptV M K ++ List.replicate (8 - k) 0).getD k 0)) := fun q => (hkp.drewN q).at k _ (intV_at _ k kl)
      have kfr : ∀ q, (wr.drewN q).frozen? ⟨N + 2, k, none⟩ = false := fun q => (hkp.drewN q).frozen k
      have j0 : (0 : Int) ≤ (i : Int) := by omega
      have j1 : (i : Int) < (n : Int) := by omega
      have hne : g ≠ N + 2 := by omega
      by_cases hy : 0 < R.getD i 0
      · have hst : Hid (((o.take (k + 1)).map (findI M)).foldl keepS ([], room) = (K ++ [some i], R.set i (R.getD i 0 - 1))) := by
          show _ = _
          rw [hfold, keepS]; dsimp only; rw [if_pos hy]
        have hkst : Hid (keptV M (K ++ [some i]) ++ List.replicate (8 - (k + 1)) 0 = (keptV M K ++ List.replicate (8 - k) 0).set k x) := kept_some M K i x k hlt f1 hMi
        generalize R.getD i 0 = y at hst y0 y1 hcell hy
        generalize (keptV M K ++ List.replicate (8 - k) 0).getD k 0 = z at kcell
        clear hf hfold hh hkp hU hb hMi f1 f2 f3 kl hstep
        go_wp2_with (go_at_call 37; refine hC.out.mono ?_; rintro e w4 ⟨rfl, q, rfl⟩; have hcq := hcell q; have hfq := hfr q; have kcq := kcell q; have kfq := kfr q; clear hcell hfr kcell kfr)
        refine ⟨⟨k + 1, by omega, by go_num, ?_, ?_, ?_⟩, by simp [intOf]; omega⟩
        · rw [hst.out, ← intV_set]
          exact ((HH.out.drewN q).setOther _ _ _ hne).set i _
        · rw [hst.out, hkst.out, ← intV_set]
          exact ((HKP.out.drewN q).set k _).setOther _ _ _ (fun e => hne e.symm)
        · exact ((HU.out.drewN q).setCell (Or.inr rfl) _ _).setCell (Or.inl rfl) _ _
      · have hst : Hid (((o.take (k + 1)).map (findI M)).foldl keepS ([], room) = (K ++ [none], R)) := by
          show _ = _
          rw [hfold, keepS]; dsimp only; rw [if_neg hy]
        have hkst : Hid (keptV M (K ++ [none]) ++ List.replicate (8 - (k + 1)) 0 = keptV M K ++ List.replicate (8 - k) 0) := kept_none M K k hlt
        generalize R.getD i 0 = y at hst y0 y1 hcell hy
        clear hf hfold hh hkp hU hb hMi f1 f2 f3 kl hstep kcell kfr
        go_wp2_with (go_at_call 37; refine hC.out.mono ?_; rintro e w4 ⟨rfl, q, rfl⟩; have hcq := hcell q; have hfq := hfr q; clear hcell hfr)
        refine ⟨⟨k + 1, by omega, by go_num, ?_, ?_, ?_⟩, by simp [intOf]; omega⟩
        · rw [hst.out]; exact HH.out.drewN q
        · rw [hst.out, hkst.out]; exact HKP.out.drewN q
        · exact HU.out.drewN q
    | none =>
      have hC : Hid (Calls Try.prog 37 #[.slice a n cap, .int .i64 x] wr fun e w' => ∃ j : Int, e = .returned (.tuple #[.int .i64 j, .bool false]) ∧ ∃ q, w' = wr.drewN q) := HN.out wr x hb hf
      rw [hf] at hfold
      have hst : Hid (((o.take (k + 1)).map (findI M)).foldl keepS ([], room) = (K ++ [none], R)) := by
        show _ = _
        rw [hfold, keepS]
      have hkst : Hid (keptV M (K ++ [none]) ++ List.replicate (8 - (k + 1)) 0 = keptV M K ++ List.replicate (8 - k) 0) := kept_none M K k hlt
      clear hf hfold hh hkp hU hb f1 f2 f3 hstep
      go_wp2_with (go_at_call 37; refine hC.out.mono ?_; rintro e w4 ⟨j, rfl, q, rfl⟩)
      refine ⟨⟨k + 1, by omega, by go_num, ?_, ?_, ?_⟩, by simp [intOf]; omega⟩
      · rw [hst.out]; exact HH.out.drewN q
      · rw [hst.out, hkst.out]; exact HKP.out.drewN q
      · exact HU.out.drewN q
  · have e8 : k = 8 := by omega
    subst e8
    have h1 : (keepI (o.map (findI M)) room).1.length = 8 := by
      have := (HK.out 8 (by omega)).1
      rw [List.take_of_length_le (by rw [HO.out]; omega)] at this
      exact this
    rw [List.take_of_length_le (by rw [HO.out]; omega), Nat.sub_self, List.replicate_zero, List.append_nil] at hkp
    rw [List.take_of_length_le (by rw [HO.out]; omega)] at hh
    replace hkp : Holds wr (N + 2) (intV (keptV M (keepI (o.map (findI M)) room).1)) 23 := hkp
    replace hh : Holds wr g (intV (keepI (o.map (findI M)) room).2) 3 := hh
    generalize hKK : keepI (o.map (findI M)) room = KK at hkp hh h1
    have HKK : Hid (keepI (o.map (findI M)) room = KK) := hKK
    clear hKK
    have hres := HR3.out.tupd hU (by omega)
    have HU : Hid (TUpd (fun i => i = g ∨ i = N + 2) w3 wr) := hU
    have HH : Hid (Holds wr g (intV KK.2) 3) := hh
    have hlen : (intV (keptV M KK.1)).length = 8 := by rw [intV_len, keptV_len, h1]
    clear hU hh
    go_wp2_with (first
      | (refine wpList_load_all rfl 23 _ rfl _ rfl 23 (intV (keptV M KK.1)) 8 3 hkp und23 (by rw [siz23, hlen]) ?_)
      | (refine wpList_store_all rfl 23 (.tmp 6) (.tmp 41) rfl (N + 1) rfl (intV (keptV M KK.1)) rfl 23 _ hres (by rw [siz23, hlen]) (by rw [hlen, intV_len]; rfl) (intV_one _) ?_; intro w5 h5))
    refine bodyPost_ret (results_cell_row (p := 6) (by kernel_rfl) _ w5 (N + 1) 23 (intV (keptV M KK.1)).toArray (0, 0) _ rfl h5.holds und23 rfl (by rw [siz23, List.size_toArray, hlen])) rfl ⟨by rw [HKK.out], ?_, ?_⟩
    · rw [HKK.out]
      unfold Holds
      rw [h5.others g (by omega)]; exact HH.out
    · refine ⟨h5.os.trans (HU.out.os.trans HB3.out.os), h5.tape.trans (HU.out.tape.trans HB3.out.tape), h5.output.trans (HU.out.output.trans HB3.out.output), ?_, fun i hi hne => ?_⟩
      · rw [h5.size]; exact Nat.le_trans HB3.out.size HU.out.size
      · rw [h5.others i (by omega), HU.out.block i (by omega) (fun q => by rcases q with q | q <;> omega), HB3.out.block i (by omega)]
end Go.Proofs.Ytlliijodilnlgaa
