/- QuorumStays (5), walked from where its targets are cut, variant B. (By tools/gen_qmstay.py.) -/
import Derived.Test.YtmhpfncbbboamaaGreatQmStayC
namespace Go.Proofs.YtmhpfncbbboamaaGreat
open Go.RowKit Go.Maps

theorem Hid.mkSB {q : Prop} (h : q) : Hid q := h
theorem siz60B : (Tryz.prog.info? 60).map (·.size) = some 6 := by kernel_rfl
set_option maxRecDepth 100000 in
set_option maxHeartbeats 8000000 in
theorem stay_tailB (s19 s20 s21 s22 s23 v1 : Value) (tn tc sn sc g4 m : Nat) (ta sa : Option Addr) (ts : List (Int × Int)) (os : List Opq) (a p : Int) (w W : World) (htl : ts.length = tn) (htn : tn ≤ 1000) (ht64 : ∀ q ∈ ts, I64 q.1) (hol : os.length = m) (hm : m = 60) (hm6 : 60 < sn) (hsn : sn ≤ 9223372036854775807) (hok : ∀ o ∈ os, okO o)
    (bT : TgAt w.heap.size W (.slice ta tn tc) ts) (bS : OpAt w.heap.size W sa os) (h4 : Holds W g4 [.int .i64 a, .int .i64 p] 57) (hW : Gr w W) :
    sTail.wp Tryz.prog (bodyPost Tryz.prog Tryz.f5 fun e w' => e = .returned (.bool true) ∧ Gr w w') ⟨#[.slice ta tn tc, v1, .slice sa sn sc, undef, .pointer (some ⟨g4, 0, none⟩), undef, .bool false, .bool true, undef, undef, undef, undef, undef, undef, undef, undef, undef, undef, .bool true, s19, s20, s21, s22, s23, undef, undef, undef, undef, undef, undef, undef, undef, undef, undef, undef, undef, undef, undef, undef, undef, undef, undef, undef, undef, undef, undef, undef, undef, undef, undef, undef, undef, undef, undef, undef, undef, undef, undef, undef, undef, undef, undef, undef, undef, undef, undef, undef, undef, undef, undef, undef, undef, undef, undef, undef, undef, undef, undef, undef, undef, undef, undef, undef, undef, undef, undef, undef, undef, undef, undef, undef, undef, undef, undef, undef, undef, undef, undef, undef, undef, undef, undef, undef, undef, undef, undef, undef, undef, undef, undef, undef, undef, undef, undef, undef, undef, undef, undef, undef, undef, undef, undef, undef, undef, undef, undef, undef, undef, undef, undef, undef, undef, undef, undef, undef, undef, undef, undef, undef, undef, undef, undef, undef], []⟩ W := by
  obtain ⟨j0, hj0, hz0, hsz0, hby0⟩ := info60x
  have F0 : Hid (Tryz.prog.info? 60 = some j0) := hj0
  obtain ⟨B, hB⟩ : ∃ B, W.heap.size = B := ⟨_, rfl⟩
  have HB : Hid (W.heap.size = B) := hB
  have HW : Hid (Gr w W) := hW
  have hwB : w.heap.size ≤ B := by rw [← hB]; exact hW.size
  have HwB : Hid (w.heap.size ≤ B) := hwB
  have hlo : Below B W W := Below.refl _ _
  have hNew : Hid (Calls Tryz.prog 15 #[.slice ta tn tc, .int .i64 a, .int .i64 p] W fun e w' => ∃ b1, e = .returned (.pointer (some ⟨b1, 0, none⟩)) ∧ Hid (Below B W w' ∧ ∀ b, Calls Tryz.prog 15 #[.slice ta tn tc, .int .i64 a, .int .i64 p] w' fun e w2 => b = b1 → ∃ b2, e = .returned (.pointer (some ⟨b2, 0, none⟩)) ∧ Hid (SSt B w2.heap.size a p w2 b1 b2 (seats ts) (seats ts) ∧ Below B W w2))) := sst_made (by omega) ht64 hlo (by omega) (bT.mono hW.size)
  have H4 : Hid (∀ w', Below B W w' → w'.cell? ⟨g4, 0, none⟩ = some (.int .i64 a) ∧ w'.cell? ⟨g4, 1, none⟩ = some (.int .i64 p)) := fun w' hb => by
    have := h4.below hb (by rw [← hB]; exact h4.lt)
    exact ⟨this.at 0 _ rfl, this.at 1 _ rfl⟩
  obtain ⟨q0, q1⟩ := H4.out W hlo
  have BS : Hid (OpAt w.heap.size W sa os) := bS
  have HOK : Hid (∀ o ∈ os, okO o) := hok
  have HOL : Hid (os.length = m) := hol
  obtain ⟨SS, hSS⟩ : ∃ SS, seats ts = SS := ⟨_, rfl⟩
  have HRF : Hid (runO (firsts os).reverse SS = runO os SS) := hSS ▸ run_firsts os
  have HON : Hid (Once SS) := hSS ▸ seats_once ts
  rw [hSS] at hNew
  clear hj0 hB hW h4 bT bS hok hol hlo hwB ht64 htl hSS
  unfold sTail
  go_upto_region 8 with (first
    | (go_at_call 15; refine hNew.out.mono ?_; rintro e w5 ⟨b1, rfl, h5⟩; have q2 := (H4.out w5 h5.out.1).1; have q3 := (H4.out w5 h5.out.1).2; clear hNew q0 q1)
    | (go_at_call 15; refine (h5.out.2 b1).mono ?_; rintro e w6 h6; obtain ⟨b2, rfl, h7⟩ := h6 rfl; clear h6 h5 q2 q3))
  obtain ⟨B2, hB2⟩ : ∃ B2, w6.heap.size = B2 := ⟨_, rfl⟩
  have HB2 : Hid (w6.heap.size = B2) := hB2
  have h7' : Hid (SSt B B2 a p w6 b1 b2 SS SS ∧ Below B W w6) := hB2 ▸ h7.out
  have hV : Hid (Calls Tryz.prog 9 #[.pointer (some ⟨b1, 0, none⟩)] w6 fun e w' => e = .returned (.int .i64 (verd a p SS : Int)) ∧ Hid (SSt B B2 a p w' b1 b2 SS SS ∧ Below B W w' ∧ B2 ≤ w'.heap.size)) := (h7'.out.1.ver1).mono fun e w' ⟨e1, e2, e3⟩ => ⟨e1, e2, h7'.out.2.trans (Below.mono e3 (by have := h7'.out.2.size; rw [← HB.out]; exact this)), by rw [← HB2.out]; exact e3.size⟩
  have HBB : Hid (B ≤ B2) := by show B ≤ B2; rw [← HB2.out, ← HB.out]; exact h7'.out.2.size
  clear h7 h7' hB2
  go_wp2_with (go_at_call 9; refine hV.out.mono ?_; rintro e w7 ⟨rfl, h7⟩; clear hV)
  go_loopw [10, 11, 12] (fun c10 v c wr => ∃ i : Nat, c = .int .i64 (i : Int) ∧ i ≤ m ∧ c10 = .int .i64 (verd a p (runO (os.take i) SS) : Int) ∧ Hid (SSt B B2 a p wr b1 b2 (runO (os.take i) SS) SS ∧ wr.ownsRow B2 60 6 v (firsts (os.take i)).length (opF (firsts (os.take i))) ∧ Below B W wr ∧ B2 ≤ wr.heap.size)) (fun _ _ c _ => m - (intOf c).toNat)
  case atStart => exact ⟨0, rfl, Nat.zero_le _, rfl, h7.out.1, ⟨rfl, .inl ⟨rfl, rfl⟩⟩, h7.out.2.1, h7.out.2.2⟩
  case round =>
    obtain ⟨i, rfl, hi, rfl, hRel⟩ := hrel
    by_cases hlt : i < m
    · have hil : i < os.length := by rw [HOL.out]; exact hlt
      obtain ⟨o, ho⟩ : ∃ o, os[i]? = some o := ⟨_, List.getElem?_eq_getElem hil⟩
      have hoko : okO o := HOK.out o (List.mem_of_getElem? ho)
      obtain ⟨g, q, rfl, hc⟩ := (BS.out.below (hRel.out.2.2.1.mono HwB.out)).cell i o ho
      have r0 : wr.cell? ⟨g, q + i * 6, none⟩ = some (.int .i64 o.kind) := hc 0 _ rfl
      have r1 : wr.cell? ⟨g, q + i * 6 + 1, none⟩ = some (.int .i64 o.node) := hc 1 _ rfl
      have r2 : wr.cell? ⟨g, q + i * 6 + 2, none⟩ = some o.c2 := hc 2 _ rfl
      have r3 : wr.cell? ⟨g, q + i * 6 + 3, none⟩ = some o.c3 := hc 3 _ rfl
      have r4 : wr.cell? ⟨g, q + i * 6 + 4, none⟩ = some o.c4 := hc 4 _ rfl
      have r5 : wr.cell? ⟨g, q + i * 6 + 5, none⟩ = some o.c5 := hc 5 _ rfl
      have htk : os.take (i + 1) = os.take i ++ [o] := by
        rw [take_snoc os i hil]
        rw [List.getElem?_eq_getElem hil] at ho
        rw [Option.some.inj ho]
      have eA : Hid (runO (os.take (i + 1)) SS = sayO (runO (os.take i) SS) o) := by show runO _ _ = _; rw [htk, runO_snoc]
      have eF : Hid (firsts (os.take (i + 1)) = stepF (firsts (os.take i)) o) := by show firsts _ = _; rw [htk, firsts_snoc]
      have hst : Hid (verd a p (runO (os.take i) SS) ≠ 0 → verd a p (sayO (runO (os.take i) SS) o) = verd a p (runO (os.take i) SS)) := fun hne => verd_stays (runO_once HON.out _) _ (ansK_12 _) _ hne
      have hfl : (firsts (os.take i)).length ≤ i := firsts_len _ i (by rw [List.length_take]; omega)
      obtain ⟨ax, cx, rfl⟩ := row_slice hRel.out.2.1
      generalize runO (os.take i) SS = A at *
      generalize firsts (os.take i) = F at *
      generalize hff : F.length = f at *
      have HFF : Hid (F.length = f) := hff
      have hi60 : i < 60 := by omega
      have hisn : i < sn := by omega
      obtain ⟨X, hX⟩ : ∃ X, wr.heap.size = X := ⟨_, rfl⟩
      have HX : Hid (wr.heap.size = X) := hX
      have HZ : Hid (Holds (wr.alloc (.cells #[.int .i64 0, .int .i64 0, .int .i64 0, .slice none 0 0, .slice none 0 0, .slice none 0 0] 60)) wr.heap.size [.int .i64 0, .int .i64 0, .int .i64 0, .slice none 0 0, .slice none 0 0, .slice none 0 0] 60) := holds_new wr _ 60
      have HR : Hid (SSt B B2 a p wr b1 b2 A SS ∧ wr.ownsRow B2 60 6 (.slice ax f cx) f (opF F) ∧ Below B W wr ∧ B2 ≤ wr.heap.size) := hRel
      have HOKO : Hid (okO o) := hoko
      have HOB : Hid (∀ g', (Value.slice ax f cx).ownBlock = some g' → g' < X ∧ B2 ≤ g') := fun g' hg' => by
        have hr0 := HR.out.2.1
        refine ⟨by rw [← HX.out]; exact owns_lt hr0 hg', ?_⟩
        obtain ⟨_, ⟨e0, _⟩ | ⟨g2, cap2, cur2, e0, hb2, _⟩⟩ := hr0
        · rw [e0] at hg'; cases hg'
        · rw [e0] at hg'
          have : g2 = g' := Option.some.inj hg'
          omega
      clear hRel hc ho htk hff hX hoko
      go_upto_region 14 with (refine wpList_store_all rfl 60 _ _ rfl wr.heap.size rfl (opC o) rfl 60 _ HZ.out siz60B rfl HOKO.out.2.2 ?_; intro W8 t8)
      have H8 : Hid (Holds W8 X (opC o) 60 ∧ Gr wr W8) := by
        refine ⟨HX.out ▸ t8.holds, ?_⟩
        exact Below.trans (al1 (w := wr) (o := .cells #[.int .i64 0, .int .i64 0, .int .i64 0, .slice none 0 0, .slice none 0 0, .slice none 0 0] 60)) (t8.below (Nat.le_refl _))
      rw [HX.out]
      clear t8 HZ r0 r1 r2 r3 r4 r5
      have hXX : X < W8.heap.size := H8.out.1.lt
      have HSt : Hid (SSt B B2 a p W8 b1 b2 A SS ∧ W8.ownsRow B2 60 6 (.slice ax f cx) f (opF F) ∧ Below B W W8 ∧ B2 ≤ W8.heap.size) := ⟨HR.out.1.gr H8.out.2, owns_same HR.out.2.1 fun g' hg' => Below.block H8.out.2 g' (owns_lt HR.out.2.1 hg'), HR.out.2.2.1.trans (Below.mono H8.out.2 (by have := HR.out.2.2.2; have := HBB.out; omega)), Nat.le_trans HR.out.2.2.2 H8.out.2.size⟩
      have HXo : Hid (Holds W8 X (opC o) 60) := H8.out.1
      clear H8 HR
      go_wp2
      go_loopw [14, 15] (fun c14 c15 wq => ∃ k : Nat, c15 = .int .i64 (k : Int) ∧ k ≤ f ∧ c14 = .bool (hasO (F.take k) o.node) ∧ Hid (Gr W8 wq)) (fun _ c _ => f - (intOf c).toNat)
      case atStart => exact ⟨0, rfl, Nat.zero_le _, rfl, Gr.refl W8⟩
      case round =>
        obtain ⟨k, rfl, hk, rfl, hG⟩ := hrel
        by_cases hkf : k < f
        · have hkF : k < F.length := by rw [HFF.out]; exact hkf
          obtain ⟨y, hy⟩ : ∃ y, F[k]? = some y := ⟨_, List.getElem?_eq_getElem hkF⟩
          have hrow := HSt.out.2.1
          rw [← HFF.out] at hrow
          obtain ⟨fg, fcap, fcs, ev, hfb, hfH, hfc⟩ := row_op hrow k y hy
          obtain ⟨rfl, _, _⟩ := Value.slice.inj ev
          have e1 : wr.cell? ⟨fg, k * 6 + 1, none⟩ = some (.int .i64 y.node) := (hfH.below hG.out hfH.lt).at _ _ (hfc 1 _ rfl)
          have e2 : wr.cell? ⟨X, 1, none⟩ = some (.int .i64 o.node) := (HXo.out.below hG.out HXo.out.lt).at 1 _ rfl
          have hE : Hid (hasO (F.take (k + 1)) o.node = (hasO (F.take k) o.node || (y.node == o.node))) := by
            show hasO _ _ = _
            rw [take_snoc F k hkF]
            rw [List.getElem?_eq_getElem hkF] at hy
            rw [Option.some.inj hy]
            unfold hasO
            rw [List.any_append]
            have : decide (y.node = o.node) = (y.node == o.node) := by by_cases e : y.node = o.node <;> simp [e]
            simp [this]
          clear hrow hfH hfc ev hy
          generalize hasO (F.take k) o.node = bb at *
          have hq1 : Hid (∀ z, Gr wr z → z.cell? ⟨fg, k * 6 + 1, none⟩ = some (.int .i64 y.node)) := fun z hz => cell_keep e1 hz
          have hq2 : Hid (∀ z, Gr wr z → z.cell? ⟨X, 1, none⟩ = some (.int .i64 o.node)) := fun z hz => cell_keep e2 hz
          cases bb
          · go_upto_region 18 with fail
            refine r18_no rfl fg f cx k X hkf o.node y.node hq1.out hq2.out rfl rfl rfl rfl (fun zz hzz => ?_)
            simp only [putsL, List.foldl_cons, List.foldl_nil, put_lit, List.set_cons_succ, List.set_cons_zero]
            have hGz : Hid (Gr W8 zz) := hG.out.trans hzz
            clear hzz hG
            go_wp2
            exact ⟨⟨k + 1, by simp, by omega, by rw [hE.out]; rfl, hGz⟩, by simp [intOf]; omega⟩
          · go_upto_region 18 with fail
            refine r18_yes rfl rfl (fun zz u66 u67 u68 u69 u70 u71 u72 u73 hzz => ?_)
            simp only [putsL, List.foldl_cons, List.foldl_nil, put_lit, List.set_cons_succ, List.set_cons_zero]
            have hGz : Hid (Gr W8 zz) := hG.out.trans hzz
            clear hzz hG
            go_wp2
            exact ⟨⟨k + 1, by simp, by omega, by rw [hE.out]; rfl, hGz⟩, by simp [intOf]; omega⟩
        · obtain rfl : k = f := by omega
          have hall : F.take k = F := List.take_of_length_le (by rw [HFF.out]; exact Nat.le_refl _)
          rw [hall]
          have HQ : Hid (SSt B B2 a p wr b1 b2 A SS ∧ wr.ownsRow B2 60 6 (.slice ax k cx) k (opF F) ∧ Below B W wr ∧ B2 ≤ wr.heap.size) := ⟨HSt.out.1.gr hG.out, owns_same HSt.out.2.1 fun g' hg' => Below.block hG.out g' (owns_lt HSt.out.2.1 hg'), HSt.out.2.2.1.trans (Below.mono hG.out (by have := HSt.out.2.2.2; have := HBB.out; omega)), Nat.le_trans HSt.out.2.2.2 hG.out.size⟩
          have HXw : Hid (Holds wr X (opC o) 60) := HXo.out.below hG.out HXo.out.lt
          clear HSt HXo hG hall
          cases hth : hasO F o.node with
          | true =>
            have hSF : stepF F o = F := by unfold stepF; rw [hth]; rfl
            have HS : Hid (SSt B B2 a p wr b1 b2 A SS ∧ wr.ownsRow B2 60 6 (.slice ax k cx) (stepF F o).length (opF (stepF F o)) ∧ Below B W wr ∧ B2 ≤ wr.heap.size) := by
              rw [hSF, HFF.out]; exact HQ
            have HXq := HXw
            clear HQ HXw hth hSF
            have k0 : wr.cell? ⟨X, 0, none⟩ = some (.int .i64 o.kind) := HXq.out.at 0 _ rfl
            have k1 : wr.cell? ⟨X, 1, none⟩ = some (.int .i64 o.node) := HXq.out.at 1 _ rfl
            have hpv := verd_three a p A
            have hqv : Hid (verd a p (runO (os.take (i + 1)) SS) = verd a p (sayO A o)) := by show verd _ _ _ = _; rw [eA.out]
            have HV : Hid (∀ W', SSt B B2 a p W' b1 b2 (sayO A o) SS → Calls Tryz.prog 9 #[.pointer (some ⟨b1, 0, none⟩)] W' fun e w' => e = .returned (.int .i64 (verd a p (sayO A o) : Int)) ∧ Hid (SSt B B2 a p w' b1 b2 (sayO A o) SS ∧ Gr W' w')) := fun W' h => h.ver1
            have HFin : Hid (∀ w10 w11, SSt B B2 a p w11 b1 b2 (sayO A o) SS → Mid B B2 wr w10 → Gr w10 w11 → SSt B B2 a p w11 b1 b2 (runO (os.take (i + 1)) SS) SS ∧ w11.ownsRow B2 60 6 (.slice ax k cx) (firsts (os.take (i + 1))).length (opF (firsts (os.take (i + 1)))) ∧ Below B W w11 ∧ B2 ≤ w11.heap.size) := fun w10 w11 h1 h2 h3 => by
              rw [eA.out, eF.out]
              have hs := HS.out
              have hr0 := hs.2.1
              have hsz := h2.size
              have hsz2 := h3.size
              refine ⟨h1, owns_same hr0 fun g' hg' => ?_, hs.2.2.1.trans ((h2.toBelow (by have := hs.2.2.2; have := HBB.out; omega)).trans (Below.mono h3 (by have := hs.2.2.2; have := HBB.out; omega))), by have := hs.2.2.2; omega⟩
              have hgl := owns_lt hr0 hg'
              have hgb : B2 ≤ g' := by
                obtain ⟨_, ⟨e0, _⟩ | ⟨g2, cap2, cur2, e0, hb2, _⟩⟩ := hr0
                · rw [e0] at hg'; cases hg'
                · rw [e0] at hg'
                  have : g2 = g' := Option.some.inj hg'
                  omega
              exact (Below.block h3 g' (by omega)).trans (h2.block g' hgl (.inr hgb))
            have hstq := hst.out
            have YK : Hid (∀ fn, ((fn = 10 ∧ o.kind.tmod 2 = 0) ∨ (fn = 11 ∧ ¬ o.kind.tmod 2 = 0)) → Calls Tryz.prog fn #[.pointer (some ⟨b1, 0, none⟩), .slice (some ⟨wr.heap.size, 0, none⟩) 1 1] (wr.alloc (.cells #[.int .i64 o.node] 3)) fun e w' => (∃ t, e = .returned (.bool t)) ∧ Hid (SSt B B2 a p w' b1 b2 (sayO A o) SS ∧ Mid B B2 wr w')) := fun fn hfn => HS.out.1.say1 o HOKO.out fn hfn
            clear HS HXq hst
            generalize verd a p A = pv at *
            generalize verd a p (sayO A o) = qv at *
            by_cases hk2 : o.kind.tmod 2 = 0
            · have Y := Hid.mkSB (YK.out 10 (.inl ⟨rfl, hk2⟩))
              rcases hpv with rfl | rfl | rfl
              · clear hstq
                go_wp2_with (first
                  | (go_at_call 10; refine Y.out.mono ?_; rintro e w10 ⟨⟨t, rfl⟩, h10⟩; clear Y)
                  | (go_at_call 9; refine (HV.out _ h10.out.1).mono ?_; rintro e w11 ⟨rfl, h11⟩; clear HV))
                exact ⟨⟨i + 1, by simp, by omega, by rw [hqv.out], HFin.out w10 w11 h11.out.1 h10.out.2 h11.out.2⟩, by simp [intOf]; omega⟩
              · obtain rfl : qv = 1 := hstq (by decide)
                clear hstq
                go_wp2_with (first
                  | (go_at_call 10; refine Y.out.mono ?_; rintro e w10 ⟨⟨t, rfl⟩, h10⟩; clear Y)
                  | (go_at_call 9; refine (HV.out _ h10.out.1).mono ?_; rintro e w11 ⟨rfl, h11⟩; clear HV))
                exact ⟨⟨i + 1, by simp, by omega, by rw [hqv.out]; rfl, HFin.out w10 w11 h11.out.1 h10.out.2 h11.out.2⟩, by simp [intOf]; omega⟩
              · obtain rfl : qv = 2 := hstq (by decide)
                clear hstq
                go_wp2_with (first
                  | (go_at_call 10; refine Y.out.mono ?_; rintro e w10 ⟨⟨t, rfl⟩, h10⟩; clear Y)
                  | (go_at_call 9; refine (HV.out _ h10.out.1).mono ?_; rintro e w11 ⟨rfl, h11⟩; clear HV))
                exact ⟨⟨i + 1, by simp, by omega, by rw [hqv.out]; rfl, HFin.out w10 w11 h11.out.1 h10.out.2 h11.out.2⟩, by simp [intOf]; omega⟩
            · have hk3 : (o.kind.tmod 2 == 0) = false := by simpa using hk2
              have Y := Hid.mkSB (YK.out 11 (.inr ⟨rfl, hk2⟩))
              rcases hpv with rfl | rfl | rfl
              · clear hstq
                go_wp2_with (first
                  | (go_at_call 11; refine Y.out.mono ?_; rintro e w10 ⟨⟨t, rfl⟩, h10⟩; clear Y)
                  | (go_at_call 9; refine (HV.out _ h10.out.1).mono ?_; rintro e w11 ⟨rfl, h11⟩; clear HV))
                exact ⟨⟨i + 1, by simp, by omega, by rw [hqv.out], HFin.out w10 w11 h11.out.1 h10.out.2 h11.out.2⟩, by simp [intOf]; omega⟩
              · obtain rfl : qv = 1 := hstq (by decide)
                clear hstq
                go_wp2_with (first
                  | (go_at_call 11; refine Y.out.mono ?_; rintro e w10 ⟨⟨t, rfl⟩, h10⟩; clear Y)
                  | (go_at_call 9; refine (HV.out _ h10.out.1).mono ?_; rintro e w11 ⟨rfl, h11⟩; clear HV))
                exact ⟨⟨i + 1, by simp, by omega, by rw [hqv.out]; rfl, HFin.out w10 w11 h11.out.1 h10.out.2 h11.out.2⟩, by simp [intOf]; omega⟩
              · obtain rfl : qv = 2 := hstq (by decide)
                clear hstq
                go_wp2_with (first
                  | (go_at_call 11; refine Y.out.mono ?_; rintro e w10 ⟨⟨t, rfl⟩, h10⟩; clear Y)
                  | (go_at_call 9; refine (HV.out _ h10.out.1).mono ?_; rintro e w11 ⟨rfl, h11⟩; clear HV))
                exact ⟨⟨i + 1, by simp, by omega, by rw [hqv.out]; rfl, HFin.out w10 w11 h11.out.1 h10.out.2 h11.out.2⟩, by simp [intOf]; omega⟩
          | false =>
            have hSF : Hid (stepF F o = F ++ [o]) := by show stepF F o = _; unfold stepF; rw [hth]; rfl
            have x0 : wr.cell? ⟨X, 0, none⟩ = some (.int .i64 o.kind) := HXw.out.at 0 _ rfl
            have x1 : wr.cell? ⟨X, 1, none⟩ = some (.int .i64 o.node) := HXw.out.at 1 _ rfl
            have x2 : wr.cell? ⟨X, 2, none⟩ = some o.c2 := HXw.out.at 2 _ rfl
            have x3 : wr.cell? ⟨X, 3, none⟩ = some o.c3 := HXw.out.at 3 _ rfl
            have x4 : wr.cell? ⟨X, 4, none⟩ = some o.c4 := HXw.out.at 4 _ rfl
            have x5 : wr.cell? ⟨X, 5, none⟩ = some o.c5 := HXw.out.at 5 _ rfl
            have HO : Hid ((wr.alloc (.cells (opC o).toArray 60)).ownsRow B2 60 6 (.slice ax k cx) k (opF F)) := owns_same HQ.out.2.1 fun g' hg' => Below.block (al1 (o := .cells (opC o).toArray 60)) g' (owns_lt HQ.out.2.1 hg')
            have HNC : Hid (∀ (j : Nat) (u : Value), (opC o)[j]? = some u → (wr.alloc (.cells (opC o).toArray 60)).cell? (Addr.add ⟨wr.heap.size, 0, none⟩ j) = some u) := fun j u hu => World.news_of_block (heap_alloc_new wr _) j u hu
            have hB2w : B2 ≤ wr.heap.size := HQ.out.2.2.2
            have hXw : X < wr.heap.size := HXw.out.lt
            clear hth
            go_upto_region 21 with (first
              | (at_builtin; refine wpList_append_src rfl (.tmp 77) (.tmp 79) 58 rfl B2 60 j0 _ 6 96 und58 F0.out hz0 hsz0 hby0 (by rfl) (by omega) _ _ _ HO.out rfl (opC o) _ 1 1 rfl (by rfl) (fun _ => ⟨_, rfl, fun j u hu => HNC.out j u hu⟩) HOKO.out.2.2 (by unfold maxLen; omega) (by omega) (by simp; omega) ?_; intro v3 w4 own3 gr3 _)
              | go_in)
            have hz1 := sz1 wr (.cells #[.int .i64 o.kind, .int .i64 o.node, o.c2, o.c3, o.c4, o.c5] 60)
            have hb4 : Below B2 wr w4 := by
              have hgs := gr3.size
              refine ⟨gr3.os, gr3.tape, gr3.output, by omega, fun g' hg' => (gr3.block g' (by omega) (fun e => ?_)).trans (Below.block (al1 (o := .cells (opC o).toArray 60)) g' (by omega))⟩
              have := (HOB.out g' e.symm).2
              omega
            have HS : Hid (SSt B B2 a p w4 b1 b2 A SS ∧ w4.ownsRow B2 60 6 v3 (stepF F o).length (opF (stepF F o)) ∧ Below B W w4 ∧ B2 ≤ w4.heap.size) := by
              rw [hSF.out, List.length_append, HFF.out, opF_app]
              refine ⟨HQ.out.1.keep hb4, ?_, HQ.out.2.2.1.trans (hb4.mono HBB.out), Nat.le_trans HQ.out.2.2.2 hb4.size⟩
              have e : opF [o] = opC o := by simp [opF]
              rw [e]; exact own3
            have HXq : Hid (Holds w4 X (opC o) 60) := by
              have hgs := gr3.size
              show w4.heap[X]? = _
              refine ((gr3.block X (by omega) (fun e => ?_)).trans (Below.block (al1 (o := .cells (opC o).toArray 60)) X (by omega))).trans HXw.out
              have := (HOB.out X e.symm).1
              omega
            clear HQ HXw hSF own3 gr3 hb4 HO HNC x0 x1 x2 x3 x4 x5 hz1
            have k0 : w4.cell? ⟨X, 0, none⟩ = some (.int .i64 o.kind) := HXq.out.at 0 _ rfl
            have k1 : w4.cell? ⟨X, 1, none⟩ = some (.int .i64 o.node) := HXq.out.at 1 _ rfl
            have hpv := verd_three a p A
            have hqv : Hid (verd a p (runO (os.take (i + 1)) SS) = verd a p (sayO A o)) := by show verd _ _ _ = _; rw [eA.out]
            have HV : Hid (∀ W', SSt B B2 a p W' b1 b2 (sayO A o) SS → Calls Tryz.prog 9 #[.pointer (some ⟨b1, 0, none⟩)] W' fun e w' => e = .returned (.int .i64 (verd a p (sayO A o) : Int)) ∧ Hid (SSt B B2 a p w' b1 b2 (sayO A o) SS ∧ Gr W' w')) := fun W' h => h.ver1
            have HFin : Hid (∀ w10 w11, SSt B B2 a p w11 b1 b2 (sayO A o) SS → Mid B B2 w4 w10 → Gr w10 w11 → SSt B B2 a p w11 b1 b2 (runO (os.take (i + 1)) SS) SS ∧ w11.ownsRow B2 60 6 v3 (firsts (os.take (i + 1))).length (opF (firsts (os.take (i + 1)))) ∧ Below B W w11 ∧ B2 ≤ w11.heap.size) := fun w10 w11 h1 h2 h3 => by
              rw [eA.out, eF.out]
              have hs := HS.out
              have hr0 := hs.2.1
              have hsz := h2.size
              have hsz2 := h3.size
              refine ⟨h1, owns_same hr0 fun g' hg' => ?_, hs.2.2.1.trans ((h2.toBelow (by have := hs.2.2.2; have := HBB.out; omega)).trans (Below.mono h3 (by have := hs.2.2.2; have := HBB.out; omega))), by have := hs.2.2.2; omega⟩
              have hgl := owns_lt hr0 hg'
              have hgb : B2 ≤ g' := by
                obtain ⟨_, ⟨e0, _⟩ | ⟨g2, cap2, cur2, e0, hb2, _⟩⟩ := hr0
                · rw [e0] at hg'; cases hg'
                · rw [e0] at hg'
                  have : g2 = g' := Option.some.inj hg'
                  omega
              exact (Below.block h3 g' (by omega)).trans (h2.block g' hgl (.inr hgb))
            have hstq := hst.out
            have YK : Hid (∀ fn, ((fn = 10 ∧ o.kind.tmod 2 = 0) ∨ (fn = 11 ∧ ¬ o.kind.tmod 2 = 0)) → Calls Tryz.prog fn #[.pointer (some ⟨b1, 0, none⟩), .slice (some ⟨w4.heap.size, 0, none⟩) 1 1] (w4.alloc (.cells #[.int .i64 o.node] 3)) fun e w' => (∃ t, e = .returned (.bool t)) ∧ Hid (SSt B B2 a p w' b1 b2 (sayO A o) SS ∧ Mid B B2 w4 w')) := fun fn hfn => HS.out.1.say1 o HOKO.out fn hfn
            clear HS HXq hst
            generalize verd a p A = pv at *
            generalize verd a p (sayO A o) = qv at *
            by_cases hk2 : o.kind.tmod 2 = 0
            · have Y := Hid.mkSB (YK.out 10 (.inl ⟨rfl, hk2⟩))
              rcases hpv with rfl | rfl | rfl
              · clear hstq
                go_wp2_with (first
                  | (go_at_call 10; refine Y.out.mono ?_; rintro e w10 ⟨⟨t, rfl⟩, h10⟩; clear Y)
                  | (go_at_call 9; refine (HV.out _ h10.out.1).mono ?_; rintro e w11 ⟨rfl, h11⟩; clear HV))
                exact ⟨⟨i + 1, by simp, by omega, by rw [hqv.out], HFin.out w10 w11 h11.out.1 h10.out.2 h11.out.2⟩, by simp [intOf]; omega⟩
              · obtain rfl : qv = 1 := hstq (by decide)
                clear hstq
                go_wp2_with (first
                  | (go_at_call 10; refine Y.out.mono ?_; rintro e w10 ⟨⟨t, rfl⟩, h10⟩; clear Y)
                  | (go_at_call 9; refine (HV.out _ h10.out.1).mono ?_; rintro e w11 ⟨rfl, h11⟩; clear HV))
                exact ⟨⟨i + 1, by simp, by omega, by rw [hqv.out]; rfl, HFin.out w10 w11 h11.out.1 h10.out.2 h11.out.2⟩, by simp [intOf]; omega⟩
              · obtain rfl : qv = 2 := hstq (by decide)
                clear hstq
                go_wp2_with (first
                  | (go_at_call 10; refine Y.out.mono ?_; rintro e w10 ⟨⟨t, rfl⟩, h10⟩; clear Y)
                  | (go_at_call 9; refine (HV.out _ h10.out.1).mono ?_; rintro e w11 ⟨rfl, h11⟩; clear HV))
                exact ⟨⟨i + 1, by simp, by omega, by rw [hqv.out]; rfl, HFin.out w10 w11 h11.out.1 h10.out.2 h11.out.2⟩, by simp [intOf]; omega⟩
            · have hk3 : (o.kind.tmod 2 == 0) = false := by simpa using hk2
              have Y := Hid.mkSB (YK.out 11 (.inr ⟨rfl, hk2⟩))
              rcases hpv with rfl | rfl | rfl
              · clear hstq
                go_wp2_with (first
                  | (go_at_call 11; refine Y.out.mono ?_; rintro e w10 ⟨⟨t, rfl⟩, h10⟩; clear Y)
                  | (go_at_call 9; refine (HV.out _ h10.out.1).mono ?_; rintro e w11 ⟨rfl, h11⟩; clear HV))
                exact ⟨⟨i + 1, by simp, by omega, by rw [hqv.out], HFin.out w10 w11 h11.out.1 h10.out.2 h11.out.2⟩, by simp [intOf]; omega⟩
              · obtain rfl : qv = 1 := hstq (by decide)
                clear hstq
                go_wp2_with (first
                  | (go_at_call 11; refine Y.out.mono ?_; rintro e w10 ⟨⟨t, rfl⟩, h10⟩; clear Y)
                  | (go_at_call 9; refine (HV.out _ h10.out.1).mono ?_; rintro e w11 ⟨rfl, h11⟩; clear HV))
                exact ⟨⟨i + 1, by simp, by omega, by rw [hqv.out]; rfl, HFin.out w10 w11 h11.out.1 h10.out.2 h11.out.2⟩, by simp [intOf]; omega⟩
              · obtain rfl : qv = 2 := hstq (by decide)
                clear hstq
                go_wp2_with (first
                  | (go_at_call 11; refine Y.out.mono ?_; rintro e w10 ⟨⟨t, rfl⟩, h10⟩; clear Y)
                  | (go_at_call 9; refine (HV.out _ h10.out.1).mono ?_; rintro e w11 ⟨rfl, h11⟩; clear HV))
                exact ⟨⟨i + 1, by simp, by omega, by rw [hqv.out]; rfl, HFin.out w10 w11 h11.out.1 h10.out.2 h11.out.2⟩, by simp [intOf]; omega⟩
    · obtain rfl : i = m := by omega
      have hall : os.take i = os := List.take_of_length_le (by rw [HOL.out]; exact Nat.le_refl _)
      rw [hall] at hRel ⊢
      have hFok : Hid (∀ o ∈ firsts os, okO o) := fun o ho => HOK.out o (firsts_mem os o ho)
      have hfl : (firsts os).length ≤ 60 := Nat.le_trans (firsts_len os i (by rw [HOL.out]; exact Nat.le_refl _)) (by omega)
      obtain ⟨ax, cx, rfl⟩ := row_slice hRel.out.2.1
      have HRF2 : Hid (runO (firsts os).reverse SS = runO os SS) := HRF.out
      generalize runO os SS = A at *
      generalize firsts os = F at *
      have HR0 : Hid (SSt B B2 a p wr b1 b2 A SS ∧ wr.ownsRow B2 60 6 (.slice ax F.length cx) F.length (opF F) ∧ Below B W wr ∧ B2 ≤ wr.heap.size) := hRel
      have HGf : Hid (∀ W', Below B W W' → Gr w W') := fun W' hb => HW.out.trans (show Below W.heap.size W W' by rw [HB.out]; exact hb)
      have HD : Hid (∀ w1 w2, w1.ownsRow B2 60 6 (.slice ax F.length cx) F.length (opF F) → Below B W w1 → B2 ≤ w1.heap.size → Mid B B2 w1 w2 → w2.ownsRow B2 60 6 (.slice ax F.length cx) F.length (opF F) ∧ Below B W w2 ∧ B2 ≤ w2.heap.size) := fun w1 w2 hr0 hb1 hs1 h2 => by
        have hsz := h2.size
        refine ⟨owns_same hr0 fun g' hg' => ?_, hb1.trans (h2.toBelow (by have := HBB.out; omega)), by omega⟩
        have hgl := owns_lt hr0 hg'
        obtain ⟨_, ⟨e0, _⟩ | ⟨g2, cap2, cur2, e0, hb2, _⟩⟩ := hr0
        · rw [e0] at hg'; cases hg'
        · rw [e0] at hg'
          have : g2 = g' := Option.some.inj hg'
          exact h2.block g' hgl (.inr (by omega))
      clear hRel hall HRF h7
      obtain ⟨f, hff⟩ : ∃ f, F.length = f := ⟨_, rfl⟩
      have HFF : Hid (F.length = f) := hff
      rw [hff] at HR0 hfl HD ⊢
      have hSt0 : Hid (SSt B B2 a p wr b1 b2 A (runO (F.drop f).reverse SS) ∧ wr.ownsRow B2 60 6 (.slice ax f cx) f (opF F) ∧ Below B W wr ∧ B2 ≤ wr.heap.size) := by
        have : F.drop f = [] := List.drop_eq_nil_of_le (by omega)
        rw [this]; exact HR0.out
      clear HR0 hff
      subst hm
      go_wp2
      go_loopw [17] (fun c wq => (∃ j : Nat, c = .int .i64 (j : Int) ∧ j < f ∧ Hid (SSt B B2 a p wq b1 b2 A (runO (F.drop (j + 1)).reverse SS) ∧ wq.ownsRow B2 60 6 (.slice ax f cx) f (opF F) ∧ Below B W wq ∧ B2 ≤ wq.heap.size)) ∨ (c = .int .i64 (-1) ∧ Hid (SSt B B2 a p wq b1 b2 A (runO (F.drop 0).reverse SS) ∧ wq.ownsRow B2 60 6 (.slice ax f cx) f (opF F) ∧ Below B W wq ∧ B2 ≤ wq.heap.size))) (fun c _ => (intOf c + 1).toNat)
      case atStart =>
        cases f with
        | zero => exact .inr ⟨rfl, hSt0⟩
        | succ f => exact .inl ⟨f, congrArg (Value.int .i64) (by omega), by omega, hSt0⟩
      case round =>
        rcases hrel with ⟨j, rfl, hj, hR⟩ | ⟨rfl, hR⟩
        · have hjF : j < F.length := by rw [HFF.out]; exact hj
          obtain ⟨o, ho⟩ : ∃ o, F[j]? = some o := ⟨_, List.getElem?_eq_getElem hjF⟩
          have hoko : okO o := hFok.out o (List.mem_of_getElem? ho)
          have hrow := hR.out.2.1
          rw [← HFF.out] at hrow
          obtain ⟨fg, fcap, fcs, ev, hfb, hfH, hfc⟩ := row_op hrow j o ho
          obtain ⟨rfl, _, rfl⟩ := Value.slice.inj ev
          have e0 : wr.cell? ⟨fg, j * 6, none⟩ = some (.int .i64 o.kind) := hfH.at _ _ (hfc 0 _ rfl)
          have e1 : wr.cell? ⟨fg, j * 6 + 1, none⟩ = some (.int .i64 o.node) := hfH.at _ _ (hfc 1 _ rfl)
          have eC : Hid (runO (F.drop j).reverse SS = sayO (runO (F.drop (j + 1)).reverse SS) o) := by show runO _ _ = _; rw [drop_rev F j o ho, runO_snoc]
          have YK : Hid (∀ fn, ((fn = 10 ∧ o.kind.tmod 2 = 0) ∨ (fn = 11 ∧ ¬ o.kind.tmod 2 = 0)) → Calls Tryz.prog fn #[.pointer (some ⟨b2, 0, none⟩), .slice (some ⟨wr.heap.size, 0, none⟩) 1 1] (wr.alloc (.cells #[.int .i64 o.node] 3)) fun e w' => (∃ t, e = .returned (.bool t)) ∧ Hid (SSt B B2 a p w' b1 b2 A (runO (F.drop j).reverse SS) ∧ w'.ownsRow B2 60 6 (.slice (some ⟨fg, 0, none⟩) f cx) f (opF F) ∧ Below B W w' ∧ B2 ≤ w'.heap.size)) := fun fn hfn => (hR.out.1.say2 o hoko fn hfn).mono fun e w' ⟨q1, q2, q3⟩ => ⟨q1, by rw [eC.out]; exact q2, HD.out wr w' hR.out.2.1 hR.out.2.2.1 hR.out.2.2.2 q3⟩
          clear hrow hfH hfc ev ho hR hoko
          by_cases hk2 : o.kind.tmod 2 = 0
          · have Y := Hid.mkSB (YK.out 10 (.inl ⟨rfl, hk2⟩))
            go_wp2_with (go_at_call 10; refine Y.out.mono ?_; rintro e w10 ⟨⟨t, rfl⟩, h10⟩; clear Y)
            refine ⟨?_, by simp [intOf]⟩
            cases j with
            | zero => exact .inr ⟨rfl, h10⟩
            | succ j => exact .inl ⟨j, congrArg (Value.int .i64) (by omega), by omega, h10⟩
          · have hk3 : (o.kind.tmod 2 == 0) = false := by simpa using hk2
            have Y := Hid.mkSB (YK.out 11 (.inr ⟨rfl, hk2⟩))
            go_wp2_with (go_at_call 11; refine Y.out.mono ?_; rintro e w10 ⟨⟨t, rfl⟩, h10⟩; clear Y)
            refine ⟨?_, by simp [intOf]⟩
            cases j with
            | zero => exact .inr ⟨rfl, h10⟩
            | succ j => exact .inl ⟨j, congrArg (Value.int .i64) (by omega), by omega, h10⟩
        · have hS := hR.out.1
          rw [List.drop_zero, HRF2.out] at hS
          have V2 : Hid (Calls Tryz.prog 9 #[.pointer (some ⟨b2, 0, none⟩)] wr fun e w' => e = .returned (.int .i64 (verd a p A : Int)) ∧ Hid (SSt B B2 a p w' b1 b2 A A ∧ Gr w w')) := (hS.ver2).mono fun e w' ⟨q1, q2, q3⟩ => ⟨q1, q2, (HGf.out wr hR.out.2.2.1).trans q3⟩
          have V1 : Hid (∀ W', SSt B B2 a p W' b1 b2 A A → Gr w W' → Calls Tryz.prog 9 #[.pointer (some ⟨b1, 0, none⟩)] W' fun e w' => e = .returned (.int .i64 (verd a p A : Int)) ∧ Hid (Gr w w')) := fun W' h hg => (h.ver1).mono fun e w' ⟨q1, q2, q3⟩ => ⟨q1, hg.trans q3⟩
          clear hS hR
          generalize verd a p A = pv at *
          go_wp2_with (first
            | (go_at_call 9; refine V2.out.mono ?_; rintro e w12 ⟨rfl, h12⟩; clear V2)
            | (go_at_call 9; refine (V1.out _ h12.out.1 h12.out.2).mono ?_; rintro e w13 ⟨rfl, h13⟩; clear V1))
          go_ret
          exact ⟨rfl, h13.out⟩
end Go.Proofs.YtmhpfncbbboamaaGreat
