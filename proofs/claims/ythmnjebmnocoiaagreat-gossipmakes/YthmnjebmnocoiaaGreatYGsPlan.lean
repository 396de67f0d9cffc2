/- What package gossip's Plan does: the walk. -/
import Derived.Deep.RegionHeld3
import Derived.Test.YthmnjebmnocoiaaGreatYB1
import Derived.Test.YthmnjebmnocoiaaGreatYA8
import Derived.Test.YthmnjebmnocoiaaGreatYA6
namespace Go.Proofs.YthmnjebmnocoiaaGreat
open Go.RowKit
attribute [local go_sem ↓] rule28
theorem Outs.trans' {s t : Nat → Prop} {x y : World} (h : Outs s x y) (hs : ∀ b, s b → t b) : Outs t x y := ⟨h.os, h.tape, h.output, h.size, fun k hk hn => h.block k hk (fun e => hn (hs k e))⟩
theorem claim_len (o ms : List Int) (ho : o.length = 8) : (claimL o ms).length = 8 := by
  unfold claimL
  split
  · simp
  · rename_i h0
    obtain ⟨hM, hmem⟩ := risen_facts ms
    obtain ⟨c1, _, _⟩ := claim_mid (risenL ms) o hM ho (by omega)
    rw [outV_len]
    show (fillI _ _).length = 8
    unfold fillI
    rw [fold_len, c1]; rfl
theorem overV_cons1 (x : Value) (l ds : List Value) (k : Nat) : overV (x :: l) (1 + k) ds = x :: overV l k ds := by
  unfold overV
  rw [Nat.add_comm 1 k, List.take_succ_cons, show k + 1 + ds.length = (k + ds.length) + 1 by omega, List.drop_succ_cons]
  rfl
theorem ring_set (u : Value) (m : List Mb) (os : List Ow) (k : Nat) (o : Ow) (hk : k < os.length) : overV (ringC u (m, os)) (1 + k * 2) (owV o) = ringC u (m, os.set k o) := by
  unfold ringC
  rw [overV_cons1, ownV_set os k o hk]
theorem ring_cell (u : Value) (m : List Mb) (os : List Ow) (k : Nat) (o : Ow) (h : os[k]? = some o) (j : Nat) (hj : j < 2) : (ringC u (m, os))[1 + k * 2 + j]? = (owV o)[j]? := by
  unfold ringC
  rw [show 1 + k * 2 + j = (k * 2 + j) + 1 by omega, List.getElem?_cons_succ]
  exact ownV_cell h j hj
theorem claimant_told (r : Rg) (W : World) (ds : List Value) (hd : ∃ u, ds = ringC u r ∧ RingAt W.heap.size W u r) : Calls Tryz.prog 22 #[.agg ds.toArray] W fun e w' => e = .returned (.int .i64 (claimantL r)) ∧ Below W.heap.size W w' := by
  obtain ⟨u, rfl, h⟩ := hd
  exact claimant_any u r W h
set_option maxRecDepth 100000 in
set_option maxHeartbeats 4000000 in
theorem plan_any (v : Value) (r : Rg) (hF : RFit r) (n : Int) (w : World) (h : RingAt w.heap.size w v r) :
    Calls Tryz.prog 16 #[ringV v r, .int .i64 n] w fun e w' => ∃ u, e = .returned (ringV u (planL r n)) ∧ RingAt w'.heap.size w' u (planL r n) ∧ Below w.heap.size w w' := by
  obtain ⟨N, hN⟩ : ∃ N, w.heap.size = N := ⟨_, rfl⟩
  have HR : Hid (RingAt N w v r) := hN ▸ h
  have hl17 := ringC_len h
  rw [hN]
  have HNorm : Hid (∀ W, RingAt W.heap.size W v r → Calls Tryz.prog 8 #[.agg (ringC v r).toArray] W fun e w' => ∃ ds, e = .returned (.agg ds.toArray) ∧ Hid (Told (normL r) W ds w')) := fun W hr => norm_told v r W hr
  have HFn : Hid (RFit (normL r)) := norm_fit hF
  have HP : Hid (planL r n = if claimantL (normL r) = 0 ∨ n ≠ claimantL (normL r) then normL r else ((turnL (normL r) 3 (membersL (normL r) [2])).1, planOs (claimL (ownersL (normL r)) (membersL (normL r) [1])) (turnL (normL r) 3 (membersL (normL r) [2])).2 8)) := rfl
  generalize planL r n = PL at *
  generalize normL r = nr at *
  show Calls Tryz.prog 16 #[.agg (ringC v r).toArray, .int .i64 n] w _
  generalize ringC v r = cs at *
  have HCl : Hid (∀ W ds, (∃ u, ds = ringC u nr ∧ RingAt W.heap.size W u nr) → Calls Tryz.prog 22 #[.agg ds.toArray] W fun e w' => e = .returned (.int .i64 (claimantL nr)) ∧ Below W.heap.size W w') := fun W ds hd => claimant_told nr W ds hd
  clear h hF
  generalize hcl : claimantL nr = c at *
  by_cases h0 : c = 0
  · subst h0
    have hP : Hid (PL = nr) := HP.out.trans (if_pos (Or.inl rfl))
    go_enter Tryz.func16, Tryz.ntmps16
    go_wp2_with (first
    | (refine wpList_box_new 2 rfl rfl 28 _ rfl N hN _ rfl ?_; intro w1 h1)
    | (refine wpList_alloc_new 4 rfl rfl 28 rfl (N + 1) h1.size _ zero28 ?_; intro w2 h2; have H2 := h1.holds.below h2.below (by omega); have hz2 := h2.size; have b2 : Below N w w2 := h1.below.trans (h2.below.mono (by omega)); have hz2' : N ≤ w2.heap.size := (by omega); have HR2 := (HR.out.below b2).mono hz2'; have r2 := H2.row28 hl17)
    | (go_at_call 8; refine (HNorm.out _ HR2).mono ?_; rintro e w3 ⟨ds, rfl, T3⟩; have hz3 := T3.out.len; have ho3 := T3.out.one; have b3 := T3.out.below; have H3 := H2.below b3 (by omega); have HN3 := h2.holds.below b3 (by omega); have hs3 := b3.size)
    | (refine wpList_store_all rfl 28 (.tmp 2) (.tmp 11) rfl N rfl ds rfl 28 _ H3 (siz28.trans (congrArg some hz3.symm)) (hl17.trans hz3.symm) ho3 ?_; intro w4 h4; have r4 := h4.holds.row28 hz3; have HQ4 : ∃ u, ds = ringC u nr ∧ RingAt w4.heap.size w4 u nr := (by obtain ⟨u, e1, e2, e3, e4⟩ := T3.out; exact ⟨u, e1, (e2.outs e3 (Outs.ofTurned (s := fun b => b = N) h4 rfl) (Nat.le_refl _) (by omega)).mono (Nat.le_of_eq h4.size.symm)⟩))
    | (go_at_call 22; refine (HCl.out w4 ds HQ4).mono ?_; rintro e w5 ⟨rfl, b5⟩; have H5 := h4.holds.below b5 (by rw [h4.size]; omega); have r5 := H5.row28 hz3; have HN5 : Holds w5 (N + 1) (ringC (.slice none 0 0) ([], noOs)) 28 := (by unfold Holds; rw [b5.block (N + 1) (by rw [h4.size]; omega), h4.others (N + 1) (by omega)]; exact HN3))
      | (refine wpList_store_all rfl 28 (.tmp 4) (.tmp 21) rfl (N + 1) rfl ds rfl 28 _ HN5 (siz28.trans (congrArg some hz3.symm)) hz3.symm ho3 ?_; intro w6 h6))
    refine bodyPost_ret (results_cell_row (p := 4) (by kernel_rfl) _ w6 (N + 1) 28 ds.toArray (0, 0) _ rfl h6.holds Tryz.underlying28 rfl (siz28.trans (congrArg some (show ds.length = 17 from hz3).symm))) rfl ?_
    rw [hP.out]
    obtain ⟨u, e1, e2, e3, e4⟩ := T3.out
    have U36 : Outs (fun b => b = N ∨ b = N + 1) w3 w6 := ((Outs.ofTurned h4 (Or.inl rfl)).trans (Outs.ofBelow b5)).trans (Outs.ofTurned h6 (Or.inr rfl))
    rw [e1]
    exact ⟨u, rfl, (e2.outs e3 U36 (Nat.le_refl _) (by omega)).mono U36.size, (b2.trans (b3.mono hz2')).trans (U36.below (by omega) (by omega))⟩
  · have h0b : (c == 0) = false := by simpa using h0
    by_cases hn : n = c
    · subst hn
      have hP : Hid (PL = ((turnL nr 3 (membersL nr [2])).1, planOs (claimL (ownersL nr) (membersL nr [1])) (turnL nr 3 (membersL nr [2])).2 8)) := HP.out.trans (if_neg (by simp [h0]))
      go_enter Tryz.func16, Tryz.ntmps16
      go_upto_region 5 with (first
      | (refine wpList_box_new 2 rfl rfl 28 _ rfl N hN _ rfl ?_; intro w1 h1)
      | (refine wpList_alloc_new 4 rfl rfl 28 rfl (N + 1) h1.size _ zero28 ?_; intro w2 h2; have H2 := h1.holds.below h2.below (by omega); have hz2 := h2.size; have b2 : Below N w w2 := h1.below.trans (h2.below.mono (by omega)); have hz2' : N ≤ w2.heap.size := (by omega); have HR2 := (HR.out.below b2).mono hz2'; have r2 := H2.row28 hl17)
      | (go_at_call 8; refine (HNorm.out _ HR2).mono ?_; rintro e w3 ⟨ds, rfl, T3⟩; have hz3 := T3.out.len; have ho3 := T3.out.one; have b3 := T3.out.below; have H3 := H2.below b3 (by omega); have HN3 := h2.holds.below b3 (by omega); have hs3 := b3.size)
      | (refine wpList_store_all rfl 28 (.tmp 2) (.tmp 11) rfl N rfl ds rfl 28 _ H3 (siz28.trans (congrArg some hz3.symm)) (hl17.trans hz3.symm) ho3 ?_; intro w4 h4; have r4 := h4.holds.row28 hz3; have HQ4 : ∃ u, ds = ringC u nr ∧ RingAt w4.heap.size w4 u nr := (by obtain ⟨u, e1, e2, e3, e4⟩ := T3.out; exact ⟨u, e1, (e2.outs e3 (Outs.ofTurned (s := fun b => b = N) h4 rfl) (Nat.le_refl _) (by omega)).mono (Nat.le_of_eq h4.size.symm)⟩))
      | (go_at_call 22; refine (HCl.out w4 ds HQ4).mono ?_; rintro e w5 ⟨rfl, b5⟩; have H5 := h4.holds.below b5 (by rw [h4.size]; omega); have r5 := H5.row28 hz3; have HN5 : Holds w5 (N + 1) (ringC (.slice none 0 0) ([], noOs)) 28 := (by unfold Holds; rw [b5.block (N + 1) (by rw [h4.size]; omega), h4.others (N + 1) (by omega)]; exact HN3)))
      obtain ⟨H, hH⟩ : ∃ H, w5.heap.size = H := ⟨_, rfl⟩
      have hHN : N + 2 ≤ H := by have := b5.size; rw [h4.size] at this; omega
      have HR5 : Hid (∃ u, ds = ringC u nr ∧ RingAt H w5 u nr) := by
        obtain ⟨u, e1, e2⟩ := HQ4
        exact ⟨u, e1, hH ▸ e2.gr b5⟩
      have HB5 : Hid (Below N w w5) := ((b2.trans (b3.mono hz2')).trans (h4.below (Nat.le_refl _))).trans (b5.mono (by rw [h4.size]; omega))
      have HN5' : Hid (Holds w5 (N + 1) (ringC (.slice none 0 0) ([], noOs)) 28) := HN5
      have HH5 : Hid (Holds w5 N ds 28) := H5
      have HZ5 : Hid (w5.heap.size = H) := hH
      have HM2 : Hid (∀ x ∈ membersL nr [2], 1 ≤ x ∧ x ≤ 7) := fun x hx => mem_members hx
      have HL2 : Hid ((membersL nr [2]).length ≤ 7) := members_len nr [2]
      obtain ⟨u5, hu5, hR5⟩ := HR5.out
      have HHu : Hid (Holds w5 N (ringC u5 nr) 28) := hu5 ▸ HH5.out
      have HRu : Hid (RingAt w5.heap.size w5 u5 nr) := hH.symm ▸ hR5
      clear H5 r5 HN5 b5 HQ4 h4 r4 HN3 H3 b3 T3 hs3 HR2 r2 h2 H2 b2 h1 hz2 hz2' HNorm HCl ho3 HR hR5
      refine region_by_last (by kernel_rfl) (by kernel_rfl) 6 rfl [22, 23, 24, 25, 26, 6] (fun | 22 => .ring nr | 23 => .ring nr | 24 => .ints [2] | 25 => .ints (membersL nr [2]) | 26 => .ring35 (turnL nr 3 (membersL nr [2])) | 6 => .box H | _ => .any) _ rfl (by kernel_rfl) (by kernel_rfl)
        (List.forall_mem_cons.2 ⟨?s0, List.forall_mem_cons.2 ⟨?s1, List.forall_mem_cons.2 ⟨?s2, List.forall_mem_cons.2 ⟨?s3, List.forall_mem_cons.2 ⟨?s4, List.forall_mem_cons.2 ⟨?s5, fun o ho => nomatch ho⟩⟩⟩⟩⟩⟩) ?e5
      case s0 => exact sa_load28 2 22 rfl rfl rfl (by decide) N rfl u5 nr HHu.out HRu.out rfl
      case s1 => exact sa_load28 2 23 rfl rfl rfl (by decide) N rfl u5 nr HHu.out HRu.out rfl
      case s2 => exact sa_buildInt 2 24 rfl rfl rfl rfl
      case s3 => exact sa_call2 20 (.tmp 23) (.tmp 24) _ 25 (.ring nr) (.ints [2]) rfl rfl rfl (.new 23 (by kernel_rfl) (show 23 < 55 by decide)) (.new 24 (by kernel_rfl) (show 24 < 55 by decide)) (enters_of Tryz.func20 (by kernel_rfl) rfl) (fun v1 v2 y q1 q2 => c_members nr [2] (by decide) v1 v2 y q1 q2)
      case s4 => exact sa_call3 38 (.tmp 22) (.const (.int .i64 3)) (.tmp 25) _ 26 (.ring nr) (.val (.int .i64 3)) (.ints (membersL nr [2])) rfl rfl rfl (.new 22 (by kernel_rfl) (show 22 < 55 by decide)) (.const _) (.new 25 (by kernel_rfl) (show 25 < 55 by decide)) (enters_of Tryz.func38 (by kernel_rfl) rfl) (fun v1 v2 v3 y q1 q2 q3 => c_turned nr HFn.out 3 (by decide) _ HM2.out (by have := HL2.out; omega) v1 v2 v3 y q1 q2 q3)
      case s5 => exact sa_alloc28 6 H rfl rfl rfl (Nat.le_of_eq hH.symm) rfl
      case e5 =>
      intro f a x hov hgr hfa hno
      obtain ⟨v6, f6, g, rfl, hgH, Hg⟩ := hfa 6 (by decide) ⟨_, List.mem_cons_of_mem _ (List.mem_cons_of_mem _ (List.mem_cons_of_mem _ (List.mem_cons_of_mem _ (List.mem_cons_of_mem _ List.mem_cons_self)))), rfl⟩
      obtain ⟨v26, f26, ut, rfl, Rt, Tt⟩ := hfa 26 (by decide) ⟨_, List.mem_cons_of_mem _ (List.mem_cons_of_mem _ (List.mem_cons_of_mem _ (List.mem_cons_of_mem _ List.mem_cons_self))), rfl⟩
      obtain ⟨v25, f25, _⟩ := hfa 25 (by decide) ⟨_, List.mem_cons_of_mem _ (List.mem_cons_of_mem _ (List.mem_cons_of_mem _ List.mem_cons_self)), rfl⟩
      obtain ⟨v24, f24, _⟩ := hfa 24 (by decide) ⟨_, List.mem_cons_of_mem _ (List.mem_cons_of_mem _ List.mem_cons_self), rfl⟩
      obtain ⟨v23, f23, _⟩ := hfa 23 (by decide) ⟨_, List.mem_cons_of_mem _ List.mem_cons_self, rfl⟩
      obtain ⟨v22, f22, _⟩ := hfa 22 (by decide) ⟨_, List.mem_cons_self, rfl⟩
      refine ⟨wanted_none rfl _, op_store28 (.tmp 6) (.tmp 26) rfl g (hov.get (show 6 < 55 by decide) f6) _ (ringC ut (turnL nr 3 (membersL nr [2]))) (hov.get (show 26 < 55 by decide) f26) Hg rfl (ringC_len Rt) (ringC_one Rt) (fun w6 h6 => ?_)⟩
      have hf : f = fun s => if s = 6 then some (.pointer (some ⟨g, 0, none⟩)) else if s = 22 then some v22 else if s = 23 then some v23 else if s = 24 then some v24 else if s = 25 then some v25 else if s = 26 then some (ringV ut (turnL nr 3 (membersL nr [2]))) else none := by
        funext s
        by_cases e6 : s = 6
        · subst e6; rw [if_pos rfl]; exact f6
        · rw [if_neg e6]
          by_cases e : s = 22
          · subst e; rw [if_pos rfl]; exact f22
          · rw [if_neg e]
            by_cases e : s = 23
            · subst e; rw [if_pos rfl]; exact f23
            · rw [if_neg e]
              by_cases e : s = 24
              · subst e; rw [if_pos rfl]; exact f24
              · rw [if_neg e]
                by_cases e : s = 25
                · subst e; rw [if_pos rfl]; exact f25
                · rw [if_neg e]
                  by_cases e : s = 26
                  · subst e; rw [if_pos rfl]; exact f26
                  · rw [if_neg e]
                    exact hno s (by simp; omega)
      have ha : a = ⟨#[.agg cs.toArray, .int .i64 n, .pointer (some ⟨N, 0, none⟩), undef, .pointer (some ⟨N + 1, 0, none⟩), .int .i64 n, .pointer (some ⟨g, 0, none⟩), undef, undef, undef, .agg cs.toArray, .agg ds.toArray, .agg ds.toArray, .int .i64 n, .int .i64 n, .bool false, .bool false, .int .i64 n, .int .i64 n, .bool false, .bool false, undef, v22, v23, v24, v25, ringV ut (turnL nr 3 (membersL nr [2])), undef, undef, undef, undef, undef, undef, undef, undef, undef, undef, undef, undef, undef, undef, undef, undef, undef, undef, undef, undef, undef, undef, undef, undef, undef, undef, undef, undef], []⟩ := by
        rw [hov.eq, hf]; rfl
      subst ha
      have hgr' : Below H w5 x := hH ▸ hgr
      have hgx : g < x.heap.size := Hg.lt
      have Rt6 : RingAt w6.heap.size w6 ut (turnL nr 3 (membersL nr [2])) := by
        refine ⟨(Rt.mem.outs (Outs.ofTurned (s := fun b => b = g) h6 rfl) (Nat.le_refl _) (fun b hb e => ?_)).mono (Nat.le_of_eq h6.size.symm), Rt.own⟩
        subst e
        obtain ⟨cs', fr', q⟩ := Tt _ hb
        have hq := Hg
        unfold Holds at hq
        rw [q] at hq
        cases hq
      have B6 : Below H w5 w6 := hgr'.trans (h6.below hgH)
      have HB6 : Hid (Below N w w6) := HB5.out.trans (B6.mono (by omega))
      have HHg : Hid (Holds w6 g (ringC ut (turnL nr 3 (membersL nr [2]))) 28) := h6.holds
      have HRt : Hid (RingAt w6.heap.size w6 ut (turnL nr 3 (membersL nr [2]))) := Rt6
      have HN6 : Hid (Holds w6 (N + 1) (ringC (.slice none 0 0) ([], noOs)) 28) := HN5'.out.below B6 (by omega)
      have HHu6 : Hid (Holds w6 N (ringC u5 nr) 28) := HHu.out.below B6 (by omega)
      have hz6 : H ≤ w6.heap.size := by have := B6.size; omega
      have HRu6 : Hid (RingAt w6.heap.size w6 u5 nr) := by
        have q := HRu.out
        rw [hH] at q
        exact (q.below B6).mono hz6
      have hg6 : g < w6.heap.size := by rw [h6.size]; exact hgx
      have HFu : Hid (∀ b, ut.ownBlock = some b → ∃ cs fr, w6.heap[b]? = some (.cells cs 53 fr)) := fun b hb => by
        obtain ⟨cs', fr', q⟩ := Tt b hb
        refine ⟨cs', fr', (h6.others b (fun e => ?_)).trans q⟩
        subst e
        have hq := Hg
        unfold Holds at hq
        rw [q] at hq
        cases hq
      clear hfa hf hov hno f6 f22 f23 f24 f25 f26 Hg Rt Tt h6 Rt6 B6 hgr hgr'
      go_upto_region 6 with fail
      have HOl : Hid ((ownersL nr).length = 8) := by show (ownersL nr).length = 8; unfold ownersL; rw [List.length_map]; exact mergeO_len _
      have HM1 : Hid (∀ x ∈ membersL nr [1], 1 ≤ x ∧ x ≤ 7) := fun x hx => mem_members hx
      have HL1 : Hid ((membersL nr [1]).length ≤ 7) := members_len nr [1]
      refine region_by (by kernel_rfl) (by kernel_rfl) [27, 28, 29, 30, 31, 32, 33] (fun | 27 => .ring nr | 28 => .val (.agg (intV (ownersL nr)).toArray) | 29 => .ring nr | 30 => .ints [1] | 31 => .ints (membersL nr [1]) | 32 => .val (.agg (intV (claimL (ownersL nr) (membersL nr [1]))).toArray) | 33 => .val (.int .i64 0) | _ => .any) (by kernel_rfl)
        (List.forall_mem_cons.2 ⟨?s0, List.forall_mem_cons.2 ⟨?s1, List.forall_mem_cons.2 ⟨?s2, List.forall_mem_cons.2 ⟨?s3, List.forall_mem_cons.2 ⟨?s4, List.forall_mem_cons.2 ⟨?s5, List.forall_mem_cons.2 ⟨?s6, fun o ho => nomatch ho⟩⟩⟩⟩⟩⟩⟩) ?e6
      case s0 => exact sa_load28 2 27 rfl rfl rfl (by decide) N rfl u5 nr HHu6.out HRu6.out rfl
      case s1 => exact sa_call1 24 (.tmp 27) _ 28 (.ring nr) rfl rfl rfl (.new 27 (by kernel_rfl) (show 27 < 55 by decide)) (enters_of Tryz.func24 (by kernel_rfl) rfl) (fun v y q => c_owners nr v y q)
      case s2 => exact sa_load28 2 29 rfl rfl rfl (by decide) N rfl u5 nr HHu6.out HRu6.out rfl
      case s3 => exact sa_buildInt 1 30 rfl rfl rfl rfl
      case s4 => exact sa_call2 20 (.tmp 29) (.tmp 30) _ 31 (.ring nr) (.ints [1]) rfl rfl rfl (.new 29 (by kernel_rfl) (show 29 < 55 by decide)) (.new 30 (by kernel_rfl) (show 30 < 55 by decide)) (enters_of Tryz.func20 (by kernel_rfl) rfl) (fun v1 v2 y q1 q2 => c_members nr [1] (by decide) v1 v2 y q1 q2)
      case s5 => exact sa_call2 42 (.tmp 28) (.tmp 31) _ 32 (.val (.agg (intV (ownersL nr)).toArray)) (.ints (membersL nr [1])) rfl rfl rfl (.new 28 (by kernel_rfl) (show 28 < 55 by decide)) (.new 31 (by kernel_rfl) (show 31 < 55 by decide)) (enters_of Tryz.func42 (by kernel_rfl) rfl) (fun v1 v2 y q1 q2 => c_claim (ownersL nr) (membersL nr [1]) HOl.out HL1.out HM1.out v1 v2 y q1 q2)
      case s6 => exact sa_move (.const (.int .i64 0)) 33 (.val (.int .i64 0)) (Or.inl rfl) rfl rfl (.const _) rfl
      case e6 =>
      intro f a x hov hgr hfa hno
      obtain ⟨v27, f27, _⟩ := hfa 27 (by decide) ⟨_, List.mem_cons_self, rfl⟩
      obtain ⟨v28, f28, _⟩ := hfa 28 (by decide) ⟨_, List.mem_cons_of_mem _ (List.mem_cons_self), rfl⟩
      obtain ⟨v29, f29, _⟩ := hfa 29 (by decide) ⟨_, List.mem_cons_of_mem _ (List.mem_cons_of_mem _ (List.mem_cons_self)), rfl⟩
      obtain ⟨v30, f30, _⟩ := hfa 30 (by decide) ⟨_, List.mem_cons_of_mem _ (List.mem_cons_of_mem _ (List.mem_cons_of_mem _ (List.mem_cons_self))), rfl⟩
      obtain ⟨v31, f31, _⟩ := hfa 31 (by decide) ⟨_, List.mem_cons_of_mem _ (List.mem_cons_of_mem _ (List.mem_cons_of_mem _ (List.mem_cons_of_mem _ (List.mem_cons_self)))), rfl⟩
      obtain ⟨v32, f32, h32⟩ := hfa 32 (by decide) ⟨_, List.mem_cons_of_mem _ (List.mem_cons_of_mem _ (List.mem_cons_of_mem _ (List.mem_cons_of_mem _ (List.mem_cons_of_mem _ (List.mem_cons_self))))), rfl⟩
      obtain ⟨v33, f33, h33⟩ := hfa 33 (by decide) ⟨_, List.mem_cons_of_mem _ (List.mem_cons_of_mem _ (List.mem_cons_of_mem _ (List.mem_cons_of_mem _ (List.mem_cons_of_mem _ (List.mem_cons_of_mem _ (List.mem_cons_self)))))), rfl⟩
      have hf : f = fun s => if s = 27 then some v27 else if s = 28 then some v28 else if s = 29 then some v29 else if s = 30 then some v30 else if s = 31 then some v31 else if s = 32 then some v32 else if s = 33 then some v33 else none := by
        funext s
        by_cases e : s = 27
        · subst e; rw [if_pos rfl]; exact f27
        · rw [if_neg e]
          by_cases e : s = 28
          · subst e; rw [if_pos rfl]; exact f28
          · rw [if_neg e]
            by_cases e : s = 29
            · subst e; rw [if_pos rfl]; exact f29
            · rw [if_neg e]
              by_cases e : s = 30
              · subst e; rw [if_pos rfl]; exact f30
              · rw [if_neg e]
                by_cases e : s = 31
                · subst e; rw [if_pos rfl]; exact f31
                · rw [if_neg e]
                  by_cases e : s = 32
                  · subst e; rw [if_pos rfl]; exact f32
                  · rw [if_neg e]
                    by_cases e : s = 33
                    · subst e; rw [if_pos rfl]; exact f33
                    · rw [if_neg e]
                      exact hno s (by simp; omega)
      have e32 : v32 = .agg (intV (claimL (ownersL nr) (membersL nr [1]))).toArray := h32
      have e33 : v33 = .int .i64 0 := h33
      have ha : a = ⟨#[.agg cs.toArray, .int .i64 n, .pointer (some ⟨N, 0, none⟩), undef, .pointer (some ⟨N + 1, 0, none⟩), .int .i64 n, .pointer (some ⟨g, 0, none⟩), undef, undef, undef, .agg cs.toArray, .agg ds.toArray, .agg ds.toArray, .int .i64 n, .int .i64 n, .bool false, .bool false, .int .i64 n, .int .i64 n, .bool false, .bool false, undef, v22, v23, v24, v25, ringV ut (turnL nr 3 (membersL nr [2])), v27, v28, v29, v30, v31, .agg (intV (claimL (ownersL nr) (membersL nr [1]))).toArray, .int .i64 0, undef, undef, undef, undef, undef, undef, undef, undef, undef, undef, undef, undef, undef, undef, undef, undef, undef, undef, undef, undef, undef], []⟩ := by
        rw [hov.eq, hf, e32, e33]; rfl
      subst ha
      clear hfa hf hov hno f27 f28 f29 f30 f31 f32 f33 h32 h33 e32 e33
      have HBx : Hid (Below N w x) := HB6.out.trans (Below.mono hgr (by omega))
      have HNx : Hid (Holds x (N + 1) (ringC (.slice none 0 0) ([], noOs)) 28) := HN6.out.below hgr HN6.out.lt
      have HGx : Hid (Holds x g (ringC ut ((turnL nr 3 (membersL nr [2])).1, planOs (claimL (ownersL nr) (membersL nr [1])) (turnL nr 3 (membersL nr [2])).2 0)) 28) := by
        have q : Holds x g _ 28 := HHg.out.below hgr hg6
        show Holds _ _ _ _
        rw [planOs_zero _ _ HRt.out.own]
        exact q
      have HRx : Hid (RingAt x.heap.size x ut (turnL nr 3 (membersL nr [2]))) := HRt.out.gr hgr
      have HFx : Hid (∀ b, ut.ownBlock = some b → ∃ cs fr, x.heap[b]? = some (.cells cs 53 fr)) := fun b hb => by
        obtain ⟨cs', fr', q⟩ := HFu.out b hb
        exact ⟨cs', fr', (Below.block hgr b (Array.getElem?_eq_some_iff.1 q).1).trans q⟩
      have hzx : w6.heap.size ≤ x.heap.size := Below.size hgr
      have HTf : Hid (∀ j, j < 8 → ((turnL nr 3 (membersL nr [2])).2.getD j noO).2 < 18446744073709551616) := (turn_fit HFn.out (by decide) HM2.out).own
      have hcl8 : (claimL (ownersL nr) (membersL nr [1])).length = 8 := claim_len _ _ HOl.out
      have hCI : Hid (∀ k : Nat, k < 8 → ∀ W, (Instr.index 43 (.agg (intV (claimL (ownersL nr) (membersL nr [1]))).toArray) (.int .i64 (k : Int))).run Tryz.prog W = .ok (.int .i64 ((claimL (ownersL nr) (membersL nr [1])).getD k 0)) W) := fun k hk W => index_own _ hcl8 k hk W
      generalize claimL (ownersL nr) (membersL nr [1]) = CL at *
      generalize turnL nr 3 (membersL nr [2]) = tr at *
      clear HHu6 HRu6 HHg HRt HFu HN6 HB6 HOl HM1 HL1 HM2 HL2 HHu HRu HH5 HZ5 HB5 HN5' HR5
      go_wp2
      go_loopw [33] (fun c wr => ∃ i : Nat, i ≤ 8 ∧ c = .int .i64 (i : Int) ∧ Hid (Holds wr g (ringC ut (tr.1, planOs CL tr.2 i)) 28 ∧ Outs (fun b => b = g) x wr)) (fun c _ => 8 - (intOf c).toNat)
      case atStart => exact ⟨0, Nat.zero_le _, rfl, HGx.out, Outs.refl _ _⟩
      case round =>
      obtain ⟨i, hi, rfl, hI⟩ := hrel
      by_cases hlt : i < 8
      · have hlt' : (i : Int) < 8 := by omega
        have hi0 : (0 : Int) ≤ (i : Int) := by omega
        have hx := hCI.out i hlt
        have hsu := planOs_succ CL tr.2 i
        have hat := planOs_at CL tr.2 i hlt
        have hml := planOs_len CL tr.2 i
        have hvf := HTf.out i hlt
        generalize CL.getD i 0 = co at hx hsu
        generalize tr.2.getD i noO = bo at hsu hat hvf
        generalize planOs CL tr.2 i = cu at hsu hat hml hI
        obtain ⟨hH', hU⟩ := hI.out
        have hcu : cu[i]? = some bo := by rw [getD_some (by omega), hat]
        obtain ⟨b1, b2⟩ := bo
        have q0 : wr.cell? ⟨g, 1 + i * 2, none⟩ = some (.int .i64 b1) := hH'.at _ _ (ring_cell ut tr.1 cu i (b1, b2) hcu 0 (by omega))
        have q1 : wr.cell? ⟨g, 1 + i * 2 + 1, none⟩ = some (.int .u64 (b2 : Int)) := hH'.at _ _ (ring_cell ut tr.1 cu i (b1, b2) hcu 1 (by omega))
        have hset : Hid (∀ o, overV (ringC ut (tr.1, cu)) (1 + i * 2) (owV o) = ringC ut (tr.1, cu.set i o)) := fun o => ring_set ut tr.1 cu i o (by omega)
        have hrl : (ringC ut (tr.1, cu)).length = 17 := by show (ut :: ownV cu).length = 17; rw [List.length_cons, ownV_len, hml]
        have HH : Hid (Holds wr g (ringC ut (tr.1, cu)) 28) := hH'
        have HU : Hid (Outs (fun b => b = g) x wr) := hU
        obtain ⟨M, hM⟩ : ∃ M, wr.heap.size = M := ⟨_, rfl⟩
        have hMg : g < M := hM ▸ hH'.lt
        have hom := fun W => oneMore_any b2 hvf W
        have HPO : Hid (planO co (b1, b2) = if co = b1 then (b1, b2) else (co, moreN b2)) := rfl
        clear hI hH' hU hcu
        by_cases hce : co = b1
        · have hpl : planO co (b1, b2) = (b1, b2) := HPO.out.trans (if_pos hce)
          rw [hpl, ← hat, set_getD_id] at hsu
          have hce' : b1 = co := hce.symm
          subst hce'
          clear hce
          go_wp2_with (first
        | (refine wpList_alloc_new 9 rfl rfl 25 rfl M hM _ zero25 ?_; intro w7 h7)
        | (refine wpList_store_all rfl 25 (.tmp 9) (.tmp 40) rfl M rfl (owV (b1, b2)) rfl 25 _ h7.holds siz25 rfl (owV_one _) ?_; intro w8 h8; have b8 : Below M wr w8 := h7.below.trans (h8.below (Nat.le_refl _)); have p0 := h8.holds.at 0 _ rfl; have p1 := h8.holds.at 1 _ rfl; have H8 := HH.out.below b8 (by omega)))
          exact ⟨⟨i + 1, by omega, by go_num, by rw [hsu]; exact ⟨H8, HU.out.trans (Outs.ofBelow (hM ▸ b8))⟩⟩, by simp [intOf]; omega⟩
        · have hpl : planO co (b1, b2) = (co, moreN b2) := HPO.out.trans (if_neg hce)
          rw [hpl] at hsu
          have hcb : (co == b1) = false := by simpa using hce
          go_wp2_with (first
        | (refine wpList_alloc_new 9 rfl rfl 25 rfl M hM _ zero25 ?_; intro w7 h7)
        | (refine wpList_store_all rfl 25 (.tmp 9) (.tmp 40) rfl M rfl (owV (b1, b2)) rfl 25 _ h7.holds siz25 rfl (owV_one _) ?_; intro w8 h8; have b8 : Below M wr w8 := h7.below.trans (h8.below (Nat.le_refl _)); have p0 := h8.holds.at 0 _ rfl; have p1 := h8.holds.at 1 _ rfl; have H8 := HH.out.below b8 (by omega))
        | (go_at_call 43; refine (hom _).mono ?_; rintro e w9 ⟨rfl, rfl⟩)
        | (refine wpList_store_part rfl 25 (.tmp 52) (.tmp 50) rfl g (1 + i * 2) rfl (owV (co, moreN b2)) rfl 28 _ H8 siz25 (by rw [hrl]; simp [owV]; omega) (owV_one _) ?_; intro w10 h10))
          have hf10 := h10.holds
          rw [hset.out, ← hsu] at hf10
          exact ⟨⟨i + 1, by omega, by go_num, hf10, (HU.out.trans (Outs.ofBelow (hM ▸ b8))).trans (Outs.ofTurned h10 rfl)⟩, by simp [intOf]; omega⟩
      · have e8 : i = 8 := by omega
        subst e8
        obtain ⟨hH', hU⟩ := hI.out
        have hol : (planOs CL tr.2 8).length = 8 := planOs_len _ _ _
        have hrl : (ringC ut (tr.1, planOs CL tr.2 8)).length = 17 := by show (ut :: ownV _).length = 17; rw [List.length_cons, ownV_len, hol]
        have RX : RingAt x.heap.size wr ut (tr.1, planOs CL tr.2 8) := ⟨HRx.out.mem.outs hU (Nat.le_refl _) (fun b hb e => by
          subst e
          obtain ⟨cs', fr', q⟩ := HFx.out _ hb
          have hq := HGx.out
          unfold Holds at hq
          rw [q] at hq
          cases hq), hol⟩
        have hone := ringC_one RX
        have HRX : Hid (RingAt x.heap.size wr ut (tr.1, planOs CL tr.2 8)) := RX
        have HX := HNx.out.outs hU (by omega)
        have HU : Hid (Outs (fun b => b = g) x wr) := hU
        obtain ⟨es, hes0⟩ : ∃ es, ringC ut (tr.1, planOs CL tr.2 8) = es := ⟨_, rfl⟩
        have hes : Hid (ringC ut (tr.1, planOs CL tr.2 8) = es) := hes0
        rw [hes0] at hH' hrl hone
        have rr := hH'.row28 hrl
        clear hes0 hI hU RX
        go_wp2_with (refine wpList_store_all rfl 28 (.tmp 4) (.tmp 54) rfl (N + 1) rfl es rfl 28 _ HX (siz28.trans (congrArg some hrl.symm)) hrl.symm hone ?_; intro w12 h12)
        refine bodyPost_ret (results_cell_row (p := 4) (by kernel_rfl) _ w12 (N + 1) 28 es.toArray (0, 0) _ rfl h12.holds Tryz.underlying28 rfl (siz28.trans (congrArg some (show es.length = 17 from hrl).symm))) rfl ?_
        rw [hP.out, ← hes.out]
        have U12 : Outs (fun b => b = g ∨ b = N + 1) x w12 := (HU.out.trans' (fun b hb => Or.inl hb)).trans (Outs.ofTurned h12 (Or.inr rfl))
        refine ⟨ut, rfl, ⟨(HRx.out.mem.outs U12 (Nat.le_refl _) (fun b hb e => ?_)).mono U12.size, hol⟩, HBx.out.trans (U12.below (by omega) (by omega))⟩
        obtain ⟨cs', fr', q⟩ := HFx.out _ hb
        rcases e with e | e
        · subst e
          have hq := HGx.out
          unfold Holds at hq
          rw [q] at hq
          cases hq
        · subst e
          have hq := HNx.out
          unfold Holds at hq
          rw [q] at hq
          cases hq

    · have hnb : (n == c) = false := by simpa using hn
      have hP : Hid (PL = nr) := HP.out.trans (if_pos (Or.inr hn))
      go_enter Tryz.func16, Tryz.ntmps16
      go_wp2_with (first
      | (refine wpList_box_new 2 rfl rfl 28 _ rfl N hN _ rfl ?_; intro w1 h1)
      | (refine wpList_alloc_new 4 rfl rfl 28 rfl (N + 1) h1.size _ zero28 ?_; intro w2 h2; have H2 := h1.holds.below h2.below (by omega); have hz2 := h2.size; have b2 : Below N w w2 := h1.below.trans (h2.below.mono (by omega)); have hz2' : N ≤ w2.heap.size := (by omega); have HR2 := (HR.out.below b2).mono hz2'; have r2 := H2.row28 hl17)
      | (go_at_call 8; refine (HNorm.out _ HR2).mono ?_; rintro e w3 ⟨ds, rfl, T3⟩; have hz3 := T3.out.len; have ho3 := T3.out.one; have b3 := T3.out.below; have H3 := H2.below b3 (by omega); have HN3 := h2.holds.below b3 (by omega); have hs3 := b3.size)
      | (refine wpList_store_all rfl 28 (.tmp 2) (.tmp 11) rfl N rfl ds rfl 28 _ H3 (siz28.trans (congrArg some hz3.symm)) (hl17.trans hz3.symm) ho3 ?_; intro w4 h4; have r4 := h4.holds.row28 hz3; have HQ4 : ∃ u, ds = ringC u nr ∧ RingAt w4.heap.size w4 u nr := (by obtain ⟨u, e1, e2, e3, e4⟩ := T3.out; exact ⟨u, e1, (e2.outs e3 (Outs.ofTurned (s := fun b => b = N) h4 rfl) (Nat.le_refl _) (by omega)).mono (Nat.le_of_eq h4.size.symm)⟩))
      | (go_at_call 22; refine (HCl.out w4 ds HQ4).mono ?_; rintro e w5 ⟨rfl, b5⟩; have H5 := h4.holds.below b5 (by rw [h4.size]; omega); have r5 := H5.row28 hz3; have HN5 : Holds w5 (N + 1) (ringC (.slice none 0 0) ([], noOs)) 28 := (by unfold Holds; rw [b5.block (N + 1) (by rw [h4.size]; omega), h4.others (N + 1) (by omega)]; exact HN3))
        | (refine wpList_store_all rfl 28 (.tmp 4) (.tmp 21) rfl (N + 1) rfl ds rfl 28 _ HN5 (siz28.trans (congrArg some hz3.symm)) hz3.symm ho3 ?_; intro w6 h6))
      refine bodyPost_ret (results_cell_row (p := 4) (by kernel_rfl) _ w6 (N + 1) 28 ds.toArray (0, 0) _ rfl h6.holds Tryz.underlying28 rfl (siz28.trans (congrArg some (show ds.length = 17 from hz3).symm))) rfl ?_
      rw [hP.out]
      obtain ⟨u, e1, e2, e3, e4⟩ := T3.out
      have U36 : Outs (fun b => b = N ∨ b = N + 1) w3 w6 := ((Outs.ofTurned h4 (Or.inl rfl)).trans (Outs.ofBelow b5)).trans (Outs.ofTurned h6 (Or.inr rfl))
      rw [e1]
      exact ⟨u, rfl, (e2.outs e3 U36 (Nat.le_refl _) (by omega)).mono U36.size, (b2.trans (b3.mono hz2')).trans (U36.below (by omega) (by omega))⟩

end Go.Proofs.YthmnjebmnocoiaaGreat
