/- The law's awake (5). -/
import Derived.Test.YthmnjebmnocoiaaGreatYGsAwP
namespace Go.Proofs.YthmnjebmnocoiaaGreat
open Go.RowKit
attribute [local go_sem ↓] rule28

def awT : List Fk := [.val (.bool true), .any, .any, .any, .any, .any, .any, .any, .any, .any, .any, .any, .any, .any, .any, .ring bR, .val (.int .i64 1), .val (.bool true), .val (.bool true), .ring pR, .val (.agg (intV owp).toArray), .val (.agg (intV owp).toArray), .val (.bool true), .val (.bool true), .val (.bool true), .ring bR, .ring bR, .ring bR, .val (.bool true), .val (.bool true), .val (.bool true), .ring cR, .val (.int .i64 2), .val (.bool true), .val (.bool true), .val (.bool true), .ring qR, .val (.agg (intV owq).toArray), .val (.agg (intV owq).toArray), .val (.bool true), .val (.bool true), .val (.bool true), .ring qR, .val (.int .i64 3), .val (.bool true), .val (.bool true), .val (.bool true), .ring aR, .ring cR, .row [aR, cR], .ring cR, .ring cR, .val (.bool true), .val (.bool true), .val (.bool true), .ring qR, .ints [1], .ints [2], .val (.int .i64 1), .val (.bool true), .val (.bool true)]
set_option maxRecDepth 100000 in
set_option maxHeartbeats 8000000 in
theorem awake_any (w : World) : Calls Tryz.prog 6 #[] w fun e z => e = .returned (.bool true) ∧ Gr w z := by
  go_enter Tryz.func6, Tryz.ntmps6
  generalize hK : (Code.region 6 _ true).seq Code.ret = K6
  have HK : Hid (_ = K6) := hK
  clear hK
  go_wp2_with (first
    | (go_at_call 18; refine (k_new _).mono ?_; rintro e x1 ⟨c1, rfl, T1⟩; obtain ⟨g1, hg1⟩ : ∃ g, x1.heap.size = g := ⟨_, rfl⟩; have l1 := T1.out.len; have o1 := T1.out.one)
    | (refine wpList_alloc_new 1 rfl rfl 28 rfl g1 hg1 _ zero28 ?_; intro y1 h1)
    | (refine wpList_store_all rfl 28 (.tmp 1) (.tmp 6) rfl g1 rfl c1 rfl 28 _ h1.holds (siz28.trans (congrArg some l1.symm)) l1.symm o1 ?_; intro w1 k1; obtain ⟨B1_1, G1⟩ := hbox (box_made T1.out hg1 h1 k1); have A1 : Hid (Gr w w1) := G1.out; have p1 := B1_1.out.1.row28 l1; clear T1 h1 k1 o1 hg1)
    | (go_at_call 12; refine (k_join _ _ _ B1_1.out).mono ?_; rintro e x2 ⟨c2, rfl, T2⟩; obtain ⟨g2, hg2⟩ : ∃ g, x2.heap.size = g := ⟨_, rfl⟩; have l2 := T2.out.len; have o2 := T2.out.one)
    | (refine wpList_alloc_new 2 rfl rfl 28 rfl g2 hg2 _ zero28 ?_; intro y2 h2)
    | (refine wpList_store_all rfl 28 (.tmp 2) (.tmp 8) rfl g2 rfl c2 rfl 28 _ h2.holds (siz28.trans (congrArg some l2.symm)) l2.symm o2 ?_; intro w2 k2; obtain ⟨B2_2, G2⟩ := hbox (box_made T2.out hg2 h2 k2); have B1_2 : Hid (BoxAt w2 g1 c1 aR) := B1_1.out.gr G2.out; clear B1_1; have A2 : Hid (Gr w w2) := A1.out.trans G2.out; have p2 := B2_2.out.1.row28 l2; clear T2 h2 k2 o2 hg2 p1 A1)
    | (go_at_call 16; refine (k_plan bR pR fit_b 1 lit_p _ _ _ B2_2.out).mono ?_; rintro e x3 ⟨c3, rfl, T3⟩; obtain ⟨g3, hg3⟩ : ∃ g, x3.heap.size = g := ⟨_, rfl⟩; have l3 := T3.out.len; have o3 := T3.out.one)
    | (refine wpList_alloc_new 3 rfl rfl 28 rfl g3 hg3 _ zero28 ?_; intro y3 h3)
    | (refine wpList_store_all rfl 28 (.tmp 3) (.tmp 10) rfl g3 rfl c3 rfl 28 _ h3.holds (siz28.trans (congrArg some l3.symm)) l3.symm o3 ?_; intro w3 k3; obtain ⟨B3_3, G3⟩ := hbox (box_made T3.out hg3 h3 k3); have B1_3 : Hid (BoxAt w3 g1 c1 aR) := B1_2.out.gr G3.out; clear B1_2; have B2_3 : Hid (BoxAt w3 g2 c2 bR) := B2_2.out.gr G3.out; clear B2_2; have A3 : Hid (Gr w w3) := A2.out.trans G3.out; have p3 := B3_3.out.1.row28 l3; clear T3 h3 k3 o3 hg3 p2 A2)
    | (go_at_call 14; refine (k_leave _ _ _ B3_3.out).mono ?_; rintro e x4 ⟨c4, rfl, T4⟩; obtain ⟨g4, hg4⟩ : ∃ g, x4.heap.size = g := ⟨_, rfl⟩; have l4 := T4.out.len; have o4 := T4.out.one)
    | (refine wpList_alloc_new 4 rfl rfl 28 rfl g4 hg4 _ zero28 ?_; intro y4 h4)
    | (refine wpList_store_all rfl 28 (.tmp 4) (.tmp 12) rfl g4 rfl c4 rfl 28 _ h4.holds (siz28.trans (congrArg some l4.symm)) l4.symm o4 ?_; intro w4 k4; obtain ⟨B4_4, G4⟩ := hbox (box_made T4.out hg4 h4 k4); have B1_4 : Hid (BoxAt w4 g1 c1 aR) := B1_3.out.gr G4.out; clear B1_3; have B2_4 : Hid (BoxAt w4 g2 c2 bR) := B2_3.out.gr G4.out; clear B2_3; have B3_4 : Hid (BoxAt w4 g3 c3 pR) := B3_3.out.gr G4.out; clear B3_3; have A4 : Hid (Gr w w4) := A3.out.trans G4.out; have p4 := B4_4.out.1.row28 l4; clear T4 h4 k4 o4 hg4 p3 A3)
    | (go_at_call 16; refine (k_plan cR qR fit_c 2 lit_q _ _ _ B4_4.out).mono ?_; rintro e x5 ⟨c5, rfl, T5⟩; obtain ⟨g5, hg5⟩ : ∃ g, x5.heap.size = g := ⟨_, rfl⟩; have l5 := T5.out.len; have o5 := T5.out.one)
    | (refine wpList_alloc_new 5 rfl rfl 28 rfl g5 hg5 _ zero28 ?_; intro y5 h5)
    | (refine wpList_store_all rfl 28 (.tmp 5) (.tmp 14) rfl g5 rfl c5 rfl 28 _ h5.holds (siz28.trans (congrArg some l5.symm)) l5.symm o5 ?_; intro w5 k5; obtain ⟨B5_5, G5⟩ := hbox (box_made T5.out hg5 h5 k5); have B1_5 : Hid (BoxAt w5 g1 c1 aR) := B1_4.out.gr G5.out; clear B1_4; have B2_5 : Hid (BoxAt w5 g2 c2 bR) := B2_4.out.gr G5.out; clear B2_4; have B3_5 : Hid (BoxAt w5 g3 c3 pR) := B3_4.out.gr G5.out; clear B3_4; have B4_5 : Hid (BoxAt w5 g4 c4 cR) := B4_4.out.gr G5.out; clear B4_4; have A5 : Hid (Gr w w5) := A4.out.trans G5.out; have p5 := B5_5.out.1.row28 l5; clear T5 h5 k5 o5 hg5 p4 A4))
  have H1 : Hid (Holds w5 g1 c1 28) := B1_5.out.1
  have L1 := B1_5.out.1.lt
  obtain ⟨u1, e1, R1⟩ : ∃ u, c1 = ringC u aR ∧ Hid (RingAt w5.heap.size w5 u aR) := by obtain ⟨u, e, R⟩ := B1_5.out.2; exact ⟨u, e, R.mono (Nat.le_of_lt L1)⟩
  have H2 : Hid (Holds w5 g2 c2 28) := B2_5.out.1
  have L2 := B2_5.out.1.lt
  obtain ⟨u2, e2, R2⟩ : ∃ u, c2 = ringC u bR ∧ Hid (RingAt w5.heap.size w5 u bR) := by obtain ⟨u, e, R⟩ := B2_5.out.2; exact ⟨u, e, R.mono (Nat.le_of_lt L2)⟩
  have H3 : Hid (Holds w5 g3 c3 28) := B3_5.out.1
  have L3 := B3_5.out.1.lt
  obtain ⟨u3, e3, R3⟩ : ∃ u, c3 = ringC u pR ∧ Hid (RingAt w5.heap.size w5 u pR) := by obtain ⟨u, e, R⟩ := B3_5.out.2; exact ⟨u, e, R.mono (Nat.le_of_lt L3)⟩
  have H4 : Hid (Holds w5 g4 c4 28) := B4_5.out.1
  have L4 := B4_5.out.1.lt
  obtain ⟨u4, e4, R4⟩ : ∃ u, c4 = ringC u cR ∧ Hid (RingAt w5.heap.size w5 u cR) := by obtain ⟨u, e, R⟩ := B4_5.out.2; exact ⟨u, e, R.mono (Nat.le_of_lt L4)⟩
  have H5 : Hid (Holds w5 g5 c5 28) := B5_5.out.1
  have L5 := B5_5.out.1.lt
  obtain ⟨u5, e5, R5⟩ : ∃ u, c5 = ringC u qR ∧ Hid (RingAt w5.heap.size w5 u qR) := by obtain ⟨u, e, R⟩ := B5_5.out.2; exact ⟨u, e, R.mono (Nat.le_of_lt L5)⟩
  have HA : Hid (Gr w w5) := A5.out
  clear A5 p5 G1 l1 L1 B1_5 G2 l2 L2 B2_5 G3 l3 L3 B3_5 G4 l4 L4 B4_5 G5 l5 L5 B5_5
  rw [← HK.out]
  clear HK
  go_upto_region 6 with fail
  rename_i Kc hKc
  -- MARK
  show Code.wp Tryz.prog _ _ ⟨#[(.bool false), (.pointer (some ⟨g1, 0, none⟩)), (.pointer (some ⟨g2, 0, none⟩)), (.pointer (some ⟨g3, 0, none⟩)), (.pointer (some ⟨g4, 0, none⟩)), (.pointer (some ⟨g5, 0, none⟩)), (.agg c1.toArray), (.agg c1.toArray), (.agg c2.toArray), (.agg c2.toArray), (.agg c3.toArray), (.agg c3.toArray), (.agg c4.toArray), (.agg c4.toArray), (.agg c5.toArray), undef, undef, undef, undef, undef, undef, undef, undef, undef, undef, undef, undef, undef, undef, undef, undef, undef, undef, undef, undef, undef, undef, undef, undef, undef, undef, undef, undef, undef, undef, undef, undef, undef, undef, undef, undef, undef, undef, undef, undef, undef, undef, undef, undef, undef, undef], []⟩ w5
  -- MARK2
  refine region_by (by kernel_rfl) (by kernel_rfl) [15, 16, 17, 18, 19, 20, 21, 22, 23, 24, 25, 26, 27, 28, 29, 30, 31, 32, 33, 34, 35, 36, 37, 38, 39, 40, 41, 42, 43, 44, 45, 46, 47, 48, 49, 50, 51, 52, 53, 54, 55, 56, 57, 58, 59, 60, 0] (fun s => awT.getD s .any) (by kernel_rfl) (List.forall_mem_cons.2 ⟨?s0, List.forall_mem_cons.2 ⟨?s1, List.forall_mem_cons.2 ⟨?s2, List.forall_mem_cons.2 ⟨?s3, List.forall_mem_cons.2 ⟨?s4, List.forall_mem_cons.2 ⟨?s5, List.forall_mem_cons.2 ⟨?s6, List.forall_mem_cons.2 ⟨?s7, List.forall_mem_cons.2 ⟨?s8, List.forall_mem_cons.2 ⟨?s9, List.forall_mem_cons.2 ⟨?s10, List.forall_mem_cons.2 ⟨?s11, List.forall_mem_cons.2 ⟨?s12, List.forall_mem_cons.2 ⟨?s13, List.forall_mem_cons.2 ⟨?s14, List.forall_mem_cons.2 ⟨?s15, List.forall_mem_cons.2 ⟨?s16, List.forall_mem_cons.2 ⟨?s17, List.forall_mem_cons.2 ⟨?s18, List.forall_mem_cons.2 ⟨?s19, List.forall_mem_cons.2 ⟨?s20, List.forall_mem_cons.2 ⟨?s21, List.forall_mem_cons.2 ⟨?s22, List.forall_mem_cons.2 ⟨?s23, List.forall_mem_cons.2 ⟨?s24, List.forall_mem_cons.2 ⟨?s25, List.forall_mem_cons.2 ⟨?s26, List.forall_mem_cons.2 ⟨?s27, List.forall_mem_cons.2 ⟨?s28, List.forall_mem_cons.2 ⟨?s29, List.forall_mem_cons.2 ⟨?s30, List.forall_mem_cons.2 ⟨?s31, List.forall_mem_cons.2 ⟨?s32, List.forall_mem_cons.2 ⟨?s33, List.forall_mem_cons.2 ⟨?s34, List.forall_mem_cons.2 ⟨?s35, List.forall_mem_cons.2 ⟨?s36, List.forall_mem_cons.2 ⟨?s37, List.forall_mem_cons.2 ⟨?s38, List.forall_mem_cons.2 ⟨?s39, List.forall_mem_cons.2 ⟨?s40, List.forall_mem_cons.2 ⟨?s41, List.forall_mem_cons.2 ⟨?s42, List.forall_mem_cons.2 ⟨?s43, List.forall_mem_cons.2 ⟨?s44, List.forall_mem_cons.2 ⟨?s45, List.forall_mem_cons.2 ⟨?s46, fun o ho => nomatch ho⟩⟩⟩⟩⟩⟩⟩⟩⟩⟩⟩⟩⟩⟩⟩⟩⟩⟩⟩⟩⟩⟩⟩⟩⟩⟩⟩⟩⟩⟩⟩⟩⟩⟩⟩⟩⟩⟩⟩⟩⟩⟩⟩⟩⟩⟩⟩) ?e
  -- MARK3
  case s0 => exact sa_load28 2 15 rfl rfl rfl (by decide) g2 rfl _ bR (e2 ▸ (H2).out) (R2.out) rfl
  case s1 => exact sa_call1 22 (.tmp 15) _ 16 (.ring bR) rfl rfl rfl (.new 15 (by kernel_rfl) (show 15 < 61 by decide)) (enters_of Tryz.func22 (by kernel_rfl) rfl) (fun v y q => by have := c_claimant bR v y q; rw [lit_clb] at this; exact this)
  case s2 => exact sa_eql3 (.tmp 16) (.const (.int .i64 1)) _ 17 1 1 rfl rfl rfl (.new 16 (by kernel_rfl) (show 16 < 61 by decide)) (.const _) rfl rfl
  case s3 => exact sa_move (.tmp 17) 18 (.val (.bool true)) (.inl rfl) rfl rfl (.new 17 (by kernel_rfl) (show 17 < 61 by decide)) rfl
  case s4 => exact sa_guard 3 18 rfl rfl (by kernel_rfl) (show 18 < 61 by decide) rfl (sa_load28 3 19 rfl rfl rfl (by decide) g3 rfl _ pR (e3 ▸ (H3).out) (R3.out) rfl)
  case s5 => exact sa_guard 3 18 rfl rfl (by kernel_rfl) (show 18 < 61 by decide) rfl (sa_call1 24 (.tmp 19) _ 20 (.ring pR) rfl rfl rfl (.new 19 (by kernel_rfl) (show 19 < 61 by decide)) (enters_of Tryz.func24 (by kernel_rfl) rfl) (fun v y q => by have := c_owners pR v y q; rw [show ownersL pR = owp from lit_owp] at this; exact this))
  case s6 => exact sa_guard 3 18 rfl rfl (by kernel_rfl) (show 18 < 61 by decide) rfl (sa_run 21 _ rfl rfl rfl (fun f a y c => by kernel_rfl))
  case s7 => exact sa_guard 3 18 rfl rfl (by kernel_rfl) (show 18 < 61 by decide) rfl (sa_eqlV 43 (.tmp 20) (.tmp 21) _ 22 _ _ rfl rfl rfl (.new 20 (by kernel_rfl) (show 20 < 61 by decide)) (.new 21 (by kernel_rfl) (show 21 < 61 by decide)) (guard49 _ _) eql_owp rfl)
  case s8 => exact sa_pick (.tmp 18) (.tmp 22) _ 23 (.val (.bool true)) rfl rfl rfl (.new 18 (by kernel_rfl) (show 18 < 61 by decide)) (.new 22 (by kernel_rfl) (show 22 < 61 by decide)) rfl
  case s9 => exact sa_move (.tmp 23) 24 (.val (.bool true)) (.inl rfl) rfl rfl (.new 23 (by kernel_rfl) (show 23 < 61 by decide)) rfl
  case s10 => exact sa_guard 9 24 rfl rfl (by kernel_rfl) (show 24 < 61 by decide) rfl (sa_load28 2 25 rfl rfl rfl (by decide) g2 rfl _ bR (e2 ▸ (H2).out) (R2.out) rfl)
  case s11 => exact sa_guard 9 24 rfl rfl (by kernel_rfl) (show 24 < 61 by decide) rfl (sa_call2 16 (.tmp 25) (.const (.int .i64 2)) _ 26 (.ring bR) (.val (.int .i64 2)) rfl rfl rfl (.new 25 (by kernel_rfl) (show 25 < 61 by decide)) (.const _) (enters_of Tryz.func16 (by kernel_rfl) rfl) (fun v s y q1 q2 => by have := c_plan bR fit_b 2 v s y q1 q2; rw [show planL bR 2 = bR from lit_plb] at this; exact this))
  case s12 => exact sa_guard 9 24 rfl rfl (by kernel_rfl) (show 24 < 61 by decide) rfl (sa_load28 2 27 rfl rfl rfl (by decide) g2 rfl _ bR (e2 ▸ (H2).out) (R2.out) rfl)
  case s13 => exact sa_guard 9 24 rfl rfl (by kernel_rfl) (show 24 < 61 by decide) rfl (sa_call2 28 (.tmp 26) (.tmp 27) _ 28 (.ring bR) (.ring bR) rfl rfl rfl (.new 26 (by kernel_rfl) (show 26 < 61 by decide)) (.new 27 (by kernel_rfl) (show 27 < 61 by decide)) (enters_of Tryz.func28 (by kernel_rfl) rfl) (fun v s y q1 q2 => c_same bR bR rfl v s y q1 q2))
  case s14 => exact sa_pick (.tmp 24) (.tmp 28) _ 29 (.val (.bool true)) rfl rfl rfl (.new 24 (by kernel_rfl) (show 24 < 61 by decide)) (.new 28 (by kernel_rfl) (show 28 < 61 by decide)) rfl
  case s15 => exact sa_move (.tmp 29) 30 (.val (.bool true)) (.inl rfl) rfl rfl (.new 29 (by kernel_rfl) (show 29 < 61 by decide)) rfl
  case s16 => exact sa_guard 15 30 rfl rfl (by kernel_rfl) (show 30 < 61 by decide) rfl (sa_load28 4 31 rfl rfl rfl (by decide) g4 rfl _ cR (e4 ▸ (H4).out) (R4.out) rfl)
  case s17 => exact sa_guard 15 30 rfl rfl (by kernel_rfl) (show 30 < 61 by decide) rfl (sa_call1 22 (.tmp 31) _ 32 (.ring cR) rfl rfl rfl (.new 31 (by kernel_rfl) (show 31 < 61 by decide)) (enters_of Tryz.func22 (by kernel_rfl) rfl) (fun v y q => by have := c_claimant cR v y q; rw [lit_clc] at this; exact this))
  case s18 => exact sa_guard 15 30 rfl rfl (by kernel_rfl) (show 30 < 61 by decide) rfl (sa_eql3 (.tmp 32) (.const (.int .i64 2)) _ 33 2 2 rfl rfl rfl (.new 32 (by kernel_rfl) (show 32 < 61 by decide)) (.const _) rfl rfl)
  case s19 => exact sa_pick (.tmp 30) (.tmp 33) _ 34 (.val (.bool true)) rfl rfl rfl (.new 30 (by kernel_rfl) (show 30 < 61 by decide)) (.new 33 (by kernel_rfl) (show 33 < 61 by decide)) rfl
  case s20 => exact sa_move (.tmp 34) 35 (.val (.bool true)) (.inl rfl) rfl rfl (.new 34 (by kernel_rfl) (show 34 < 61 by decide)) rfl
  case s21 => exact sa_guard 20 35 rfl rfl (by kernel_rfl) (show 35 < 61 by decide) rfl (sa_load28 5 36 rfl rfl rfl (by decide) g5 rfl _ qR (e5 ▸ (H5).out) (R5.out) rfl)
  case s22 => exact sa_guard 20 35 rfl rfl (by kernel_rfl) (show 35 < 61 by decide) rfl (sa_call1 24 (.tmp 36) _ 37 (.ring qR) rfl rfl rfl (.new 36 (by kernel_rfl) (show 36 < 61 by decide)) (enters_of Tryz.func24 (by kernel_rfl) rfl) (fun v y q => by have := c_owners qR v y q; rw [show ownersL qR = owq from lit_owq] at this; exact this))
  case s23 => exact sa_guard 20 35 rfl rfl (by kernel_rfl) (show 35 < 61 by decide) rfl (sa_run 38 _ rfl rfl rfl (fun f a y c => by kernel_rfl))
  case s24 => exact sa_guard 20 35 rfl rfl (by kernel_rfl) (show 35 < 61 by decide) rfl (sa_eqlV 43 (.tmp 37) (.tmp 38) _ 39 _ _ rfl rfl rfl (.new 37 (by kernel_rfl) (show 37 < 61 by decide)) (.new 38 (by kernel_rfl) (show 38 < 61 by decide)) (guard49 _ _) eql_owq rfl)
  case s25 => exact sa_pick (.tmp 35) (.tmp 39) _ 40 (.val (.bool true)) rfl rfl rfl (.new 35 (by kernel_rfl) (show 35 < 61 by decide)) (.new 39 (by kernel_rfl) (show 39 < 61 by decide)) rfl
  case s26 => exact sa_move (.tmp 40) 41 (.val (.bool true)) (.inl rfl) rfl rfl (.new 40 (by kernel_rfl) (show 40 < 61 by decide)) rfl
  case s27 => exact sa_guard 26 41 rfl rfl (by kernel_rfl) (show 41 < 61 by decide) rfl (sa_load28 5 42 rfl rfl rfl (by decide) g5 rfl _ qR (e5 ▸ (H5).out) (R5.out) rfl)
  case s28 => exact sa_guard 26 41 rfl rfl (by kernel_rfl) (show 41 < 61 by decide) rfl (sa_call2 26 (.tmp 42) (.const (.int .i64 1)) _ 43 (.ring qR) (.val (.int .i64 1)) rfl rfl rfl (.new 42 (by kernel_rfl) (show 42 < 61 by decide)) (.const _) (enters_of Tryz.func26 (by kernel_rfl) rfl) (fun v s y q1 q2 => by have := c_state qR 1 (by unfold I64; decide) v s y q1 q2; rw [lit_stq] at this; exact this))
  case s29 => exact sa_guard 26 41 rfl rfl (by kernel_rfl) (show 41 < 61 by decide) rfl (sa_eql3 (.tmp 43) (.const (.int .i64 3)) _ 44 3 3 rfl rfl rfl (.new 43 (by kernel_rfl) (show 43 < 61 by decide)) (.const _) rfl rfl)
  case s30 => exact sa_pick (.tmp 41) (.tmp 44) _ 45 (.val (.bool true)) rfl rfl rfl (.new 41 (by kernel_rfl) (show 41 < 61 by decide)) (.new 44 (by kernel_rfl) (show 44 < 61 by decide)) rfl
  case s31 => exact sa_move (.tmp 45) 46 (.val (.bool true)) (.inl rfl) rfl rfl (.new 45 (by kernel_rfl) (show 45 < 61 by decide)) rfl
  case s32 => exact sa_guard 31 46 rfl rfl (by kernel_rfl) (show 46 < 61 by decide) rfl (sa_load28 1 47 rfl rfl rfl (by decide) g1 rfl _ aR (e1 ▸ (H1).out) (R1.out) rfl)
  case s33 => exact sa_guard 31 46 rfl rfl (by kernel_rfl) (show 46 < 61 by decide) rfl (sa_load28 4 48 rfl rfl rfl (by decide) g4 rfl _ cR (e4 ▸ (H4).out) (R4.out) rfl)
  case s34 => exact sa_guard 31 46 rfl rfl (by kernel_rfl) (show 46 < 61 by decide) rfl (sa_rings2 (.tmp 47) (.tmp 48) 49 aR cR rfl rfl rfl (.new 47 (by kernel_rfl) (show 47 < 61 by decide)) (.new 48 (by kernel_rfl) (show 48 < 61 by decide)) rfl)
  case s35 => exact sa_guard 31 46 rfl rfl (by kernel_rfl) (show 46 < 61 by decide) rfl (sa_call1 10 (.tmp 49) _ 50 (.row [aR, cR]) rfl rfl rfl (.new 49 (by kernel_rfl) (show 49 < 61 by decide)) (enters_of Tryz.func10 (by kernel_rfl) rfl) (fun v y q => by have := c_merge [aR, cR] (by decide) v y q; rw [lit_mac] at this; exact this))
  case s36 => exact sa_guard 31 46 rfl rfl (by kernel_rfl) (show 46 < 61 by decide) rfl (sa_load28 4 51 rfl rfl rfl (by decide) g4 rfl _ cR (e4 ▸ (H4).out) (R4.out) rfl)
  case s37 => exact sa_guard 31 46 rfl rfl (by kernel_rfl) (show 46 < 61 by decide) rfl (sa_call2 28 (.tmp 50) (.tmp 51) _ 52 (.ring cR) (.ring cR) rfl rfl rfl (.new 50 (by kernel_rfl) (show 50 < 61 by decide)) (.new 51 (by kernel_rfl) (show 51 < 61 by decide)) (enters_of Tryz.func28 (by kernel_rfl) rfl) (fun v s y q1 q2 => c_same cR cR rfl v s y q1 q2))
  case s38 => exact sa_pick (.tmp 46) (.tmp 52) _ 53 (.val (.bool true)) rfl rfl rfl (.new 46 (by kernel_rfl) (show 46 < 61 by decide)) (.new 52 (by kernel_rfl) (show 52 < 61 by decide)) rfl
  case s39 => exact sa_move (.tmp 53) 54 (.val (.bool true)) (.inl rfl) rfl rfl (.new 53 (by kernel_rfl) (show 53 < 61 by decide)) rfl
  case s40 => exact sa_guard 39 54 rfl rfl (by kernel_rfl) (show 54 < 61 by decide) rfl (sa_load28 5 55 rfl rfl rfl (by decide) g5 rfl _ qR (e5 ▸ (H5).out) (R5.out) rfl)
  case s41 => exact sa_guard 39 54 rfl rfl (by kernel_rfl) (show 54 < 61 by decide) rfl (sa_buildInt 1 56 rfl rfl rfl rfl)
  case s42 => exact sa_guard 39 54 rfl rfl (by kernel_rfl) (show 54 < 61 by decide) rfl (sa_call2 20 (.tmp 55) (.tmp 56) _ 57 (.ring qR) (.ints [1]) rfl rfl rfl (.new 55 (by kernel_rfl) (show 55 < 61 by decide)) (.new 56 (by kernel_rfl) (show 56 < 61 by decide)) (enters_of Tryz.func20 (by kernel_rfl) rfl) (fun v s y q1 q2 => by have := c_members qR [1] (by decide) v s y q1 q2; rw [lit_meq] at this; exact this))
  case s43 => exact sa_guard 39 54 rfl rfl (by kernel_rfl) (show 54 < 61 by decide) rfl (sa_len (.tmp 57) 58 [2] rfl rfl rfl rfl (.new 57 (by kernel_rfl) (show 57 < 61 by decide)) rfl)
  case s44 => exact sa_guard 39 54 rfl rfl (by kernel_rfl) (show 54 < 61 by decide) rfl (sa_eql3 (.tmp 58) (.const (.int .i64 1)) _ 59 1 1 rfl rfl rfl (.new 58 (by kernel_rfl) (show 58 < 61 by decide)) (.const _) rfl rfl)
  case s45 => exact sa_pick (.tmp 54) (.tmp 59) _ 60 (.val (.bool true)) rfl rfl rfl (.new 54 (by kernel_rfl) (show 54 < 61 by decide)) (.new 59 (by kernel_rfl) (show 59 < 61 by decide)) rfl
  case s46 => exact sa_move (.tmp 60) 0 (.val (.bool true)) (.inr rfl) rfl rfl (.new 60 (by kernel_rfl) (show 60 < 61 by decide)) rfl
  case e =>
  intro f a x hov hgr hfa hno
  obtain ⟨v0, f0, hv0⟩ := hfa 0 (by decide) ⟨_, List.mem_cons_of_mem _ (List.mem_cons_of_mem _ (List.mem_cons_of_mem _ (List.mem_cons_of_mem _ (List.mem_cons_of_mem _ (List.mem_cons_of_mem _ (List.mem_cons_of_mem _ (List.mem_cons_of_mem _ (List.mem_cons_of_mem _ (List.mem_cons_of_mem _ (List.mem_cons_of_mem _ (List.mem_cons_of_mem _ (List.mem_cons_of_mem _ (List.mem_cons_of_mem _ (List.mem_cons_of_mem _ (List.mem_cons_of_mem _ (List.mem_cons_of_mem _ (List.mem_cons_of_mem _ (List.mem_cons_of_mem _ (List.mem_cons_of_mem _ (List.mem_cons_of_mem _ (List.mem_cons_of_mem _ (List.mem_cons_of_mem _ (List.mem_cons_of_mem _ (List.mem_cons_of_mem _ (List.mem_cons_of_mem _ (List.mem_cons_of_mem _ (List.mem_cons_of_mem _ (List.mem_cons_of_mem _ (List.mem_cons_of_mem _ (List.mem_cons_of_mem _ (List.mem_cons_of_mem _ (List.mem_cons_of_mem _ (List.mem_cons_of_mem _ (List.mem_cons_of_mem _ (List.mem_cons_of_mem _ (List.mem_cons_of_mem _ (List.mem_cons_of_mem _ (List.mem_cons_of_mem _ (List.mem_cons_of_mem _ (List.mem_cons_of_mem _ (List.mem_cons_of_mem _ (List.mem_cons_of_mem _ (List.mem_cons_of_mem _ (List.mem_cons_of_mem _ (List.mem_cons_of_mem _ (List.mem_cons_self)))))))))))))))))))))))))))))))))))))))))))))), rfl⟩
  have hv0 : v0 = .bool true := hv0
  subst hv0
  have ha : a = ⟨#[(f 0).getD (.bool false), (f 1).getD (.pointer (some ⟨g1, 0, none⟩)), (f 2).getD (.pointer (some ⟨g2, 0, none⟩)), (f 3).getD (.pointer (some ⟨g3, 0, none⟩)), (f 4).getD (.pointer (some ⟨g4, 0, none⟩)), (f 5).getD (.pointer (some ⟨g5, 0, none⟩)), (f 6).getD (.agg c1.toArray), (f 7).getD (.agg c1.toArray), (f 8).getD (.agg c2.toArray), (f 9).getD (.agg c2.toArray), (f 10).getD (.agg c3.toArray), (f 11).getD (.agg c3.toArray), (f 12).getD (.agg c4.toArray), (f 13).getD (.agg c4.toArray), (f 14).getD (.agg c5.toArray), (f 15).getD undef, (f 16).getD undef, (f 17).getD undef, (f 18).getD undef, (f 19).getD undef, (f 20).getD undef, (f 21).getD undef, (f 22).getD undef, (f 23).getD undef, (f 24).getD undef, (f 25).getD undef, (f 26).getD undef, (f 27).getD undef, (f 28).getD undef, (f 29).getD undef, (f 30).getD undef, (f 31).getD undef, (f 32).getD undef, (f 33).getD undef, (f 34).getD undef, (f 35).getD undef, (f 36).getD undef, (f 37).getD undef, (f 38).getD undef, (f 39).getD undef, (f 40).getD undef, (f 41).getD undef, (f 42).getD undef, (f 43).getD undef, (f 44).getD undef, (f 45).getD undef, (f 46).getD undef, (f 47).getD undef, (f 48).getD undef, (f 49).getD undef, (f 50).getD undef, (f 51).getD undef, (f 52).getD undef, (f 53).getD undef, (f 54).getD undef, (f 55).getD undef, (f 56).getD undef, (f 57).getD undef, (f 58).getD undef, (f 59).getD undef, (f 60).getD undef], []⟩ := by rw [hov.eq]; rfl
  rw [f0] at ha
  simp only [Option.getD_some] at ha
  have HG : Hid (Gr w5 x) := hgr
  clear hov hgr hfa hno f0
  subst ha
  refine hKc _ _ ?_
  go_wp2
  go_ret
  exact ⟨rfl, HA.out.trans HG.out⟩
end Go.Proofs.YthmnjebmnocoiaaGreat
