/- GossipMakes: the law. By tools/gen_makes.py. -/
import Derived.Test.YthmnjebmnocoiaaGreatYGsMakeR
namespace Go.Proofs.YthmnjebmnocoiaaGreat.En
open Go.RowKit
def c3_a : Code := (((Code.region 15 q3_15 false).seq (Code.cond (.tmp 104) Code.skip (Code.exit 0))).seq ((Code.block 1 ((Code.region 17 q3_17 true).seq (Code.cond (.tmp 115) ((Code.region 18 q3_18 false).seq Code.ret) Code.skip))).seq (Code.region 16 q3_16 false)))
def c3_l : Code := (Code.block 0 (c3_a.loop))
def c3 : Code := ((Code.region 0 q3_0 false).seq ((Code.region 1 q3_1 false).seq ((Code.region 2 q3_2 false).seq ((Code.region 3 q3_3 false).seq ((Code.region 4 q3_4 true).seq ((Code.region 5 q3_5 true).seq ((Code.region 6 q3_6 true).seq ((Code.region 7 q3_7 true).seq ((Code.region 8 q3_8 true).seq ((Code.region 9 q3_9 false).seq ((Code.region 10 q3_10 false).seq ((Code.region 11 q3_11 false).seq (((Code.region 12 q3_12 false).seq (Code.cond (.tmp 100) ((Code.region 13 q3_13 false).seq Code.ret) Code.skip)).seq (((Code.region 14 q3_14 false).seq c3_l).seq ((Code.region 19 q3_19 false).seq ((Code.region 20 q3_20 true).seq ((Code.region 21 q3_21 true).seq Code.ret)))))))))))))))))
structure Mk (w : World) (a b : Nat) (ua ub : Value) (ra rb : Rg) (sv : Value) (ss : List Int) (x : World) : Prop where
  hA : Holds x a (ringC ua ra) 28
  RA : RingAt x.heap.size x ua ra
  hB : Holds x b (ringC ub rb) 28
  RB : RingAt x.heap.size x ub rb
  hS : Ints x.heap.size x sv ss
  gr : Gr w x
theorem Mk.to {w x y : World} {a b : Nat} {ua ub sv : Value} {ra rb : Rg} {ss : List Int} (h : Mk w a b ua ub ra rb sv ss x) (g : Gr x y) : Mk w a b ua ub ra rb sv ss y :=
  ⟨h.hA.below g h.hA.lt, (h.RA.below g).mono g.size, h.hB.below g h.hB.lt, (h.RB.below g).mono g.size, (h.hS.below g).mono g.size, h.gr.trans g⟩
def Late (L : Nat) (a ac : Act) : Prop := ∃ D, After D a ac ∧ (D.all fun s => decide (L ≤ s)) = true
theorem Late.step {L : Nat} {a b c : Act} {D : List Nat} (h : Late L a b) (k : After D b c) (hD : (D.all fun s => decide (L ≤ s)) = true) : Late L a c := by
  obtain ⟨E, h1, h2⟩ := h
  exact ⟨_, h1.trans k, by rw [List.all_append, h2, hD]; rfl⟩
theorem Late.get {L s : Nat} {a ac : Act} {v : Value} (h : Late L a ac) (e : a.eval (.tmp s) = v) (hs : s < L) : ac.eval (.tmp s) = v := by
  obtain ⟨D, h1, h2⟩ := h
  exact h1.keep h2 hs e
theorem Late.size {L : Nat} {a ac : Act} (h : Late L a ac) : ac.tmps.size = a.tmps.size := by obtain ⟨D, h1, _⟩ := h; exact h1.size
theorem Late.defers {L : Nat} {a ac : Act} (h : Late L a ac) : ac.defers = a.defers := by obtain ⟨D, h1, _⟩ := h; exact h1.defers
set_option maxHeartbeats 1000000 in
theorem mk_l {Q : Exit → Act → World → Prop} {c : Act} {x : World} {v16 v17 : Value} {M : List Int} (hz : c.tmps.size = 167) (hM : M.length < 9223372036854775807) (i16 : Ints x.heap.size x v16 M) (i17 : Ints x.heap.size x v17 M) (e16 : c.eval (.tmp 16) = v16) (e17 : c.eval (.tmp 17) = v17) (e18 : c.eval (.tmp 18) = .int .i64 ((0 : Nat) : Int))
    (hend : ∀ ad y, Late 18 c ad → Gr x y → Q .normal ad y) : c3_l.wp Tryz.prog Q c x := by
  obtain ⟨ad, cap, rfl, _, h1⟩ := i16
  obtain ⟨ae, cae, rfl, _, h2⟩ := i17
  unfold c3_l
  refine wp_block ?_
  refine wp_loop (fun aa y => ∃ k : Nat, Late 18 c aa ∧ Gr x y ∧ k ≤ M.length ∧ aa.eval (.tmp 18) = .int .i64 (k : Int)) (fun aa _ => M.length - (intOf (aa.eval (.tmp 18))).toNat)
    ⟨0, ⟨[], After.self c, rfl⟩, Gr.refl _, by omega, e18⟩ (fun a0 x0 ⟨k, L0, G0, hk, f18⟩ => ?_)
  unfold c3_a
  refine wp_seq (wp_seq (r3_15 (L0.size.trans hz) k M.length cap ad f18 (L0.get e16 (by omega)) (fun a1 x1 A1 o104 G1 => ?_)))
  have L1 := L0.step A1 (by decide)
  have g18 := A1.get f18 (by decide)
  show Code.wp Tryz.prog (Code.cond _ _ _) _ a1 x1
  refine wp_cond_split o104 (fun q => ?_) (fun _ => ?_)
  · have q : (k : Int) < M.length := of_decide_eq_true q
    have hk2 : k < M.length := by omega
    refine wp_skip ?_
    rcases h1 with h0 | ⟨g, of, rfl, hg, hc⟩
    · omega
    rcases h2 with h0 | ⟨g2, of2, rfl, hg2, hc2⟩
    · omega
    show Code.wp Tryz.prog (Code.seq _ _) _ a1 x1
    have G01 := G0.trans G1
    refine wp_seq (wp_block (wp_seq (r3_17 (L1.size.trans hz) k M.length cap cae g of g2 of2 (M.getD k 0) hk2 (fun y hy => cell_below (G01.trans hy) hg (hc k hk2)) (fun y hy => cell_below (G01.trans hy) hg2 (hc2 k hk2)) g18 (L1.get e16 (by omega)) (L1.get e17 (by omega)) (fun a2 x2 A2 o115 G2 => ?_))))
    show Code.wp Tryz.prog (Code.cond _ _ _) _ a2 x2
    refine wp_cond_split o115 (fun q => by cases q) (fun _ => ?_)
    refine wp_skip ?_
    have L2 := L1.step A2 (by decide)
    show Code.wp Tryz.prog (Code.region 16 q3_16 false) _ a2 x2
    refine r3_16 (L2.size.trans hz) k (by omega) (A2.get g18 (by decide)) (fun a3 x3 A3 o18 G3 => ?_)
    refine ⟨⟨k + 1, L2.step A3 (by decide), G01.trans (G2.trans G3), by omega, o18⟩, ?_⟩
    rw [o18, f18]
    simp only [intOf]
    omega
  · exact wp_exit (hend a1 x1 L1 (G0.trans G1))
set_option maxHeartbeats 1000000 in
theorem makes_any (ua ub : Value) (ra rb : Rg) (fa : RFit ra) (fb : RFit rb) (node : Int) (hn : I64 node) (sv : Value) (ss : List Int) (hl : ss.length ≤ 9223372036854775807) (w : World) (RA : RingAt w.heap.size w ua ra) (RB : RingAt w.heap.size w ub rb) (hS : Ints w.heap.size w sv ss) :
    Calls Tryz.prog 3 #[.agg (ringC ua ra ++ ringC ub rb).toArray, .int .i64 node, sv] w fun e z => e = .returned (.bool true) ∧ Gr w z := by
  refine calls_by (c := c3) Tryz.func3 (by kernel_rfl) 167 (by rw [Tryz.ntmps3]; rfl) (fun c z df hv => ?_)
  have f0 := hv 0 _ rfl
  have f1 := hv 1 _ rfl
  have f2 := hv 2 _ rfl
  clear hv
  unfold c3
  refine wp_seq (r3_0 z (ringC ua ra ++ ringC ub rb) f0 (fun c0 x0 d A0 f3 hD G0 => ?_))
  have df0 := A0.defers.trans df
  have z0 := A0.size.trans z
  have f1 := A0.get f1 (by decide)
  have f2 := A0.get f2 (by decide)
  show Code.wp Tryz.prog (Code.seq _ _) _ c0 x0
  refine wp_seq (r3_1 z0 (fun c1 x1 A1 f7 G1 => ?_))
  have df1 := A1.defers.trans df0
  have z1 := A1.size.trans z0
  have f1 := A1.get f1 (by decide)
  have f2 := A1.get f2 (by decide)
  have f3 := A1.get f3 (by decide)
  have RA1 : RingAt x1.heap.size x1 ua ra := (RA.below (G0.trans G1)).mono (G0.trans G1).size
  show Code.wp Tryz.prog (Code.seq _ _) _ c1 x1
  refine wp_seq (r3_2 z1 d ua ub ra rb (hD.below G1 hD.lt) RA1 f3 (fun c2 x2 a A2 f8 BA G2 => ?_))
  have df2 := A2.defers.trans df1
  have z2 := A2.size.trans z1
  have f1 := A2.get f1 (by decide)
  have f2 := A2.get f2 (by decide)
  have f3 := A2.get f3 (by decide)
  have f7 := A2.get f7 (by decide)
  have G02 := G0.trans (G1.trans G2)
  show Code.wp Tryz.prog (Code.seq _ _) _ c2 x2
  refine wp_seq (r3_3 z2 d ua ub ra rb (hD.below (G1.trans G2) hD.lt) ((RA1.below G2).mono G2.size) ((RB.below G02).mono G02.size) f3 (fun c3a x3 b A3 f9 BB G3 => ?_))
  have df3 := A3.defers.trans df2
  have z3 := A3.size.trans z2
  have f1 := A3.get f1 (by decide)
  have f2 := A3.get f2 (by decide)
  have f7 := A3.get f7 (by decide)
  have f8 := A3.get f8 (by decide)
  have G03 := G02.trans G3
  have hS3 : Ints x3.heap.size x3 sv ss := (hS.below G03).mono G03.size
  clear hS RA RB RA1
  obtain ⟨ub, hB, RB, _⟩ := BB
  obtain ⟨ua, hA, RA, _⟩ := BA.gr G3
  have M3 : Mk w a b ua ub ra rb sv ss x3 := ⟨hA, RA, hB, RB, hS3, G03⟩
  clear hA RA hB RB hS3 BA hD
  show Code.wp Tryz.prog (Code.seq _ _) _ c3a x3
  refine wp_seq (r3_4 z3 a ua ra M3.hA M3.RA fa f8 (fun c4 x4 A4 f10 G4 => ?_))
  have df4 := A4.defers.trans df3
  have z4 := A4.size.trans z3
  have f1 := A4.get f1 (by decide)
  have f2 := A4.get f2 (by decide)
  have f7 := A4.get f7 (by decide)
  have f8 := A4.get f8 (by decide)
  have f9 := A4.get f9 (by decide)
  have M4 := M3.to G4
  show Code.wp Tryz.prog (Code.seq _ _) _ c4 x4
  refine wp_seq (r3_5 z4 a ua ra M4.hA M4.RA fa b ub rb M4.hB M4.RB fb f8 f9 (fun c5 x5 A5 f11 G5 => ?_))
  have df5 := A5.defers.trans df4
  have z5 := A5.size.trans z4
  have f1 := A5.get f1 (by decide)
  have f2 := A5.get f2 (by decide)
  have f7 := A5.get f7 (by decide)
  have f8 := A5.get f8 (by decide)
  have f9 := A5.get f9 (by decide)
  have f10 := A5.get f10 (by decide)
  have M5 := M4.to G5
  show Code.wp Tryz.prog (Code.seq _ _) _ c5 x5
  refine wp_seq (r3_6 z5 a ua ra M5.hA M5.RA fa node hn f8 f1 (fun c6 x6 A6 f12 G6 => ?_))
  have df6 := A6.defers.trans df5
  have z6 := A6.size.trans z5
  have f1 := A6.get f1 (by decide)
  have f2 := A6.get f2 (by decide)
  have f7 := A6.get f7 (by decide)
  have f8 := A6.get f8 (by decide)
  have f9 := A6.get f9 (by decide)
  have f10 := A6.get f10 (by decide)
  have f11 := A6.get f11 (by decide)
  have M6 := M5.to G6
  show Code.wp Tryz.prog (Code.seq _ _) _ c6 x6
  refine wp_seq (r3_7 z6 a ua ra M6.hA M6.RA fa node hn f8 f1 (fun c7 x7 A7 f13 G7 => ?_))
  have df7 := A7.defers.trans df6
  have z7 := A7.size.trans z6
  have f1 := A7.get f1 (by decide)
  have f2 := A7.get f2 (by decide)
  have f7 := A7.get f7 (by decide)
  have f8 := A7.get f8 (by decide)
  have f9 := A7.get f9 (by decide)
  have f10 := A7.get f10 (by decide)
  have f11 := A7.get f11 (by decide)
  have f12 := A7.get f12 (by decide)
  have M7 := M6.to G7
  show Code.wp Tryz.prog (Code.seq _ _) _ c7 x7
  refine wp_seq (r3_8 z7 a ua ra M7.hA M7.RA fa node f8 f1 (fun c8 x8 A8 f14 G8 => ?_))
  have df8 := A8.defers.trans df7
  have z8 := A8.size.trans z7
  have f1 := A8.get f1 (by decide)
  have f2 := A8.get f2 (by decide)
  have f7 := A8.get f7 (by decide)
  have f8 := A8.get f8 (by decide)
  have f9 := A8.get f9 (by decide)
  have f10 := A8.get f10 (by decide)
  have f11 := A8.get f11 (by decide)
  have f12 := A8.get f12 (by decide)
  have f13 := A8.get f13 (by decide)
  have M8 := M7.to G8
  show Code.wp Tryz.prog (Code.seq _ _) _ c8 x8
  refine wp_seq (r3_9 z8 node f1 (fun c9 x9 A9 f15 G9 => ?_))
  have df9 := A9.defers.trans df8
  have z9 := A9.size.trans z8
  have f1 := A9.get f1 (by decide)
  have f2 := A9.get f2 (by decide)
  have f7 := A9.get f7 (by decide)
  have f8 := A9.get f8 (by decide)
  have f9 := A9.get f9 (by decide)
  have f10 := A9.get f10 (by decide)
  have f11 := A9.get f11 (by decide)
  have f12 := A9.get f12 (by decide)
  have f13 := A9.get f13 (by decide)
  have f14 := A9.get f14 (by decide)
  have M9 := M8.to G9
  show Code.wp Tryz.prog (Code.seq _ _) _ c9 x9
  refine wp_seq (r3_10 z9 a ua ra M9.hA M9.RA fa sv ss M9.hS hl f8 f2 (fun c10 x10 A10 f16 G10 => ?_))
  have df10 := A10.defers.trans df9
  have z10 := A10.size.trans z9
  have f1 := A10.get f1 (by decide)
  have f2 := A10.get f2 (by decide)
  have f7 := A10.get f7 (by decide)
  have f8 := A10.get f8 (by decide)
  have f9 := A10.get f9 (by decide)
  have f10 := A10.get f10 (by decide)
  have f11 := A10.get f11 (by decide)
  have f12 := A10.get f12 (by decide)
  have f13 := A10.get f13 (by decide)
  have f14 := A10.get f14 (by decide)
  have f15 := A10.get f15 (by decide)
  have M10 := M9.to G10
  have i16 : Ints x10.heap.size x10 (c10.eval (.tmp 16)) (membersL ra ss) := f16
  clear f16
  obtain ⟨v16, f16⟩ : ∃ v, c10.eval (.tmp 16) = v := ⟨_, rfl⟩
  rw [f16] at i16
  show Code.wp Tryz.prog (Code.seq _ _) _ c10 x10
  refine wp_seq (r3_11 z10 a ua ra M10.hA M10.RA fa sv ss M10.hS hl f8 f2 (fun c11 x11 A11 f17 G11 => ?_))
  have df11 := A11.defers.trans df10
  have z11 := A11.size.trans z10
  have f1 := A11.get f1 (by decide)
  have f2 := A11.get f2 (by decide)
  have f7 := A11.get f7 (by decide)
  have f8 := A11.get f8 (by decide)
  have f9 := A11.get f9 (by decide)
  have f10 := A11.get f10 (by decide)
  have f11 := A11.get f11 (by decide)
  have f12 := A11.get f12 (by decide)
  have f13 := A11.get f13 (by decide)
  have f14 := A11.get f14 (by decide)
  have f15 := A11.get f15 (by decide)
  have f16 := A11.get f16 (by decide)
  have M11 := M10.to G11
  have i17 : Ints x11.heap.size x11 (c11.eval (.tmp 17)) (membersL ra ss) := f17
  clear f17
  obtain ⟨v17, f17⟩ : ∃ v, c11.eval (.tmp 17) = v := ⟨_, rfl⟩
  rw [f17] at i17
  have i16 := (i16.below G11).mono G11.size
  have hM7 : (membersL ra ss).length < 9223372036854775807 := by
    refine Nat.lt_of_le_of_lt (members_len ra ss) ?_
    omega
  have i16' := i16
  have i17' := i17
  obtain ⟨ad, cap, rfl, _, _⟩ := i16'
  obtain ⟨ae, cae, rfl, _, _⟩ := i17'
  show Code.wp Tryz.prog (Code.seq (Code.seq _ _) _) _ c11 x11
  refine wp_seq (wp_seq (r3_12 z11 (membersL ra ss).length cap cae ad ae f10 f11 f12 f13 f14 f15 f16 f17 (fun c12 x12 A12 o100 G12 => ?_)))
  have df12 := A12.defers.trans df11
  have z12 := A12.size.trans z11
  have f1 := A12.get f1 (by decide)
  have f7 := A12.get f7 (by decide)
  have f8 := A12.get f8 (by decide)
  have f9 := A12.get f9 (by decide)
  have f16 := A12.get f16 (by decide)
  have f17 := A12.get f17 (by decide)
  have M12 := M11.to G12
  have i16 := (i16.below G12).mono G12.size
  have i17 := (i17.below G12).mono G12.size
  show Code.wp Tryz.prog (Code.cond _ _ _) _ c12 x12
  refine wp_cond_split o100 (fun q => by cases q) (fun _ => ?_)
  refine wp_skip ?_
  show Code.wp Tryz.prog (Code.seq (Code.seq _ _) _) _ c12 x12
  refine wp_seq (wp_seq (r3_14 z12 (fun c13 x13 A13 f18 G13 => ?_)))
  have df13 := A13.defers.trans df12
  have z13 := A13.size.trans z12
  have f1 := A13.get f1 (by decide)
  have f7 := A13.get f7 (by decide)
  have f8 := A13.get f8 (by decide)
  have f9 := A13.get f9 (by decide)
  have f16 := A13.get f16 (by decide)
  have f17 := A13.get f17 (by decide)
  have M13 := M12.to G13
  have i16 := (i16.below G13).mono G13.size
  have i17 := (i17.below G13).mono G13.size
  show Code.wp Tryz.prog c3_l _ c13 x13
  refine mk_l z13 hM7 i16 i17 f16 f17 f18 (fun c14 x14 A14 G14 => ?_)
  have df14 := A14.defers.trans df13
  have z14 := A14.size.trans z13
  have M14 := M13.to G14
  have f1 := A14.get f1 (by decide)
  have f7 := A14.get f7 (by decide)
  have f8 := A14.get f8 (by decide)
  have f9 := A14.get f9 (by decide)
  show Code.wp Tryz.prog (Code.seq _ _) _ c14 x14
  refine wp_seq (r3_19 z14 a ua ra M14.hA M14.RA fa f8 (fun c15 x15 A15 f19 G15 => ?_))
  have df15 := A15.defers.trans df14
  have z15 := A15.size.trans z14
  have f1 := A15.get f1 (by decide)
  have f7 := A15.get f7 (by decide)
  have f8 := A15.get f8 (by decide)
  have f9 := A15.get f9 (by decide)
  have M15 := M14.to G15
  show Code.wp Tryz.prog (Code.seq _ _) _ c15 x15
  refine wp_seq (r3_20 z15 a ua ra M15.hA M15.RA fa (claimantL ra) f8 f19 (fun c16 x16 A16 f20 G16 => ?_))
  have df16 := A16.defers.trans df15
  have z16 := A16.size.trans z15
  have f1 := A16.get f1 (by decide)
  have f7 := A16.get f7 (by decide)
  have f8 := A16.get f8 (by decide)
  have f9 := A16.get f9 (by decide)
  have f19 := A16.get f19 (by decide)
  have M16 := M15.to G16
  show Code.wp Tryz.prog (Code.seq _ _) _ c16 x16
  refine wp_seq (r3_21 z16 a ua ra M16.hA M16.RA fa b ub rb M16.hB M16.RB fb node hn f7 f20 f19 f8 f9 f1 (fun c17 x17 A17 f6 G17 => ?_))
  have df17 := A17.defers.trans df16
  have z17 := A17.size.trans z16
  have f1 := A17.get f1 (by decide)
  have f7 := A17.get f7 (by decide)
  have f8 := A17.get f8 (by decide)
  have f9 := A17.get f9 (by decide)
  have f19 := A17.get f19 (by decide)
  have f20 := A17.get f20 (by decide)
  have M17 := M16.to G17
  exact wp_ret (show bodyPost Tryz.prog Tryz.f3 (fun e z => e = .returned (.bool true) ∧ Gr w z) .ret c17 x17 from bodyPost_ret (results_tmp rfl _ _ _) df17 ⟨by rw [← f6]; rfl, M17.gr⟩)
end Go.Proofs.YthmnjebmnocoiaaGreat.En
