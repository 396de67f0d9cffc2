/- The law QuorumMeets (4), walked. -/
import Derived.Test.YtmhpfncbbboamaaGreatQmMeet
namespace Go.Proofs.YtmhpfncbbboamaaGreat
open Go.RowKit Go.Maps

theorem Hid.mk' {p : Prop} (h : p) : Hid p := h
set_option maxRecDepth 100000 in
set_option maxHeartbeats 4000000 in
theorem meets_walk (n0 n1 : Int) (rc wc rn wn : Nat) (ra wa : Option Addr) (R S : List Bool) (hrn : R.length = rn) (hsn : S.length = wn) (hrm : rn ≤ 9223372036854775807) (hsm : wn ≤ 9223372036854775807) (i0 : I64 n0) (i1 : I64 n1) (w : World) (bR : BlAt w.heap.size w ra R) (bS : BlAt w.heap.size w wa S) :
    Calls Tryz.prog 4 #[.agg #[.int .i64 n0, .int .i64 n1], .slice ra rn rc, .slice wa wn wc] w fun e w' => e = .returned (.bool true) ∧ Gr w w' := by
  have c8 : Hid (Calls Tryz.prog 8 #[] (w.alloc (.cells #[.int .i64 n0, .int .i64 n1] 49)) fun e w' => e = .returned (.bool true) ∧ Hid (Gr w w' ∧ Holds w' w.heap.size [.int .i64 n0, .int .i64 n1] 49)) := (awake_any _).mono fun e w' ⟨e1, e2⟩ => by
    have hH := holds_new w [.int .i64 n0, .int .i64 n1] 49
    exact ⟨e1, al1.trans e2, hH.below e2 hH.lt⟩
  have HR : Hid (BlAt w.heap.size w ra R ∧ BlAt w.heap.size w wa S ∧ I64 n0 ∧ I64 n1 ∧ R.length = rn ∧ S.length = wn) := ⟨bR, bS, i0, i1, hrn, hsn⟩
  clear bR bS i0 i1 hrn hsn
  go_enter Tryz.func4, Tryz.ntmps4
  refine wp_seq_k fun K0 h0 => ?_; have H0 := Hid.mk' h0; clear h0
  go_wp2
  refine H0.out _ _ ?_
  clear H0 K0
  refine wp_seq_k fun K1 h1 => ?_; have H1 := Hid.mk' h1; clear h1
  go_wp2_with (go_at_call 8; refine c8.out.mono ?_; rintro e W ⟨rfl, hW⟩; clear c8)
  refine H1.out _ _ ?_
  clear H1 K1
  refine wp_seq_k fun K2 h2 => ?_; have H2 := Hid.mk' h2; clear h2
  go_wp2
  refine H2.out _ _ ?_
  clear H2 K2
  refine wp_seq_k fun K3 h3 => ?_; have H3 := Hid.mk' h3; clear h3
  obtain ⟨bR, bS, i0, i1, hrn, hsn⟩ := HR.out
  by_cases hc : (wn : Int) < (rn : Int)
  · go_wp2
    refine H3.out _ _ ?_
    clear H3 K3
    refine wp_seq_k fun K4 h4 => ?_; have H4 := Hid.mk' h4; clear h4
    by_cases hd : (12 : Int) < (wn : Int)
    · go_wp2
      refine H4.out _ _ ?_
      exact meets_tail _ _ _ _ _ _ _ _ _ _ _ 12 rn rc wn wc w.heap.size ra wa R S n0 n1 w W (by omega) (by omega) (by omega) hrn hsn i0 i1 (bR.below hW.out.1) (bS.below hW.out.1) hW.out.2 hW.out.1
    · go_wp2
      refine H4.out _ _ ?_
      exact meets_tail _ _ _ _ _ _ _ _ _ _ _ wn rn rc wn wc w.heap.size ra wa R S n0 n1 w W (by omega) (by omega) (by omega) hrn hsn i0 i1 (bR.below hW.out.1) (bS.below hW.out.1) hW.out.2 hW.out.1
  · go_wp2
    refine H3.out _ _ ?_
    clear H3 K3
    refine wp_seq_k fun K4 h4 => ?_; have H4 := Hid.mk' h4; clear h4
    by_cases hd : (12 : Int) < (rn : Int)
    · go_wp2
      refine H4.out _ _ ?_
      exact meets_tail _ _ _ _ _ _ _ _ _ _ _ 12 rn rc wn wc w.heap.size ra wa R S n0 n1 w W (by omega) (by omega) (by omega) hrn hsn i0 i1 (bR.below hW.out.1) (bS.below hW.out.1) hW.out.2 hW.out.1
    · go_wp2
      refine H4.out _ _ ?_
      exact meets_tail _ _ _ _ _ _ _ _ _ _ _ rn rn rc wn wc w.heap.size ra wa R S n0 n1 w W (by omega) (by omega) (by omega) hrn hsn i0 i1 (bR.below hW.out.1) (bS.below hW.out.1) hW.out.2 hW.out.1
end Go.Proofs.YtmhpfncbbboamaaGreat
