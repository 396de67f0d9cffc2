/- Verdict (9), Counts (7). -/
import Derived.Test.YtmhpfncbbboamaaGreatQmReg
import Derived.Deep.Cut
namespace Go.Proofs.YtmhpfncbbboamaaGreat
open Go.RowKit

theorem verdict_nil (w : World) : Calls Tryz.prog 9 #[.pointer none] w fun e w' => e = .returned (.int .i64 2) ∧ w' = w := by
  go_enter Tryz.func9, Tryz.ntmps9
  go_wp2
  go_ret
  exact ⟨rfl, rfl⟩
theorem counts_nil (w : World) : Calls Tryz.prog 7 #[.pointer none] w fun e w' => e = .returned (.tuple #[.int .i64 0, .int .i64 0, .int .i64 0]) ∧ w' = w := by
  go_enter Tryz.func7, Tryz.ntmps7
  go_wp2
  go_ret3
  exact ⟨rfl, rfl⟩
/-- What is told of four counts. -/
def verI (n0 p0 n1 p1 need prime : Int) : Int := if need ≤ n1 ∧ prime ≤ p1 then 1 else if need ≤ wrap64 (n1 + n0) ∧ prime ≤ wrap64 (p1 + p0) then 0 else 2
set_option maxRecDepth 100000 in
theorem verdict_cells (b : Nat) (v mv : Value) (n0 p0 n1 p1 n2 p2 need prime : Int) (rest : List Value) (ty : TypeId) (w : World) (hH : Holds w b (cnC v mv n0 p0 n1 p1 n2 p2 (.int .i64 need :: .int .i64 prime :: rest)) ty) :
    Calls Tryz.prog 9 #[.pointer (some ⟨b, 0, none⟩)] w fun e w' => e = .returned (.int .i64 (verI n0 p0 n1 p1 need prime)) ∧ Gr w w' := by
  cases hc1 : decide (need ≤ n1 ∧ prime ≤ p1) with
  | true =>
    rw [verI, if_pos (of_decide_eq_true hc1)]
    go_enter Tryz.func9, Tryz.ntmps9
    go_upto_region 3 with fail
    refine r9_3 rfl b v mv n0 p0 n1 p1 n2 p2 need prime rest ty hH rfl (fun x hg => ?_)
    simp only [putsL, List.foldl_cons, List.foldl_nil, put_lit, List.set_cons_succ, List.set_cons_zero, hc1]
    go_wp2
    go_ret
    exact ⟨rfl, hg⟩
  | false =>
    rw [verI, if_neg (of_decide_eq_false hc1)]
    cases hc2 : decide (need ≤ wrap64 (n1 + n0) ∧ prime ≤ wrap64 (p1 + p0)) with
    | true =>
      rw [if_pos (of_decide_eq_true hc2)]
      go_enter Tryz.func9, Tryz.ntmps9
      go_upto_region 3 with fail
      refine r9_3 rfl b v mv n0 p0 n1 p1 n2 p2 need prime rest ty hH rfl (fun x hg => ?_)
      simp only [putsL, List.foldl_cons, List.foldl_nil, put_lit, List.set_cons_succ, List.set_cons_zero, hc1]
      go_upto_region 5 with fail
      refine r9_5 rfl b v mv n0 p0 n1 p1 n2 p2 need prime rest ty (hH.below hg hH.lt) rfl (fun y hg2 => ?_)
      simp only [putsL, List.foldl_cons, List.foldl_nil, put_lit, List.set_cons_succ, List.set_cons_zero, hc2]
      go_wp2
      go_ret
      exact ⟨rfl, hg.trans hg2⟩
    | false =>
      rw [if_neg (of_decide_eq_false hc2)]
      go_enter Tryz.func9, Tryz.ntmps9
      go_upto_region 3 with fail
      refine r9_3 rfl b v mv n0 p0 n1 p1 n2 p2 need prime rest ty hH rfl (fun x hg => ?_)
      simp only [putsL, List.foldl_cons, List.foldl_nil, put_lit, List.set_cons_succ, List.set_cons_zero, hc1]
      go_upto_region 5 with fail
      refine r9_5 rfl b v mv n0 p0 n1 p1 n2 p2 need prime rest ty (hH.below hg hH.lt) rfl (fun y hg2 => ?_)
      simp only [putsL, List.foldl_cons, List.foldl_nil, put_lit, List.set_cons_succ, List.set_cons_zero, hc2]
      go_wp2
      go_ret
      exact ⟨rfl, hg.trans hg2⟩
theorem wrap_nat {n : Nat} (h : n < 4611686018427387904) : wrap64 (n : Int) = (n : Int) := by
  unfold wrap64; omega
theorem verI_eq (l : Ses) (need prime : Int) (hl : l.length ≤ 1000) : verI (cntA l 0) (cntP l 0) (cntA l 1) (cntP l 1) need prime = (verd need prime l : Int) := by
  have a0 := cntA_le l 0
  have a1 := cntA_le l 1
  have p0 := cntP_le l 0
  have p1 := cntP_le l 1
  have e1 : wrap64 ((cntA l 1 : Int) + (cntA l 0 : Int)) = (cntA l 1 : Int) + (cntA l 0 : Int) := by
    have := wrap_nat (n := cntA l 1 + cntA l 0) (by omega)
    simpa using this
  have e2 : wrap64 ((cntP l 1 : Int) + (cntP l 0 : Int)) = (cntP l 1 : Int) + (cntP l 0 : Int) := by
    have := wrap_nat (n := cntP l 1 + cntP l 0) (by omega)
    simpa using this
  unfold verI verd
  rw [e1, e2]
  split
  · rfl
  · split <;> rfl
theorem verdict_any {lo hi : Nat} {rest : List Value} {ty : TypeId} {need prime : Int} {w : World} {b : Nat} {l : Ses} (h : TyAt lo hi rest ty need prime w b l) : Calls Tryz.prog 9 #[.pointer (some ⟨b, 0, none⟩)] w fun e w' => e = .returned (.int .i64 (verd need prime l : Int)) ∧ Gr w w' := by
  obtain ⟨_, _, _, h4, v, mb, hH, _⟩ := h
  rw [← verI_eq l need prime h4]
  exact verdict_cells b v (.map (some mb)) _ _ _ _ _ _ need prime rest ty w hH
end Go.Proofs.YtmhpfncbbboamaaGreat
