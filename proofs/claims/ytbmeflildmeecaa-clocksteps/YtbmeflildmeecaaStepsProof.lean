/- ClockSteps is proved: for whatever clock, actor and number of steps the law's call returns true and its arguments read as they did. Conditions: none but the form's own. -/
import Derived.Test.YtbmeflildmeecaaSteps
import Derived.Test.YtbmeflildmeecaaMergesProof
namespace Go.Proofs.Ytbmeflildmeecaa
open Go.ChangeShapes Go.WideShapes Go.ChangeAt Go.WideMaps Go.WideElems Go.RowKit

theorem clock_data {H : Type} {enc : TypeId × Value → H} {W : World} {base n : Nat} {sp : Nat → Bool} {held : Bool} {a0 : Option Addr} {len cap : Nat} {x : DataW H × List MemPlace} (h : DataW.trod enc Try.prog W base sp held n 28 [.slice a0 len cap] = some x) :
    len = 0 ∨ ∃ elems rest : List (DataW H), x.1 = .slice elems rest ∧ elems.length = len := by
  rcases Go.Deep.open_slice Try.underlying28 h with ⟨hcs, hx⟩ | ⟨a, len', cap', m, fn, D, Pl, hcs, _, hlc, hcm, hm, hx, hel⟩
  · simp at hcs
    exact .inl hcs.2.1
  · simp at hcs
    obtain ⟨rfl, rfl, rfl⟩ := hcs
    exact .inr ⟨(List.range len).map D, _, by rw [hx], by simp⟩
theorem bytes33 : Try.prog.bytesOf 33 = 16 := by kernel_rfl

set_option maxRecDepth 100000 in
theorem clockSteps_lifted (os : Os) (started : os.Started) (H : Type) (enc : TypeId × Value → H) :
    ReturnsInHanded {} Try.checked os 4 .any (Rows.clockStepsSpec.pre6 enc Try.prog Try.f4 Rows.clockStepsRow.domain false) (Rows.clockStepsSpec.post enc Try.prog Try.f4 false true false false) := by
  refine returnsInHanded_of_change_sized (C := Try.checked) ownM started (by kernel_rfl) Try.func4
    (ChangeSpec.witness6 (enc := enc) (C := Try.checked) false ⟨#[], #[.slice none 0 0, .int .u64 0, .int .i64 0], []⟩ 8 (by kernel_rfl) (by kernel_rfl) (by kernel_rfl) (by kernel_rfl)) ?_
  intro W base args ds gs before hval0 hW _ hsz0 _
  have hval : ∀ (j : Nat) t v, Try.f4.params[j]? = some t → args[j]? = some v → Value.okWide Try.prog W .any base t v := hval0
  have hW' := hW
  obtain ⟨p, q, hA0, hV, rfl, hfz, hnd⟩ := hW
  have hA : DataW.TrodAll enc Try.prog W 0 (fun _ => true) true Try.f4.params.toList args.toList ds p := hA0
  have hsz : (DataW.weightsEach Try.prog (Try.f4.params.toList ++ Rows.clockStepsSpec.plain.varTypes Try.prog) (ds ++ gs)).all (· ≤ reachBytes) = true := hsz0
  rw [Try.params4] at hA hval hsz
  obtain ⟨v0, vs0, d0, ds0, p0, q0, hargs, rfl, rfl, h0, r0⟩ := trodAll_cons hA
  obtain ⟨v1, vs1, d1, ds1, p1, q1, rfl, rfl, rfl, h1, r1⟩ := trodAll_cons r0
  obtain ⟨v2, vs2, d2, ds2, p2, q2, rfl, rfl, rfl, h2, r2⟩ := trodAll_cons r1
  obtain ⟨rfl, rfl, rfl⟩ := trodAll_nil r2
  obtain rfl : args = #[v0, v1, v2] := by cases args; simp_all
  obtain ⟨rfl, rfl⟩ := trodVars_none hV
  obtain ⟨a0, len0, cap0, rfl⟩ := okWide_slice Try.underlying28 (hval 0 28 v0 rfl rfl)
  obtain ⟨z1, rfl, rfl, rfl, w1⟩ := open_int Try.underlying24 (hval 1 24 v1 rfl rfl) h1
  obtain ⟨z2, rfl, rfl, rfl, w2⟩ := open_int Try.underlying3 (hval 2 3 v2 rfl rfl) h2
  obtain ⟨actor, _, rfl⟩ := wf_nat w1
  have h0k := h0
  obtain ⟨f0, h0⟩ := h0
  have hlt : ∀ x ∈ p0 ++ ([] ++ ([] ++ [])), x.block < W.heap.size := fun x hx => by
    have := hW'.lt x
    simp at this hx
    exact this (by simpa using hx)
  have hlen : len0 ≤ 8796093021952 := by
    rcases clock_data h0 with e | ⟨elems, rest, e, hl⟩
    · omega
    · have hd : d0 = .slice elems rest := e
      subst hd
      have h16 := sized_slice hsz (j := 0) (t := 28) (e := 33) (elems := elems) (spare := rest) rfl rfl Try.underlying28
      rw [bytes33] at h16
      have hr : reachBytes = 140737488351232 := rfl
      omega
  obtain ⟨l, rfl, _, hf, hk⟩ := open_clock h0
  refine (steps_walk l actor z2 hf (wf_int w2) hlen a0 cap0 W hk).mono fun e W' ⟨he, hb⟩ => ?_
  subst he
  refine ⟨_, rfl, _, _, _, [], p0 ++ ([] ++ ([] ++ [])), [], hW', ?_, ?_, ?_, hb.frame _, fun h => by cases h⟩
  · exact trodAll_mk1 (shut_bool Try.underlying4 _)
  · exact trodAll_cons_mk (Below.trod laidOutM (by kernel_rfl) (of_decide_eq_true (by kernel_rfl)) h0k hb (fun x hx => hlt x (by simp [hx]))) (trodAll_cons_mk (shut_int Try.underlying24 w1) (trodAll_cons_mk (shut_int Try.underlying3 w2) trodAll_mk0))
  · rfl

theorem clockSteps_holds : Rows.ClockStepsSaid :=
  OpenClaim.holds_of_wide 4 Try.f4 rfl rfl rfl rfl rfl rfl rfl ⟨rfl, rfl, rfl, rfl, rfl⟩ rfl rfl rfl rfl rfl (by kernel_rfl) Try.func4 (by kernel_rfl)
    (of_decide_eq_true (by kernel_rfl)) (by unfold Func.isWrapper; first | (rw [if_pos (by decide +kernel)]; kernel_rfl) | (rw [if_neg (by decide +kernel)]; exact ⟨rfl, rfl⟩))
    (fun os started H enc _ => clockSteps_lifted os started H enc)
#print axioms clockSteps_holds
end Go.Proofs.Ytbmeflildmeecaa
