/- GossipRests is proved: for whatever script the law's call returns true and its argument reads as it did. Conditions: none but the form's own. -/
import Derived.Test.YthmnjebmnocoiaaZGsRestW
import Derived.Test.YthmnjebmnocoiaaZGsOpen
namespace Go.Proofs.Ythmnjebmnocoiaa
open Go.ChangeShapes Go.WideShapes Go.ChangeAt Go.WideMaps Go.WideElems Go.RowKit

theorem ocells42 : Try.prog.cellsOf 42 = 4 := by kernel_rfl
theorem ofields42 : ∃ f0 f1 f2 f3 : Field, Try.prog.underlying 42 = some (.struct #[f0, f1, f2, f3]) ∧ (f0.type = 3 ∧ f0.offset = 0) ∧ (f1.type = 3 ∧ f1.offset = 1) ∧ (f2.type = 3 ∧ f2.offset = 2) ∧ f3.type = 3 ∧ f3.offset = 3 := ⟨_, _, _, _, Try.underlying42, ⟨rfl, rfl⟩, ⟨rfl, rfl⟩, ⟨rfl, rfl⟩, rfl, rfl⟩
set_option maxRecDepth 100000 in
theorem ac_of {H : Type} {enc : TypeId × Value → H} {W : World} {base n : Nat} {sp : Nat → Bool} {held : Bool} {cs : List Value} {y : DataW H × List MemPlace} (h : DataW.trod enc Try.prog W base sp held n 42 cs = some y) (hl : cs.length = 4) : ∃ c : Ac, cs = acV c ∧ AcFit c := by
  obtain ⟨f0, f1, f2, f3, hu, ⟨t0, o0⟩, ⟨t1, o1⟩, ⟨t2, o2⟩, t3, o3⟩ := ofields42
  obtain ⟨xs, m, _, _, _, hlen, hf⟩ := DataW.trod_struct hu h
  have h0 := hf 0 f0 rfl
  have h1 := hf 1 f1 rfl
  have h2 := hf 2 f2 rfl
  have h3 := hf 3 f3 rfl
  have hx : xs.length = 4 := by simpa using hlen
  rw [t0, o0, ocells3, List.getElem?_eq_getElem (by omega)] at h0
  rw [t1, o1, ocells3, List.getElem?_eq_getElem (by omega)] at h1
  rw [t2, o2, ocells3, List.getElem?_eq_getElem (by omega)] at h2
  rw [t3, o3, ocells3, List.getElem?_eq_getElem (by omega)] at h3
  match cs, hl with
  | [a, b, c, d], _ =>
    obtain ⟨p, ep, _, wp⟩ := DataW.trod_int Try.underlying3 h0
    obtain ⟨q, eq, _, wq⟩ := DataW.trod_int Try.underlying3 h1
    obtain ⟨r, er, _, wr⟩ := DataW.trod_int Try.underlying3 h2
    obtain ⟨s, es, _, ws⟩ := DataW.trod_int Try.underlying3 h3
    simp at ep eq er es
    exact ⟨(p, q, r, s), by rw [ep, eq, er, es]; rfl, ⟨wf_int wp, wf_int wq, wf_int wr, wf_int ws⟩⟩
set_option maxRecDepth 100000 in
theorem gossipRests_lifted (os : Os) (started : os.Started) (H : Type) (enc : TypeId × Value → H) :
    ReturnsInHanded {} Try.checked os 4 .any (Rows.gossipRestsSpec.pre6 enc Try.prog Try.f4 Rows.gossipRestsRow.domain false) (Rows.gossipRestsSpec.post enc Try.prog Try.f4 false true false false) := by
  refine returnsInHanded_of_change (C := Try.checked) ownM started (by kernel_rfl) Try.func4
    (ChangeSpec.witness6 (enc := enc) (C := Try.checked) false ⟨#[], #[.slice none 0 0], []⟩ 8 (by kernel_rfl) (by kernel_rfl) (by kernel_rfl) (by kernel_rfl)) ?_
  intro W base args ds gs before hval0 hW _ _
  have hval : ∀ (j : Nat) t v, Try.f4.params[j]? = some t → args[j]? = some v → Value.okWide Try.prog W .any base t v := hval0
  have hW' := hW
  obtain ⟨p, q, hA0, hV, rfl, hfz, hnd⟩ := hW
  have hA : DataW.TrodAll enc Try.prog W 0 (fun _ => true) true Try.f4.params.toList args.toList ds p := hA0
  rw [Try.params4] at hA hval
  obtain ⟨v0, vs0, d0, ds0, p0, q0, hargs, rfl, rfl, h0, r0⟩ := trodAll_cons hA
  obtain ⟨rfl, rfl, rfl⟩ := trodAll_nil r0
  obtain rfl : args = #[v0] := by cases args; simp_all
  obtain ⟨rfl, rfl⟩ := trodVars_none hV
  obtain ⟨a0, len0, cap0, rfl⟩ := okWide_slice Try.underlying39 (hval 0 39 v0 rfl rfl)
  have h0k := h0
  obtain ⟨f0, h0⟩ := h0
  have hlt : ∀ x ∈ p0 ++ [], x.block < W.heap.size := fun x hx => by
    have := hW'.lt x
    simp at this hx
    exact this (by simpa using hx)
  obtain ⟨ls, hlm, hok, a, cap, ev, hcell⟩ := open_rows (size := 4) (α := Ac) Try.underlying39 (by decide) ocells42 acV (fun _ => rfl) AcFit (fun _ _ _ q hq => ac_of q hq) h0
  obtain ⟨rfl, rfl, rfl⟩ := Value.slice.inj ev
  have hS : ScriptOf W a0 ls.length cap0 ls := by
    rcases hcell with q | ⟨g, o, e1, e2, e3⟩
    · exact Or.inl q
    · exact Or.inr ⟨g, o, e1, rfl, e2, fun i c hc j v hv => e3 i c hc j v hv⟩
  refine (rests_walk a0 ls.length cap0 ls W hS hok).mono fun e W' ⟨he, hb⟩ => ?_
  have hb : Below W.heap.size W W' := hb
  subst he
  refine ⟨_, rfl, _, _, _, [], p0 ++ [], [], hW', ?_, ?_, ?_, hb.frame _, fun h => by cases h⟩
  · exact trodAll_mk1 (shut_bool Try.underlying4 _)
  · exact trodAll_cons_mk (Below.trod laidOutM (by kernel_rfl) (of_decide_eq_true (by kernel_rfl)) h0k hb (fun x hx => hlt x (by simp [hx]))) trodAll_mk0
  · rfl

theorem gossipRests_holds : Rows.GossipRestsSaid :=
  OpenClaim.holds_of_wide 4 Try.f4 rfl rfl rfl rfl rfl rfl rfl ⟨rfl, rfl, rfl, rfl, rfl⟩ rfl rfl rfl rfl rfl (by kernel_rfl) Try.func4 (by kernel_rfl)
    (of_decide_eq_true (by kernel_rfl)) (by unfold Func.isWrapper; first | (rw [if_pos (by decide +kernel)]; kernel_rfl) | (rw [if_neg (by decide +kernel)]; exact ⟨rfl, rfl⟩))
    (fun os started H enc _ => gossipRests_lifted os started H enc)
#print axioms gossipRests_holds
end Go.Proofs.Ythmnjebmnocoiaa
