/- PackBack is proved, where its arguments hold together at most 1048576 values and letters: the law's call returns true and its arguments read as they did. Conditions: that bound; none other but the form's own. -/
import Derived.Test.YtlbdlipdhhpgmaaBackWalk
import Derived.ProofKit
import Derived.OpenShut
import Derived.JoinedCond
import Derived.Carry
namespace Go.Proofs.Ytlbdlipdhhpgmaa
open Go.ChangeShapes Go.WideShapes Go.ChangeAt Go.WideMaps Go.WideElems Go.RowKit

theorem ownB : ownKnob Try.prog.godebug = none := by kernel_rfl
theorem laidOutB2 : laidOutB Try.prog = true := by kernel_rfl
theorem plB_len (t : Th) (ht : t.Ok) : (thB (plT t)).length ≤ t.s.size + 10 := by
  have h := plT_ok ht
  have h2 := thB_len (plT t) h.n (by have := h.s; unfold maxLen at this; omega)
  have h3 : (plT t).s = t.s := by
    unfold plT
    split <;> rfl
  rw [h3] at h2
  exact h2
theorem plains_bulk {H : Type} : ∀ ts : List Th, (∀ t ∈ ts, t.Ok) → ((ts.map plT).flatMap thB).length ≤ 2 * Rows.uptoBulkAll (ts.map (thD (H := H)))
  | [], _ => by simp
  | t :: r, hok => by
    have h1 := plains_bulk (H := H) r (fun u hu => hok u (List.mem_cons_of_mem _ hu))
    have hl := plB_len t (hok t (List.mem_cons_self ..))
    simp only [List.map_cons, Rows.uptoBulkAll, bulk_th, List.flatMap_cons, List.length_append]
    omega

set_option maxRecDepth 100000 in
theorem packBack_lifted (os : Os) (started : os.Started) (H : Type) (enc : TypeId × Value → H) (F : Stop.Interp) :
    ReturnsInHanded {} Try.checked os 4 .any ((Rows.OpenSpec.upto Rows.packBackSpec).pre6 enc Try.prog Try.f4 Rows.packBackUptoRow.domain false) (((Rows.OpenSpec.upto Rows.packBackSpec).at F).post enc Try.prog Try.f4 false true false false) := by
  refine returnsInHanded_of_cond (C := Try.checked) (s := Rows.OpenSpec.upto Rows.packBackSpec) (k := Rows.uptoSmall) rfl ownB started (by kernel_rfl) Try.func4
    (OpenSpec.witness (enc := enc) (C := Try.checked) (s := Rows.OpenSpec.upto Rows.packBackSpec) (k := Rows.uptoSmall) rfl false ⟨#[], #[.slice none 0 0, .int .i64 0], []⟩ 8 (by kernel_rfl) (by kernel_rfl) (by kernel_rfl)
      (x := ([.nil, .lit (.int .i64 0)], [], [])) (by kernel_rfl) rfl (by kernel_rfl)) ?_
  intro W base args ds gs before hval0 hW0 _ hk _
  have hW : DataW.Whole enc Try.prog Try.f4.params.toList Rows.packBackSpec.vars false W args.toList ds gs before := hW0
  show Calls Try.prog 4 args W fun e W' => ∃ v, e = .returned v ∧ Rows.packBackSpec.post enc Try.prog Try.f4 false true false false W args v W'
  have hval : ∀ (j : Nat) t v, Try.f4.params[j]? = some t → args[j]? = some v → Value.okWide Try.prog W .any base t v := hval0
  have hW' := hW
  obtain ⟨p, q, hA0, hV, rfl, hfz, hnd⟩ := hW
  have hA : DataW.TrodAll enc Try.prog W 0 (fun _ => true) true Try.f4.params.toList args.toList ds p := hA0
  rw [Try.params4] at hA hval
  obtain ⟨v0, vs0, d0, ds0, p0, q0, hargs, rfl, rfl, h0, r0⟩ := trodAll_cons hA
  obtain ⟨v1, vs1, d1, ds1, p1, q1, rfl, rfl, rfl, h1, r1⟩ := trodAll_cons r0
  obtain ⟨rfl, rfl, rfl⟩ := trodAll_nil r1
  obtain rfl : args = #[v0, v1] := by cases args; simp_all
  obtain ⟨rfl, rfl⟩ := trodVars_none hV
  obtain ⟨a0, len0, cap0, rfl⟩ := okWide_slice Try.underlying22 (hval 0 22 v0 rfl rfl)
  obtain ⟨a1, rfl, rfl, rfl, w1⟩ := open_int Try.underlying3 (hval 1 3 v1 rfl rfl) h1
  have hkb : Rows.uptoBulk d0 ≤ 1048576 := by
    have h := of_decide_eq_true hk
    simp only [List.append_nil, Rows.uptoBulkAll] at h
    omega
  have hlt : ∀ x ∈ p0 ++ ([] ++ []), x.block < W.heap.size := fun x hx => by
    have := hW'.lt x
    simp only [List.append_nil] at this hx
    exact this hx
  have h0k := h0
  obtain ⟨f0, h0⟩ := h0
  have main : Calls Try.prog 4 #[.slice a0 len0 cap0, .int .i64 a1] W fun e w' => e = .returned (.bool true) ∧ Below W.heap.size W w' := by
    rcases open_things h0 with rfl | ⟨g, o, ts, rest, rfl, rfl, hl, hg, hLie, hok, hd⟩
    · exact packBack_walk [] (by simp) a0 cap0 a1 (wf_i64 w1) W (.inl rfl) (by simp) (by simp)
    · have ht3 := bulkAll_len (ts.map (thD (H := H)))
      have ht4 := plains_bulk (H := H) ts hok
      rw [List.length_map] at ht3
      have hd : d0 = .slice (ts.map thD) rest := hd
      have hb0 : Rows.uptoBulkAll (ts.map (thD (H := H))) ≤ Rows.uptoBulk d0 := by rw [hd]; simp only [Rows.uptoBulk]; omega
      exact packBack_walk ts hok _ cap0 a1 (wf_i64 w1) W (.inr ⟨g, o, rfl, hg, hLie⟩) (by omega) (by omega)
  refine main.mono fun e W' ⟨he, hb⟩ => ?_
  subst he
  refine ⟨_, rfl, _, _, _, [], p0 ++ ([] ++ []), [], hW', ?_, ?_, ?_, hb.frame _, fun h => by cases h⟩
  · exact trodAll_mk1 (shut_bool Try.underlying4 _)
  · exact trodAll_cons_mk (Below.trod laidOutB2 (by kernel_rfl) (of_decide_eq_true (by kernel_rfl)) h0k hb (fun x hx => hlt x (by simp [hx]))) (trodAll_cons_mk (shut_int Try.underlying3 w1) trodAll_mk0)
  · rfl

theorem packBack_holds : Rows.PackBackUptoSaid :=
  OpenClaim.holds_of_cond 4 Try.f4 rfl rfl rfl rfl rfl rfl rfl ⟨rfl, rfl, rfl, rfl, rfl⟩ rfl rfl rfl rfl rfl (by kernel_rfl) Try.func4 (by kernel_rfl)
    (of_decide_eq_true (by kernel_rfl)) (by unfold Func.isWrapper; first | (rw [if_pos (by decide +kernel)]; kernel_rfl) | (rw [if_neg (by decide +kernel)]; exact ⟨rfl, rfl⟩))
    (fun os started H enc _ F => packBack_lifted os started H enc F)
#print axioms packBack_holds
end Go.Proofs.Ytlbdlipdhhpgmaa
