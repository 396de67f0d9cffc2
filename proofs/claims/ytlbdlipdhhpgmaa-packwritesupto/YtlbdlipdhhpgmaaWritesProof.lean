/- PackWrites is proved, where its arguments hold together at most 1048576 values and letters: the law's call returns true and its arguments read as they did. Conditions: that bound; none other but the form's own. -/
import Derived.Test.YtlbdlipdhhpgmaaWriteAll
import Derived.Test.YtlbdlipdhhpgmaaBulk
import Derived.ProofKit
import Derived.OpenShut
import Derived.JoinedCond
import Derived.Carry
namespace Go.Proofs.Ytlbdlipdhhpgmaa
open Go.ChangeShapes Go.WideShapes Go.ChangeAt Go.WideMaps Go.WideElems Go.RowKit

theorem ownW : ownKnob Try.prog.godebug = none := by kernel_rfl
theorem laidOutW : laidOutB Try.prog = true := by kernel_rfl

set_option maxRecDepth 100000 in
theorem packWrites_lifted (os : Os) (started : os.Started) (H : Type) (enc : TypeId × Value → H) (F : Stop.Interp) :
    ReturnsInHanded {} Try.checked os 3 .any ((Rows.OpenSpec.upto Rows.packWritesSpec).pre6 enc Try.prog Try.f3 Rows.packWritesUptoRow.domain false) (((Rows.OpenSpec.upto Rows.packWritesSpec).at F).post enc Try.prog Try.f3 false true false false) := by
  refine returnsInHanded_of_cond (C := Try.checked) (s := Rows.OpenSpec.upto Rows.packWritesSpec) (k := Rows.uptoSmall) rfl ownW started (by kernel_rfl) Try.func3
    (OpenSpec.witness (enc := enc) (C := Try.checked) (s := Rows.OpenSpec.upto Rows.packWritesSpec) (k := Rows.uptoSmall) rfl false ⟨#[], #[.slice none 0 0, .slice none 0 0, .slice none 0 0], []⟩ 8 (by kernel_rfl) (by kernel_rfl) (by kernel_rfl)
      (x := ([.nil, .nil, .nil], [], [])) (by kernel_rfl) rfl (by kernel_rfl)) ?_
  intro W base args ds gs before hval0 hW0 _ hk _
  have hW : DataW.Whole enc Try.prog Try.f3.params.toList Rows.packWritesSpec.vars false W args.toList ds gs before := hW0
  show Calls Try.prog 3 args W fun e W' => ∃ v, e = .returned v ∧ Rows.packWritesSpec.post enc Try.prog Try.f3 false true false false W args v W'
  have hval : ∀ (j : Nat) t v, Try.f3.params[j]? = some t → args[j]? = some v → Value.okWide Try.prog W .any base t v := hval0
  have hW' := hW
  obtain ⟨p, q, hA0, hV, rfl, hfz, hnd⟩ := hW
  have hA : DataW.TrodAll enc Try.prog W 0 (fun _ => true) true Try.f3.params.toList args.toList ds p := hA0
  rw [Try.params3] at hA hval
  obtain ⟨v0, vs0, d0, ds0, p0, q0, hargs, rfl, rfl, h0, r0⟩ := trodAll_cons hA
  obtain ⟨v1, vs1, d1, ds1, p1, q1, rfl, rfl, rfl, h1, r1⟩ := trodAll_cons r0
  obtain ⟨v2, vs2, d2, ds2, p2, q2, rfl, rfl, rfl, h2, r2⟩ := trodAll_cons r1
  obtain ⟨rfl, rfl, rfl⟩ := trodAll_nil r2
  obtain rfl : args = #[v0, v1, v2] := by cases args; simp_all
  obtain ⟨rfl, rfl⟩ := trodVars_none hV
  obtain ⟨a0, len0, cap0, rfl⟩ := okWide_slice Try.underlying22 (hval 0 22 v0 rfl rfl)
  obtain ⟨a1, len1, cap1, rfl⟩ := okWide_slice Try.underlying23 (hval 1 23 v1 rfl rfl)
  obtain ⟨a2, len2, cap2, rfl⟩ := okWide_slice Try.underlying24 (hval 2 24 v2 rfl rfl)
  have hkb : Rows.uptoBulk d0 + (Rows.uptoBulk d1 + Rows.uptoBulk d2) ≤ 1048576 := by
    have h := of_decide_eq_true hk
    simp only [List.append_nil, Rows.uptoBulkAll] at h
    omega
  have hlt : ∀ x ∈ p0 ++ (p1 ++ (p2 ++ [])), x.block < W.heap.size := fun x hx => by
    have := hW'.lt x
    simp only [List.append_nil] at this hx
    exact this hx
  have h0k := h0
  have h1k := h1
  have h2k := h2
  obtain ⟨f0, h0⟩ := h0
  obtain ⟨f1, h1⟩ := h1
  obtain ⟨f2, h2⟩ := h2
  have main : Calls Try.prog 3 #[.slice a0 len0 cap0, .slice a1 len1 cap1, .slice a2 len2 cap2] W fun e w' => e = .returned (.bool true) ∧ Below W.heap.size W w' := by
    obtain ⟨ns, hn1, hn2, hn3, hn4⟩ := open_nums h1
    obtain ⟨xs, hx1, hx2, hx3, hx4, hx5⟩ := open_texts h2
    subst hn1 hx1
    have hn4 : ns.length ≤ Rows.uptoBulk d1 := hn4
    have hx3 : (xs.flatMap textL).length ≤ 10 * Rows.uptoBulk d2 := hx3
    have hx4 : ∀ y ∈ xs, y.size ≤ Rows.uptoBulk d2 := hx4
    have hx5 : xs.length ≤ Rows.uptoBulk d2 := hx5
    have hnb := nums_bulk ns hn3
    rcases open_things h0 with rfl | ⟨g, o, ts, rest, rfl, rfl, hl, hg, hLie, hok, hd⟩
    · exact packWrites_walk [] (by simp) ns hn3 xs (fun y hy => by have := hx4 y hy; omega) a0 a1 a2 cap0 cap1 cap2 W (.inl rfl) hn2 hx2 (by simp) (by omega) (by omega) (by simp) (by omega) (by omega)
    · obtain ⟨t1, t2⟩ := things_bulk (H := H) ts hok
      have ht3 := bulkAll_len (ts.map (thD (H := H)))
      rw [List.length_map] at ht3
      have hd : d0 = .slice (ts.map thD) rest := hd
      have hb0 : Rows.uptoBulkAll (ts.map (thD (H := H))) ≤ Rows.uptoBulk d0 := by rw [hd]; simp only [Rows.uptoBulk]; omega
      exact packWrites_walk ts (fun t ht => ⟨(hok t ht).n, by have := t2 t ht; omega⟩) ns hn3 xs (fun y hy => by have := hx4 y hy; omega) _ a1 a2 cap0 cap1 cap2 W (.inr ⟨g, o, rfl, hg, hLie⟩) hn2 hx2 (by omega) (by omega) (by omega) (by omega) (by omega) (by omega)
  refine main.mono fun e W' ⟨he, hb⟩ => ?_
  subst he
  refine ⟨_, rfl, _, _, _, [], p0 ++ (p1 ++ (p2 ++ [])), [], hW', ?_, ?_, ?_, hb.frame _, fun h => by cases h⟩
  · exact trodAll_mk1 (shut_bool Try.underlying4 _)
  · exact trodAll_cons_mk (Below.trod laidOutW (by kernel_rfl) (of_decide_eq_true (by kernel_rfl)) h0k hb (fun x hx => hlt x (by simp [hx]))) (trodAll_cons_mk (Below.trod laidOutW (by kernel_rfl) (of_decide_eq_true (by kernel_rfl)) h1k hb (fun x hx => hlt x (by simp [hx]))) (trodAll_cons_mk (Below.trod laidOutW (by kernel_rfl) (of_decide_eq_true (by kernel_rfl)) h2k hb (fun x hx => hlt x (by simp [hx]))) trodAll_mk0))
  · rfl

theorem packWrites_holds : Rows.PackWritesUptoSaid :=
  OpenClaim.holds_of_cond 3 Try.f3 rfl rfl rfl rfl rfl rfl rfl ⟨rfl, rfl, rfl, rfl, rfl⟩ rfl rfl rfl rfl rfl (by kernel_rfl) Try.func3 (by kernel_rfl)
    (of_decide_eq_true (by kernel_rfl)) (by unfold Func.isWrapper; first | (rw [if_pos (by decide +kernel)]; kernel_rfl) | (rw [if_neg (by decide +kernel)]; exact ⟨rfl, rfl⟩))
    (fun os started H enc _ F => packWrites_lifted os started H enc F)
#print axioms packWrites_holds
end Go.Proofs.Ytlbdlipdhhpgmaa
