/- SquashLess is proved: for every list of changes, in whatever memory in which the library's tables hold what the program's text lays into them, the law's call returns true and its arguments read as they did; the card ties the tables to the program's text. Conditions: the three tables as laid (tied); no other. -/
import Derived.Test.YtfmmholkeadejaaGreatDoorZCkLaid
import Derived.Test.YtfmmholkeadejaaGreatDoorZCkOpens
import Derived.Test.YtfmmholkeadejaaGreatDoorZSqLessW
import Derived.Test.YtfmmholkeadejaaGreatDoorZSqLessFacts
import Derived.Test.YtfmmholkeadejaaGreatDoorZCkCardF
import Derived.Test.YtfmmholkeadejaaGreatDoorZSqLessCardF
import Derived.Test.YtfmmholkeadejaaGreatDoorTie
import Derived.Test.YtfmmholkeadejaaGreatDoorCards
namespace Go.Proofs.YtfmmholkeadejaaGreatDoor
open Go.ChangeShapes Go.WideShapes Go.ChangeAt Go.WideMaps Go.WideElems Go.RowKit

set_option maxRecDepth 100000 in
theorem squashLess_lifted (os : Os) (started : os.Started) (H : Type) (enc : TypeId × Value → H) :
    ReturnsInHanded {} Tryz.checked os 13 .any (fun w args => (Rows.squashLessSpec.pre enc Tryz.prog Tryz.f13 [] false w args ∧ laidMetH Tryz.prog laid3 w) ∧ sizedMet enc Tryz.prog Tryz.f13 (OpenSpec.ofChange Rows.squashLessSpec) false w args)
      (Rows.squashLessSpec.post enc Tryz.prog Tryz.f13 false true false false) := by
  refine returnsInHanded_of_change_and (C := Tryz.checked) (X := fun w _ => laidMetH Tryz.prog laid3 w) (fun _ _ _ hh h => h.of_heap hh) own started (by kernel_rfl) Tryz.func13
    (ChangeSpec.witness_shaped (enc := enc) (C := Tryz.checked) (os := os) (X := fun w _ => laidMetH Tryz.prog laid3 w) false (World.doorLaid Tryz.prog 400 os) #[.slice none 0 0] 7 rfl (World.shaped_of_RefB (by kernel_rfl) (by kernel_rfl)) (by kernel_rfl) (by kernel_rfl) (by kernel_rfl) (door_met os _)) ?_
  intro W base args ds gs before hval0 hW _ _ hL _
  have hval : ∀ (j : Nat) t v, Tryz.f13.params[j]? = some t → args[j]? = some v → Value.okWide Tryz.prog W .any base t v := hval0
  have hW' := hW
  obtain ⟨p, q, hA0, hV, rfl, hfz, hnd⟩ := hW
  have hA : DataW.TrodAll enc Tryz.prog W 0 (fun _ => true) true Tryz.f13.params.toList args.toList ds p := hA0
  rw [Tryz.params13] at hA hval
  obtain ⟨v0, vs0, d0, ds0, p0, q0, hargs, rfl, rfl, h0, r0⟩ := trodAll_cons hA
  obtain ⟨rfl, rfl, rfl⟩ := trodAll_nil r0
  obtain rfl : args = #[v0] := by cases args; simp_all
  obtain ⟨rfl, rfl⟩ := trodVars_none hV
  obtain ⟨a0, len0, cap0, rfl⟩ := okWide_slice Tryz.underlying48 (hval 0 48 v0 rfl rfl)
  have h0k := h0
  obtain ⟨f0, h0⟩ := h0
  have hlt : ∀ x ∈ p0 ++ [], x.block < W.heap.size := fun x hx => by
    have := hW'.lt x
    simp at this hx
    exact this (by simpa using hx)
  obtain ⟨l, rfl, hm, hC, hK⟩ := open_changes h0
  have hT : Tab W.heap.size W := of_laid hL
  refine (squashLess_walk l (fun c hc => (hK c hc).1) a0 cap0 (by unfold maxLen at hm; omega) W hT hC).mono fun e W' ⟨he, hb⟩ => ?_
  subst he
  refine ⟨_, rfl, _, _, _, [], p0 ++ [], [], hW', ?_, ?_, ?_, hb.frame _, fun h => by cases h⟩
  · exact trodAll_mk1 (shut_bool Tryz.underlying4 _)
  · exact trodAll_cons_mk (Below.trod laidOutK (by kernel_rfl) (of_decide_eq_true (by kernel_rfl)) h0k hb (fun x hx => hlt x (by simp [hx]))) trodAll_mk0
  · rfl
theorem squashLess_holds : Rows.SquashLessSaid :=
  OpenClaim.holds_of_wide 13 Tryz.f13 rfl rfl rfl rfl rfl rfl rfl ⟨rfl, rfl, rfl, rfl, rfl⟩ rfl rfl rfl rfl rfl (by kernel_rfl) Tryz.func13 squashLess_facts
    (of_decide_eq_true (by kernel_rfl)) (by unfold Func.isWrapper; first | (rw [if_pos (by decide +kernel)]; kernel_rfl) | (rw [if_neg (by decide +kernel)]; exact ⟨rfl, rfl⟩))
    (fun os started H enc _ => squashLess_lifted os started H enc)
theorem squashLess_card_holds : Rows.SquashLessCardSaid :=
  Claim7.holds_tied_plain_at .later [] [.data, .data, .data] true (true, "2182423058f21bf798e62ce16ceeb0f4266e2221f524ae0a03d06db815184073") true
    squashLess_holds (fun _ h => by cases h) squashLess_wf (fun _ h => by cases h) squashLess_row_tie rfl ⟨rfl, rfl⟩ seat_main rfl
    (fun f fn hf hfn => by
      obtain rfl : f = 13 := Option.some.inj (squashLess_named.symm.trans hf) |>.symm
      obtain rfl : fn = Tryz.f13 := (Option.some.inj (Tryz.func13.symm.trans hfn)).symm
      exact ⟨seat_looks, fun j t ht => by
        rw [Tryz.params13] at ht
        have hm : t ∈ [48] := by simpa using Array.mem_of_getElem? ht
        simp at hm
        subst hm
        exact stand48⟩)
    squashLess_goes
#print axioms squashLess_card_holds
end Go.Proofs.YtfmmholkeadejaaGreatDoor
