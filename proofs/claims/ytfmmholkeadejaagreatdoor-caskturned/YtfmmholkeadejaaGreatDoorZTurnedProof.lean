/- CaskTurned is proved: for every list of changes, every number and every byte, in whatever memory in which the library's tables hold what the program's text lays into them, the law's call returns true and its arguments read as they did; the card ties the tables to the program's text. Conditions: the three tables as laid (tied); no other. -/
import Derived.Test.YtfmmholkeadejaaGreatDoorZTurned
import Derived.Test.YtfmmholkeadejaaGreatDoorZCkOpens
import Derived.Test.YtfmmholkeadejaaGreatDoorZTurnedFacts
import Derived.Test.YtfmmholkeadejaaGreatDoorZCkCardF
import Derived.Test.YtfmmholkeadejaaGreatDoorZTurnedCardF
import Derived.Test.YtfmmholkeadejaaGreatDoorTie
import Derived.Test.YtfmmholkeadejaaGreatDoorCards
namespace Go.Proofs.YtfmmholkeadejaaGreatDoor
open Go.ChangeShapes Go.WideShapes Go.ChangeAt Go.WideMaps Go.WideElems Go.RowKit

set_option maxRecDepth 100000 in
theorem caskTurned_lifted (os : Os) (started : os.Started) (H : Type) (enc : TypeId × Value → H) :
    ReturnsInHanded {} Tryz.checked os 5 .any (fun w args => (Rows.caskTurnedSpec.pre enc Tryz.prog Tryz.f5 [] false w args ∧ laidMetH Tryz.prog laid3 w) ∧ sizedMet enc Tryz.prog Tryz.f5 (OpenSpec.ofChange Rows.caskTurnedSpec) false w args)
      (Rows.caskTurnedSpec.post enc Tryz.prog Tryz.f5 false true false false) := by
  refine returnsInHanded_of_change_and (C := Tryz.checked) (X := fun w _ => laidMetH Tryz.prog laid3 w) (fun _ _ _ hh h => h.of_heap hh) own started (by kernel_rfl) Tryz.func5
    (ChangeSpec.witness_shaped (enc := enc) (C := Tryz.checked) (os := os) (X := fun w _ => laidMetH Tryz.prog laid3 w) false (World.doorLaid Tryz.prog 400 os) #[.slice none 0 0, .int .i64 0, .int .u8 0] 5 rfl (World.shaped_of_RefB (by kernel_rfl) (by kernel_rfl)) (by kernel_rfl) (by kernel_rfl) (by kernel_rfl) (door_met os _)) ?_
  intro W base args ds gs before hval0 hW _ _ hL _
  have hval : ∀ (j : Nat) t v, Tryz.f5.params[j]? = some t → args[j]? = some v → Value.okWide Tryz.prog W .any base t v := hval0
  have hW' := hW
  obtain ⟨p, q, hA0, hV, rfl, hfz, hnd⟩ := hW
  have hA : DataW.TrodAll enc Tryz.prog W 0 (fun _ => true) true Tryz.f5.params.toList args.toList ds p := hA0
  rw [Tryz.params5] at hA hval
  obtain ⟨v0, vs0, d0, ds0, p0, q0, hargs, rfl, rfl, h0, r0⟩ := trodAll_cons hA
  obtain ⟨v1, vs1, d1, ds1, p1, q1, rfl, rfl, rfl, h1, r1⟩ := trodAll_cons r0
  obtain ⟨v2, vs2, d2, ds2, p2, q2, rfl, rfl, rfl, h2, r2⟩ := trodAll_cons r1
  obtain ⟨rfl, rfl, rfl⟩ := trodAll_nil r2
  obtain rfl : args = #[v0, v1, v2] := by cases args; simp_all
  obtain ⟨rfl, rfl⟩ := trodVars_none hV
  obtain ⟨a0, len0, cap0, rfl⟩ := okWide_slice Tryz.underlying48 (hval 0 48 v0 rfl rfl)
  obtain ⟨z1, rfl, rfl, rfl, w1⟩ := open_int Tryz.underlying3 (hval 1 3 v1 rfl rfl) h1
  obtain ⟨z2, rfl, rfl, rfl, w2⟩ := open_int Tryz.underlying5 (hval 2 5 v2 rfl rfl) h2
  have hz2 : 0 ≤ z2 ∧ z2 < 256 := by
    have : (decide (IntKind.u8.min ≤ z2) && decide (z2 ≤ IntKind.u8.max)) = true := w2
    have hmin : IntKind.u8.min = 0 := by decide
    have hmax : IntKind.u8.max = 255 := by decide
    rw [hmin, hmax] at this
    simp at this
    omega
  obtain ⟨b2, rfl⟩ : ∃ b2 : Nat, z2 = (b2 : Int) := ⟨z2.toNat, by omega⟩
  have h0k := h0
  obtain ⟨f0, h0⟩ := h0
  have hlt : ∀ x ∈ p0 ++ ([] ++ ([] ++ [])), x.block < W.heap.size := fun x hx => by
    have := hW'.lt x
    simp at this hx
    exact this (by simpa using hx)
  obtain ⟨l, rfl, hm, hC, _⟩ := open_changes h0
  have hT : Tab W.heap.size W := of_laid hL
  refine (caskTurned_walk l a0 cap0 z1 b2 (kwf_int w1) (by omega) hm W hT hC).mono fun e W' ⟨he, hb⟩ => ?_
  subst he
  refine ⟨_, rfl, _, _, _, [], p0 ++ ([] ++ ([] ++ [])), [], hW', ?_, ?_, ?_, hb.frame _, fun h => by cases h⟩
  · exact trodAll_mk1 (shut_bool Tryz.underlying4 _)
  · exact trodAll_cons_mk (Below.trod laidOutK (by kernel_rfl) (of_decide_eq_true (by kernel_rfl)) h0k hb (fun x hx => hlt x (by simp [hx]))) (trodAll_cons_mk (shut_int Tryz.underlying3 w1) (trodAll_cons_mk (shut_int Tryz.underlying5 w2) trodAll_mk0))
  · rfl
theorem caskTurned_holds : Rows.CaskTurnedSaid :=
  OpenClaim.holds_of_wide 5 Tryz.f5 rfl rfl rfl rfl rfl rfl rfl ⟨rfl, rfl, rfl, rfl, rfl⟩ rfl rfl rfl rfl rfl (by kernel_rfl) Tryz.func5 caskTurned_facts
    (of_decide_eq_true (by kernel_rfl)) (by unfold Func.isWrapper; first | (rw [if_pos (by decide +kernel)]; kernel_rfl) | (rw [if_neg (by decide +kernel)]; exact ⟨rfl, rfl⟩))
    (fun os started H enc _ => caskTurned_lifted os started H enc)
theorem caskTurned_card_holds : Rows.CaskTurnedCardSaid :=
  Claim7.holds_tied_plain_at .later [] [.data, .data, .data] true (true, "2182423058f21bf798e62ce16ceeb0f4266e2221f524ae0a03d06db815184073") true
    caskTurned_holds (fun _ h => by cases h) caskTurned_wf (fun _ h => by cases h) caskTurned_row_tie rfl ⟨rfl, rfl⟩ seat_main rfl
    (fun f fn hf hfn => by
      obtain rfl : f = 5 := Option.some.inj (caskTurned_named.symm.trans hf) |>.symm
      obtain rfl : fn = Tryz.f5 := (Option.some.inj (Tryz.func5.symm.trans hfn)).symm
      exact ⟨seat_looks, fun j t ht => by
        rw [Tryz.params5] at ht
        have hm : t ∈ [48, 3, 5] := by simpa using Array.mem_of_getElem? ht
        simp at hm
        rcases hm with rfl | rfl | rfl
        · exact stand48
        · exact stand3
        · exact stand5⟩)
    caskTurned_goes
#print axioms caskTurned_card_holds
end Go.Proofs.YtfmmholkeadejaaGreatDoor
