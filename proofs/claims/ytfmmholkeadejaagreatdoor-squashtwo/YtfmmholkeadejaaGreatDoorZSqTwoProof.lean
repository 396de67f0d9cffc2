/- SquashTwo is proved: for every list of turns, in whatever memory in which the library's tables hold what the program's text lays into them, the law's call returns true and its arguments read as they did; the card ties the tables to the program's text. Conditions: the three tables as laid (tied); no other. -/
import Derived.Deep.Grids
import Derived.Test.YtfmmholkeadejaaGreatDoorZCkLaid
import Derived.Test.YtfmmholkeadejaaGreatDoorZCkOpens
import Derived.Test.YtfmmholkeadejaaGreatDoorZSqTwoW
import Derived.Test.YtfmmholkeadejaaGreatDoorZSqTwoFacts
import Derived.Test.YtfmmholkeadejaaGreatDoorZCkCardF
import Derived.Test.YtfmmholkeadejaaGreatDoorZSqTwoCardF
import Derived.Test.YtfmmholkeadejaaGreatDoorTie
import Derived.Test.YtfmmholkeadejaaGreatDoorCards
namespace Go.Proofs.YtfmmholkeadejaaGreatDoor
open Go.ChangeShapes Go.WideShapes Go.ChangeAt Go.WideMaps Go.WideElems Go.RowKit

/-- Bools that came in, opened. -/
theorem open_inT {H : Type} {enc : TypeId × Value → H} {W : World} {base n : Nat} {held : Bool} {a0 : Option Addr} {len cap : Nat} {x : DataW H × List MemPlace} (h : DataW.trod enc Tryz.prog W base (fun _ => true) held n 63 [.slice a0 len cap] = some x) :
    ∃ tl : List Bool, tl.length = len ∧ len ≤ maxLen ∧ InT W a0 tl := by
  rcases Go.Deep.open_bools Tryz.underlying63 Tryz.underlying4 kcells4 h with ⟨hcs, _⟩ | ⟨a, len', cap', B, hcs, _, hl, hm, _, hcell⟩
  · simp at hcs
    exact ⟨[], by simp [hcs.2.1], by simp [hcs.2.1], fun e => absurd rfl e⟩
  · simp at hcs
    obtain ⟨rfl, rfl, rfl⟩ := hcs
    refine ⟨(List.range len).map B, by simp, Nat.le_trans hl hm, fun hne => ?_⟩
    obtain ⟨g, o, spot⟩ := a
    have hpos : 0 < len := by
      rcases Nat.eq_zero_or_pos len with h0 | h0
      · subst h0; simp at hne
      · exact h0
    have hc0 := hcell 0 (by omega)
    have hspot : spot = none := by simpa [Addr.add] using World.cell?_spot hc0
    subst hspot
    refine ⟨g, o, rfl, by rw [kaddr_plus] at hc0; exact World.block_lt_of_cell? W _ hc0, fun i c hi => ?_⟩
    have hi' : i < len := by have := (List.getElem?_eq_some_iff.1 hi).1; simpa using this
    rw [List.getElem?_map, List.getElem?_range hi'] at hi
    obtain rfl := Option.some.inj hi
    rw [← kaddr_plus]; exact hcell i (by omega)
set_option maxRecDepth 100000 in
theorem squashTwo_lifted (os : Os) (started : os.Started) (H : Type) (enc : TypeId × Value → H) :
    ReturnsInHanded {} Tryz.checked os 10 .any (fun w args => (Rows.squashTwoSpec.pre enc Tryz.prog Tryz.f10 [] false w args ∧ laidMetH Tryz.prog laid3 w) ∧ sizedMet enc Tryz.prog Tryz.f10 (OpenSpec.ofChange Rows.squashTwoSpec) false w args)
      (Rows.squashTwoSpec.post enc Tryz.prog Tryz.f10 false true false false) := by
  refine returnsInHanded_of_change_and (C := Tryz.checked) (X := fun w _ => laidMetH Tryz.prog laid3 w) (fun _ _ _ hh h => h.of_heap hh) own started (by kernel_rfl) Tryz.func10
    (ChangeSpec.witness_shaped (enc := enc) (C := Tryz.checked) (os := os) (X := fun w _ => laidMetH Tryz.prog laid3 w) false (World.doorLaid Tryz.prog 400 os) #[.slice none 0 0] 7 rfl (World.shaped_of_RefB (by kernel_rfl) (by kernel_rfl)) (by kernel_rfl) (by kernel_rfl) (by kernel_rfl) (door_met os _)) ?_
  intro W base args ds gs before hval0 hW _ _ hL _
  have hval : ∀ (j : Nat) t v, Tryz.f10.params[j]? = some t → args[j]? = some v → Value.okWide Tryz.prog W .any base t v := hval0
  have hW' := hW
  obtain ⟨p, q, hA0, hV, rfl, hfz, hnd⟩ := hW
  have hA : DataW.TrodAll enc Tryz.prog W 0 (fun _ => true) true Tryz.f10.params.toList args.toList ds p := hA0
  rw [Tryz.params10] at hA hval
  obtain ⟨v0, vs0, d0, ds0, p0, q0, hargs, rfl, rfl, h0, r0⟩ := trodAll_cons hA
  obtain ⟨rfl, rfl, rfl⟩ := trodAll_nil r0
  obtain rfl : args = #[v0] := by cases args; simp_all
  obtain ⟨rfl, rfl⟩ := trodVars_none hV
  obtain ⟨a0, len0, cap0, rfl⟩ := okWide_slice Tryz.underlying63 (hval 0 63 v0 rfl rfl)
  have h0k := h0
  obtain ⟨f0, h0⟩ := h0
  have hlt : ∀ x ∈ p0 ++ [], x.block < W.heap.size := fun x hx => by
    have := hW'.lt x
    simp at this hx
    exact this (by simpa using hx)
  obtain ⟨l, rfl, hm, hC⟩ := open_inT h0
  have hT : Tab W.heap.size W := of_laid hL
  refine (squashTwo_walk l a0 cap0 (by unfold maxLen at hm; omega) W hT hC).mono fun e W' ⟨he, hb⟩ => ?_
  subst he
  refine ⟨_, rfl, _, _, _, [], p0 ++ [], [], hW', ?_, ?_, ?_, hb.frame _, fun h => by cases h⟩
  · exact trodAll_mk1 (shut_bool Tryz.underlying4 _)
  · exact trodAll_cons_mk (Below.trod laidOutK (by kernel_rfl) (of_decide_eq_true (by kernel_rfl)) h0k hb (fun x hx => hlt x (by simp [hx]))) trodAll_mk0
  · rfl
theorem squashTwo_holds : Rows.SquashTwoSaid :=
  OpenClaim.holds_of_wide 10 Tryz.f10 rfl rfl rfl rfl rfl rfl rfl ⟨rfl, rfl, rfl, rfl, rfl⟩ rfl rfl rfl rfl rfl (by kernel_rfl) Tryz.func10 squashTwo_facts
    (of_decide_eq_true (by kernel_rfl)) (by unfold Func.isWrapper; first | (rw [if_pos (by decide +kernel)]; kernel_rfl) | (rw [if_neg (by decide +kernel)]; exact ⟨rfl, rfl⟩))
    (fun os started H enc _ => squashTwo_lifted os started H enc)
theorem squashTwo_card_holds : Rows.SquashTwoCardSaid :=
  Claim7.holds_tied_plain_at .later [] [.data, .data, .data] true (true, "2182423058f21bf798e62ce16ceeb0f4266e2221f524ae0a03d06db815184073") true
    squashTwo_holds (fun _ h => by cases h) squashTwo_wf (fun _ h => by cases h) squashTwo_row_tie rfl ⟨rfl, rfl⟩ seat_main rfl
    (fun f fn hf hfn => by
      obtain rfl : f = 10 := Option.some.inj (squashTwo_named.symm.trans hf) |>.symm
      obtain rfl : fn = Tryz.f10 := (Option.some.inj (Tryz.func10.symm.trans hfn)).symm
      exact ⟨seat_looks, fun j t ht => by
        rw [Tryz.params10] at ht
        have hm : t ∈ [63] := by simpa using Array.mem_of_getElem? ht
        simp at hm
        subst hm
        exact stand63⟩)
    squashTwo_goes
#print axioms squashTwo_card_holds
end Go.Proofs.YtfmmholkeadejaaGreatDoor
