/- ShaJoins is proved: for every list of sums, in whatever memory in which package sha's two tables hold what the program's text lays into them, the law's call returns true and its argument reads as it did; the card ties the tables to the program's text. Conditions: the two tables as laid (tied); the form's own reach; no other. -/
import Derived.Test.YtccebaleaipilaaDoorLaid
import Derived.Test.YtccebaleaipilaaDoorJoinsNone
import Derived.Test.YtccebaleaipilaaDoorTie
import Derived.Test.YtccebaleaipilaaDoorCards
import Derived.Deep.Slices
import Derived.SizedLaws
import Derived.Carry
namespace Go.Proofs.YtccebaleaipilaaDoor
open Go.ChangeShapes Go.WideShapes Go.ChangeAt Go.WideMaps Go.WideElems Go.RowKit

theorem laidOutJ : laidOutB Tryd.prog = true := by kernel_rfl
theorem bytes23 : Tryd.prog.bytesOf 23 = 32 := by kernel_rfl
theorem cells23 : Tryd.prog.cellsOf 23 = 32 := by kernel_rfl
theorem cells5 : Tryd.prog.cellsOf 5 = 1 := by kernel_rfl
/-- The byte in a cell. -/
def toByte : Value → UInt8
  | .int _ k => UInt8.ofNat k.toNat
  | _ => 0
theorem sum_of {H : Type} {enc : TypeId × Value → H} {W : World} {base n : Nat} {sp : Nat → Bool} {held : Bool} {cs : List Value} {y : DataW H × List MemPlace} (h : DataW.trod enc Tryd.prog W base sp held n 23 cs = some y) : ∃ l : List UInt8, l.length = 32 ∧ cs = l.map byteV := by
  obtain ⟨xs, m, rfl, hx, hl, hlen, hel⟩ := DataW.trod_array und23 h
  rw [cells23] at hl
  refine ⟨cs.map toByte, by rw [List.length_map, hl], ?_⟩
  apply List.ext_getElem?
  intro j
  rw [List.map_map, List.getElem?_map]
  by_cases hj : j < 32
  · have h1 := hel j hj
    rw [List.getElem?_eq_getElem (by omega), cells5, Nat.mul_one] at h1
    obtain ⟨k, e1, _, e3⟩ := DataW.trod_int und5 h1
    have h3 : (cs.drop j)[0]? = some (.int .u8 k) := by
      have : ((cs.drop j).take 1)[0]? = some (.int .u8 k) := by rw [e1]; rfl
      rwa [List.getElem?_take_of_lt (by omega)] at this
    rw [List.getElem?_drop, Nat.add_zero] at h3
    rw [h3]
    have hk : 0 ≤ k ∧ k < 256 := by
      have : (decide (IntKind.u8.min ≤ k) && decide (k ≤ IntKind.u8.max)) = true := e3
      have hmin : IntKind.u8.min = 0 := by decide
      have hmax : IntKind.u8.max = 255 := by decide
      rw [hmin, hmax] at this
      simp at this
      omega
    simp only [Option.map_some, Function.comp_apply, toByte, byteV]
    congr 2
    rw [UInt8.toNat_ofNat']
    omega
  · rw [List.getElem?_eq_none (by omega)]; rfl

set_option maxHeartbeats 1600000 in
set_option maxRecDepth 100000 in
theorem shaJoins_lifted (os : Os) (started : os.Started) (H : Type) (enc : TypeId × Value → H) :
    ReturnsInHanded {} Tryd.checked os 5 .any (fun w args => (Rows.shaJoinsSpec.pre enc Tryd.prog Tryd.f5 [] false w args ∧ laidMetH Tryd.prog laid2 w) ∧ sizedMet enc Tryd.prog Tryd.f5 (OpenSpec.ofChange Rows.shaJoinsSpec) false w args)
      (Rows.shaJoinsSpec.post enc Tryd.prog Tryd.f5 false true false false) := by
  refine returnsInHanded_of_change_and (C := Tryd.checked) (X := fun w _ => laidMetH Tryd.prog laid2 w) (fun _ _ _ hh h => h.of_heap hh) own started (by kernel_rfl) Tryd.func5
    (ChangeSpec.witness_shaped (enc := enc) (C := Tryd.checked) (os := os) (X := fun w _ => laidMetH Tryd.prog laid2 w) false (World.doorLaid Tryd.prog 400 os) #[.slice none 0 0] 8 rfl (World.shaped_of_RefB (by kernel_rfl) (by kernel_rfl)) (by kernel_rfl) (by kernel_rfl) (by kernel_rfl) (door_met os _)) ?_
  intro W base args ds gs before hval0 hW _ hsz0 hL _
  have hval : ∀ (j : Nat) t v, Tryd.f5.params[j]? = some t → args[j]? = some v → Value.okWide Tryd.prog W .any base t v := hval0
  have hW' := hW
  obtain ⟨p, q, hA0, hV, rfl, hfz, hnd⟩ := hW
  have hA : DataW.TrodAll enc Tryd.prog W 0 (fun _ => true) true Tryd.f5.params.toList args.toList ds p := hA0
  have hsz : (DataW.weightsEach Tryd.prog (Tryd.f5.params.toList ++ Rows.shaJoinsSpec.plain.varTypes Tryd.prog) (ds ++ gs)).all (· ≤ reachBytes) = true := hsz0
  rw [Tryd.params5] at hA hval hsz
  obtain ⟨v0, d0, rfl, rfl, h0⟩ := trodAll_one hA
  obtain ⟨rfl, rfl⟩ := trodVars_none hV
  obtain ⟨a0, len, cap, rfl⟩ := okWide_slice und34 (hval 0 34 v0 rfl rfl)
  have h0k := h0
  obtain ⟨fu, hf⟩ := h0
  have hlt : ∀ x ∈ p, x.block < W.heap.size := fun x hx => by
    have := hW'.lt x
    simp at this
    exact this hx
  have main : Calls Tryd.prog 5 #[.slice a0 len cap] W fun e w' => e = .returned (.bool true) ∧ Below W.heap.size W w' := by
    have hLW := of_laid hL
    rcases Go.Deep.open_slice und34 hf with ⟨hcs, hx⟩ | ⟨a, len', cap', m, fn, D, Pl, hcs, _, hlc, hcm, hm, hx, hel⟩
    · simp [Value.cells] at hcs
      obtain ⟨rfl, rfl, rfl⟩ := hcs
      exact shaJoins_none _ _ W hLW
    · simp [Value.cells] at hcs
      obtain ⟨rfl, rfl, rfl⟩ := hcs
      simp only [Prod.mk.injEq] at hx
      obtain ⟨rfl, rfl⟩ := hx
      simp only [if_true] at hm
      rcases Nat.eq_zero_or_pos len with h0 | hpos
      · subst h0
        exact shaJoins_none _ _ W hLW
      · obtain ⟨g, o, spot⟩ := a
        rw [cells23] at hel
        have each : ∀ i, ∃ l : List UInt8, i < len → l.length = 32 ∧ ∀ j v, (l.map byteV)[j]? = some v → W.cell? (((⟨g, o, spot⟩ : Addr).add (i * 32)).add j) = some v := fun i => by
          by_cases hi : i < len
          · obtain ⟨cs, h1, h2⟩ := hel i (by omega)
            obtain ⟨l, hl, rfl⟩ := sum_of h2
            refine ⟨l, fun _ => ⟨hl, fun j v hv => ?_⟩⟩
            have hj := (List.getElem?_eq_some_iff.1 hv).1
            rw [(World.cells?_some h1).2.2 j (by simpa [hl] using hj)]; exact hv
          · exact ⟨[], fun h => absurd h hi⟩
        obtain ⟨F, hF⟩ := Classical.axiomOfChoice each
        have hspot : spot = none := by
          obtain ⟨hl0, hc0⟩ := hF 0 hpos
          have hl1 : 0 < (F 0).length := by omega
          have := hc0 0 (byteV (F 0)[0]) (by simp [hl1])
          simpa [Addr.add] using World.cell?_spot this
        subst hspot
        have hlen : ((List.range len).map F).length = len := by simp
        have get : ∀ i l, ((List.range len).map F)[i]? = some l → i < len ∧ l = F i := fun i l hi => by
          have hi' : i < len := by have := (List.getElem?_eq_some_iff.1 hi).1; omega
          rw [List.getElem?_map, List.getElem?_range hi'] at hi
          exact ⟨hi', (Option.some.inj hi).symm⟩
        have hlies : Lies W g o ((List.range len).map F) := fun i l hi => by
          obtain ⟨hi', rfl⟩ := get i l hi
          intro j v hv
          have := (hF i hi').2 j v hv
          rwa [addr_plus, addr_plus] at this
        have h32 : ∀ l ∈ (List.range len).map F, l.length = 32 := fun l hl => by
          obtain ⟨i, hi, rfl⟩ := List.mem_map.1 hl
          exact (hF i (List.mem_range.1 hi)).1
        have hg : g < W.heap.size := by
          obtain ⟨hl0, hc0⟩ := hF 0 hpos
          have hl1 : 0 < (F 0).length := by omega
          have := hc0 0 (byteV (F 0)[0]) (by simp [hl1])
          rw [addr_plus, addr_plus] at this
          exact World.block_lt_of_cell? W _ this
        have h16 := sized_slice hsz (j := 0) (t := 34) rfl rfl und34
        rw [bytes23, List.length_map, List.length_map, List.length_range, List.length_range] at h16
        have hr : reachBytes = 140737488351232 := rfl
        by_cases h60 : 60 < len
        · have := shaJoins_many ((List.range len).map F) (((List.range len).map F).take 60) (by omega) (by omega) g o cap (by rw [List.length_take, hlen]; omega) (fun l hl => h32 l (List.mem_of_mem_take hl)) (by omega) (by omega) W hg (fun i l hi => hlies i l (by
            have hi' : i < 60 := by have := (List.getElem?_eq_some_iff.1 hi).1; simp at this; omega
            rwa [List.getElem?_take_of_lt hi'] at hi)) hLW
          rw [hlen] at this
          exact this
        · have := shaJoins_few ((List.range len).map F) ((List.range len).map F) (by omega) g o cap rfl h32 (by omega) W hg hlies hLW
          rw [hlen] at this
          exact this
  refine main.mono fun e W' ⟨he, hb⟩ => ?_
  subst he
  refine ⟨_, rfl, _, _, _, [], p, [], hW', ?_, ?_, ?_, hb.frame _, fun h => by cases h⟩
  · exact trodAll_mk1 (shut_bool Tryd.underlying4 _)
  · exact trodAll_mk1 (Below.trod laidOutJ (by kernel_rfl) (of_decide_eq_true (by kernel_rfl)) h0k hb hlt)
  · rfl

theorem shaJoins_holds : Rows.ShaJoinsSaid :=
  OpenClaim.holds_of_wide 5 Tryd.f5 rfl rfl rfl rfl rfl rfl rfl ⟨rfl, rfl, rfl, rfl, rfl⟩ rfl rfl rfl rfl rfl (by kernel_rfl) Tryd.func5 (by kernel_rfl)
    (of_decide_eq_true (by kernel_rfl)) (by unfold Func.isWrapper; first | (rw [if_pos (by decide +kernel)]; kernel_rfl) | (rw [if_neg (by decide +kernel)]; exact ⟨rfl, rfl⟩))
    (fun os started H enc _ => shaJoins_lifted os started H enc)

theorem shaJoins_card_holds : Rows.ShaJoinsCardSaid :=
  Claim7.holds_tied_plain_at .later [] [.data, .data] true (true, "0028dddfc6cdc4968036e0e0906007eae3fee658bada5cc54ee82c23b3031241") false
    shaJoins_holds (fun _ h => by cases h) (by kernel_rfl) (fun _ h => by cases h) shaJoins_row_tie rfl ⟨rfl, rfl⟩ (by kernel_rfl) rfl
    (fun f fn hf hfn => by
      obtain rfl : f = 5 := Option.some.inj ((show Tryd.prog.funcNamed "murmuration/murmurationlaw01.ShaJoins" = some 5 by kernel_rfl).symm.trans hf) |>.symm
      obtain rfl : fn = Tryd.f5 := (Option.some.inj (Tryd.func5.symm.trans hfn)).symm
      exact ⟨by kernel_rfl, fun j t ht => by
        rw [Tryd.params5] at ht
        have hm : t ∈ [34] := by simpa using Array.mem_of_getElem? ht
        have hall : ([34].all fun u => !Tryd.prog.wantsStandIn u) = true := by kernel_rfl
        exact (show Tryd.prog.wantsStandIn t = false by simpa using List.all_eq_true.1 hall t hm)⟩)
    (by kernel_rfl)
#print axioms shaJoins_card_holds
end Go.Proofs.YtccebaleaipilaaDoor
