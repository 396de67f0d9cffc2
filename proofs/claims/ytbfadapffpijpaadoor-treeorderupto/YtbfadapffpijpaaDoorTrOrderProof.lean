/- TreeOrder is proved in its second form: for whatever keys with sums and whatever other keys, that hold together no more than 1048576 values and letters, in whatever memory in which package sha's two tables hold what the program's text lays into them, the law's call returns true and its arguments read as they did; the card ties the tables to the program's text. Conditions: that bound; the two tables as laid (tied); no other. -/
import Derived.Test.YtbfadapffpijpaaDoorTrOpens
import Derived.Test.YtbfadapffpijpaaDoorTrOrdA
import Derived.Test.YtbfadapffpijpaaDoorTrOrdB
import Derived.Test.YtbfadapffpijpaaDoorTrOrdC
import Derived.Test.YtbfadapffpijpaaDoorTrOrdD
import Derived.Test.YtbfadapffpijpaaDoorShLaid
import Derived.Test.YtbfadapffpijpaaDoorTie
import Derived.Test.YtbfadapffpijpaaDoorCards
import Derived.Deep.DeepHandedRow
import Derived.ChangeMaps5
namespace Go.Proofs.YtbfadapffpijpaaDoor
open Go.ChangeShapes Go.WideShapes Go.ChangeAt Go.WideMaps Go.WideElems Go.RowKit

theorem treeOrder_walk (l : Ps) (os : List ByteArray) (va vo : Value) (hWt : wtP l ≤ 100000000) (hWo : wtO os ≤ 100000000) (w : World) (hL : Laid w) (ha : SumsAt w va l) (ho : StrsAt w (fun _ => False) vo os) :
    Calls Tryd.prog 4 #[va, vo] w fun e w' => e = .returned (.bool true) ∧ Below w.heap.size w w' := by
  by_cases h1 : l.length ≤ 40
  · by_cases h2 : os.length ≤ 40
    · exact order_a l os _ _ rfl rfl h1 h2 va vo hWt hWo w hL ha ho
    · exact order_b l os _ _ rfl rfl h1 (by omega) va vo hWt hWo w hL ha ho
  · by_cases h2 : os.length ≤ 40
    · exact order_c l os _ _ rfl rfl (by omega) h2 va vo hWt hWo w hL ha ho
    · exact order_d l os _ _ rfl rfl (by omega) (by omega) va vo hWt hWo w hL ha ho
theorem order_met (os : Os) : laidMet Tryd.prog Rows.treeOrderUptoRow.laid ((World.doorLaid Tryd.prog 400 os).forCall (fun _ _ => 0) ⟨#[], #[.slice none 0 0, .slice none 0 0], []⟩).memory := laidMet_of_run' 8 (by kernel_rfl) (by kernel_rfl)
theorem order_reads (os : Os) {H : Type} (enc : TypeId × Value → H) : ∃ places, DataW.whole enc Tryd.prog ((World.doorLaid Tryd.prog 400 os).forCall (fun _ _ => 0) ⟨#[], #[.slice none 0 0, .slice none 0 0], []⟩).memory Tryd.f4.params.toList Rows.treeOrderSpec.vars false #[Value.slice none 0 0, .slice none 0 0].toList 8 = some ([.nil, .nil], [], places) :=
  ⟨[], by kernel_rfl⟩
set_option maxRecDepth 100000 in
theorem treeOrder_lifted (os : Os) (started : os.Started) (H : Type) (enc : TypeId × Value → H) (F : Stop.Interp) :
    ReturnsInHanded {} Tryd.checked os 4 .any ((Rows.OpenSpec.upto Rows.treeOrderSpec).preRow enc Tryd.prog Tryd.f4 Rows.treeOrderUptoRow.domain false Rows.treeOrderUptoRow.laid) (((Rows.OpenSpec.upto Rows.treeOrderSpec).at F).post enc Tryd.prog Tryd.f4 false true false false) := by
  obtain ⟨places, hx⟩ := order_reads os enc
  refine returnsInHanded_of_row (C := Tryd.checked) (s := Rows.OpenSpec.upto Rows.treeOrderSpec) own started (by kernel_rfl) Tryd.func4
    (witness_row_at (enc := enc) (C := Tryd.checked) false (World.doorLaid Tryd.prog 400 os) #[.slice none 0 0, .slice none 0 0] rfl (by kernel_rfl) (by kernel_rfl) (by kernel_rfl)
      (OpenSpec.preRow_of_cond 8 hx (by kernel_rfl) (fun k hk => by cases hk; kernel_rfl) (by kernel_rfl) (order_met os))) ?_
  intro W base args ds gs before hval0 hW0 _ hcond _ hL _ _
  have hW : DataW.Whole enc Tryd.prog Tryd.f4.params.toList Rows.treeOrderSpec.vars false W args.toList ds gs before := hW0
  show Calls Tryd.prog 4 args W fun e W' => ∃ v, e = .returned v ∧ Rows.treeOrderSpec.post enc Tryd.prog Tryd.f4 false true false false W args v W'
  have hk := hcond _ rfl
  have hval : ∀ (j : Nat) t v, Tryd.f4.params[j]? = some t → args[j]? = some v → Value.okWide Tryd.prog W .any base t v := hval0
  have hW' := hW
  obtain ⟨p, q, hA0, hV, rfl, hfz, hnd⟩ := hW
  have hA : DataW.TrodAll enc Tryd.prog W 0 (fun _ => true) true Tryd.f4.params.toList args.toList ds p := hA0
  rw [Tryd.params4] at hA hval
  obtain ⟨v0, vs0, d0, ds0, p0, q0, hargs, rfl, rfl, h0, r0⟩ := trodAll_cons hA
  obtain ⟨v1, vs1, d1, ds1, p1, q1, rfl, rfl, rfl, h1, r1⟩ := trodAll_cons r0
  obtain ⟨rfl, rfl, rfl⟩ := trodAll_nil r1
  obtain rfl : args = #[v0, v1] := by cases args; simp_all
  obtain ⟨rfl, rfl⟩ := trodVars_none hV
  have hkb : Rows.uptoBulk d0 ≤ 1048576 ∧ Rows.uptoBulk d1 ≤ 1048576 := by
    have h := of_decide_eq_true hk
    simp only [List.append_nil, Rows.uptoBulkAll] at h
    omega
  obtain ⟨a0, len0, cap0, rfl⟩ := okWide_slice Tryd.underlying40 (hval 0 40 v0 rfl rfl)
  obtain ⟨a1, len1, cap1, rfl⟩ := okWide_slice Tryd.underlying44 (hval 1 44 v1 rfl rfl)
  have h0k := h0
  have h1k := h1
  obtain ⟨f0, h0⟩ := h0
  obtain ⟨f1, h1⟩ := h1
  obtain ⟨l, hl, hwl⟩ := open_sums h0
  obtain ⟨ks, hks, hwk⟩ := open_strs h1
  have hlt : ∀ x ∈ p0 ++ (p1 ++ []), x.block < W.heap.size := fun x hx => by
    have := hW'.lt x
    simp at this hx
    exact this (by simpa using hx)
  have hwl2 : wtP l ≤ 100000000 := by have := hkb.1; simp only at hwl; omega
  have hwk2 : wtO ks ≤ 100000000 := by have := hkb.2; simp only at hwk; omega
  refine (treeOrder_walk l ks _ _ hwl2 hwk2 W (of_laid hL) hl hks).mono fun e W' ⟨he, hb⟩ => ?_
  subst he
  refine ⟨_, rfl, _, _, _, [], p0 ++ (p1 ++ []), [], hW', ?_, ?_, ?_, hb.frame _, fun h => by cases h⟩
  · exact trodAll_mk1 (shut_bool Tryd.underlying4 _)
  · exact trodAll_cons_mk (Below.trod laidOutT (by kernel_rfl) (of_decide_eq_true (by kernel_rfl)) h0k hb (fun x hx => hlt x (by simp [hx]))) (trodAll_cons_mk (Below.trod laidOutT (by kernel_rfl) (of_decide_eq_true (by kernel_rfl)) h1k hb (fun x hx => hlt x (by simp [hx]))) trodAll_mk0)
  · rfl
theorem treeOrder_holds : Rows.TreeOrderUptoSaid :=
  OpenClaim.holds_of_cond 4 Tryd.f4 rfl rfl rfl rfl rfl rfl rfl ⟨rfl, rfl, rfl, rfl, rfl⟩ rfl rfl rfl rfl rfl (by kernel_rfl) Tryd.func4 (by kernel_rfl)
    (of_decide_eq_true (by kernel_rfl)) (by unfold Func.isWrapper; first | (rw [if_pos (by decide +kernel)]; kernel_rfl) | (rw [if_neg (by decide +kernel)]; exact ⟨rfl, rfl⟩))
    (fun os started H enc _ F => by rw [OpenClaim.pre_eq_preRow]; exact treeOrder_lifted os started H enc F)
theorem order_plain (f : FuncId) (fn : Func) (hf : Tryd.pinned.checked.prog.funcNamed "murmuration/murmurationlaw10.TreeOrder" = some f) (hfn : Tryd.pinned.checked.prog.funcs[f]? = some fn) :
    false = Tryd.pinned.checked.prog.looks [] ∧ ∀ (j : Nat) t, fn.params[j]? = some t → Tryd.pinned.checked.prog.wantsStandIn t = false := by
  obtain rfl : f = 4 := Option.some.inj ((show Tryd.prog.funcNamed "murmuration/murmurationlaw10.TreeOrder" = some 4 by kernel_rfl).symm.trans hf) |>.symm
  obtain rfl : fn = Tryd.f4 := (Option.some.inj (Tryd.func4.symm.trans hfn)).symm
  refine ⟨by kernel_rfl, fun j t ht => ?_⟩
  rw [Tryd.params4] at ht
  have hm : t ∈ [40, 44] := by simpa using Array.mem_of_getElem? ht
  have hall : ([40, 44].all fun u => !Tryd.prog.wantsStandIn u) = true := by kernel_rfl
  exact (show Tryd.prog.wantsStandIn t = false by simpa using List.all_eq_true.1 hall t hm)
theorem treeOrder_card_holds : Rows.TreeOrderUptoCardSaid :=
  Claim7.holds_tied_plain_at .later [] _ _ _ _ treeOrder_holds (fun _ h => by cases h) (by kernel_rfl) (fun _ h => by cases h) treeOrderUpto_row_tie rfl ⟨rfl, rfl⟩ (by kernel_rfl) rfl order_plain (by kernel_rfl)
#print axioms treeOrder_card_holds
end Go.Proofs.YtbfadapffpijpaaDoor
