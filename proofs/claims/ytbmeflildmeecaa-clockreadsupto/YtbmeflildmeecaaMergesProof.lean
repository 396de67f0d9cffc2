/- ClockMerges is proved in its second form: for whatever three clocks and whatever dot, that hold together no more than 1048576 values, the law's call returns true and its arguments read as they did. Conditions: that bound, and the form's own. -/
import Derived.Test.YtbmeflildmeecaaMerges
import Derived.JoinedCond
namespace Go.Proofs.Ytbmeflildmeecaa
open Go.ChangeShapes Go.WideShapes Go.ChangeAt Go.WideMaps Go.WideElems Go.RowKit

theorem ownM : ownKnob Try.prog.godebug = none := by kernel_rfl
theorem laidOutM : laidOutB Try.prog = true := by kernel_rfl
theorem okWide_arrM {P : Program} {w : World} {r : Reach} {base : Nat} {t e : TypeId} {n : Nat} {v : Value} (ht : P.underlying t = some (.array n e)) (h : Value.okWide P w r base t v) : ∃ cs, v = .agg cs ∧ cs.size = P.cellsOf t := by
  simp only [Value.okWide, ht] at h
  obtain ⟨cs, h1, h2, _⟩ := h
  exact ⟨cs, h1, h2⟩
theorem und42 : Try.prog.underlying 42 = some (.array 3 28) := by kernel_rfl
theorem cells28 : Try.prog.cellsOf 28 = 1 := by kernel_rfl
theorem cells42 : Try.prog.cellsOf 42 = 3 := by kernel_rfl
theorem arr3_ofM {α : Type} {cs : Array α} (h : cs.size = 3) : ∃ a b c, cs = #[a, b, c] := by
  obtain ⟨l⟩ := cs
  match l, h with
  | [a, b, c], _ => exact ⟨a, b, c, rfl⟩
theorem arr2_ofM {α : Type} {cs : Array α} (h : cs.size = 2) : ∃ a b, cs = #[a, b] := by
  obtain ⟨l⟩ := cs
  match l, h with
  | [a, b], _ => exact ⟨a, b, rfl⟩
theorem open_clk {H : Type} {enc : TypeId × Value → H} {W : World} {base n : Nat} {sp : Nat → Bool} {held : Bool} {v : Value} {x : DataW H × List MemPlace} (h : DataW.trod enc Try.prog W base sp held n 28 [v] = some x) :
    ∃ (l : List Dt) (a : Option Addr) (cap : Nat), v = .slice a l.length cap ∧ l.length ≤ Rows.uptoBulk x.1 ∧ Fit l ∧ Clk (Lt W.heap.size) W (.slice a l.length cap) l := by
  have hv : ∃ a len cap, v = .slice a len cap := by
    rcases Go.Deep.open_slice Try.underlying28 h with ⟨hcs, _⟩ | ⟨a, len, cap, _, _, _, _, hcs, _⟩
    · simp at hcs; exact ⟨_, _, _, hcs⟩
    · simp at hcs; exact ⟨_, _, _, hcs⟩
  obtain ⟨a, len, cap, rfl⟩ := hv
  obtain ⟨l, rfl, h1, h2, h3⟩ := open_clock h
  exact ⟨l, a, cap, rfl, h1, h2, h3⟩
set_option maxRecDepth 100000 in
theorem open_three {H : Type} {enc : TypeId × Value → H} {W : World} {base b0 : Nat} {sp : Nat → Bool} {held : Bool} {r : Reach} {v : Value} {d : DataW H} {p : List MemPlace} (hv : Value.okWide Try.prog W r b0 42 v) (h : DataW.Trod enc Try.prog W base sp held 42 v d p) :
    ∃ (A B C : List Dt) (aA aB aC : Option Addr) (cA cB cC : Nat), v = .agg #[.slice aA A.length cA, .slice aB B.length cB, .slice aC C.length cC] ∧ A.length + B.length + C.length ≤ Rows.uptoBulk d ∧ (Fit A ∧ Fit B ∧ Fit C) ∧
      Clk (Lt W.heap.size) W (.slice aA A.length cA) A ∧ Clk (Lt W.heap.size) W (.slice aB B.length cB) B ∧ Clk (Lt W.heap.size) W (.slice aC C.length cC) C := by
  obtain ⟨cs, rfl, hsz⟩ := okWide_arrM und42 hv
  rw [cells42] at hsz
  obtain ⟨c0, c1, c2, rfl⟩ := arr3_ofM hsz
  obtain ⟨fuel, hf⟩ := h
  obtain ⟨y0, y1, y2, n, hx, h0, h1, h2⟩ := trod_array3 und42 cells28 hf
  obtain ⟨A, aA, cA, rfl, lA, fA, kA⟩ := open_clk h0
  obtain ⟨B, aB, cB, rfl, lB, fB, kB⟩ := open_clk h1
  obtain ⟨C, aC, cC, rfl, lC, fC, kC⟩ := open_clk h2
  simp only [Prod.mk.injEq] at hx
  refine ⟨A, B, C, aA, aB, aC, cA, cB, cC, rfl, ?_, ⟨fA, fB, fC⟩, kA, kB, kC⟩
  rw [hx.1]
  simp only [Rows.uptoBulk, Rows.uptoBulkAll]
  omega
set_option maxRecDepth 100000 in
theorem open_dot {H : Type} {enc : TypeId × Value → H} {W : World} {base b0 : Nat} {sp : Nat → Bool} {held : Bool} {r : Reach} {v : Value} {d : DataW H} {p : List MemPlace} (hv : Value.okWide Try.prog W r b0 33 v) (h : DataW.Trod enc Try.prog W base sp held 33 v d p) :
    ∃ x : Dt, v = dotV x ∧ (x.1 < 18446744073709551616 ∧ x.2 < 18446744073709551616) := by
  obtain ⟨f0, f1, hu, _⟩ := dotFields
  obtain ⟨cs, rfl, hsz⟩ := okWide_struct hu hv
  rw [cells33] at hsz
  obtain ⟨c0, c1, rfl⟩ := arr2_ofM hsz
  obtain ⟨fuel, hf⟩ := h
  obtain ⟨x, hx, e⟩ := dot_of hf rfl
  have e : [c0, c1] = [.int .u64 (x.1 : Int), .int .u64 (x.2 : Int)] := e
  simp only [List.cons.injEq, and_true] at e
  exact ⟨x, by rw [e.1, e.2], hx⟩

set_option maxRecDepth 100000 in
theorem clockMerges_lifted (os : Os) (started : os.Started) (H : Type) (enc : TypeId × Value → H) (F : Stop.Interp) :
    ReturnsInHanded {} Try.checked os 6 .any ((Rows.OpenSpec.upto Rows.clockMergesSpec).pre6 enc Try.prog Try.f6 Rows.clockMergesUptoRow.domain false) (((Rows.OpenSpec.upto Rows.clockMergesSpec).at F).post enc Try.prog Try.f6 false true false false) := by
  refine returnsInHanded_of_cond (C := Try.checked) (s := Rows.OpenSpec.upto Rows.clockMergesSpec) (k := Rows.uptoSmall) rfl ownM started (by kernel_rfl) Try.func6
    (OpenSpec.witness (enc := enc) (C := Try.checked) (s := Rows.OpenSpec.upto Rows.clockMergesSpec) (k := Rows.uptoSmall) rfl false ⟨#[], #[.agg #[.slice none 0 0, .slice none 0 0, .slice none 0 0], .agg #[.int .u64 0, .int .u64 0]], []⟩ 8 (by kernel_rfl) (by kernel_rfl) (by kernel_rfl)
      (x := ([.agg [.nil, .nil, .nil], .agg [.lit (.int .u64 0), .lit (.int .u64 0)]], [], [])) (by kernel_rfl) rfl (by kernel_rfl)) ?_
  intro W base args ds gs before hval0 hW0 _ hk _
  have hW : DataW.Whole enc Try.prog Try.f6.params.toList Rows.clockMergesSpec.vars false W args.toList ds gs before := hW0
  show Calls Try.prog 6 args W fun e W' => ∃ v, e = .returned v ∧ Rows.clockMergesSpec.post enc Try.prog Try.f6 false true false false W args v W'
  have hval : ∀ (j : Nat) t v, Try.f6.params[j]? = some t → args[j]? = some v → Value.okWide Try.prog W .any base t v := hval0
  have hW' := hW
  obtain ⟨p, q, hA0, hV, rfl, hfz, hnd⟩ := hW
  have hA : DataW.TrodAll enc Try.prog W 0 (fun _ => true) true Try.f6.params.toList args.toList ds p := hA0
  rw [Try.params6] at hA hval
  obtain ⟨v0, vs0, d0, ds0, p0, q0, hargs, rfl, rfl, h0, r0⟩ := trodAll_cons hA
  obtain ⟨v1, vs1, d1, ds1, p1, q1, rfl, rfl, rfl, h1, r1⟩ := trodAll_cons r0
  obtain ⟨rfl, rfl, rfl⟩ := trodAll_nil r1
  obtain rfl : args = #[v0, v1] := by cases args; simp_all
  obtain ⟨rfl, rfl⟩ := trodVars_none hV
  have hkb : Rows.uptoBulk d0 ≤ 1048576 := by
    have h := of_decide_eq_true hk
    simp only [List.append_nil, Rows.uptoBulkAll] at h
    omega
  have h0k := h0
  have h1k := h1
  obtain ⟨A, B, C, aA, aB, aC, cA, cB, cC, rfl, hl, _, kA, kB, kC⟩ := open_three (hval 0 42 v0 rfl rfl) h0
  obtain ⟨x, rfl, _⟩ := open_dot (hval 1 33 v1 rfl rfl) h1
  have hlt : ∀ x ∈ p0 ++ (p1 ++ []), x.block < W.heap.size := fun x hx => by
    have := hW'.lt x
    simp at this hx
    exact this (by simpa using hx)
  refine (merges_walk A B C x (by omega) (by omega) (by omega) aA aB aC cA cB cC W kA kB kC).mono fun e W' ⟨he, hb⟩ => ?_
  subst he
  refine ⟨_, rfl, _, _, _, [], p0 ++ (p1 ++ []), [], hW', ?_, ?_, ?_, hb.frame _, fun h => by cases h⟩
  · exact trodAll_mk1 (shut_bool Try.underlying4 _)
  · exact trodAll_cons_mk (Below.trod laidOutM (by kernel_rfl) (of_decide_eq_true (by kernel_rfl)) h0k hb (fun x hx => hlt x (by simp [hx]))) (trodAll_cons_mk (Below.trod laidOutM (by kernel_rfl) (of_decide_eq_true (by kernel_rfl)) h1k hb (fun x hx => hlt x (by simp [hx]))) trodAll_mk0)
  · rfl

theorem clockMerges_holds : Rows.ClockMergesUptoSaid :=
  OpenClaim.holds_of_cond 6 Try.f6 rfl rfl rfl rfl rfl rfl rfl ⟨rfl, rfl, rfl, rfl, rfl⟩ rfl rfl rfl rfl rfl (by kernel_rfl) Try.func6 (by kernel_rfl)
    (of_decide_eq_true (by kernel_rfl)) (by unfold Func.isWrapper; first | (rw [if_pos (by decide +kernel)]; kernel_rfl) | (rw [if_neg (by decide +kernel)]; exact ⟨rfl, rfl⟩))
    (fun os started H enc _ F => clockMerges_lifted os started H enc F)
#print axioms clockMerges_holds
end Go.Proofs.Ytbmeflildmeecaa
