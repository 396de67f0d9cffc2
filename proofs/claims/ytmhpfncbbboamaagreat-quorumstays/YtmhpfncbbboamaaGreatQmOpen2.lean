/- What came in, opened: targets, answers, a need. -/
import Derived.Test.YtmhpfncbbboamaaGreatQmOpen
import Derived.Test.YtmhpfncbbboamaaGreatQmStayM
namespace Go.Proofs.YtmhpfncbbboamaaGreat
open Go.ChangeShapes Go.WideShapes Go.ChangeAt Go.WideMaps Go.WideElems Go.RowKit

theorem cells60 : Tryz.prog.cellsOf 60 = 6 := by kernel_rfl
theorem cells38 : Tryz.prog.cellsOf 38 = 4 := by kernel_rfl
theorem cells36 : Tryz.prog.cellsOf 36 = 2 := by kernel_rfl
theorem cells32 : Tryz.prog.cellsOf 32 = 1 := by kernel_rfl
theorem cells33 : Tryz.prog.cellsOf 33 = 1 := by kernel_rfl
theorem cells34 : Tryz.prog.cellsOf 34 = 1 := by kernel_rfl
theorem cells57 : Tryz.prog.cellsOf 57 = 2 := by kernel_rfl
theorem fields53 : ∃ f0 f1 : Field, Tryz.prog.underlying 53 = some (.struct #[f0, f1]) ∧ f0.type = 3 ∧ f0.offset = 0 ∧ f1.type = 3 ∧ f1.offset = 1 := ⟨_, _, Tryz.underlying53, rfl, rfl, rfl, rfl⟩
theorem fields57 : ∃ f0 f1 : Field, Tryz.prog.underlying 57 = some (.struct #[f0, f1]) ∧ f0.type = 3 ∧ f0.offset = 0 ∧ f1.type = 3 ∧ f1.offset = 1 := ⟨_, _, Tryz.underlying57, rfl, rfl, rfl, rfl⟩
theorem fields36 : ∃ f0 f1 : Field, Tryz.prog.underlying 36 = some (.struct #[f0, f1]) ∧ f0.type = 33 ∧ f0.offset = 0 ∧ f1.type = 34 ∧ f1.offset = 1 := ⟨_, _, Tryz.underlying36, rfl, rfl, rfl, rfl⟩
theorem fields60 : ∃ f0 f1 f2 : Field, Tryz.prog.underlying 60 = some (.struct #[f0, f1, f2]) ∧ f0.type = 3 ∧ f0.offset = 0 ∧ f1.type = 3 ∧ f1.offset = 1 ∧ f2.type = 38 ∧ f2.offset = 2 := ⟨_, _, _, Tryz.underlying60, rfl, rfl, rfl, rfl, rfl, rfl⟩
theorem fields38 : ∃ f0 f1 f2 : Field, Tryz.prog.underlying 38 = some (.struct #[f0, f1, f2]) ∧ f0.type = 3 ∧ f0.offset = 0 ∧ f1.type = 32 ∧ f1.offset = 1 ∧ f2.type = 36 ∧ f2.offset = 2 := ⟨_, _, _, Tryz.underlying38, rfl, rfl, rfl, rfl, rfl, rfl⟩
section
variable {H : Type} {enc : TypeId × Value → H} {W : World} {base n : Nat} {sp : Nat → Bool} {held : Bool} {cs : List Value} {y : DataW H × List MemPlace}
theorem slice_cell {t e : TypeId} (ht : Tryz.prog.underlying t = some (.slice e)) (h : DataW.trod enc Tryz.prog W base sp held n t cs = some y) : ∃ v, cs = [v] ∧ v.oneCell' = true := by
  rcases Go.Deep.open_slice ht h with ⟨hcs, _⟩ | ⟨a, len, cap, m, fn, D, Pl, hcs, _⟩
  · exact ⟨_, hcs, rfl⟩
  · exact ⟨_, hcs, rfl⟩
set_option maxRecDepth 100000 in
theorem struct_two {t : TypeId} (hf : ∃ f0 f1 : Field, Tryz.prog.underlying t = some (.struct #[f0, f1]) ∧ f0.type = 3 ∧ f0.offset = 0 ∧ f1.type = 3 ∧ f1.offset = 1) (hc : Tryz.prog.cellsOf t = 2) (h : DataW.trod enc Tryz.prog W base sp held n t cs = some y) : ∃ q : Int × Int, cs = pairC q ∧ I64 q.1 ∧ I64 q.2 := by
  obtain ⟨f0, f1, hu, t0, o0, t1, o1⟩ := hf
  obtain ⟨xs, m, _, rfl, hl, hlen, hx⟩ := DataW.trod_struct hu h
  rw [hc] at hl
  match xs, hlen with
  | [y0, y1], _ =>
    have h0 : DataW.trod enc Tryz.prog W base sp held m f0.type ((cs.drop f0.offset).take (Tryz.prog.cellsOf f0.type)) = some y0 := by simpa using hx 0 f0 rfl
    have h1 : DataW.trod enc Tryz.prog W base sp held m f1.type ((cs.drop f1.offset).take (Tryz.prog.cellsOf f1.type)) = some y1 := by simpa using hx 1 f1 rfl
    rw [t0, o0, cells3] at h0
    rw [t1, o1, cells3] at h1
    match cs, hl with
    | [c0, c1], _ =>
      obtain ⟨a0, e0, _, w0⟩ := DataW.trod_int Tryz.underlying3 h0
      obtain ⟨a1, e1, _, w1⟩ := DataW.trod_int Tryz.underlying3 h1
      simp at e0 e1
      subst e0 e1
      exact ⟨(a0, a1), rfl, i64_wf w0, i64_wf w1⟩
theorem arr6_of {cs : List Value} (h : cs.length = 6) : ∃ a b c d e f, cs = [a, b, c, d, e, f] := by
  match cs, h with
  | [a, b, c, d, e, f], _ => exact ⟨a, b, c, d, e, f, rfl⟩
set_option maxRecDepth 100000 in
theorem store_of (h : DataW.trod enc Tryz.prog W base sp held n 36 cs = some y) : ∀ v ∈ cs, v.oneCell' = true := by
  obtain ⟨f0, f1, hu, t0, o0, t1, o1⟩ := fields36
  obtain ⟨xs, m, _, rfl, hl, hlen, hx⟩ := DataW.trod_struct hu h
  rw [cells36] at hl
  match xs, hlen with
  | [y0, y1], _ =>
    have h0 : DataW.trod enc Tryz.prog W base sp held m f0.type ((cs.drop f0.offset).take (Tryz.prog.cellsOf f0.type)) = some y0 := by simpa using hx 0 f0 rfl
    have h1 : DataW.trod enc Tryz.prog W base sp held m f1.type ((cs.drop f1.offset).take (Tryz.prog.cellsOf f1.type)) = some y1 := by simpa using hx 1 f1 rfl
    rw [t0, o0, cells33] at h0
    rw [t1, o1, cells34] at h1
    match cs, hl with
    | [c0, c1], _ =>
      obtain ⟨v0, e0, w0⟩ := slice_cell Tryz.underlying33 h0
      obtain ⟨v1, e1, w1⟩ := slice_cell Tryz.underlying34 h1
      simp at e0 e1
      subst e0 e1
      intro v hv
      simp at hv
      rcases hv with rfl | rfl
      · exact w0
      · exact w1
set_option maxRecDepth 100000 in
theorem cell38_of (h : DataW.trod enc Tryz.prog W base sp held n 38 cs = some y) : ∀ v ∈ cs, v.oneCell' = true := by
  obtain ⟨f0, f1, f2, hu, t0, o0, t1, o1, t2, o2⟩ := fields38
  obtain ⟨y0, y1, y2, m, _, hl, h0, h1, h2⟩ := Go.Deep.trod_struct3 hu h
  rw [cells38] at hl
  rw [t0, o0, cells3] at h0
  rw [t1, o1, cells32] at h1
  rw [t2, o2, cells36] at h2
  match cs, hl with
  | [c0, c1, c2, c3], _ =>
    obtain ⟨a0, e0, _, _⟩ := DataW.trod_int Tryz.underlying3 h0
    obtain ⟨v1, e1, w1⟩ := slice_cell Tryz.underlying32 h1
    have h2' := store_of h2
    simp at e0 e1 h2'
    subst e0 e1
    intro v hv
    simp at hv
    rcases hv with rfl | rfl | rfl | rfl
    · rfl
    · exact w1
    · exact h2'.1
    · exact h2'.2
set_option maxRecDepth 100000 in
theorem op_of (h : DataW.trod enc Tryz.prog W base sp held n 60 cs = some y) : ∃ o : Opq, cs = opC o ∧ okO o := by
  obtain ⟨f0, f1, f2, hu, t0, o0, t1, o1, t2, o2⟩ := fields60
  obtain ⟨y0, y1, y2, m, _, hl, h0, h1, h2⟩ := Go.Deep.trod_struct3 hu h
  rw [cells60] at hl
  rw [t0, o0, cells3] at h0
  rw [t1, o1, cells3] at h1
  rw [t2, o2, cells38] at h2
  obtain ⟨c0, c1, c2, c3, c4, c5, rfl⟩ := arr6_of hl
  obtain ⟨a0, e0, _, w0⟩ := DataW.trod_int Tryz.underlying3 h0
  obtain ⟨a1, e1, _, w1⟩ := DataW.trod_int Tryz.underlying3 h1
  have h2' := cell38_of h2
  simp at e0 e1 h2'
  subst e0 e1
  refine ⟨⟨a0, a1, c2, c3, c4, c5⟩, rfl, i64_wf w0, i64_wf w1, fun v hv => ?_⟩
  simp [opC] at hv
  rcases hv with rfl | rfl | rfl | rfl | rfl | rfl
  · rfl
  · rfl
  · exact h2'.1
  · exact h2'.2.1
  · exact h2'.2.2.1
  · exact h2'.2.2.2
end
set_option maxRecDepth 100000 in
theorem open_targets {H : Type} {enc : TypeId × Value → H} {W : World} {base n : Nat} {sp : Nat → Bool} {held : Bool} {v : Value} {x : DataW H × List MemPlace} (h : DataW.trod enc Tryz.prog W base sp held n 51 [v] = some x) :
    ∃ ts : List (Int × Int), ts.length ≤ maxLen ∧ (∀ q ∈ ts, I64 q.1) ∧ TgAt W.heap.size W v ts := by
  obtain ⟨l, hl, hok, a, cap, e, hc⟩ := open_rows Tryz.underlying51 2 (by decide) cells53 pairC (fun _ => rfl) (fun q : Int × Int => I64 q.1 ∧ I64 q.2) (fun n cs y h => struct_two fields53 cells53 h) h
  refine ⟨l, hl, fun q hq => (hok q hq).1, a, cap, e, hc.imp List.eq_nil_of_length_eq_zero ?_⟩
  rintro ⟨g, o, e1, hg, hx⟩
  exact ⟨g, o, e1, hg, fun i p hi => ⟨hx i p hi 0 _ rfl, hx i p hi 1 _ rfl⟩⟩
set_option maxRecDepth 100000 in
theorem open_ops {H : Type} {enc : TypeId × Value → H} {W : World} {base n : Nat} {sp : Nat → Bool} {held : Bool} {v : Value} {x : DataW H × List MemPlace} (h : DataW.trod enc Tryz.prog W base sp held n 58 [v] = some x) :
    ∃ (os : List Opq) (a : Option Addr) (cap : Nat), os.length ≤ maxLen ∧ (∀ o ∈ os, okO o) ∧ v = .slice a os.length cap ∧ OpAt W.heap.size W a os := by
  obtain ⟨l, hl, hok, a, cap, e, hc⟩ := open_rows Tryz.underlying58 6 (by decide) cells60 opC (fun _ => rfl) okO (fun n cs y h => op_of h) h
  refine ⟨l, a, cap, hl, hok, e, hc.imp List.eq_nil_of_length_eq_zero ?_⟩
  rintro ⟨g, o, e1, hg, hx⟩
  exact ⟨g, o, e1, hg, hx⟩
set_option maxRecDepth 100000 in
theorem open_need {H : Type} {enc : TypeId × Value → H} {W : World} {base b0 : Nat} {sp : Nat → Bool} {held : Bool} {r : Reach} {v : Value} {d : DataW H} {p : List MemPlace} (hv : Value.okWide Tryz.prog W r b0 57 v) (h : DataW.Trod enc Tryz.prog W base sp held 57 v d p) :
    ∃ a b : Int, v = .agg #[.int .i64 a, .int .i64 b] := by
  obtain ⟨f0, f1, hu, t0, o0, t1, o1⟩ := fields57
  obtain ⟨cs, rfl, hsz⟩ := okWide_struct hu hv
  obtain ⟨fuel, hf⟩ := h
  obtain ⟨q, e, _⟩ := struct_two fields57 cells57 hf
  refine ⟨q.1, q.2, ?_⟩
  have : cs.toList = pairC q := by simpa [Value.cells] using e
  obtain ⟨l⟩ := cs
  simp at this
  rw [this]; rfl
theorem slice_cap {H : Type} {enc : TypeId × Value → H} {W : World} {base n : Nat} {sp : Nat → Bool} {held : Bool} {a : Option Addr} {k c : Nat} {x : DataW H × List MemPlace} (h : DataW.trod enc Tryz.prog W base sp held n 51 [.slice a k c] = some x) : k ≤ c := by
  rcases Go.Deep.open_slice Tryz.underlying51 h with ⟨hcs, _⟩ | ⟨a', len, cap, m, fn, D, Pl, hcs, _, hlc, _⟩
  · simp at hcs
    omega
  · simp at hcs
    omega
end Go.Proofs.YtmhpfncbbboamaaGreat
