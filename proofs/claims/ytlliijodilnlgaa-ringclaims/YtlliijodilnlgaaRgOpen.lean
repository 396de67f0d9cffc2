/- What came in, opened: owners, lists of integers, an ask. -/
import Derived.Test.YtlliijodilnlgaaRgMem
import Derived.Test.YtlliijodilnlgaaRows
import Derived.ProofKit
import Derived.OpenShut
import Derived.ChangeMaps5
import Derived.SizedLaws
import Derived.Laws.IdiomArrays
import Derived.Lib.SmallJoins
import Derived.Deep.Strs
import Derived.JoinedCond
namespace Go.Proofs.Ytlliijodilnlgaa
open Go.ChangeShapes Go.WideShapes Go.ChangeAt Go.WideMaps Go.WideElems Go.RowKit

theorem ownM : ownKnob Try.prog.godebug = none := by kernel_rfl
theorem laidOutM : laidOutB Try.prog = true := by kernel_rfl
theorem cells3 : Try.prog.cellsOf 3 = 1 := by kernel_rfl
theorem cells24 : Try.prog.cellsOf 24 = 1 := by kernel_rfl
theorem cells23 : Try.prog.cellsOf 23 = 8 := by kernel_rfl
theorem cells37 : Try.prog.cellsOf 37 = 3 := by kernel_rfl
theorem bytes3 : Try.prog.bytesOf 3 = 8 := by kernel_rfl
theorem wf_int {k : Int} (h : (Lit.int .i64 k).wf = true) : -9223372036854775808 ≤ k ∧ k < 9223372036854775808 := by
  have : (decide (IntKind.i64.min ≤ k) && decide (k ≤ IntKind.i64.max)) = true := h
  have hmin : IntKind.i64.min = -9223372036854775808 := by decide
  have hmax : IntKind.i64.max = 9223372036854775807 := by decide
  rw [hmin, hmax] at this
  simp at this
  omega
theorem addr_plus (b o i : Nat) : (⟨b, o, none⟩ : Addr).add i = ⟨b, o + i, none⟩ := by simp [Addr.add]
theorem open_ints {H : Type} {enc : TypeId × Value → H} {W : World} {base n : Nat} {sp : Nat → Bool} {held : Bool} {v : Value} {x : DataW H × List MemPlace} (h : DataW.trod enc Try.prog W base sp held n 24 [v] = some x) :
    ∃ l : List Int, Ints W.heap.size W v l ∧ l.length ≤ maxLen ∧ (l.length = 0 ∨ ∃ elems rest : List (DataW H), x.1 = .slice elems rest ∧ elems.length = l.length) := by
  rcases Go.Deep.open_slice Try.underlying24 h with ⟨hcs, hx⟩ | ⟨a, len, cap, m, fn, D, Pl, hcs, _, hlc, hcm, hm, hx, hel⟩
  · simp at hcs
    subst hcs
    exact ⟨[], ⟨none, 0, rfl, Nat.le_refl _, Or.inl rfl⟩, Nat.zero_le _, Or.inl rfl⟩
  · simp at hcs
    subst hcs
    rcases Nat.eq_zero_or_pos len with h0 | hpos
    · subst h0
      exact ⟨[], ⟨some a, cap, rfl, Nat.zero_le _, Or.inl rfl⟩, Nat.zero_le _, Or.inl rfl⟩
    · rw [cells3] at hel
      obtain ⟨g, o, spot⟩ := a
      have hml : len ≤ m := by rw [hm]; split <;> omega
      have each : ∀ i, ∃ t : Int, i < len → W.cell? (((⟨g, o, spot⟩ : Addr).add (i * 1)).add 0) = some (.int .i64 t) := fun i => by
        by_cases hi : i < len
        · obtain ⟨cs, h1, h2⟩ := hel i (by omega)
          have hc := World.cells?_some h1
          obtain ⟨t, et, _, _⟩ := DataW.trod_int Try.underlying3 h2
          refine ⟨t, fun _ => ?_⟩
          rw [hc.2.2 0 (by omega), et]; rfl
        · exact ⟨0, fun h => absurd h hi⟩
      obtain ⟨F, hF⟩ := Classical.axiomOfChoice each
      have hc0 := hF 0 hpos
      have hspot : spot = none := by simpa [Addr.add] using World.cell?_spot hc0
      subst hspot
      have hll : ((List.range len).map F).length = len := by simp
      refine ⟨(List.range len).map F, ⟨some ⟨g, o, none⟩, cap, by rw [hll], by rw [hll]; omega, Or.inr ⟨g, o, rfl, ?_, fun j hj => ?_⟩⟩, by rw [hll]; omega, Or.inr ⟨(List.range len).map D, _, by rw [hx], by simp⟩⟩
      · rw [addr_plus, addr_plus] at hc0
        exact World.block_lt_of_cell? W _ hc0
      · have hj' : j < len := by simpa using hj
        have h1 := hF j hj'
        rw [addr_plus, addr_plus, Nat.mul_one, Nat.add_zero] at h1
        rw [h1]
        simp [List.getD_eq_getElem?_getD, hj']
theorem okWide_arrM {P : Program} {w : World} {r : Reach} {base : Nat} {t e : TypeId} {n : Nat} {v : Value} (ht : P.underlying t = some (.array n e)) (h : Value.okWide P w r base t v) : ∃ cs, v = .agg cs ∧ cs.size = P.cellsOf t := by
  simp only [Value.okWide, ht] at h
  obtain ⟨cs, h1, h2, _⟩ := h
  exact ⟨cs, h1, h2⟩
set_option maxRecDepth 100000 in
theorem own_of {H : Type} {enc : TypeId × Value → H} {W : World} {base n : Nat} {sp : Nat → Bool} {held : Bool} {cs : List Value} {y : DataW H × List MemPlace} (h : DataW.trod enc Try.prog W base sp held n 23 cs = some y) : ∃ l : List Int, l.length = 8 ∧ cs = intV l := by
  obtain ⟨xs, m, rfl, hx, hl, hlen, hel⟩ := DataW.trod_array und23 h
  rw [cells23] at hl
  refine ⟨cs.map intOf, by rw [List.length_map, hl], ?_⟩
  apply List.ext_getElem?
  intro j
  unfold intV
  rw [List.map_map, List.getElem?_map]
  by_cases hj : j < 8
  · have h1 := hel j hj
    rw [List.getElem?_eq_getElem (by omega), cells3, Nat.mul_one] at h1
    obtain ⟨k, e1, _, e3⟩ := DataW.trod_int und3 h1
    have h3 : (cs.drop j)[0]? = some (.int .i64 k) := by
      have : ((cs.drop j).take 1)[0]? = some (.int .i64 k) := by rw [e1]; rfl
      rwa [List.getElem?_take_of_lt (by omega)] at this
    rw [List.getElem?_drop, Nat.add_zero] at h3
    rw [h3]; rfl
  · rw [List.getElem?_eq_none (by omega)]; rfl
set_option maxRecDepth 100000 in
theorem open_own {H : Type} {enc : TypeId × Value → H} {W : World} {base b0 : Nat} {sp : Nat → Bool} {held : Bool} {r : Reach} {v : Value} {d : DataW H} {p : List MemPlace} (hv : Value.okWide Try.prog W r b0 23 v) (h : DataW.Trod enc Try.prog W base sp held 23 v d p) :
    ∃ o : List Int, o.length = 8 ∧ v = .agg (intV o).toArray := by
  obtain ⟨cs, rfl, hsz⟩ := okWide_arrM und23 hv
  obtain ⟨fuel, hf⟩ := h
  obtain ⟨l, hl, e⟩ := own_of hf
  refine ⟨l, hl, ?_⟩
  rw [← e]
  simp [Value.cells]
theorem fields37 : ∃ f0 f1 f2 : Field, Try.prog.underlying 37 = some (.struct #[f0, f1, f2]) ∧ f0.type = 3 ∧ f0.offset = 0 ∧ f1.type = 3 ∧ f1.offset = 1 ∧ f2.type = 24 ∧ f2.offset = 2 := ⟨_, _, _, Try.underlying37, rfl, rfl, rfl, rfl, rfl, rfl⟩
theorem arr3_ofM {α : Type} {cs : Array α} (h : cs.size = 3) : ∃ a b c, cs = #[a, b, c] := by
  obtain ⟨l⟩ := cs
  match l, h with
  | [a, b, c], _ => exact ⟨a, b, c, rfl⟩
set_option maxRecDepth 100000 in
theorem open_ask {H : Type} {enc : TypeId × Value → H} {W : World} {base b0 : Nat} {sp : Nat → Bool} {held : Bool} {r : Reach} {v : Value} {d : DataW H} {p : List MemPlace} (hv : Value.okWide Try.prog W r b0 37 v) (h : DataW.Trod enc Try.prog W base sp held 37 v d p) :
    ∃ (P N : Int) (u : Value) (up : List Int), v = .agg #[.int .i64 P, .int .i64 N, u] ∧ Ints W.heap.size W u up ∧ up.length ≤ maxLen := by
  obtain ⟨f0, f1, f2, hu, t0, o0, t1, o1, t2, o2⟩ := fields37
  obtain ⟨cs, rfl, hsz⟩ := okWide_struct hu hv
  rw [cells37] at hsz
  obtain ⟨c0, c1, c2, rfl⟩ := arr3_ofM hsz
  obtain ⟨fuel, hf⟩ := h
  obtain ⟨y0, y1, y2, m, _, _, h0, h1, h2⟩ := Go.Deep.trod_struct3 hu hf
  rw [t0, o0, cells3] at h0
  rw [t1, o1, cells3] at h1
  rw [t2, o2, cells24] at h2
  obtain ⟨P, ep, _, _⟩ := DataW.trod_int Try.underlying3 h0
  obtain ⟨N, en, _, _⟩ := DataW.trod_int Try.underlying3 h1
  simp [Value.cells] at ep en h2
  subst ep en
  obtain ⟨up, hup, hm, _⟩ := open_ints h2
  exact ⟨P, N, c2, up, rfl, hup, hm⟩
end Go.Proofs.Ytlliijodilnlgaa
