/- What came in, opened: two integers, lists of yes and no, targets. -/
import Derived.Test.YtmhpfncbbboamaaGreatQmMeetW
import Derived.Test.YtmhpfncbbboamaaGreatRows
import Derived.ProofKit
import Derived.OpenShut
import Derived.ChangeMaps5
import Derived.SizedLaws
import Derived.Lib.SmallJoins
import Derived.Deep.Strs
import Derived.Deep.Slices
import Derived.SliceStrings
namespace Go.Proofs.YtmhpfncbbboamaaGreat
open Go.ChangeShapes Go.WideShapes Go.ChangeAt Go.WideMaps Go.WideElems Go.RowKit

theorem ownM : ownKnob Tryz.prog.godebug = none := by kernel_rfl
theorem laidOutM : laidOutB Tryz.prog = true := by kernel_rfl
theorem i64_wf {a : Int} (h : (Lit.int .i64 a).wf = true) : I64 a := by
  unfold Lit.wf at h
  simp [IntKind.min, IntKind.max, IntKind.bits, IntKind.signed] at h
  exact h
theorem cells3 : Tryz.prog.cellsOf 3 = 1 := by kernel_rfl
theorem cells4 : Tryz.prog.cellsOf 4 = 1 := by kernel_rfl
theorem cells49 : Tryz.prog.cellsOf 49 = 2 := by kernel_rfl
theorem cells53 : Tryz.prog.cellsOf 53 = 2 := by kernel_rfl
theorem addr_plus (b o i : Nat) : (⟨b, o, none⟩ : Addr).add i = ⟨b, o + i, none⟩ := by simp [Addr.add]
/-- Rows of cells that came in: each element's cells have a shape. -/
theorem open_rows {H : Type} {enc : TypeId × Value → H} {W : World} {base n : Nat} {sp : Nat → Bool} {held : Bool} {v : Value} {x : DataW H × List MemPlace} {t e : TypeId} (ht : Tryz.prog.underlying t = some (.slice e)) (size : Nat) (hsz : 0 < size) (hc : Tryz.prog.cellsOf e = size) {α : Type} [Inhabited α] (enc' : α → List Value) (hlen : ∀ a, (enc' a).length = size) (ok : α → Prop)
    (hel : ∀ n cs y, DataW.trod enc Tryz.prog W base sp held n e cs = some y → ∃ a, cs = enc' a ∧ ok a) (h : DataW.trod enc Tryz.prog W base sp held n t [v] = some x) :
    ∃ l : List α, l.length ≤ maxLen ∧ (∀ a ∈ l, ok a) ∧ ∃ a cap, v = .slice a l.length cap ∧ (l.length = 0 ∨ ∃ g o, a = some ⟨g, o, none⟩ ∧ g < W.heap.size ∧ ∀ i c, l[i]? = some c → ∀ j u, (enc' c)[j]? = some u → W.cell? ⟨g, o + i * size + j, none⟩ = some u) := by
  rcases Go.Deep.open_slice ht h with ⟨hcs, hx⟩ | ⟨a, len, cap, m, fn, D, Pl, hcs, _, hlc, hcm, hm, hx, hels⟩
  · simp at hcs
    subst hcs
    exact ⟨[], Nat.zero_le _, by simp, none, 0, rfl, .inl rfl⟩
  · simp at hcs
    subst hcs
    rcases Nat.eq_zero_or_pos len with h0 | hpos
    · subst h0
      exact ⟨[], Nat.zero_le _, by simp, some a, cap, rfl, .inl rfl⟩
    · obtain ⟨g, o, spot⟩ := a
      rw [hc] at hels
      have hml : len ≤ m := by rw [hm]; split <;> omega
      have each : ∀ i, ∃ c : α, i < len → ok c ∧ ∀ (j : Nat) (u : Value), (enc' c)[j]? = some u → W.cell? (((⟨g, o, spot⟩ : Addr).add (i * size)).add j) = some u := fun i => by
        by_cases hi : i < len
        · obtain ⟨cs, h1, h2⟩ := hels i (by omega)
          obtain ⟨c, rfl, hok⟩ := hel _ _ _ h2
          refine ⟨c, fun _ => ⟨hok, fun j u hu => ?_⟩⟩
          have hj := (List.getElem?_eq_some_iff.1 hu).1
          rw [(World.cells?_some h1).2.2 j (by rw [hlen] at hj; exact hj)]; exact hu
        · exact ⟨default, fun h => absurd h hi⟩
      obtain ⟨F, hF⟩ := Classical.axiomOfChoice each
      have hc0 : ∃ u, W.cell? (((⟨g, o, spot⟩ : Addr).add (0 * size)).add 0) = some u := by
        have h0 : 0 < (enc' (F 0)).length := by rw [hlen]; exact hsz
        exact ⟨_, (hF 0 hpos).2 0 _ (List.getElem?_eq_getElem h0)⟩
      obtain ⟨u0, hc0⟩ := hc0
      have hspot : spot = none := by simpa [Addr.add] using World.cell?_spot hc0
      subst hspot
      rw [addr_plus, addr_plus] at hc0
      have hll : ((List.range len).map F).length = len := by simp
      refine ⟨(List.range len).map F, by rw [hll]; omega, fun c hcm => ?_, some ⟨g, o, none⟩, cap, by rw [hll], .inr ⟨g, o, rfl, World.block_lt_of_cell? W _ hc0, fun i c hi j u hu => ?_⟩⟩
      · obtain ⟨i, hi, rfl⟩ := List.mem_map.1 hcm
        exact (hF i (List.mem_range.1 hi)).1
      · have hi' : i < len := by have := (List.getElem?_eq_some_iff.1 hi).1; simpa using this
        rw [List.getElem?_map, List.getElem?_range hi'] at hi
        obtain rfl := Option.some.inj hi
        have := (hF i hi').2 j u hu
        rw [addr_plus, addr_plus] at this
        exact this
def pairC (p : Int × Int) : List Value := [.int .i64 p.1, .int .i64 p.2]
theorem und49 : Tryz.prog.underlying 49 = some (.array 2 3) := by kernel_rfl
set_option maxRecDepth 100000 in
theorem pair_of {H : Type} {enc : TypeId × Value → H} {W : World} {base n : Nat} {sp : Nat → Bool} {held : Bool} {cs : List Value} {y : DataW H × List MemPlace} (h : DataW.trod enc Tryz.prog W base sp held n 49 cs = some y) : ∃ p : Int × Int, cs = pairC p ∧ I64 p.1 ∧ I64 p.2 := by
  obtain ⟨xs, m, _, rfl, hl, hlen, hf⟩ := DataW.trod_array und49 h
  rw [cells49] at hl
  match xs, hlen with
  | [y0, y1], _ =>
    have h0 := hf 0 (by decide)
    have h1 := hf 1 (by decide)
    rw [cells3] at h0 h1
    match cs, hl with
    | [c0, c1], _ =>
      obtain ⟨a0, e0, _, w0⟩ := DataW.trod_int Tryz.underlying3 h0
      obtain ⟨a1, e1, _, w1⟩ := DataW.trod_int Tryz.underlying3 h1
      simp at e0 e1
      subst e0 e1
      exact ⟨(a0, a1), rfl, i64_wf w0, i64_wf w1⟩
theorem bool_of {H : Type} {enc : TypeId × Value → H} {W : World} {base n : Nat} {sp : Nat → Bool} {held : Bool} {cs : List Value} {y : DataW H × List MemPlace} (h : DataW.trod enc Tryz.prog W base sp held n 4 cs = some y) : ∃ b : Bool, cs = [.bool b] ∧ True := by
  obtain ⟨b, e, _⟩ := DataW.trod_bool Tryz.underlying4 h
  exact ⟨b, e, trivial⟩
set_option maxRecDepth 100000 in
theorem open_bools {H : Type} {enc : TypeId × Value → H} {W : World} {base n : Nat} {sp : Nat → Bool} {held : Bool} {v : Value} {x : DataW H × List MemPlace} (h : DataW.trod enc Tryz.prog W base sp held n 50 [v] = some x) :
    ∃ (R : List Bool) (a : Option Addr) (cap : Nat), R.length ≤ maxLen ∧ v = .slice a R.length cap ∧ BlAt W.heap.size W a R := by
  obtain ⟨l, hl, _, a, cap, e, hc⟩ := open_rows Tryz.underlying50 1 (by decide) cells4 (fun b : Bool => [.bool b]) (fun _ => rfl) (fun _ => True) (fun n cs y h => bool_of h) h
  refine ⟨l, a, cap, hl, e, hc.imp List.eq_nil_of_length_eq_zero ?_⟩
  rintro ⟨g, o, e1, hg, hx⟩
  exact ⟨g, o, e1, hg, fun i b hi => by have := hx i b hi 0 _ rfl; simpa using this⟩
theorem okWide_arrM {P : Program} {w : World} {r : Reach} {base : Nat} {t e : TypeId} {n : Nat} {v : Value} (ht : P.underlying t = some (.array n e)) (h : Value.okWide P w r base t v) : ∃ cs, v = .agg cs ∧ cs.size = P.cellsOf t := by
  simp only [Value.okWide, ht] at h
  obtain ⟨cs, h1, h2, _⟩ := h
  exact ⟨cs, h1, h2⟩
set_option maxRecDepth 100000 in
theorem open_two {H : Type} {enc : TypeId × Value → H} {W : World} {base b0 : Nat} {sp : Nat → Bool} {held : Bool} {r : Reach} {v : Value} {d : DataW H} {p : List MemPlace} (hv : Value.okWide Tryz.prog W r b0 49 v) (h : DataW.Trod enc Tryz.prog W base sp held 49 v d p) :
    ∃ a b : Int, v = .agg #[.int .i64 a, .int .i64 b] ∧ I64 a ∧ I64 b := by
  obtain ⟨cs, rfl, hsz⟩ := okWide_arrM und49 hv
  obtain ⟨fuel, hf⟩ := h
  obtain ⟨q, e, h1, h2⟩ := pair_of hf
  refine ⟨q.1, q.2, ?_, h1, h2⟩
  have : cs.toList = pairC q := by simpa [Value.cells] using e
  obtain ⟨l⟩ := cs
  simp at this
  rw [this]; rfl
end Go.Proofs.YtmhpfncbbboamaaGreat
