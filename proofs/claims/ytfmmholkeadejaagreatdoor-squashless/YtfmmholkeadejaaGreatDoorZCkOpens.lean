/- Changes that came in, opened. -/
import Derived.SliceStrings
import Derived.Deep.Slices
import Derived.ProofKit
import Derived.Carry
import Derived.Lib.SmallJoins
import Derived.Test.YtfmmholkeadejaaGreatDoorZCkFull
import Derived.Test.YtfmmholkeadejaaGreatDoorZCkLaid
namespace Go.Proofs.YtfmmholkeadejaaGreatDoor
open Go.ChangeShapes Go.WideShapes Go.ChangeAt Go.WideMaps Go.WideElems Go.RowKit

theorem laidOutK : laidOutB Tryz.prog = true := by kernel_rfl
theorem kcells9 : Tryz.prog.cellsOf 9 = 1 := by kernel_rfl
theorem kcells4 : Tryz.prog.cellsOf 4 = 1 := by kernel_rfl
theorem kcells52 : Tryz.prog.cellsOf 52 = 3 := by kernel_rfl
theorem kaddr_plus (b o i : Nat) : (⟨b, o, none⟩ : Addr).add i = ⟨b, o + i, none⟩ := by simp [Addr.add]
theorem kwf_int {k : Int} (h : (Lit.int .i64 k).wf = true) : -9223372036854775808 ≤ k ∧ k < 9223372036854775808 := by
  have : (decide (IntKind.i64.min ≤ k) && decide (k ≤ IntKind.i64.max)) = true := h
  have hmin : IntKind.i64.min = -9223372036854775808 := by decide
  have hmax : IntKind.i64.max = 9223372036854775807 := by decide
  rw [hmin, hmax] at this
  simp at this
  omega
theorem trod_struct3k {H : Type} {enc : TypeId × Value → H} {P : Program} {w : World} {base : Nat} {spare : Nat → Bool} {held : Bool} {t : TypeId} {f0 f1 f2 : Field} {fuel : Nat} {cs : List Value} {x : DataW H × List MemPlace} (ht : P.underlying t = some (.struct #[f0, f1, f2])) (h : DataW.trod enc P w base spare held fuel t cs = some x) :
    ∃ y0 y1 y2 n, cs.length = P.cellsOf t ∧ DataW.trod enc P w base spare held n f0.type ((cs.drop f0.offset).take (P.cellsOf f0.type)) = some y0 ∧
      DataW.trod enc P w base spare held n f1.type ((cs.drop f1.offset).take (P.cellsOf f1.type)) = some y1 ∧ DataW.trod enc P w base spare held n f2.type ((cs.drop f2.offset).take (P.cellsOf f2.type)) = some y2 := by
  obtain ⟨xs, n, _, rfl, hl, hlen, hf⟩ := DataW.trod_struct ht h
  match xs, hlen with
  | [y0, y1, y2], _ => exact ⟨y0, y1, y2, n, hl, by simpa using hf 0 f0 rfl, by simpa using hf 1 f1 rfl, by simpa using hf 2 f2 rfl⟩
set_option maxRecDepth 100000 in
theorem ch_of {H : Type} {enc : TypeId × Value → H} {W : World} {base n : Nat} {sp : Nat → Bool} {held : Bool} {cs : List Value} {y : DataW H × List MemPlace} (h : DataW.trod enc Tryz.prog W base sp held n 52 cs = some y) :
    ∃ c : Ch, cs = [.string c.k, .string c.v, .bool c.dead] ∧ c.k.size ≤ maxLen ∧ c.v.size ≤ maxLen := by
  obtain ⟨y0, y1, y2, m, hl, h0, h1, h2⟩ := trod_struct3k Tryz.underlying52 h
  rw [kcells52] at hl
  match cs, hl with
  | [c0, c1, c2], _ =>
    obtain ⟨k, e0, r0, w0⟩ := DataW.trod_string Tryz.underlying9 h0
    obtain ⟨v, e1, r1, w1⟩ := DataW.trod_string Tryz.underlying9 h1
    obtain ⟨d, e2, r2⟩ := DataW.trod_bool Tryz.underlying4 h2
    simp [kcells9, kcells4] at e0 e1 e2
    subst e0 e1 e2
    exact ⟨⟨k, v, d⟩, rfl, w0, w1⟩
set_option maxRecDepth 100000 in
theorem open_changes {H : Type} {enc : TypeId × Value → H} {W : World} {base n : Nat} {sp : Nat → Bool} {held : Bool} {a0 : Option Addr} {len cap : Nat} {x : DataW H × List MemPlace} (h : DataW.trod enc Tryz.prog W base sp held n 48 [.slice a0 len cap] = some x) :
    ∃ l : List Ch, l.length = len ∧ len ≤ maxLen ∧ InC W a0 l ∧ ∀ c ∈ l, c.k.size ≤ maxLen ∧ c.v.size ≤ maxLen := by
  rcases Go.Deep.open_slice Tryz.underlying48 h with ⟨hcs, hx⟩ | ⟨a, len', cap', m, fn, D, Pl, hcs, _, hlc, hcm, hm, hx, hel⟩
  · simp at hcs
    exact ⟨[], by simp [hcs.2.1], by unfold maxLen; omega, fun e => absurd rfl e, by simp⟩
  · simp at hcs
    obtain ⟨rfl, rfl, rfl⟩ := hcs
    rcases Nat.eq_zero_or_pos len with h0 | hpos
    · exact ⟨[], by simp [h0], by omega, fun e => absurd rfl e, by simp⟩
    · obtain ⟨g, o, spot⟩ := a
      rw [kcells52] at hel
      have hml : len ≤ m := by rw [hm]; split <;> omega
      have each : ∀ i, ∃ t : Ch, i < len → (t.k.size ≤ maxLen ∧ t.v.size ≤ maxLen) ∧ ∀ (j : Nat) (v : Value), [Value.string t.k, .string t.v, .bool t.dead][j]? = some v → W.cell? (((⟨g, o, spot⟩ : Addr).add (i * 3)).add j) = some v := fun i => by
        by_cases hi : i < len
        · obtain ⟨cs, h1, h2⟩ := hel i (by omega)
          obtain ⟨t, rfl, h3, h4⟩ := ch_of h2
          refine ⟨t, fun _ => ⟨⟨h3, h4⟩, fun j v hv => ?_⟩⟩
          have hj := (List.getElem?_eq_some_iff.1 hv).1
          rw [(World.cells?_some h1).2.2 j (by simpa using hj)]; exact hv
        · exact ⟨⟨⟨#[]⟩, ⟨#[]⟩, false⟩, fun h => absurd h hi⟩
      obtain ⟨F, hF⟩ := Classical.axiomOfChoice each
      have hc0 := (hF 0 hpos).2 0 _ rfl
      have hspot : spot = none := by simpa [Addr.add] using World.cell?_spot hc0
      subst hspot
      have hg : g < W.heap.size := by
        rw [kaddr_plus, kaddr_plus] at hc0
        exact World.block_lt_of_cell? W _ hc0
      refine ⟨(List.range len).map F, by simp, by omega, fun _ => ⟨g, o, rfl, hg, fun i t hi => ?_⟩, fun t ht => ?_⟩
      · have hi' : i < len := by have := (List.getElem?_eq_some_iff.1 hi).1; simpa using this
        rw [List.getElem?_map, List.getElem?_range hi'] at hi
        obtain rfl := Option.some.inj hi
        have hc := (hF i hi').2
        have c0 := hc 0 _ rfl
        have c1 := hc 1 _ rfl
        have c2 := hc 2 _ rfl
        rw [kaddr_plus, kaddr_plus] at c0 c1 c2
        exact ⟨c0, c1, c2⟩
      · obtain ⟨i, hi, rfl⟩ := List.mem_map.1 ht
        exact (hF i (List.mem_range.1 hi)).1
end Go.Proofs.YtfmmholkeadejaaGreatDoor
