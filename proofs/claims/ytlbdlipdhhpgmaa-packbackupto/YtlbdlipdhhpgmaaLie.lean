/- Things in memory: a list of them is opened. -/
import Derived.Test.YtlbdlipdhhpgmaaLaws
import Derived.Test.YtlbdlipdhhpgmaaProg
import Derived.Deep.Slices
import Derived.Lib.SmallJoins
import Derived.ProofKit
namespace Go.Proofs.Ytlbdlipdhhpgmaa
open Go.ChangeShapes Go.WideShapes Go.ChangeAt Go.RowKit

/-- A thing. -/
structure Th where
  kind : Int
  least : Int
  n : Nat
  s : ByteArray
/-- Its cells. -/
def thV (t : Th) : List Value := [.int .i64 t.kind, .int .i64 t.least, .int .u64 (t.n : Int), .string t.s]
/-- Things lie in block g from o on. -/
def Lie (w : World) (g o : Nat) (ts : List Th) : Prop := ∀ (i : Nat) (t : Th), ts[i]? = some t → ∀ (j : Nat) (v : Value), (thV t)[j]? = some v → w.cell? ⟨g, o + i * 4 + j, none⟩ = some v
theorem Lie.below {w w' : World} {g o B : Nat} {ts : List Th} (h : Lie w g o ts) (hb : Below B w w') (hg : g < B) : Lie w' g o ts := fun i t hi j v hj =>
  (World.cell?_of_block (hb.block g hg)).trans (h i t hi j v hj)


/-- A thing whose numbers fit. -/
structure Th.Ok (t : Th) : Prop where
  kind : -9223372036854775808 ≤ t.kind ∧ t.kind < 9223372036854775808
  least : -9223372036854775808 ≤ t.least ∧ t.least < 9223372036854775808
  n : t.n < 18446744073709551616
  s : t.s.size ≤ maxLen
/-- What it reads as. -/
def thD {H : Type} (t : Th) : DataW H := .agg [.lit (.int .i64 t.kind), .lit (.int .i64 t.least), .lit (.int .u64 (t.n : Int)), .lit (.string t.s.data.toList)]

theorem cells33 : Try.prog.cellsOf 33 = 4 := by kernel_rfl
theorem cells3 : Try.prog.cellsOf 3 = 1 := by kernel_rfl
theorem cells31 : Try.prog.cellsOf 31 = 1 := by kernel_rfl
theorem cells9 : Try.prog.cellsOf 9 = 1 := by kernel_rfl
theorem wf_i64 {k : Int} (h : (Lit.int .i64 k).wf = true) : -9223372036854775808 ≤ k ∧ k < 9223372036854775808 := by
  have : (decide (IntKind.i64.min ≤ k) && decide (k ≤ IntKind.i64.max)) = true := h
  have hmin : IntKind.i64.min = -9223372036854775808 := by decide
  have hmax : IntKind.i64.max = 9223372036854775807 := by decide
  rw [hmin, hmax] at this
  simp at this
  omega
theorem wf_u64 {k : Int} (h : (Lit.int .u64 k).wf = true) : 0 ≤ k ∧ k < 18446744073709551616 := by
  have : (decide (IntKind.u64.min ≤ k) && decide (k ≤ IntKind.u64.max)) = true := h
  have hmin : IntKind.u64.min = 0 := by decide
  have hmax : IntKind.u64.max = 18446744073709551615 := by decide
  rw [hmin, hmax] at this
  simp at this
  omega
theorem th_of {H : Type} {enc : TypeId × Value → H} {W : World} {base n : Nat} {sp : Nat → Bool} {held : Bool} {cs : List Value} {y : DataW H × List MemPlace} (h : DataW.trod enc Try.prog W base sp held n 33 cs = some y) : ∃ t : Th, t.Ok ∧ cs = thV t ∧ y.1 = thD t := by
  obtain ⟨y0, y1, y2, y3, m, rfl, hl, h0, h1, h2, h3⟩ := Go.Joins.trod_struct4 Try.underlying33 h
  rw [cells33] at hl
  match cs, hl with
  | [c0, c1, c2, c3], _ =>
    obtain ⟨k, e0, r0, w0⟩ := DataW.trod_int Try.underlying3 h0
    obtain ⟨l, e1, r1, w1⟩ := DataW.trod_int Try.underlying3 h1
    obtain ⟨q, e2, r2, w2⟩ := DataW.trod_int Try.underlying31 h2
    obtain ⟨s, e3, r3, w3⟩ := DataW.trod_string Try.underlying9 h3
    simp [cells3, cells31, cells9] at e0 e1 e2 e3
    subst e0 e1 e2 e3 r0 r1 r2 r3
    have hq := wf_u64 w2
    obtain ⟨q', rfl⟩ := Int.eq_ofNat_of_zero_le hq.1
    exact ⟨⟨k, l, q', s⟩, ⟨wf_i64 w0, wf_i64 w1, by have := hq.2; show q' < _; omega, w3⟩, rfl, rfl⟩

theorem addr_plus (b o i : Nat) : (⟨b, o, none⟩ : Addr).add i = ⟨b, o + i, none⟩ := by simp [Addr.add]
/-- A list of things, opened. -/
theorem open_things {H : Type} {enc : TypeId × Value → H} {W : World} {base n : Nat} {sp : Nat → Bool} {held : Bool} {a0 : Option Addr} {len cap : Nat} {x : DataW H × List MemPlace} (h : DataW.trod enc Try.prog W base sp held n 22 [.slice a0 len cap] = some x) :
    len = 0 ∨ ∃ (g o : Nat) (ts : List Th) (rest : List (DataW H)), a0 = some ⟨g, o, none⟩ ∧ ts.length = len ∧ len ≤ maxLen ∧ g < W.heap.size ∧ Lie W g o ts ∧ (∀ t ∈ ts, t.Ok) ∧ x.1 = .slice (ts.map thD) rest := by
  rcases Go.Deep.open_slice Try.underlying22 h with ⟨hcs, hx⟩ | ⟨a, len', cap', m, fn, D, Pl, hcs, _, hlc, hcm, hm, hx, hel⟩
  · simp at hcs
    exact .inl hcs.2.1
  · simp at hcs
    obtain ⟨rfl, rfl, rfl⟩ := hcs
    subst hx
    rcases Nat.eq_zero_or_pos len with h0 | hpos
    · exact .inl h0
    · right
      obtain ⟨g, o, spot⟩ := a
      rw [cells33] at hel
      have hml : len ≤ m := by rw [hm]; split <;> omega
      have each : ∀ i, ∃ t : Th, i < len → t.Ok ∧ (∀ (j : Nat) (v : Value), (thV t)[j]? = some v → W.cell? (((⟨g, o, spot⟩ : Addr).add (i * 4)).add j) = some v) ∧ D i = thD t := fun i => by
        by_cases hi : i < len
        · obtain ⟨cs, h1, h2⟩ := hel i (by omega)
          obtain ⟨t, ht, rfl, hd⟩ := th_of h2
          refine ⟨t, fun _ => ⟨ht, fun j v hv => ?_, hd⟩⟩
          have hj := (List.getElem?_eq_some_iff.1 hv).1
          rw [(World.cells?_some h1).2.2 j (by simpa [thV] using hj)]; exact hv
        · exact ⟨⟨0, 0, 0, ⟨#[]⟩⟩, fun h => absurd h hi⟩
      obtain ⟨F, hF⟩ := Classical.axiomOfChoice each
      have hc0 : W.cell? (((⟨g, o, spot⟩ : Addr).add (0 * 4)).add 0) = some (.int .i64 (F 0).kind) := (hF 0 hpos).2.1 0 _ rfl
      have hspot : spot = none := by simpa [Addr.add] using World.cell?_spot hc0
      subst hspot
      have hget : ∀ i t, ((List.range len).map F)[i]? = some t → i < len ∧ t = F i := fun i t hi => by
        have hi' : i < len := by have := (List.getElem?_eq_some_iff.1 hi).1; simpa using this
        rw [List.getElem?_map, List.getElem?_range hi'] at hi
        exact ⟨hi', (Option.some.inj hi).symm⟩
      refine ⟨g, o, (List.range len).map F, (List.range (m - len)).map fun j => D (len + j), rfl, by simp, by omega, ?_, ?_, ?_, ?_⟩
      · rw [addr_plus, addr_plus] at hc0
        exact World.block_lt_of_cell? W _ hc0
      · intro i t hi j v hv
        obtain ⟨hi', rfl⟩ := hget i t hi
        have := (hF i hi').2.1 j v hv
        rwa [addr_plus, addr_plus] at this
      · intro t ht
        obtain ⟨i, hi, rfl⟩ := List.mem_map.1 ht
        exact (hF i (List.mem_range.1 hi)).1
      · show DataW.slice _ _ = _
        congr 1
        rw [List.map_map]
        apply List.map_congr_left
        intro i hi
        exact (hF i (List.mem_range.1 hi)).2.2
end Go.Proofs.Ytlbdlipdhhpgmaa
