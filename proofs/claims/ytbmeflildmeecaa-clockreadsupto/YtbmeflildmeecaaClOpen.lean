/- A clock that came in, opened. -/
import Derived.Test.YtbmeflildmeecaaClAwake
import Derived.Test.YtbmeflildmeecaaRows
import Derived.ProofKit
import Derived.OpenShut
import Derived.ChangeMaps5
import Derived.SizedLaws
import Derived.Laws.IdiomArrays
import Derived.Lib.SmallJoins
namespace Go.Proofs.Ytbmeflildmeecaa
open Go.ChangeShapes Go.WideShapes Go.ChangeAt Go.WideMaps Go.WideElems Go.RowKit

theorem cells33 : Try.prog.cellsOf 33 = 2 := by kernel_rfl
theorem cells24 : Try.prog.cellsOf 24 = 1 := by kernel_rfl
theorem wf_nat {k : Int} (h : (Lit.int .u64 k).wf = true) : ∃ n : Nat, n < 18446744073709551616 ∧ k = (n : Int) := by
  have : (decide (IntKind.u64.min ≤ k) && decide (k ≤ IntKind.u64.max)) = true := h
  have hmin : IntKind.u64.min = 0 := by decide
  have hmax : IntKind.u64.max = 18446744073709551615 := by decide
  rw [hmin, hmax] at this
  simp at this
  exact ⟨k.toNat, by omega, by omega⟩
theorem wf_int {k : Int} (h : (Lit.int .i64 k).wf = true) : -9223372036854775808 ≤ k ∧ k < 9223372036854775808 := by
  have : (decide (IntKind.i64.min ≤ k) && decide (k ≤ IntKind.i64.max)) = true := h
  have hmin : IntKind.i64.min = -9223372036854775808 := by decide
  have hmax : IntKind.i64.max = 9223372036854775807 := by decide
  rw [hmin, hmax] at this
  simp at this
  omega
def fld (o : Nat) (f : Field) : Bool := f.type == 24 && f.offset == o
theorem dotFields : ∃ f0 f1 : Field, Try.prog.underlying 33 = some (.struct #[f0, f1]) ∧ f0.type = 24 ∧ f0.offset = 0 ∧ f1.type = 24 ∧ f1.offset = 1 := by
  have h := dotTypes
  have hu := dotUnd
  have hl : (Try.prog.fieldsOf 33).toList.length = 2 := by have := congrArg List.length h; simpa using this
  match hf : (Try.prog.fieldsOf 33).toList, hl with
  | [f, g], _ =>
    rw [hf] at h
    simp only [List.map_cons, List.map_nil, List.cons.injEq, Prod.mk.injEq] at h
    have e : Try.prog.fieldsOf 33 = #[f, g] := Array.toList_inj.1 hf
    rw [e] at hu
    exact ⟨f, g, hu, h.1.1, h.1.2.1, h.2.1.1, h.2.1.2.1⟩
theorem dot_of {H : Type} {enc : TypeId × Value → H} {W : World} {base n : Nat} {sp : Nat → Bool} {held : Bool} {cs : List Value} {y : DataW H × List MemPlace} (h : DataW.trod enc Try.prog W base sp held n 33 cs = some y) (hl : cs.length = 2) :
    ∃ d : Dt, (d.1 < 18446744073709551616 ∧ d.2 < 18446744073709551616) ∧ cs = [.int .u64 (d.1 : Int), .int .u64 (d.2 : Int)] := by
  obtain ⟨f0, f1, hu, t0, o0, t1, o1⟩ := dotFields
  obtain ⟨y0, y1, m, _, _, h0, h1⟩ := trod_struct2 hu h
  rw [t0, o0, cells24] at h0
  rw [t1, o1, cells24] at h1
  match cs, hl with
  | [a, b], _ =>
    obtain ⟨p, ep, _, wp⟩ := DataW.trod_int Try.underlying24 h0
    obtain ⟨q, eq, _, wq⟩ := DataW.trod_int Try.underlying24 h1
    simp at ep eq
    obtain ⟨p', hp, rfl⟩ := wf_nat wp
    obtain ⟨q', hq, rfl⟩ := wf_nat wq
    exact ⟨(p', q'), ⟨hp, hq⟩, by rw [ep, eq]⟩
theorem bulk_pos {H : Type} (d : DataW H) : 1 ≤ Rows.uptoBulk d := by
  cases d with
  | lit l => cases l <;> simp [Rows.uptoBulk]
  | _ => simp [Rows.uptoBulk]
theorem bulkAll_len {H : Type} : ∀ l : List (DataW H), l.length ≤ Rows.uptoBulkAll l
  | [] => by simp [Rows.uptoBulkAll]
  | d :: r => by
    have h1 := bulk_pos d
    have h2 := bulkAll_len r
    simp only [Rows.uptoBulkAll, List.length_cons]
    omega
theorem addr_plus (b o i : Nat) : (⟨b, o, none⟩ : Addr).add i = ⟨b, o + i, none⟩ := by simp [Addr.add]
theorem open_clock {H : Type} {enc : TypeId × Value → H} {W : World} {base n : Nat} {sp : Nat → Bool} {held : Bool} {a0 : Option Addr} {len cap : Nat} {x : DataW H × List MemPlace} (h : DataW.trod enc Try.prog W base sp held n 28 [.slice a0 len cap] = some x) :
    ∃ l : List Dt, l.length = len ∧ len ≤ Rows.uptoBulk x.1 ∧ Fit l ∧ Clk (Lt W.heap.size) W (.slice a0 len cap) l := by
  rcases Go.Deep.open_slice Try.underlying28 h with ⟨hcs, hx⟩ | ⟨a, len', cap', m, fn, D, Pl, hcs, _, hlc, hcm, hm, hx, hel⟩
  · simp at hcs
    obtain ⟨rfl, rfl, rfl⟩ := hcs
    exact ⟨[], rfl, Nat.zero_le _, (by intro d hd; cases hd), Clk.nil _ _ _ _⟩
  · simp at hcs
    obtain ⟨rfl, rfl, rfl⟩ := hcs
    rcases Nat.eq_zero_or_pos len with h0 | hpos
    · subst h0
      exact ⟨[], rfl, Nat.zero_le _, (by intro d hd; cases hd), Clk.nil _ _ _ _⟩
    · obtain ⟨g, o, spot⟩ := a
      rw [cells33] at hel
      have hml : len ≤ m := by rw [hm]; split <;> omega
      have each : ∀ i, ∃ t : Dt, i < len → (t.1 < 18446744073709551616 ∧ t.2 < 18446744073709551616) ∧ W.cell? (((⟨g, o, spot⟩ : Addr).add (i * 2)).add 0) = some (.int .u64 (t.1 : Int)) ∧ W.cell? (((⟨g, o, spot⟩ : Addr).add (i * 2)).add 1) = some (.int .u64 (t.2 : Int)) := fun i => by
        by_cases hi : i < len
        · obtain ⟨cs, h1, h2⟩ := hel i (by omega)
          have hc := World.cells?_some h1
          obtain ⟨t, ht, e⟩ := dot_of h2 (by have := hc.2.1; omega)
          refine ⟨t, fun _ => ⟨ht, ?_, ?_⟩⟩
          · rw [hc.2.2 0 (by omega), e]; rfl
          · rw [hc.2.2 1 (by omega), e]; rfl
        · exact ⟨(0, 0), fun h => absurd h hi⟩
      obtain ⟨F, hF⟩ := Classical.axiomOfChoice each
      have hc0 := (hF 0 hpos).2.1
      have hspot : spot = none := by simpa [Addr.add] using World.cell?_spot hc0
      subst hspot
      have hget : ∀ i t, ((List.range len).map F)[i]? = some t → i < len ∧ t = F i := fun i t hi => by
        have hi' : i < len := by have := (List.getElem?_eq_some_iff.1 hi).1; simpa using this
        rw [List.getElem?_map, List.getElem?_range hi'] at hi
        exact ⟨hi', (Option.some.inj hi).symm⟩
      have hll : ((List.range len).map F).length = len := by simp
      have hbulk : len ≤ Rows.uptoBulk x.1 := by
        rw [hx]
        have := bulkAll_len ((List.range len).map D)
        simp only [List.length_map, List.length_range] at this
        simp only [Rows.uptoBulk]
        omega
      refine ⟨(List.range len).map F, hll, hbulk, ?_, some ⟨g, o, none⟩, cap, by rw [hll], fun _ => ⟨g, o, rfl, ?_, ?_⟩⟩
      · intro t ht
        obtain ⟨i, hi, rfl⟩ := List.mem_map.1 ht
        exact (hF i (List.mem_range.1 hi)).1
      · rw [addr_plus, addr_plus] at hc0
        exact World.block_lt_of_cell? W _ hc0
      · intro i t hi
        obtain ⟨hi', rfl⟩ := hget i t hi
        have h1 := (hF i hi').2.1
        have h2 := (hF i hi').2.2
        rw [addr_plus, addr_plus] at h1 h2
        exact ⟨h1, h2⟩
end Go.Proofs.Ytbmeflildmeecaa
