/- A script that came in, opened; how great it is. -/
import Derived.Test.YthaknjbcmflegaaPlays
import Derived.Test.YthaknjbcmflegaaRows
import Derived.SliceStrings
import Derived.Deep.Slices
import Derived.ProofKit
import Derived.Carry
namespace Go.Proofs.Ythaknjbcmflegaa
open Go.ChangeShapes Go.WideShapes Go.ChangeAt Go.RowKit

theorem ownF : ownKnob Try.prog.godebug = none := by kernel_rfl
theorem laidOutF : laidOutB Try.prog = true := by kernel_rfl
theorem ocells9 : Try.prog.cellsOf 9 = 1 := by kernel_rfl
theorem ocells3 : Try.prog.cellsOf 3 = 1 := by kernel_rfl
theorem ocells29 : Try.prog.cellsOf 29 = 1 := by kernel_rfl
theorem ocells30 : Try.prog.cellsOf 30 = 1 := by kernel_rfl
theorem ocells32 : Try.prog.cellsOf 32 = 5 := by kernel_rfl
theorem owf_i64 {k : Int} (h : (Lit.int .i64 k).wf = true) : -9223372036854775808 ≤ k ∧ k < 9223372036854775808 := by
  have : (decide (IntKind.i64.min ≤ k) && decide (k ≤ IntKind.i64.max)) = true := h
  have hmin : IntKind.i64.min = -9223372036854775808 := by decide
  have hmax : IntKind.i64.max = 9223372036854775807 := by decide
  rw [hmin, hmax] at this
  simp at this
  omega
theorem oaddr_plus (b o i : Nat) : (⟨b, o, none⟩ : Addr).add i = ⟨b, o + i, none⟩ := by unfold Addr.add; split <;> simp_all
theorem bulk_pos {H : Type} (d : DataW H) : 1 ≤ Rows.uptoBulk d := by
  cases d with
  | lit l => cases l <;> simp [Rows.uptoBulk]
  | _ => simp [Rows.uptoBulk]
theorem bulkAll_len {H : Type} : ∀ l : List (DataW H), l.length ≤ Rows.uptoBulkAll l
  | [] => by simp [Rows.uptoBulkAll]
  | d :: r => by
    have h1 := bulk_pos d
    have h2 := bulkAll_len r
    simp only [Rows.uptoBulkAll, List.length_cons]
    omega
theorem bulkAll_mem {H : Type} : ∀ {l : List (DataW H)} {d : DataW H}, d ∈ l → Rows.uptoBulk d ≤ Rows.uptoBulkAll l
  | d' :: r, d, hd => by
    simp only [Rows.uptoBulkAll]
    rcases List.mem_cons.1 hd with rfl | h
    · omega
    · have := bulkAll_mem h; omega
theorem mem_lens : ∀ {xs : List ByteArray} {s : ByteArray}, s ∈ xs → s.size ≤ lens xs
  | x :: r, s, h => by
    rw [lens]
    rcases List.mem_cons.1 h with rfl | h
    · omega
    · have := mem_lens h; omega
theorem texts_bulk {H : Type} : ∀ xs : List ByteArray, lens xs + xs.length ≤ Rows.uptoBulkAll (strs (H := H) xs)
  | [] => by simp [lens]
  | x :: r => by
    have h1 := texts_bulk (H := H) r
    have e : x.data.toList.length = x.size := rfl
    have hc : Rows.uptoBulkAll (strs (H := H) (x :: r)) = (x.size + 1) + Rows.uptoBulkAll (strs (H := H) r) := by
      show Rows.uptoBulkAll (_ :: _) = _
      simp only [Rows.uptoBulkAll, Rows.uptoBulk, e]
      rfl
    rw [hc, lens, List.length_cons]
    omega

theorem open_texts {H : Type} {enc : TypeId × Value → H} {W : World} {base n : Nat} {sp : Nat → Bool} {held : Bool} {cs : List Value} {x : DataW H × List MemPlace} (h : DataW.trod enc Try.prog W base sp held n 29 cs = some x) :
    ∃ (xs : List ByteArray) (a0 : Option Addr) (cap : Nat), cs = [.slice a0 xs.length cap] ∧ LowStrs W W.heap.size a0 xs ∧ xs.length ≤ cap ∧ cap ≤ maxLen ∧ lens xs + xs.length ≤ Rows.uptoBulk x.1 := by
  rcases open_strings Try.underlying29 Try.underlying9 ocells9 h with ⟨hcs, hx⟩ | ⟨a, len, cap, zs, hcs, _, hlc, hcm, hz, hx, hcell, hsz⟩
  · exact ⟨[], none, 0, hcs, .inl rfl, Nat.le_refl _, by unfold maxLen; omega, by simp [lens]⟩
  · subst hx
    have hlz : len ≤ zs.length := by rw [hz]; split <;> omega
    have hlen : (zs.take len).length = len := by rw [List.length_take]; omega
    have t1 := texts_bulk (H := H) (zs.take len)
    have hb : Rows.uptoBulkAll (strs (H := H) (zs.take len)) ≤ Rows.uptoBulk (DataW.slice (strs (H := H) (zs.take len)) (strs (zs.drop len))) := by
      simp only [Rows.uptoBulk]; omega
    refine ⟨zs.take len, some a, cap, by rw [hcs, hlen], ?_, by omega, hcm, by show _ ≤ Rows.uptoBulk (DataW.slice _ _); omega⟩
    rcases Nat.eq_zero_or_pos len with h0 | hpos
    · exact .inl (by rw [hlen]; exact h0)
    · obtain ⟨g, o, spot⟩ := a
      have hspot : spot = none := by simpa [Addr.add] using World.cell?_spot (hcell 0 (by omega))
      subst hspot
      have hg : g < W.heap.size := by
        have := hcell 0 (by omega)
        rw [oaddr_plus] at this
        exact World.block_lt_of_cell? W _ this
      refine .inr ⟨g, o, rfl, hg, fun i y hy => ?_⟩
      have hi' : i < len := by have := (List.getElem?_eq_some_iff.1 hy).1; omega
      have := hcell i (by omega)
      rw [oaddr_plus] at this
      rw [this, List.getD_eq_getElem?_getD]
      rw [List.getElem?_take_of_lt hi'] at hy
      rw [hy]; rfl
theorem open_nums {H : Type} {enc : TypeId × Value → H} {W : World} {base n : Nat} {sp : Nat → Bool} {held : Bool} {cs : List Value} {x : DataW H × List MemPlace} (h : DataW.trod enc Try.prog W base sp held n 30 cs = some x) :
    ∃ (ns : List Int) (a0 : Option Addr) (cap : Nat), cs = [.slice a0 ns.length cap] ∧ LowInts W W.heap.size a0 ns ∧ (∀ y ∈ ns, -9223372036854775808 ≤ y ∧ y < 9223372036854775808) ∧ ns.length ≤ cap ∧ cap ≤ maxLen ∧ ns.length ≤ Rows.uptoBulk x.1 := by
  rcases Go.Deep.open_slice1 Try.underlying30 ocells3 h with ⟨hcs, hx⟩ | ⟨a, len, cap, m, fn, V, D, Pl, hcs, _, hlc, hcm, hm, hx, hel⟩
  · exact ⟨[], none, 0, hcs, .inl rfl, by simp, Nat.le_refl _, by unfold maxLen; omega, by simp⟩
  · subst hx
    have hbulk : len ≤ Rows.uptoBulk (DataW.slice ((List.range len).map D) ((List.range (m - len)).map fun j => D (len + j))) := by
      have := bulkAll_len ((List.range len).map D)
      simp only [Rows.uptoBulk, List.length_map, List.length_range] at this ⊢
      omega
    rcases Nat.eq_zero_or_pos len with h0 | hpos
    · subst h0
      exact ⟨[], some a, cap, hcs, .inl rfl, by simp, by simp, hcm, by simp⟩
    · obtain ⟨g, o, spot⟩ := a
      have hml : len ≤ m := by rw [hm]; split <;> omega
      have each : ∀ i, ∃ y : Int, i < len → (-9223372036854775808 ≤ y ∧ y < 9223372036854775808) ∧ W.cell? ((⟨g, o, spot⟩ : Addr).add i) = some (.int .i64 y) := fun i => by
        by_cases hi : i < len
        · obtain ⟨h1, h2⟩ := hel i (by omega)
          obtain ⟨q, e, _, wq⟩ := DataW.trod_int Try.underlying3 h2
          simp at e
          exact ⟨q, fun _ => ⟨owf_i64 wq, by rw [h1, e]⟩⟩
        · exact ⟨0, fun h => absurd h hi⟩
      obtain ⟨F, hF⟩ := Classical.axiomOfChoice each
      have hspot : spot = none := by simpa [Addr.add] using World.cell?_spot (hF 0 hpos).2
      subst hspot
      have hg : g < W.heap.size := by
        have := (hF 0 hpos).2
        rw [oaddr_plus] at this
        exact World.block_lt_of_cell? W _ this
      have hlen : ((List.range len).map F).length = len := by simp
      refine ⟨(List.range len).map F, some ⟨g, o, none⟩, cap, by rw [hcs, hlen], .inr ⟨g, o, rfl, hg, fun i y hy => ?_⟩, fun y hy => ?_, by omega, hcm, by rw [hlen]; exact hbulk⟩
      · have hi' : i < len := by have := (List.getElem?_eq_some_iff.1 hy).1; simpa using this
        rw [List.getElem?_map, List.getElem?_range hi'] at hy
        obtain rfl := Option.some.inj hy
        have := (hF i hi').2
        rwa [oaddr_plus] at this
      · obtain ⟨i, hi, rfl⟩ := List.mem_map.1 hy
        exact (hF i (List.mem_range.1 hi)).1

theorem trod_struct5 {H : Type} {enc : TypeId × Value → H} {P : Program} {w : World} {base : Nat} {spare : Nat → Bool} {held : Bool} {t : TypeId} {f0 f1 f2 f3 f4 : Field} {fuel : Nat} {cs : List Value} {x : DataW H × List MemPlace} (ht : P.underlying t = some (.struct #[f0, f1, f2, f3, f4])) (h : DataW.trod enc P w base spare held fuel t cs = some x) :
    ∃ y0 y1 y2 y3 y4 n, x.1 = .agg [y0.1, y1.1, y2.1, y3.1, y4.1] ∧ cs.length = P.cellsOf t ∧ DataW.trod enc P w base spare held n f0.type ((cs.drop f0.offset).take (P.cellsOf f0.type)) = some y0 ∧
      DataW.trod enc P w base spare held n f1.type ((cs.drop f1.offset).take (P.cellsOf f1.type)) = some y1 ∧ DataW.trod enc P w base spare held n f2.type ((cs.drop f2.offset).take (P.cellsOf f2.type)) = some y2 ∧
      DataW.trod enc P w base spare held n f3.type ((cs.drop f3.offset).take (P.cellsOf f3.type)) = some y3 ∧ DataW.trod enc P w base spare held n f4.type ((cs.drop f4.offset).take (P.cellsOf f4.type)) = some y4 := by
  obtain ⟨xs, n, _, rfl, hl, hlen, hf⟩ := DataW.trod_struct ht h
  match xs, hlen with
  | [y0, y1, y2, y3, y4], _ => exact ⟨y0, y1, y2, y3, y4, n, by simp, hl, by simpa using hf 0 f0 rfl, by simpa using hf 1 f1 rfl, by simpa using hf 2 f2 rfl, by simpa using hf 3 f3 rfl, by simpa using hf 4 f4 rfl⟩

/-- What is told of a call that came in. -/
structure Came (W : World) (o : Cl) (n : Nat) : Prop where
  kind : -9223372036854775808 ≤ o.kind ∧ o.kind < 9223372036854775808
  num : -9223372036854775808 ≤ o.num ∧ o.num < 9223372036854775808
  picks : ∀ p ∈ o.picks, -9223372036854775808 ≤ p ∧ p < 9223372036854775808
  bulk : lens o.names + o.names.length + (lens o.parts + o.parts.length) + o.picks.length ≤ n
set_option maxRecDepth 100000 in
theorem cl_of {H : Type} {enc : TypeId × Value → H} {W : World} {base n : Nat} {sp : Nat → Bool} {held : Bool} {cs : List Value} {y : DataW H × List MemPlace} (h : DataW.trod enc Try.prog W base sp held n 32 cs = some y) :
    ∃ (o : Cl) (na pa ka : Option Addr) (nc pc kc : Nat), cs = clV o na pa ka nc pc kc ∧ ClAt W W.heap.size o na pa ka kc ∧ Came W o (Rows.uptoBulk y.1) := by
  obtain ⟨y0, y1, y2, y3, y4, m, hy, hl, h0, h1, h2, h3, h4⟩ := trod_struct5 Try.underlying32 h
  rw [ocells32] at hl
  match cs, hl with
  | [c0, c1, c2, c3, c4], _ =>
    obtain ⟨k, e0, r0, w0⟩ := DataW.trod_int Try.underlying3 h0
    obtain ⟨l, e1, r1, w1⟩ := DataW.trod_int Try.underlying3 h1
    obtain ⟨xs2, a2, cap2, e2, s2, lc2, cm2, b2⟩ := open_texts h2
    obtain ⟨xs3, a3, cap3, e3, s3, lc3, cm3, b3⟩ := open_texts h3
    obtain ⟨xs4, a4, cap4, e4, s4, p4, lc4, cm4, b4⟩ := open_nums h4
    simp [ocells3, ocells29, ocells30] at e0 e1 e2 e3 e4
    subst e0 e1 e2 e3 e4
    refine ⟨⟨k, l, xs2, xs3, xs4⟩, a2, a3, a4, cap2, cap3, cap4, rfl, ⟨s2, s3, s4, lc4, cm4⟩, ⟨owf_i64 w0, owf_i64 w1, p4, ?_⟩⟩
    rw [hy]
    simp only [Rows.uptoBulk, Rows.uptoBulkAll]
    show lens xs2 + xs2.length + (lens xs3 + xs3.length) + xs4.length ≤ _
    omega

set_option maxRecDepth 100000 in
/-- A script, opened. -/
theorem open_ops {H : Type} {enc : TypeId × Value → H} {W : World} {base n : Nat} {sp : Nat → Bool} {held : Bool} {a0 : Option Addr} {len cap : Nat} {x : DataW H × List MemPlace} (h : DataW.trod enc Try.prog W base sp held n 22 [.slice a0 len cap] = some x) :
    ∃ os : List Cl, os.length = len ∧ len ≤ maxLen ∧ ScriptAt W W.heap.size a0 os ∧ ∀ o ∈ os, Came W o (Rows.uptoBulk x.1) := by
  rcases Go.Deep.open_slice Try.underlying22 h with ⟨hcs, hx⟩ | ⟨a, len', cap', m, fn, D, Pl, hcs, _, hlc, hcm, hm, hx, hel⟩
  · simp at hcs
    exact ⟨[], by simp [hcs.2.1], by unfold maxLen; omega, .inl rfl, by simp⟩
  · simp at hcs
    obtain ⟨rfl, rfl, rfl⟩ := hcs
    subst hx
    rcases Nat.eq_zero_or_pos len with h0 | hpos
    · exact ⟨[], by simp [h0], by omega, .inl rfl, by simp⟩
    · obtain ⟨g, o, spot⟩ := a
      rw [ocells32] at hel
      have hml : len ≤ m := by rw [hm]; split <;> omega
      have each : ∀ i, ∃ t : Cl, i < len → Came W t (Rows.uptoBulk (D i)) ∧ ∃ na pa ka nc pc kc, (∀ (j : Nat) (v : Value), (clV t na pa ka nc pc kc)[j]? = some v → W.cell? (((⟨g, o, spot⟩ : Addr).add (i * 5)).add j) = some v) ∧ ClAt W W.heap.size t na pa ka kc := fun i => by
        by_cases hi : i < len
        · obtain ⟨cs, h1, h2⟩ := hel i (by omega)
          obtain ⟨t, na, pa, ka, nc, pc, kc, rfl, hat, hcm⟩ := cl_of h2
          refine ⟨t, fun _ => ⟨hcm, na, pa, ka, nc, pc, kc, fun j v hv => ?_, hat⟩⟩
          have hj := (List.getElem?_eq_some_iff.1 hv).1
          rw [(World.cells?_some h1).2.2 j (by simpa [clV] using hj)]; exact hv
        · exact ⟨⟨0, 0, [], [], []⟩, fun h => absurd h hi⟩
      obtain ⟨F, hF⟩ := Classical.axiomOfChoice each
      have hspot : spot = none := by
        obtain ⟨_, na, pa, ka, nc, pc, kc, hc, _⟩ := hF 0 hpos
        have hc0 : W.cell? (((⟨g, o, spot⟩ : Addr).add (0 * 5)).add 0) = some (.int .i64 (F 0).kind) := hc 0 _ rfl
        simpa [Addr.add] using World.cell?_spot hc0
      subst hspot
      have hg : g < W.heap.size := by
        obtain ⟨_, na, pa, ka, nc, pc, kc, hc, _⟩ := hF 0 hpos
        have hc0 : W.cell? (((⟨g, o, none⟩ : Addr).add (0 * 5)).add 0) = some (.int .i64 (F 0).kind) := hc 0 _ rfl
        rw [oaddr_plus, oaddr_plus] at hc0
        exact World.block_lt_of_cell? W _ hc0
      refine ⟨(List.range len).map F, by simp, by omega, .inr ⟨g, o, rfl, hg, fun i t hi => ?_⟩, fun t ht => ?_⟩
      · have hi' : i < len := by have := (List.getElem?_eq_some_iff.1 hi).1; simpa using this
        rw [List.getElem?_map, List.getElem?_range hi'] at hi
        obtain rfl := Option.some.inj hi
        obtain ⟨_, na, pa, ka, nc, pc, kc, hc, hat⟩ := hF i hi'
        refine ⟨na, pa, ka, nc, pc, kc, fun j v hv => ?_, hat⟩
        have := hc j v hv
        rwa [oaddr_plus, oaddr_plus] at this
      · obtain ⟨i, hi, rfl⟩ := List.mem_map.1 ht
        obtain ⟨c, _⟩ := hF i (List.mem_range.1 hi)
        have hm := bulkAll_mem (List.mem_map.2 ⟨i, hi, rfl⟩ : D i ∈ (List.range len).map D)
        have hb : Rows.uptoBulkAll ((List.range len).map D) ≤ Rows.uptoBulk (DataW.slice ((List.range len).map D) ((List.range (m - len)).map fun j => D (len + j))) := by
          simp only [Rows.uptoBulk]; omega
        exact ⟨c.kind, c.num, c.picks, by have := c.bulk; show _ ≤ Rows.uptoBulk (DataW.slice _ _); omega⟩
end Go.Proofs.Ythaknjbcmflegaa
