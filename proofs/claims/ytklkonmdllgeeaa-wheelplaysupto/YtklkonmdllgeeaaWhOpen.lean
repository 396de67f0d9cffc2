/- What came in, opened: calls with their names, lists of integers. -/
import Derived.Test.YtklkonmdllgeeaaOnM
import Derived.Test.YtklkonmdllgeeaaRows
import Derived.ProofKit
import Derived.OpenShut
import Derived.ChangeMaps5
import Derived.SizedLaws
import Derived.Lib.SmallJoins
import Derived.Deep.Strs
import Derived.Deep.Slices
import Derived.SliceStrings
import Derived.JoinedCond
namespace Go.Proofs.Ytklkonmdllgeeaa
open Go.ChangeShapes Go.WideShapes Go.ChangeAt Go.WideMaps Go.WideElems Go.RowKit

theorem ownM : ownKnob Try.prog.godebug = none := by kernel_rfl
theorem laidOutM : laidOutB Try.prog = true := by kernel_rfl
theorem cells3 : Try.prog.cellsOf 3 = 1 := by kernel_rfl
theorem cells9 : Try.prog.cellsOf 9 = 1 := by kernel_rfl
theorem cells30 : Try.prog.cellsOf 30 = 1 := by kernel_rfl
theorem cells32 : Try.prog.cellsOf 32 = 3 := by kernel_rfl
theorem wf_int {k : Int} (h : (Lit.int .i64 k).wf = true) : I63 k := by
  have : (decide (IntKind.i64.min ≤ k) && decide (k ≤ IntKind.i64.max)) = true := h
  have hmin : IntKind.i64.min = -9223372036854775808 := by decide
  have hmax : IntKind.i64.max = 9223372036854775807 := by decide
  rw [hmin, hmax] at this
  simp at this
  exact this
theorem addr_plus (b o i : Nat) : (⟨b, o, none⟩ : Addr).add i = ⟨b, o + i, none⟩ := by simp [Addr.add]
theorem open_ints {H : Type} {enc : TypeId × Value → H} {W : World} {base n : Nat} {sp : Nat → Bool} {held : Bool} {v : Value} {x : DataW H × List MemPlace} (h : DataW.trod enc Try.prog W base sp held n 44 [v] = some x) :
    ∃ l : List Int, Ints W.heap.size W v l ∧ l.length ≤ maxLen := by
  rcases Go.Deep.open_slice Try.underlying44 h with ⟨hcs, hx⟩ | ⟨a, len, cap, m, fn, D, Pl, hcs, _, hlc, hcm, hm, hx, hel⟩
  · simp at hcs
    subst hcs
    exact ⟨[], ⟨none, 0, rfl, Or.inl rfl⟩, Nat.zero_le _⟩
  · simp at hcs
    subst hcs
    rcases Nat.eq_zero_or_pos len with h0 | hpos
    · subst h0
      exact ⟨[], ⟨some a, cap, rfl, Or.inl rfl⟩, Nat.zero_le _⟩
    · rw [cells3] at hel
      obtain ⟨g, o, spot⟩ := a
      have hml : len ≤ m := by rw [hm]; split <;> omega
      have each : ∀ i, ∃ t : Int, i < len → W.cell? (((⟨g, o, spot⟩ : Addr).add (i * 1)).add 0) = some (.int .i64 t) := fun i => by
        by_cases hi : i < len
        · obtain ⟨cs, h1, h2⟩ := hel i (by omega)
          have hc := World.cells?_some h1
          obtain ⟨t, et, _, _⟩ := DataW.trod_int Try.underlying3 h2
          refine ⟨t, fun _ => ?_⟩
          rw [hc.2.2 0 (by omega), et]; rfl
        · exact ⟨0, fun h => absurd h hi⟩
      obtain ⟨F, hF⟩ := Classical.axiomOfChoice each
      have hc0 := hF 0 hpos
      have hspot : spot = none := by simpa [Addr.add] using World.cell?_spot hc0
      subst hspot
      have hll : ((List.range len).map F).length = len := by simp
      refine ⟨(List.range len).map F, ⟨some ⟨g, o, none⟩, cap, by rw [hll], Or.inr ⟨g, o, rfl, ?_, fun j x hj => ?_⟩⟩, by rw [hll]; omega⟩
      · rw [addr_plus, addr_plus] at hc0
        exact World.block_lt_of_cell? W _ hc0
      · have hj' : j < len := by have := (List.getElem?_eq_some_iff.1 hj).1; simpa using this
        rw [List.getElem?_map, List.getElem?_range hj'] at hj
        obtain rfl := Option.some.inj hj
        have h1 := hF j hj'
        rw [addr_plus, addr_plus, Nat.mul_one, Nat.add_zero] at h1
        exact h1
/-- Texts that came in. -/
def LowS (W : World) (a : Option Addr) (ks : List (List UInt8)) : Prop := ks.length = 0 ∨ ∃ g o cs t fr, a = some ⟨g, o, none⟩ ∧ g < W.heap.size ∧ W.heap[g]? = some (.cells cs t fr) ∧ ∀ (i : Nat) (k : List UInt8), ks[i]? = some k → W.cell? ⟨g, o + i, none⟩ = some (.string (strL k))
theorem cell_cells {W : World} {g o : Nat} {v : Value} (h : W.cell? ⟨g, o, none⟩ = some v) : ∃ cs t fr, W.heap[g]? = some (.cells cs t fr) := by
  unfold World.cell? at h
  split at h
  · rename_i q
    exact ⟨_, _, _, q⟩
  · cases h
theorem bulkAll_strs {H : Type} (xs : List ByteArray) : xs.length ≤ Rows.uptoBulkAll (strs (H := H) xs) := by
  induction xs with
  | nil => exact Nat.zero_le _
  | cons x xs ih =>
    show xs.length + 1 ≤ (x.data.toList.length + 1) + Rows.uptoBulkAll (strs (H := H) xs)
    omega
theorem open_names {H : Type} {enc : TypeId × Value → H} {W : World} {base n : Nat} {sp : Nat → Bool} {held : Bool} {cs : List Value} {x : DataW H × List MemPlace} (h : DataW.trod enc Try.prog W base sp held n 30 cs = some x) :
    ∃ (ks : List (List UInt8)) (a : Option Addr) (cap : Nat), cs = [.slice a ks.length cap] ∧ LowS W a ks ∧ (∀ k ∈ ks, k.length ≤ maxLen) ∧ ks.length ≤ Rows.uptoBulk x.1 := by
  rcases open_strings Try.underlying30 Try.underlying9 cells9 h with ⟨hcs, hx⟩ | ⟨a, len, cap, zs, hcs, _, hlc, hcm, hz, hx, hcell, hsz⟩
  · exact ⟨[], none, 0, hcs, .inl rfl, by simp, Nat.zero_le _⟩
  · have hlz : len ≤ zs.length := by rw [hz]; split <;> omega
    have hlen : ((zs.take len).map fun s => s.data.toList).length = len := by rw [List.length_map, List.length_take]; omega
    refine ⟨(zs.take len).map fun s => s.data.toList, some a, cap, by rw [hlen]; exact hcs, ?_, fun k hk => ?_, ?_⟩
    · rcases Nat.eq_zero_or_pos len with h0 | hpos
      · exact .inl (by rw [hlen]; exact h0)
      · obtain ⟨g, o, spot⟩ := a
        have hc0 := hcell 0 (by omega)
        have hspot : spot = none := by simpa [Addr.add] using World.cell?_spot hc0
        subst hspot
        rw [addr_plus] at hc0
        have hg : g < W.heap.size := World.block_lt_of_cell? W _ hc0
        obtain ⟨cs', t', fr', hb⟩ := cell_cells hc0
        refine .inr ⟨g, o, cs', t', fr', rfl, hg, hb, fun i y hy => ?_⟩
        have hi' : i < len := by have := (List.getElem?_eq_some_iff.1 hy).1; omega
        have hci := hcell i (by omega)
        rw [addr_plus] at hci
        rw [hci, List.getD_eq_getElem?_getD]
        rw [List.getElem?_map, List.getElem?_take_of_lt hi', List.getElem?_eq_getElem (by omega)] at hy
        rw [List.getElem?_eq_getElem (by omega)]
        obtain rfl := Option.some.inj hy
        show some (Value.string zs[i]) = some (.string (strL zs[i].data.toList))
        rw [strL_of]
    · obtain ⟨z, hz', rfl⟩ := List.mem_map.1 hk
      exact hsz z (List.mem_of_mem_take hz')
    · rw [hlen, hx]
      show len ≤ Rows.uptoBulkAll (strs (zs.take len)) + Rows.uptoBulkAll (strs (zs.drop len)) + 1
      have := bulkAll_strs (H := H) (zs.take len)
      rw [List.length_take] at this
      omega
/-- A call that came in. -/
structure Cl where
  kind : Int
  at_ : Int
  names : List (List UInt8)
theorem fields32 : ∃ f0 f1 f2 : Field, Try.prog.underlying 32 = some (.struct #[f0, f1, f2]) ∧ f0.type = 3 ∧ f0.offset = 0 ∧ f1.type = 3 ∧ f1.offset = 1 ∧ f2.type = 30 ∧ f2.offset = 2 := ⟨_, _, _, Try.underlying32, rfl, rfl, rfl, rfl, rfl, rfl⟩
set_option maxRecDepth 100000 in
theorem cl_of {H : Type} {enc : TypeId × Value → H} {W : World} {base n : Nat} {sp : Nat → Bool} {held : Bool} {cs : List Value} {y : DataW H × List MemPlace} (h : DataW.trod enc Try.prog W base sp held n 32 cs = some y) :
    ∃ (c : Cl) (a : Option Addr) (q : Nat), cs = [.int .i64 c.kind, .int .i64 c.at_, .slice a c.names.length q] ∧ I63 c.kind ∧ I63 c.at_ ∧ LowS W a c.names ∧ (∀ k ∈ c.names, k.length ≤ maxLen) ∧ c.names.length ≤ Rows.uptoBulk y.1 := by
  obtain ⟨f0, f1, f2, hu, t0, o0, t1, o1, t2, o2⟩ := fields32
  obtain ⟨y0, y1, y2, m, hy, hl, h0, h1, h2⟩ := Go.Deep.trod_struct3 hu h
  rw [cells32] at hl
  rw [t0, o0, cells3] at h0
  rw [t1, o1, cells3] at h1
  rw [t2, o2, cells30] at h2
  match cs, hl with
  | [c0, c1, c2], _ =>
    obtain ⟨k, e0, _, w0⟩ := DataW.trod_int Try.underlying3 h0
    obtain ⟨a, e1, _, w1⟩ := DataW.trod_int Try.underlying3 h1
    obtain ⟨ks, ad, cap, e2, hs, hk, hb⟩ := open_names h2
    simp at e0 e1 e2
    subst e0 e1 e2
    refine ⟨⟨k, a, ks⟩, ad, cap, rfl, wf_int w0, wf_int w1, hs, hk, ?_⟩
    rw [hy]
    show ks.length ≤ Rows.uptoBulk y0.1 + (Rows.uptoBulk y1.1 + (Rows.uptoBulk y2.1 + 0)) + 1
    omega
/-- Calls that came in, as they lie. -/
def Cls (W : World) (v : Value) (l : List Cl) : Prop :=
  ∃ a cap, v = .slice a l.length cap ∧ (l.length = 0 ∨ ∃ g o, a = some ⟨g, o, none⟩ ∧ g < W.heap.size ∧ ∀ i c, l[i]? = some c → I63 c.kind ∧ I63 c.at_ ∧ (∀ k ∈ c.names, k.length ≤ maxLen) ∧ W.cell? ⟨g, o + i * 3, none⟩ = some (.int .i64 c.kind) ∧ W.cell? ⟨g, o + i * 3 + 1, none⟩ = some (.int .i64 c.at_) ∧ ∃ na q, W.cell? ⟨g, o + i * 3 + 2, none⟩ = some (.slice na c.names.length q) ∧ LowS W na c.names)
theorem bulkAll_sum {H : Type} (D : Nat → DataW H) (F : Nat → Nat) : ∀ (l : List Nat), (∀ i ∈ l, F i ≤ Rows.uptoBulk (D i)) → (l.map F).sum ≤ Rows.uptoBulkAll (l.map D)
  | [], _ => Nat.zero_le _
  | x :: l, h => by
    have := bulkAll_sum D F l fun i hi => h i (List.mem_cons_of_mem _ hi)
    have := h x (by simp)
    show F x + (l.map F).sum ≤ Rows.uptoBulk (D x) + Rows.uptoBulkAll (l.map D)
    omega
set_option maxRecDepth 100000 in
/-- A script, opened; its names are not more than its bulk. -/
theorem open_cls {H : Type} {enc : TypeId × Value → H} {W : World} {base n : Nat} {sp : Nat → Bool} {held : Bool} {v : Value} {x : DataW H × List MemPlace} (h : DataW.trod enc Try.prog W base sp held n 22 [v] = some x) :
    ∃ l : List Cl, Cls W v l ∧ l.length ≤ maxLen ∧ (∀ c ∈ l, I63 c.kind ∧ I63 c.at_) ∧ (l.map fun c => c.names.length).sum ≤ Rows.uptoBulk x.1 := by
  rcases Go.Deep.open_slice Try.underlying22 h with ⟨hcs, hx⟩ | ⟨a, len, cap, m, fn, D, Pl, hcs, _, hlc, hcm, hm, hx, hel⟩
  · simp at hcs
    subst hcs
    exact ⟨[], ⟨none, 0, rfl, .inl rfl⟩, Nat.zero_le _, by simp, Nat.zero_le _⟩
  · simp at hcs
    subst hcs
    rcases Nat.eq_zero_or_pos len with h0 | hpos
    · subst h0
      exact ⟨[], ⟨some a, cap, rfl, .inl rfl⟩, Nat.zero_le _, by simp, Nat.zero_le _⟩
    · obtain ⟨g, o, spot⟩ := a
      rw [cells32] at hel
      have hml : len ≤ m := by rw [hm]; split <;> omega
      have each : ∀ i, ∃ c : Cl, i < len → (I63 c.kind ∧ I63 c.at_ ∧ (∀ k ∈ c.names, k.length ≤ maxLen) ∧ c.names.length ≤ Rows.uptoBulk (D i)) ∧ ∃ na q, (∀ (j : Nat) (u : Value), [.int .i64 c.kind, .int .i64 c.at_, .slice na c.names.length q][j]? = some u → W.cell? (((⟨g, o, spot⟩ : Addr).add (i * 3)).add j) = some u) ∧ LowS W na c.names := fun i => by
        by_cases hi : i < len
        · obtain ⟨cs, h1, h2⟩ := hel i (by omega)
          obtain ⟨c, na, q, rfl, hk, ha, hs, hn, hb⟩ := cl_of h2
          refine ⟨c, fun _ => ⟨⟨hk, ha, hn, hb⟩, na, q, fun j u hu => ?_, hs⟩⟩
          have hj := (List.getElem?_eq_some_iff.1 hu).1
          rw [(World.cells?_some h1).2.2 j (by simpa using hj)]; exact hu
        · exact ⟨⟨0, 0, []⟩, fun h => absurd h hi⟩
      obtain ⟨F, hF⟩ := Classical.axiomOfChoice each
      have hspot : spot = none := by
        obtain ⟨_, na, q, hc, _⟩ := hF 0 hpos
        have hc0 := hc 0 _ rfl
        simpa [Addr.add] using World.cell?_spot hc0
      subst hspot
      have hg : g < W.heap.size := by
        obtain ⟨_, na, q, hc, _⟩ := hF 0 hpos
        have hc0 := hc 0 _ rfl
        rw [addr_plus, addr_plus] at hc0
        exact World.block_lt_of_cell? W _ hc0
      have hll : ((List.range len).map F).length = len := by simp
      refine ⟨(List.range len).map F, ⟨some ⟨g, o, none⟩, cap, by rw [hll], .inr ⟨g, o, rfl, hg, fun i c hi => ?_⟩⟩, by rw [hll]; omega, fun c hc => ?_, ?_⟩
      · have hi' : i < len := by have := (List.getElem?_eq_some_iff.1 hi).1; simpa using this
        rw [List.getElem?_map, List.getElem?_range hi'] at hi
        obtain rfl := Option.some.inj hi
        obtain ⟨⟨hk, ha, hn, _⟩, na, q, hc, hs⟩ := hF i hi'
        have c0 := hc 0 _ rfl
        have c1 := hc 1 _ rfl
        have c2 := hc 2 _ rfl
        rw [addr_plus, addr_plus] at c0 c1 c2
        exact ⟨hk, ha, hn, c0, c1, na, q, c2, hs⟩
      · obtain ⟨i, hi, rfl⟩ := List.mem_map.1 hc
        have := (hF i (List.mem_range.1 hi)).1
        exact ⟨this.1, this.2.1⟩
      · rw [hx, List.map_map]
        have := bulkAll_sum D (fun i => (F i).names.length) (List.range len) fun i hi => (hF i (List.mem_range.1 hi)).1.2.2.2
        show ((List.range len).map fun i => (F i).names.length).sum ≤ Rows.uptoBulkAll _ + Rows.uptoBulkAll _ + 1
        omega
theorem Cls.asks {W : World} {v : Value} {l : List Cl} (h : Cls W v l) : Asks W.heap.size W v (l.map fun c => (c.kind, c.at_)) := by
  obtain ⟨a, cap, rfl, h0 | ⟨g, o, rfl, hg, hc⟩⟩ := h
  · exact ⟨a, cap, by simp, .inl (by simpa using h0)⟩
  · refine ⟨_, cap, by simp, .inr ⟨g, o, rfl, hg, fun i x hx => ?_⟩⟩
    rw [List.getElem?_map] at hx
    cases hl : l[i]? with
    | none => rw [hl] at hx; cases hx
    | some c =>
      rw [hl] at hx
      obtain rfl := Option.some.inj hx
      obtain ⟨_, _, _, c0, c1, _⟩ := hc i c hl
      exact ⟨c0, c1⟩
end Go.Proofs.Ytklkonmdllgeeaa
