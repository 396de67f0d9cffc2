/- What came in, opened: lists of pairs, lists of calls. -/
import Derived.Test.YtmdoamkockoipaaNtFull
import Derived.Test.YtmdoamkockoipaaRows
import Derived.ProofKit
import Derived.OpenShut
import Derived.ChangeMaps5
import Derived.SizedLaws
import Derived.Lib.SmallJoins
import Derived.Deep.Strs
import Derived.Deep.Slices
import Derived.SliceStrings
namespace Go.Proofs.Ytmdoamkockoipaa
open Go.ChangeShapes Go.WideShapes Go.ChangeAt Go.WideMaps Go.WideElems Go.RowKit

theorem ownM : ownKnob Try.prog.godebug = none := by kernel_rfl
theorem laidOutM : laidOutB Try.prog = true := by kernel_rfl
theorem cells3 : Try.prog.cellsOf 3 = 1 := by kernel_rfl
theorem cells49 : Try.prog.cellsOf 49 = 2 := by kernel_rfl
theorem cells30 : Try.prog.cellsOf 30 = 6 := by kernel_rfl
theorem cells28 : Try.prog.cellsOf 28 = 1 := by kernel_rfl
theorem cells27 : Try.prog.cellsOf 27 = 1 := by kernel_rfl
theorem addr_plus (b o i : Nat) : (⟨b, o, none⟩ : Addr).add i = ⟨b, o + i, none⟩ := by simp [Addr.add]
/-- Rows of cells that came in: each element's cells have a shape. -/
theorem open_rows {H : Type} {enc : TypeId × Value → H} {W : World} {base n : Nat} {sp : Nat → Bool} {held : Bool} {v : Value} {x : DataW H × List MemPlace} {t e : TypeId} (ht : Try.prog.underlying t = some (.slice e)) (size : Nat) (hsz : 0 < size) (hc : Try.prog.cellsOf e = size) {α : Type} [Inhabited α] (enc' : α → List Value) (hlen : ∀ a, (enc' a).length = size) (ok : α → Prop)
    (hel : ∀ n cs y, DataW.trod enc Try.prog W base sp held n e cs = some y → ∃ a, cs = enc' a ∧ ok a) (h : DataW.trod enc Try.prog W base sp held n t [v] = some x) :
    ∃ l : List α, l.length ≤ maxLen ∧ (∀ a ∈ l, ok a) ∧ ∃ a cap, v = .slice a l.length cap ∧ (l.length = 0 ∨ ∃ g o, a = some ⟨g, o, none⟩ ∧ g < W.heap.size ∧ ∀ i c, l[i]? = some c → ∀ j u, (enc' c)[j]? = some u → W.cell? ⟨g, o + i * size + j, none⟩ = some u) := by
  rcases Go.Deep.open_slice ht h with ⟨hcs, hx⟩ | ⟨a, len, cap, m, fn, D, Pl, hcs, _, hlc, hcm, hm, hx, hels⟩
  · simp at hcs
    subst hcs
    exact ⟨[], Nat.zero_le _, by simp, none, 0, rfl, .inl rfl⟩
  · simp at hcs
    subst hcs
    rcases Nat.eq_zero_or_pos len with h0 | hpos
    · subst h0
      exact ⟨[], Nat.zero_le _, by simp, some a, cap, rfl, .inl rfl⟩
    · obtain ⟨g, o, spot⟩ := a
      rw [hc] at hels
      have hml : len ≤ m := by rw [hm]; split <;> omega
      have each : ∀ i, ∃ c : α, i < len → ok c ∧ ∀ (j : Nat) (u : Value), (enc' c)[j]? = some u → W.cell? (((⟨g, o, spot⟩ : Addr).add (i * size)).add j) = some u := fun i => by
        by_cases hi : i < len
        · obtain ⟨cs, h1, h2⟩ := hels i (by omega)
          obtain ⟨c, rfl, hok⟩ := hel _ _ _ h2
          refine ⟨c, fun _ => ⟨hok, fun j u hu => ?_⟩⟩
          have hj := (List.getElem?_eq_some_iff.1 hu).1
          rw [(World.cells?_some h1).2.2 j (by rw [hlen] at hj; exact hj)]; exact hu
        · exact ⟨default, fun h => absurd h hi⟩
      obtain ⟨F, hF⟩ := Classical.axiomOfChoice each
      have hc0 : ∃ u, W.cell? (((⟨g, o, spot⟩ : Addr).add (0 * size)).add 0) = some u := by
        have h0 : 0 < (enc' (F 0)).length := by rw [hlen]; exact hsz
        exact ⟨_, (hF 0 hpos).2 0 _ (List.getElem?_eq_getElem h0)⟩
      obtain ⟨u0, hc0⟩ := hc0
      have hspot : spot = none := by simpa [Addr.add] using World.cell?_spot hc0
      subst hspot
      rw [addr_plus, addr_plus] at hc0
      have hll : ((List.range len).map F).length = len := by simp
      refine ⟨(List.range len).map F, by rw [hll]; omega, fun c hcm => ?_, some ⟨g, o, none⟩, cap, by rw [hll], .inr ⟨g, o, rfl, World.block_lt_of_cell? W _ hc0, fun i c hi j u hu => ?_⟩⟩
      · obtain ⟨i, hi, rfl⟩ := List.mem_map.1 hcm
        exact (hF i (List.mem_range.1 hi)).1
      · have hi' : i < len := by have := (List.getElem?_eq_some_iff.1 hi).1; simpa using this
        rw [List.getElem?_map, List.getElem?_range hi'] at hi
        obtain rfl := Option.some.inj hi
        have := (hF i hi').2 j u hu
        rw [addr_plus, addr_plus] at this
        exact this
def pairC (p : Int × Int) : List Value := [.int .i64 p.1, .int .i64 p.2]
theorem und49 : Try.prog.underlying 49 = some (.array 2 3) := by kernel_rfl
theorem pair_of {H : Type} {enc : TypeId × Value → H} {W : World} {base n : Nat} {sp : Nat → Bool} {held : Bool} {cs : List Value} {y : DataW H × List MemPlace} (h : DataW.trod enc Try.prog W base sp held n 49 cs = some y) : ∃ p : Int × Int, cs = pairC p ∧ okP p := by
  obtain ⟨xs, m, _, rfl, hl, hlen, hf⟩ := DataW.trod_array und49 h
  rw [cells49] at hl
  match xs, hlen with
  | [y0, y1], _ =>
    have h0 := hf 0 (by decide)
    have h1 := hf 1 (by decide)
    rw [cells3] at h0 h1
    match cs, hl with
    | [c0, c1], _ =>
      obtain ⟨a0, e0, _, w0⟩ := DataW.trod_int Try.underlying3 h0
      obtain ⟨a1, e1, _, w1⟩ := DataW.trod_int Try.underlying3 h1
      simp at e0 e1
      subst e0 e1
      exact ⟨(a0, a1), rfl, w0, w1⟩
/-- A call that came in: four integers and two slices. -/
structure Opc where
  kind : Int
  a : Int
  b : Int
  pick : Int
  s1 : Option Addr × Nat × Nat
  s2 : Option Addr × Nat × Nat
instance : Inhabited Opc := ⟨⟨0, 0, 0, 0, (none, 0, 0), (none, 0, 0)⟩⟩
def opcC (c : Opc) : List Value := [.int .i64 c.kind, .int .i64 c.a, .int .i64 c.b, .int .i64 c.pick, .slice c.s1.1 c.s1.2.1 c.s1.2.2, .slice c.s2.1 c.s2.2.1 c.s2.2.2]
def okO (c : Opc) : Prop := okI c.kind ∧ okI c.a ∧ okI c.b ∧ okI c.pick
theorem fields30 : ∃ f0 f1 f2 f3 f4 f5 : Field, Try.prog.underlying 30 = some (.struct #[f0, f1, f2, f3, f4, f5]) ∧ (f0.type = 3 ∧ f0.offset = 0) ∧ (f1.type = 3 ∧ f1.offset = 1) ∧ (f2.type = 3 ∧ f2.offset = 2) ∧ (f3.type = 3 ∧ f3.offset = 3) ∧ (f4.type = 28 ∧ f4.offset = 4) ∧ (f5.type = 27 ∧ f5.offset = 5) := ⟨_, _, _, _, _, _, Try.underlying30, ⟨rfl, rfl⟩, ⟨rfl, rfl⟩, ⟨rfl, rfl⟩, ⟨rfl, rfl⟩, ⟨rfl, rfl⟩, ⟨rfl, rfl⟩⟩
theorem slice_of {H : Type} {enc : TypeId × Value → H} {W : World} {base n : Nat} {sp : Nat → Bool} {held : Bool} {c : Value} {y : DataW H × List MemPlace} {t e : TypeId} (ht : Try.prog.underlying t = some (.slice e)) (h : DataW.trod enc Try.prog W base sp held n t [c] = some y) : ∃ q : Option Addr × Nat × Nat, c = .slice q.1 q.2.1 q.2.2 := by
  rcases Go.Deep.open_slice ht h with ⟨hcs, _⟩ | ⟨a, len, cap, m, fn, D, Pl, hcs, _⟩
  · simp at hcs
    exact ⟨(none, 0, 0), hcs⟩
  · simp at hcs
    exact ⟨(some a, len, cap), hcs⟩
set_option maxRecDepth 100000 in
theorem opc_of {H : Type} {enc : TypeId × Value → H} {W : World} {base n : Nat} {sp : Nat → Bool} {held : Bool} {cs : List Value} {y : DataW H × List MemPlace} (h : DataW.trod enc Try.prog W base sp held n 30 cs = some y) : ∃ c : Opc, cs = opcC c ∧ okO c := by
  obtain ⟨f0, f1, f2, f3, f4, f5, hu, ⟨t0, o0⟩, ⟨t1, o1⟩, ⟨t2, o2⟩, ⟨t3, o3⟩, ⟨t4, o4⟩, ⟨t5, o5⟩⟩ := fields30
  obtain ⟨xs, m, _, rfl, hl, hlen, hf⟩ := DataW.trod_struct hu h
  rw [cells30] at hl
  match xs, hlen with
  | [y0, y1, y2, y3, y4, y5], _ =>
    have h0 := hf 0 f0 rfl
    have h1 := hf 1 f1 rfl
    have h2 := hf 2 f2 rfl
    have h3 := hf 3 f3 rfl
    have h4 := hf 4 f4 rfl
    have h5 := hf 5 f5 rfl
    rw [t0, o0, cells3] at h0
    rw [t1, o1, cells3] at h1
    rw [t2, o2, cells3] at h2
    rw [t3, o3, cells3] at h3
    rw [t4, o4, cells28] at h4
    rw [t5, o5, cells27] at h5
    match cs, hl with
    | [c0, c1, c2, c3, c4, c5], _ =>
      obtain ⟨a0, e0, _, w0⟩ := DataW.trod_int Try.underlying3 h0
      obtain ⟨a1, e1, _, w1⟩ := DataW.trod_int Try.underlying3 h1
      obtain ⟨a2, e2, _, w2⟩ := DataW.trod_int Try.underlying3 h2
      obtain ⟨a3, e3, _, w3⟩ := DataW.trod_int Try.underlying3 h3
      obtain ⟨q4, e4⟩ := slice_of Try.underlying28 (c := c4) h4
      obtain ⟨q5, e5⟩ := slice_of Try.underlying27 (c := c5) h5
      simp at e0 e1 e2 e3
      subst e0 e1 e2 e3 e4 e5
      exact ⟨⟨a0, a1, a2, a3, q4, q5⟩, rfl, w0, w1, w2, w3⟩
end Go.Proofs.Ytmdoamkockoipaa
