/- A script of CaskKeeps that came in, opened. -/
import Derived.Test.YtfmmholkeadejaaGreatDoorZCkKeepsM
import Derived.Test.YtfmmholkeadejaaGreatDoorZCkOpens
namespace Go.Proofs.YtfmmholkeadejaaGreatDoor
open Go.ChangeShapes Go.WideShapes Go.ChangeAt Go.WideMaps Go.WideElems Go.RowKit

theorem kcells3 : Tryz.prog.cellsOf 3 = 1 := by kernel_rfl
theorem kcells26 : Tryz.prog.cellsOf 26 = 1 := by kernel_rfl
theorem kcells50 : Tryz.prog.cellsOf 50 = 5 := by kernel_rfl
/-- Numbers below a mark. -/
def LowK (W : World) (a : Option Addr) (ns : List Int) : Prop := ns.length = 0 ∨ ∃ g o, a = some ⟨g, o, none⟩ ∧ g < W.heap.size ∧ ∀ (i : Nat) (x : Int), ns[i]? = some x → W.cell? ⟨g, o + i, none⟩ = some (.int .i64 x)
theorem LowK.ints {w W : World} {a : Option Addr} {ns : List Int} (h : LowK w a ns) (N : Lo) (hN : N.n = w.heap.size) (hb : Below w.heap.size w W) : IntsAt W N a ns := by
  rcases h with h | ⟨g, o, e, hg, hc⟩
  · exact .inl h
  · exact .inr ⟨g, o, e, Nat.lt_of_lt_of_le hg hb.size, .inl (by show g < N.n; rw [hN]; exact hg), fun i x hx => (hb.cell (p := ⟨g, o + i, none⟩) hg).trans (hc i x hx)⟩
theorem open_numsk {H : Type} {enc : TypeId × Value → H} {W : World} {base n : Nat} {sp : Nat → Bool} {held : Bool} {cs : List Value} {x : DataW H × List MemPlace} (h : DataW.trod enc Tryz.prog W base sp held n 26 cs = some x) :
    ∃ (ns : List Int) (a0 : Option Addr) (cap : Nat), cs = [.slice a0 ns.length cap] ∧ LowK W a0 ns ∧ (∀ y ∈ ns, -9223372036854775808 ≤ y ∧ y < 9223372036854775808) ∧ ns.length ≤ cap ∧ cap ≤ maxLen := by
  rcases Go.Deep.open_slice1 Tryz.underlying26 kcells3 h with ⟨hcs, hx⟩ | ⟨a, len, cap, m, fn, V, D, Pl, hcs, _, hlc, hcm, hm, hx, hel⟩
  · exact ⟨[], none, 0, hcs, .inl rfl, by simp, Nat.le_refl _, by unfold maxLen; omega⟩
  · rcases Nat.eq_zero_or_pos len with h0 | hpos
    · subst h0
      exact ⟨[], some a, cap, hcs, .inl rfl, by simp, by simp, hcm⟩
    · obtain ⟨g, o, spot⟩ := a
      have hml : len ≤ m := by rw [hm]; split <;> omega
      have each : ∀ i, ∃ y : Int, i < len → (-9223372036854775808 ≤ y ∧ y < 9223372036854775808) ∧ W.cell? ((⟨g, o, spot⟩ : Addr).add i) = some (.int .i64 y) := fun i => by
        by_cases hi : i < len
        · obtain ⟨h1, h2⟩ := hel i (by omega)
          obtain ⟨q, e, _, wq⟩ := DataW.trod_int Tryz.underlying3 h2
          simp at e
          exact ⟨q, fun _ => ⟨kwf_int wq, by rw [h1, e]⟩⟩
        · exact ⟨0, fun h => absurd h hi⟩
      obtain ⟨F, hF⟩ := Classical.axiomOfChoice each
      have hspot : spot = none := by simpa [Addr.add] using World.cell?_spot (hF 0 hpos).2
      subst hspot
      have hg : g < W.heap.size := by
        have := (hF 0 hpos).2
        rw [kaddr_plus] at this
        exact World.block_lt_of_cell? W _ this
      have hlen : ((List.range len).map F).length = len := by simp
      refine ⟨(List.range len).map F, some ⟨g, o, none⟩, cap, by rw [hcs, hlen], .inr ⟨g, o, rfl, hg, fun i y hy => ?_⟩, fun y hy => ?_, by omega, hcm⟩
      · have hi' : i < len := by have := (List.getElem?_eq_some_iff.1 hy).1; simpa using this
        rw [List.getElem?_map, List.getElem?_range hi'] at hy
        obtain rfl := Option.some.inj hy
        have := (hF i hi').2
        rwa [kaddr_plus] at this
      · obtain ⟨i, hi, rfl⟩ := List.mem_map.1 hy
        exact (hF i (List.mem_range.1 hi)).1
theorem trod_struct5k {H : Type} {enc : TypeId × Value → H} {P : Program} {w : World} {base : Nat} {spare : Nat → Bool} {held : Bool} {t : TypeId} {f0 f1 f2 f3 f4 : Field} {fuel : Nat} {cs : List Value} {x : DataW H × List MemPlace} (ht : P.underlying t = some (.struct #[f0, f1, f2, f3, f4])) (h : DataW.trod enc P w base spare held fuel t cs = some x) :
    ∃ y0 y1 y2 y3 y4 n, cs.length = P.cellsOf t ∧ DataW.trod enc P w base spare held n f0.type ((cs.drop f0.offset).take (P.cellsOf f0.type)) = some y0 ∧
      DataW.trod enc P w base spare held n f1.type ((cs.drop f1.offset).take (P.cellsOf f1.type)) = some y1 ∧ DataW.trod enc P w base spare held n f2.type ((cs.drop f2.offset).take (P.cellsOf f2.type)) = some y2 ∧
      DataW.trod enc P w base spare held n f3.type ((cs.drop f3.offset).take (P.cellsOf f3.type)) = some y3 ∧ DataW.trod enc P w base spare held n f4.type ((cs.drop f4.offset).take (P.cellsOf f4.type)) = some y4 := by
  obtain ⟨xs, n, _, rfl, hl, hlen, hf⟩ := DataW.trod_struct ht h
  match xs, hlen with
  | [y0, y1, y2, y3, y4], _ => exact ⟨y0, y1, y2, y3, y4, n, hl, by simpa using hf 0 f0 rfl, by simpa using hf 1 f1 rfl, by simpa using hf 2 f2 rfl, by simpa using hf 3 f3 rfl, by simpa using hf 4 f4 rfl⟩
def koV (o : Ko) (a : Option Addr) (q : Nat) : List Value := [.int .i64 o.kind, .int .i64 o.num, .string o.key, .string o.val, .slice a o.picks.length q]
set_option maxRecDepth 100000 in
theorem ko_of {H : Type} {enc : TypeId × Value → H} {W : World} {base n : Nat} {sp : Nat → Bool} {held : Bool} {cs : List Value} {y : DataW H × List MemPlace} (h : DataW.trod enc Tryz.prog W base sp held n 50 cs = some y) :
    ∃ (o : Ko) (a : Option Addr) (q : Nat), cs = koV o a q ∧ o.Ok ∧ LowK W a o.picks ∧ o.picks.length ≤ q ∧ q ≤ maxLen := by
  obtain ⟨y0, y1, y2, y3, y4, m, hl, h0, h1, h2, h3, h4⟩ := trod_struct5k Tryz.underlying50 h
  rw [kcells50] at hl
  match cs, hl with
  | [c0, c1, c2, c3, c4], _ =>
    obtain ⟨k, e0, r0, w0⟩ := DataW.trod_int Tryz.underlying3 h0
    obtain ⟨l, e1, r1, w1⟩ := DataW.trod_int Tryz.underlying3 h1
    obtain ⟨s2, e2, r2, w2⟩ := DataW.trod_string Tryz.underlying9 h2
    obtain ⟨s3, e3, r3, w3⟩ := DataW.trod_string Tryz.underlying9 h3
    obtain ⟨xs4, a4, cap4, e4, s4, p4, lc4, cm4⟩ := open_numsk h4
    simp [kcells3, kcells9, kcells26] at e0 e1 e2 e3 e4
    subst e0 e1 e2 e3 e4
    exact ⟨⟨k, l, s2, s3, xs4⟩, a4, cap4, rfl, ⟨kwf_int w0, kwf_int w1, w2, p4⟩, s4, lc4, cm4⟩
set_option maxRecDepth 100000 in
/-- A script, opened. -/
theorem open_opsk {H : Type} {enc : TypeId × Value → H} {W : World} {base n : Nat} {sp : Nat → Bool} {held : Bool} {a0 : Option Addr} {len cap : Nat} {x : DataW H × List MemPlace} (h : DataW.trod enc Tryz.prog W base sp held n 46 [.slice a0 len cap] = some x) :
    ∃ l : List Ko, l.length = len ∧ len ≤ maxLen ∧ InK W a0 l ∧ ∀ o ∈ l, o.Ok := by
  rcases Go.Deep.open_slice Tryz.underlying46 h with ⟨hcs, hx⟩ | ⟨a, len', cap', m, fn, D, Pl, hcs, _, hlc, hcm, hm, hx, hel⟩
  · simp at hcs
    exact ⟨[], by simp [hcs.2.1], by unfold maxLen; omega, fun e => absurd rfl e, by simp⟩
  · simp at hcs
    obtain ⟨rfl, rfl, rfl⟩ := hcs
    rcases Nat.eq_zero_or_pos len with h0 | hpos
    · exact ⟨[], by simp [h0], by omega, fun e => absurd rfl e, by simp⟩
    · obtain ⟨g, o, spot⟩ := a
      rw [kcells50] at hel
      have hml : len ≤ m := by rw [hm]; split <;> omega
      have each : ∀ i, ∃ t : Ko, i < len → t.Ok ∧ ∃ pa pq, (∀ (j : Nat) (v : Value), (koV t pa pq)[j]? = some v → W.cell? (((⟨g, o, spot⟩ : Addr).add (i * 5)).add j) = some v) ∧ LowK W pa t.picks ∧ t.picks.length ≤ pq ∧ pq ≤ maxLen := fun i => by
        by_cases hi : i < len
        · obtain ⟨cs, h1, h2⟩ := hel i (by omega)
          obtain ⟨t, pa, pq, rfl, hk, hp, hq, hm'⟩ := ko_of h2
          refine ⟨t, fun _ => ⟨hk, pa, pq, fun j v hv => ?_, hp, hq, hm'⟩⟩
          have hj := (List.getElem?_eq_some_iff.1 hv).1
          rw [(World.cells?_some h1).2.2 j (by simpa [koV] using hj)]; exact hv
        · exact ⟨⟨0, 0, ⟨#[]⟩, ⟨#[]⟩, []⟩, fun h => absurd h hi⟩
      obtain ⟨F, hF⟩ := Classical.axiomOfChoice each
      have hspot : spot = none := by
        obtain ⟨_, pa, pq, hc, _⟩ := hF 0 hpos
        have hc0 : W.cell? (((⟨g, o, spot⟩ : Addr).add (0 * 5)).add 0) = some (.int .i64 (F 0).kind) := hc 0 _ rfl
        simpa [Addr.add] using World.cell?_spot hc0
      subst hspot
      have hg : g < W.heap.size := by
        obtain ⟨_, pa, pq, hc, _⟩ := hF 0 hpos
        have hc0 : W.cell? (((⟨g, o, none⟩ : Addr).add (0 * 5)).add 0) = some (.int .i64 (F 0).kind) := hc 0 _ rfl
        rw [kaddr_plus, kaddr_plus] at hc0
        exact World.block_lt_of_cell? W _ hc0
      refine ⟨(List.range len).map F, by simp, by omega, fun _ => ⟨g, o, rfl, hg, fun i t hi => ?_⟩, fun t ht => ?_⟩
      · have hi' : i < len := by have := (List.getElem?_eq_some_iff.1 hi).1; simpa using this
        rw [List.getElem?_map, List.getElem?_range hi'] at hi
        obtain rfl := Option.some.inj hi
        obtain ⟨_, pa, pq, hc, hp, hq, hm'⟩ := hF i hi'
        have c0 := hc 0 _ rfl
        have c1 := hc 1 _ rfl
        have c2 := hc 2 _ rfl
        have c3 := hc 3 _ rfl
        have c4 := hc 4 _ rfl
        rw [kaddr_plus, kaddr_plus] at c0 c1 c2 c3 c4
        refine ⟨pa, pq, fun W' hb => ⟨?_, ?_, ?_, ?_, ?_⟩, hq, hm', fun W' N hN hb => hp.ints N hN hb⟩
        · exact (hb.cell (p := ⟨g, o + i * 5, none⟩) hg).trans c0
        · exact (hb.cell (p := ⟨g, o + i * 5 + 1, none⟩) hg).trans c1
        · exact (hb.cell (p := ⟨g, o + i * 5 + 2, none⟩) hg).trans c2
        · exact (hb.cell (p := ⟨g, o + i * 5 + 3, none⟩) hg).trans c3
        · exact (hb.cell (p := ⟨g, o + i * 5 + 4, none⟩) hg).trans c4
      · obtain ⟨i, hi, rfl⟩ := List.mem_map.1 ht
        exact (hF i (List.mem_range.1 hi)).1
end Go.Proofs.YtfmmholkeadejaaGreatDoor
