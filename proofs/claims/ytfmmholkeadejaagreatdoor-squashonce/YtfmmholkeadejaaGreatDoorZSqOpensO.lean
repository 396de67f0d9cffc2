/- A script of SquashOnce and SquashCounts that came in, opened. -/
import Derived.Test.YtfmmholkeadejaaGreatDoorZCkOpensK
namespace Go.Proofs.YtfmmholkeadejaaGreatDoor
open Go.ChangeShapes Go.WideShapes Go.ChangeAt Go.WideMaps Go.WideElems Go.RowKit

theorem kcells84 : Tryz.prog.cellsOf 84 = 5 := by kernel_rfl
set_option maxRecDepth 100000 in
theorem ko_of5 {H : Type} {enc : TypeId × Value → H} {W : World} {base n : Nat} {sp : Nat → Bool} {held : Bool} {cs : List Value} {y : DataW H × List MemPlace} (h : DataW.trod enc Tryz.prog W base sp held n 84 cs = some y) :
    ∃ (o : Ko) (a : Option Addr) (q : Nat), cs = koV o a q ∧ o.Ok ∧ LowK W a o.picks ∧ o.picks.length ≤ q ∧ q ≤ maxLen := by
  obtain ⟨y0, y1, y2, y3, y4, m, hl, h0, h1, h2, h3, h4⟩ := trod_struct5k Tryz.underlying84 h
  rw [kcells84] at hl
  match cs, hl with
  | [c0, c1, c2, c3, c4], _ =>
    obtain ⟨k, e0, r0, w0⟩ := DataW.trod_int Tryz.underlying3 h0
    obtain ⟨l, e1, r1, w1⟩ := DataW.trod_int Tryz.underlying3 h1
    obtain ⟨s2, e2, r2, w2⟩ := DataW.trod_string Tryz.underlying9 h2
    obtain ⟨s3, e3, r3, w3⟩ := DataW.trod_string Tryz.underlying9 h3
    obtain ⟨xs4, a4, cap4, e4, s4, p4, lc4, cm4⟩ := open_numsk h4
    simp [kcells3, kcells9, kcells26] at e0 e1 e2 e3 e4
    subst e0 e1 e2 e3 e4
    exact ⟨⟨k, l, s2, s3, xs4⟩, a4, cap4, rfl, ⟨kwf_int w0, kwf_int w1, w2, p4⟩, s4, lc4, cm4⟩
set_option maxRecDepth 100000 in
/-- A script, opened. -/
theorem open_ops5 {H : Type} {enc : TypeId × Value → H} {W : World} {base n : Nat} {sp : Nat → Bool} {held : Bool} {a0 : Option Addr} {len cap : Nat} {x : DataW H × List MemPlace} (h : DataW.trod enc Tryz.prog W base sp held n 83 [.slice a0 len cap] = some x) :
    ∃ l : List Ko, l.length = len ∧ len ≤ maxLen ∧ InK W a0 l ∧ ∀ o ∈ l, o.Ok := by
  rcases Go.Deep.open_slice Tryz.underlying83 h with ⟨hcs, hx⟩ | ⟨a, len', cap', m, fn, D, Pl, hcs, _, hlc, hcm, hm, hx, hel⟩
  · simp at hcs
    exact ⟨[], by simp [hcs.2.1], by unfold maxLen; omega, fun e => absurd rfl e, by simp⟩
  · simp at hcs
    obtain ⟨rfl, rfl, rfl⟩ := hcs
    rcases Nat.eq_zero_or_pos len with h0 | hpos
    · exact ⟨[], by simp [h0], by omega, fun e => absurd rfl e, by simp⟩
    · obtain ⟨g, o, spot⟩ := a
      rw [kcells84] at hel
      have hml : len ≤ m := by rw [hm]; split <;> omega
      have each : ∀ i, ∃ t : Ko, i < len → t.Ok ∧ ∃ pa pq, (∀ (j : Nat) (v : Value), (koV t pa pq)[j]? = some v → W.cell? (((⟨g, o, spot⟩ : Addr).add (i * 5)).add j) = some v) ∧ LowK W pa t.picks ∧ t.picks.length ≤ pq ∧ pq ≤ maxLen := fun i => by
        by_cases hi : i < len
        · obtain ⟨cs, h1, h2⟩ := hel i (by omega)
          obtain ⟨t, pa, pq, rfl, hk, hp, hq, hm'⟩ := ko_of5 h2
          refine ⟨t, fun _ => ⟨hk, pa, pq, fun j v hv => ?_, hp, hq, hm'⟩⟩
          have hj := (List.getElem?_eq_some_iff.1 hv).1
          rw [(World.cells?_some h1).2.2 j (by simpa [koV] using hj)]; exact hv
        · exact ⟨⟨0, 0, ⟨#[]⟩, ⟨#[]⟩, []⟩, fun h => absurd h hi⟩
      obtain ⟨F, hF⟩ := Classical.axiomOfChoice each
      have hspot : spot = none := by
        obtain ⟨_, pa, pq, hc, _⟩ := hF 0 hpos
        have hc0 : W.cell? (((⟨g, o, spot⟩ : Addr).add (0 * 5)).add 0) = some (.int .i64 (F 0).kind) := hc 0 _ rfl
        simpa [Addr.add] using World.cell?_spot hc0
      subst hspot
      have hg : g < W.heap.size := by
        obtain ⟨_, pa, pq, hc, _⟩ := hF 0 hpos
        have hc0 : W.cell? (((⟨g, o, none⟩ : Addr).add (0 * 5)).add 0) = some (.int .i64 (F 0).kind) := hc 0 _ rfl
        rw [kaddr_plus, kaddr_plus] at hc0
        exact World.block_lt_of_cell? W _ hc0
      refine ⟨(List.range len).map F, by simp, by omega, fun _ => ⟨g, o, rfl, hg, fun i t hi => ?_⟩, fun t ht => ?_⟩
      · have hi' : i < len := by have := (List.getElem?_eq_some_iff.1 hi).1; simpa using this
        rw [List.getElem?_map, List.getElem?_range hi'] at hi
        obtain rfl := Option.some.inj hi
        obtain ⟨_, pa, pq, hc, hp, hq, hm'⟩ := hF i hi'
        have c0 := hc 0 _ rfl
        have c1 := hc 1 _ rfl
        have c2 := hc 2 _ rfl
        have c3 := hc 3 _ rfl
        have c4 := hc 4 _ rfl
        rw [kaddr_plus, kaddr_plus] at c0 c1 c2 c3 c4
        refine ⟨pa, pq, fun W' hb => ⟨?_, ?_, ?_, ?_, ?_⟩, hq, hm', fun W' N hN hb => hp.ints N hN hb⟩
        · exact (hb.cell (p := ⟨g, o + i * 5, none⟩) hg).trans c0
        · exact (hb.cell (p := ⟨g, o + i * 5 + 1, none⟩) hg).trans c1
        · exact (hb.cell (p := ⟨g, o + i * 5 + 2, none⟩) hg).trans c2
        · exact (hb.cell (p := ⟨g, o + i * 5 + 3, none⟩) hg).trans c3
        · exact (hb.cell (p := ⟨g, o + i * 5 + 4, none⟩) hg).trans c4
      · obtain ⟨i, hi, rfl⟩ := List.mem_map.1 ht
        exact (hF i (List.mem_range.1 hi)).1
end Go.Proofs.YtfmmholkeadejaaGreatDoor
