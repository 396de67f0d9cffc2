/- A list of integers that came in: each is one that an integer can be. -/
import Derived.Test.YtlliijodilnlgaaRgOpen
namespace Go.Proofs.Ytlliijodilnlgaa
open Go.ChangeShapes Go.WideShapes Go.ChangeAt Go.WideMaps Go.WideElems Go.RowKit
theorem open_intsW {H : Type} {enc : TypeId × Value → H} {W : World} {base n : Nat} {sp : Nat → Bool} {held : Bool} {v : Value} {x : DataW H × List MemPlace} (h : DataW.trod enc Try.prog W base sp held n 24 [v] = some x) :
    ∃ l : List Int, Ints W.heap.size W v l ∧ (∀ y ∈ l, -9223372036854775808 ≤ y) ∧ (l.length = 0 ∨ ∃ elems rest : List (DataW H), x.1 = .slice elems rest ∧ elems.length = l.length) := by
  rcases Go.Deep.open_slice Try.underlying24 h with ⟨hcs, hx⟩ | ⟨a, len, cap, m, fn, D, Pl, hcs, _, hlc, hcm, hm, hx, hel⟩
  · simp at hcs
    subst hcs
    exact ⟨[], ⟨none, 0, rfl, Nat.le_refl _, Or.inl rfl⟩, (fun _ hy => nomatch hy), Or.inl rfl⟩
  · simp at hcs
    subst hcs
    rcases Nat.eq_zero_or_pos len with h0 | hpos
    · subst h0
      exact ⟨[], ⟨some a, cap, rfl, Nat.zero_le _, Or.inl rfl⟩, (fun _ hy => nomatch hy), Or.inl rfl⟩
    · rw [cells3] at hel
      obtain ⟨g, o, spot⟩ := a
      have hml : len ≤ m := by rw [hm]; split <;> omega
      have each : ∀ i, ∃ t : Int, -9223372036854775808 ≤ t ∧ (i < len → W.cell? (((⟨g, o, spot⟩ : Addr).add (i * 1)).add 0) = some (.int .i64 t)) := fun i => by
        by_cases hi : i < len
        · obtain ⟨cs, h1, h2⟩ := hel i (by omega)
          have hc := World.cells?_some h1
          obtain ⟨t, et, _, hw⟩ := DataW.trod_int Try.underlying3 h2
          refine ⟨t, (wf_int hw).1, fun _ => ?_⟩
          rw [hc.2.2 0 (by omega), et]; rfl
        · exact ⟨0, by omega, fun h => absurd h hi⟩
      obtain ⟨F, hF⟩ := Classical.axiomOfChoice each
      have hc0 := (hF 0).2 hpos
      have hspot : spot = none := by simpa [Addr.add] using World.cell?_spot hc0
      subst hspot
      have hll : ((List.range len).map F).length = len := by simp
      refine ⟨(List.range len).map F, ⟨some ⟨g, o, none⟩, cap, by rw [hll], by rw [hll]; omega, Or.inr ⟨g, o, rfl, ?_, fun j hj => ?_⟩⟩, fun y hy => ?_, Or.inr ⟨(List.range len).map D, _, by rw [hx], by simp⟩⟩
      · rw [addr_plus, addr_plus] at hc0
        exact World.block_lt_of_cell? W _ hc0
      · have hj' : j < len := by simpa using hj
        have h1 := (hF j).2 hj'
        rw [addr_plus, addr_plus, Nat.mul_one, Nat.add_zero] at h1
        rw [h1]
        simp [List.getD_eq_getElem?_getD, hj']
      · obtain ⟨j, _, rfl⟩ := List.mem_map.1 hy
        exact (hF j).1
end Go.Proofs.Ytlliijodilnlgaa
