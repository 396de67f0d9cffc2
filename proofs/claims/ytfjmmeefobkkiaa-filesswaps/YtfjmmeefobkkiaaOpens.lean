/- Lists of texts and of numbers that came in, opened; how great they are. -/
import Derived.Test.YtfjmmeefobkkiaaMem
import Derived.SliceStrings
import Derived.Deep.Slices
import Derived.SizedLaws
import Derived.ProofKit
import Derived.Carry
namespace Go.Proofs.Ytfjmmeefobkkiaa
open Go.ChangeShapes Go.WideShapes Go.ChangeAt Go.RowKit

theorem ownF : ownKnob Try.prog.godebug = none := by kernel_rfl
theorem laidOutF : laidOutB Try.prog = true := by kernel_rfl
theorem cells9 : Try.prog.cellsOf 9 = 1 := by kernel_rfl
theorem cells3 : Try.prog.cellsOf 3 = 1 := by kernel_rfl
theorem wf_i64 {k : Int} (h : (Lit.int .i64 k).wf = true) : -9223372036854775808 ≤ k ∧ k < 9223372036854775808 := by
  have : (decide (IntKind.i64.min ≤ k) && decide (k ≤ IntKind.i64.max)) = true := h
  have hmin : IntKind.i64.min = -9223372036854775808 := by decide
  have hmax : IntKind.i64.max = 9223372036854775807 := by decide
  rw [hmin, hmax] at this
  simp at this
  omega
theorem addr_plus (b o i : Nat) : (⟨b, o, none⟩ : Addr).add i = ⟨b, o + i, none⟩ := by unfold Addr.add; split <;> simp_all
theorem weightsAll_mem {H : Type} {P : Program} {e : TypeId} : ∀ {l : List (DataW H)} {d : DataW H}, d ∈ l → ∀ n ∈ d.weights P e, n ∈ DataW.weightsAll P e l
  | d' :: r, d, hd, n, hn => by
    simp only [DataW.weightsAll, List.mem_append]
    rcases List.mem_cons.1 hd with rfl | h
    · exact Or.inl hn
    · exact Or.inr (weightsAll_mem h n hn)
theorem sized_text {H : Type} {P : Program} {ts : List TypeId} {ds : List (DataW H)} (h : (DataW.weightsEach P ts ds).all (· ≤ reachBytes) = true) {j : Nat} {t e : TypeId} {elems spare : List (DataW H)} {bs : List UInt8}
    (ht : ts[j]? = some t) (hd : ds[j]? = some (.slice elems spare)) (hu : P.underlying t = some (.slice e)) (hx : DataW.lit (.string bs) ∈ elems) : bs.length ≤ reachBytes := by
  refine of_decide_eq_true (List.all_eq_true.1 h _ (DataW.weights_mem_each ht hd _ ?_))
  simp only [DataW.weights, hu, List.mem_cons, List.mem_append]
  exact Or.inr (Or.inl (weightsAll_mem hx _ (by simp [DataW.weights])))
theorem open_texts {H : Type} {enc : TypeId × Value → H} {W : World} {base n : Nat} {sp : Nat → Bool} {held : Bool} {a0 : Option Addr} {len cap : Nat} {x : DataW H × List MemPlace} (h : DataW.trod enc Try.prog W base sp held n 22 [.slice a0 len cap] = some x) :
    ∃ xs : List ByteArray, xs.length = len ∧ StrsAt W W.heap.size a0 xs ∧ len ≤ cap ∧ cap ≤ maxLen ∧ (xs = [] ∨ ∃ rest, x.1 = .slice (strs xs) rest) := by
  rcases open_strings Try.underlying22 Try.underlying9 cells9 h with ⟨hcs, hx⟩ | ⟨a, len', cap', zs, hcs, _, hlc, hcm, hz, hx, hcell, hsz⟩
  · simp at hcs
    obtain ⟨_, rfl, rfl⟩ := hcs
    exact ⟨[], rfl, .inl rfl, Nat.le_refl _, by unfold maxLen; omega, .inl rfl⟩
  · simp at hcs
    obtain ⟨rfl, rfl, rfl⟩ := hcs
    subst hx
    have hlz : len ≤ zs.length := by rw [hz]; split <;> omega
    have hlen : (zs.take len).length = len := by rw [List.length_take]; omega
    refine ⟨zs.take len, hlen, ?_, hlc, hcm, .inr ⟨_, rfl⟩⟩
    rcases Nat.eq_zero_or_pos len with h0 | hpos
    · exact .inl (by rw [hlen]; exact h0)
    · obtain ⟨g, o, spot⟩ := a
      have hspot : spot = none := by simpa [Addr.add] using World.cell?_spot (hcell 0 (by omega))
      subst hspot
      have hg : g < W.heap.size := by
        have := hcell 0 (by omega)
        rw [addr_plus] at this
        exact World.block_lt_of_cell? W _ this
      refine .inr ⟨g, o, rfl, hg, .inl hg, fun i y hy => ?_⟩
      have hi' : i < len := by have := (List.getElem?_eq_some_iff.1 hy).1; omega
      have := hcell i (by omega)
      rw [addr_plus] at this
      rw [this, List.getD_eq_getElem?_getD]
      rw [List.getElem?_take_of_lt hi'] at hy
      rw [hy]; rfl
theorem open_nums {H : Type} {enc : TypeId × Value → H} {W : World} {base n : Nat} {sp : Nat → Bool} {held : Bool} {a0 : Option Addr} {len cap : Nat} {x : DataW H × List MemPlace} (h : DataW.trod enc Try.prog W base sp held n 23 [.slice a0 len cap] = some x) :
    ∃ ns : List Int, ns.length = len ∧ IntsAt W W.heap.size a0 ns ∧ (∀ y ∈ ns, -9223372036854775808 ≤ y ∧ y < 9223372036854775808) ∧ len ≤ cap ∧ cap ≤ maxLen := by
  rcases Go.Deep.open_slice1 Try.underlying23 cells3 h with ⟨hcs, hx⟩ | ⟨a, len', cap', m, fn, V, D, Pl, hcs, _, hlc, hcm, hm, hx, hel⟩
  · simp at hcs
    obtain ⟨_, rfl, rfl⟩ := hcs
    exact ⟨[], rfl, .inl rfl, by simp, Nat.le_refl _, by unfold maxLen; omega⟩
  · simp at hcs
    obtain ⟨rfl, rfl, rfl⟩ := hcs
    rcases Nat.eq_zero_or_pos len with h0 | hpos
    · exact ⟨[], by simp [h0], .inl rfl, by simp, hlc, hcm⟩
    · obtain ⟨g, o, spot⟩ := a
      have hml : len ≤ m := by rw [hm]; split <;> omega
      have each : ∀ i, ∃ y : Int, i < len → (-9223372036854775808 ≤ y ∧ y < 9223372036854775808) ∧ W.cell? ((⟨g, o, spot⟩ : Addr).add i) = some (.int .i64 y) := fun i => by
        by_cases hi : i < len
        · obtain ⟨h1, h2⟩ := hel i (by omega)
          obtain ⟨q, e, _, wq⟩ := DataW.trod_int Try.underlying3 h2
          simp at e
          exact ⟨q, fun _ => ⟨wf_i64 wq, by rw [h1, e]⟩⟩
        · exact ⟨0, fun h => absurd h hi⟩
      obtain ⟨F, hF⟩ := Classical.axiomOfChoice each
      have hspot : spot = none := by simpa [Addr.add] using World.cell?_spot (hF 0 hpos).2
      subst hspot
      have hg : g < W.heap.size := by
        have := (hF 0 hpos).2
        rw [addr_plus] at this
        exact World.block_lt_of_cell? W _ this
      refine ⟨(List.range len).map F, by simp, .inr ⟨g, o, rfl, hg, .inl hg, fun i y hy => ?_⟩, fun y hy => ?_, hlc, hcm⟩
      · have hi' : i < len := by have := (List.getElem?_eq_some_iff.1 hy).1; simpa using this
        rw [List.getElem?_map, List.getElem?_range hi'] at hy
        obtain rfl := Option.some.inj hy
        have := (hF i hi').2
        rwa [addr_plus] at this
      · obtain ⟨i, hi, rfl⟩ := List.mem_map.1 hy
        exact (hF i (List.mem_range.1 hi)).1
end Go.Proofs.Ytfjmmeefobkkiaa
