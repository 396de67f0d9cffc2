/- What came in, opened: rings, three of them. -/
import Derived.ProofKit
import Derived.OpenShut
import Derived.ChangeMaps5
import Derived.SizedLaws
import Derived.Laws.IdiomArrays
import Derived.Lib.SmallJoins
import Derived.Deep.Strs
import Derived.Deep.Slices
import Derived.Test.YthmnjebmnocoiaaGreatYA6
import Derived.Test.YthmnjebmnocoiaaGreatRows
namespace Go.Proofs.YthmnjebmnocoiaaGreat
open Go.ChangeShapes Go.WideShapes Go.ChangeAt Go.WideMaps Go.WideElems Go.RowKit

theorem ownM : ownKnob Tryz.prog.godebug = none := by kernel_rfl
theorem laidOutM : laidOutB Tryz.prog = true := by kernel_rfl
theorem ocells3 : Tryz.prog.cellsOf 3 = 1 := by kernel_rfl
theorem ocells23 : Tryz.prog.cellsOf 23 = 1 := by kernel_rfl
theorem ocells22 : Tryz.prog.cellsOf 22 = 1 := by kernel_rfl
theorem ocells35 : Tryz.prog.cellsOf 53 = 3 := by kernel_rfl
theorem ocells25 : Tryz.prog.cellsOf 25 = 2 := by kernel_rfl
theorem ocells26 : Tryz.prog.cellsOf 26 = 16 := by kernel_rfl
theorem ocells28 : Tryz.prog.cellsOf 28 = 17 := by kernel_rfl
theorem ofields35 : ∃ f0 f1 f2 : Field, Tryz.prog.underlying 53 = some (.struct #[f0, f1, f2]) ∧ f0.type = 3 ∧ f0.offset = 0 ∧ f1.type = 3 ∧ f1.offset = 1 ∧ f2.type = 23 ∧ f2.offset = 2 := ⟨_, _, _, Tryz.underlying53, rfl, rfl, rfl, rfl, rfl, rfl⟩
theorem ofields25 : ∃ f0 f1 : Field, Tryz.prog.underlying 25 = some (.struct #[f0, f1]) ∧ f0.type = 3 ∧ f0.offset = 0 ∧ f1.type = 23 ∧ f1.offset = 1 := ⟨_, _, Tryz.underlying25, rfl, rfl, rfl, rfl⟩
theorem ofields28 : ∃ f0 f1 : Field, Tryz.prog.underlying 28 = some (.struct #[f0, f1]) ∧ f0.type = 22 ∧ f0.offset = 0 ∧ f1.type = 26 ∧ f1.offset = 1 := ⟨_, _, Tryz.underlying28, rfl, rfl, rfl, rfl⟩
theorem wf_nat {k : Int} (h : (Lit.int .u64 k).wf = true) : ∃ n : Nat, n < 18446744073709551616 ∧ k = (n : Int) := by
  have : (decide (IntKind.u64.min ≤ k) && decide (k ≤ IntKind.u64.max)) = true := h
  have hmin : IntKind.u64.min = 0 := by decide
  have hmax : IntKind.u64.max = 18446744073709551615 := by decide
  rw [hmin, hmax] at this
  simp at this
  exact ⟨k.toNat, by omega, by omega⟩
theorem wf_int {k : Int} (h : (Lit.int .i64 k).wf = true) : I64 k := by
  have : (decide (IntKind.i64.min ≤ k) && decide (k ≤ IntKind.i64.max)) = true := h
  have hmin : IntKind.i64.min = -9223372036854775808 := by decide
  have hmax : IntKind.i64.max = 9223372036854775807 := by decide
  rw [hmin, hmax] at this
  simp at this
  exact ⟨this.1, this.2⟩
theorem addr_plus (b o i : Nat) : (⟨b, o, none⟩ : Addr).add i = ⟨b, o + i, none⟩ := by simp [Addr.add]
theorem open_rows {H : Type} {enc : TypeId × Value → H} {W : World} {base n : Nat} {sp : Nat → Bool} {held : Bool} {v : Value} {x : DataW H × List MemPlace} {t e : TypeId} (ht : Tryz.prog.underlying t = some (.slice e)) (size : Nat) (hsz : 0 < size) (hc : Tryz.prog.cellsOf e = size) {α : Type} [Inhabited α] (enc' : α → List Value) (hlen : ∀ a, (enc' a).length = size) (ok : α → Prop)
    (hel : ∀ n cs y, DataW.trod enc Tryz.prog W base sp held n e cs = some y → cs.length = size → ∃ a, cs = enc' a ∧ ok a) (h : DataW.trod enc Tryz.prog W base sp held n t [v] = some x) :
    ∃ l : List α, l.length ≤ maxLen ∧ (∀ a ∈ l, ok a) ∧ ∃ a cap, v = .slice a l.length cap ∧ (l.length = 0 ∨ ∃ g o, a = some ⟨g, o, none⟩ ∧ g < W.heap.size ∧ ∀ i c, l[i]? = some c → ∀ j u, (enc' c)[j]? = some u → W.cell? ⟨g, o + i * size + j, none⟩ = some u) := by
  rcases Go.Deep.open_slice ht h with ⟨hcs, hx⟩ | ⟨a, len, cap, m, fn, D, Pl, hcs, _, hlc, hcm, hm, hx, hels⟩
  · simp at hcs
    subst hcs
    exact ⟨[], Nat.zero_le _, by simp, none, 0, rfl, .inl rfl⟩
  · simp at hcs
    subst hcs
    rcases Nat.eq_zero_or_pos len with h0 | hpos
    · subst h0
      exact ⟨[], Nat.zero_le _, by simp, some a, cap, rfl, .inl rfl⟩
    · obtain ⟨g, o, spot⟩ := a
      rw [hc] at hels
      have hml : len ≤ m := by rw [hm]; split <;> omega
      have each : ∀ i, ∃ c : α, i < len → ok c ∧ ∀ (j : Nat) (u : Value), (enc' c)[j]? = some u → W.cell? (((⟨g, o, spot⟩ : Addr).add (i * size)).add j) = some u := fun i => by
        by_cases hi : i < len
        · obtain ⟨cs, h1, h2⟩ := hels i (by omega)
          obtain ⟨c, rfl, hok⟩ := hel _ _ _ h2 (World.cells?_some h1).2.1
          refine ⟨c, fun _ => ⟨hok, fun j u hu => ?_⟩⟩
          have hj := (List.getElem?_eq_some_iff.1 hu).1
          rw [(World.cells?_some h1).2.2 j (by rw [hlen] at hj; exact hj)]; exact hu
        · exact ⟨default, fun h => absurd h hi⟩
      obtain ⟨F, hF⟩ := Classical.axiomOfChoice each
      have hc0 : ∃ u, W.cell? (((⟨g, o, spot⟩ : Addr).add (0 * size)).add 0) = some u := by
        have h0 : 0 < (enc' (F 0)).length := by rw [hlen]; exact hsz
        exact ⟨_, (hF 0 hpos).2 0 _ (List.getElem?_eq_getElem h0)⟩
      obtain ⟨u0, hc0⟩ := hc0
      have hspot : spot = none := by simpa [Addr.add] using World.cell?_spot hc0
      subst hspot
      rw [addr_plus, addr_plus] at hc0
      have hll : ((List.range len).map F).length = len := by simp
      refine ⟨(List.range len).map F, by rw [hll]; omega, fun c hcm => ?_, some ⟨g, o, none⟩, cap, by rw [hll], .inr ⟨g, o, rfl, World.block_lt_of_cell? W _ hc0, fun i c hi j u hu => ?_⟩⟩
      · obtain ⟨i, hi, rfl⟩ := List.mem_map.1 hcm
        exact (hF i (List.mem_range.1 hi)).1
      · have hi' : i < len := by have := (List.getElem?_eq_some_iff.1 hi).1; simpa using this
        rw [List.getElem?_map, List.getElem?_range hi'] at hi
        obtain rfl := Option.some.inj hi
        have := (hF i hi').2 j u hu
        rw [addr_plus, addr_plus] at this
        exact this
theorem mb_of {H : Type} {enc : TypeId × Value → H} {W : World} {base n : Nat} {sp : Nat → Bool} {held : Bool} {cs : List Value} {y : DataW H × List MemPlace} (h : DataW.trod enc Tryz.prog W base sp held n 53 cs = some y) (hl : cs.length = 3) : ∃ m : Mb, cs = mbV m ∧ m.2.2 < 18446744073709551616 := by
  obtain ⟨f0, f1, f2, hu, t0, o0, t1, o1, t2, o2⟩ := ofields35
  obtain ⟨y0, y1, y2, m, _, _, h0, h1, h2⟩ := Go.Deep.trod_struct3 hu h
  rw [t0, o0, ocells3] at h0
  rw [t1, o1, ocells3] at h1
  rw [t2, o2, ocells23] at h2
  match cs, hl with
  | [a, b, c], _ =>
    obtain ⟨p, ep, _, _⟩ := DataW.trod_int Tryz.underlying3 h0
    obtain ⟨q, eq, _, _⟩ := DataW.trod_int Tryz.underlying3 h1
    obtain ⟨r, er, _, wr⟩ := DataW.trod_int Tryz.underlying23 h2
    simp at ep eq er
    obtain ⟨r', hr, rfl⟩ := wf_nat wr
    exact ⟨(p, q, r'), by rw [ep, eq, er]; rfl, hr⟩
theorem ow_of {H : Type} {enc : TypeId × Value → H} {W : World} {base n : Nat} {sp : Nat → Bool} {held : Bool} {cs : List Value} {y : DataW H × List MemPlace} (h : DataW.trod enc Tryz.prog W base sp held n 25 cs = some y) (hl : cs.length = 2) : ∃ m : Ow, cs = owV m ∧ m.2 < 18446744073709551616 := by
  obtain ⟨f0, f1, hu, t0, o0, t1, o1⟩ := ofields25
  obtain ⟨y0, y1, m, _, _, h0, h1⟩ := trod_struct2 hu h
  rw [t0, o0, ocells3] at h0
  rw [t1, o1, ocells23] at h1
  match cs, hl with
  | [a, b], _ =>
    obtain ⟨p, ep, _, _⟩ := DataW.trod_int Tryz.underlying3 h0
    obtain ⟨r, er, _, wr⟩ := DataW.trod_int Tryz.underlying23 h1
    simp at ep er
    obtain ⟨r', hr, rfl⟩ := wf_nat wr
    exact ⟨(p, r'), by rw [ep, er]; rfl, hr⟩
theorem ownV_of : ∀ (k : Nat) (cs : List Value), cs.length = k * 2 → (∀ j, j < k → ∃ o : Ow, (cs.drop (j * 2)).take 2 = owV o ∧ o.2 < 18446744073709551616) → ∃ os : List Ow, os.length = k ∧ cs = ownV os ∧ ∀ o ∈ os, o.2 < 18446744073709551616
  | 0, cs, hl, _ => ⟨[], rfl, by obtain rfl : cs = [] := List.length_eq_zero_iff.1 (by simpa using hl); rfl, by simp⟩
  | k + 1, cs, hl, h => by
    obtain ⟨o, ho, hv⟩ := h 0 (by omega)
    obtain ⟨os, h1, h2, h3⟩ := ownV_of k (cs.drop 2) (by rw [List.length_drop]; omega) (fun j hj => by
      obtain ⟨o', q1, q2⟩ := h (j + 1) (by omega)
      refine ⟨o', ?_, q2⟩
      rw [List.drop_drop, show 2 + j * 2 = (j + 1) * 2 by omega]
      exact q1)
    refine ⟨o :: os, by simp [h1], ?_, by
      intro x hx
      rcases List.mem_cons.1 hx with rfl | hx
      · exact hv
      · exact h3 x hx⟩
    rw [Nat.zero_mul, List.drop_zero] at ho
    have := List.take_append_drop 2 cs
    rw [ho, h2] at this
    exact this.symm
theorem ring_of {H : Type} {enc : TypeId × Value → H} {W : World} {base n : Nat} {sp : Nat → Bool} {held : Bool} {cs : List Value} {y : DataW H × List MemPlace} (h : DataW.trod enc Tryz.prog W base sp held n 28 cs = some y) (hl : cs.length = 17) :
    ∃ (u : Value) (r : Rg), cs = ringC u r ∧ RingAt W.heap.size W u r ∧ RFit r := by
  obtain ⟨f0, f1, hu, t0, o0, t1, o1⟩ := ofields28
  obtain ⟨y0, y1, m, _, _, h0, h1⟩ := trod_struct2 hu h
  rw [t0, o0, ocells22] at h0
  rw [t1, o1, ocells26] at h1
  match cs, hl with
  | u :: rest, hl =>
    have hr : rest.length = 16 := by simpa using hl
    simp only [List.drop_zero, List.take_succ_cons, List.take_zero, List.drop_succ_cons] at h0 h1
    rw [List.take_of_length_le (Nat.le_of_eq hr)] at h1
    obtain ⟨l, hlm, hok, a, cap, rfl, hcell⟩ := open_rows (size := 3) (α := Mb) Tryz.underlying22 (by decide) ocells35 mbV (fun _ => rfl) (fun m => m.2.2 < 18446744073709551616) (fun _ _ _ q hq => mb_of q hq) h0
    obtain ⟨xs, m', _, _, hlx, hlen, hel⟩ := DataW.trod_array und26 h1
    obtain ⟨os, hos, hcs, hfit⟩ := ownV_of 8 rest hr (fun j hj => by
      have q := hel j hj
      rw [List.getElem?_eq_getElem (by omega), ocells25] at q
      exact ow_of q (by rw [List.length_take, List.length_drop]; omega))
    refine ⟨.slice a l.length cap, (l, os), by rw [hcs]; rfl, ⟨⟨a, cap, rfl, hlm, ?_⟩, hos⟩, ⟨hok, fun j hj => ?_⟩⟩
    · rcases hcell with h0 | ⟨g, o, e1, e2, e3⟩
      · exact Or.inl h0
      · exact Or.inr ⟨g, o, e1, e2, fun i m hm => ⟨e3 i m hm 0 _ rfl, e3 i m hm 1 _ rfl, e3 i m hm 2 _ rfl⟩⟩
    · show (os.getD j noO).2 < _
      rw [List.getD_eq_getElem?_getD, List.getElem?_eq_getElem (by omega)]
      exact hfit _ (List.getElem_mem _)
theorem okWide_arrM {P : Program} {w : World} {r : Reach} {base : Nat} {t e : TypeId} {n : Nat} {v : Value} (ht : P.underlying t = some (.array n e)) (h : Value.okWide P w r base t v) : ∃ cs, v = .agg cs ∧ cs.size = P.cellsOf t := by
  simp only [Value.okWide, ht] at h
  obtain ⟨cs, h1, h2, _⟩ := h
  exact ⟨cs, h1, h2⟩
end Go.Proofs.YthmnjebmnocoiaaGreat
