/- GossipMakes is proved: for whatever two rings, node and states the law's call returns true and its arguments read as they did. Conditions: none but the form's own. -/
import Derived.Test.YthmnjebmnocoiaaGreatYM7
import Derived.Test.YthmnjebmnocoiaaGreatYGsOpen
namespace Go.Proofs.YthmnjebmnocoiaaGreat
open Go.ChangeShapes Go.WideShapes Go.ChangeAt Go.WideMaps Go.WideElems Go.RowKit

theorem open_row3 {H : Type} {enc : TypeId × Value → H} {W : World} {base n : Nat} {sp : Nat → Bool} {held : Bool} {v : Value} {x : DataW H × List MemPlace} (h : DataW.trod enc Tryz.prog W base sp held n 30 [v] = some x) :
    ∃ l : List Int, Ints W.heap.size W v l ∧ l.length ≤ maxLen ∧ (l.length = 0 ∨ ∃ elems rest : List (DataW H), x.1 = .slice elems rest ∧ elems.length = l.length) := by
  rcases Go.Deep.open_slice Tryz.underlying30 h with ⟨hcs, hx⟩ | ⟨a, len, cap, m, fn, D, Pl, hcs, _, hlc, hcm, hm, hx, hel⟩
  · simp at hcs
    subst hcs
    exact ⟨[], ⟨none, 0, rfl, Nat.le_refl _, Or.inl rfl⟩, Nat.zero_le _, Or.inl rfl⟩
  · simp at hcs
    subst hcs
    rcases Nat.eq_zero_or_pos len with h0 | hpos
    · subst h0
      exact ⟨[], ⟨some a, cap, rfl, Nat.zero_le _, Or.inl rfl⟩, Nat.zero_le _, Or.inl rfl⟩
    · rw [ocells3] at hel
      obtain ⟨g, o, spot⟩ := a
      have hml : len ≤ m := by rw [hm]; split <;> omega
      have each : ∀ i, ∃ t : Int, i < len → W.cell? (((⟨g, o, spot⟩ : Addr).add (i * 1)).add 0) = some (.int .i64 t) := fun i => by
        by_cases hi : i < len
        · obtain ⟨cs, h1, h2⟩ := hel i (by omega)
          have hc := World.cells?_some h1
          obtain ⟨t, et, _, _⟩ := DataW.trod_int Tryz.underlying3 h2
          refine ⟨t, fun _ => ?_⟩
          rw [hc.2.2 0 (by omega), et]; rfl
        · exact ⟨0, fun h => absurd h hi⟩
      obtain ⟨F, hF⟩ := Classical.axiomOfChoice each
      have hc0 := hF 0 hpos
      have hspot : spot = none := by simpa [Addr.add] using World.cell?_spot hc0
      subst hspot
      have hll : ((List.range len).map F).length = len := by simp
      refine ⟨(List.range len).map F, ⟨some ⟨g, o, none⟩, cap, by rw [hll], by rw [hll]; omega, Or.inr ⟨g, o, rfl, ?_, fun j hj => ?_⟩⟩, by rw [hll]; omega, Or.inr ⟨(List.range len).map D, _, by rw [hx], by simp⟩⟩
      · rw [addr_plus, addr_plus] at hc0
        exact World.block_lt_of_cell? W _ hc0
      · have hj' : j < len := by simpa using hj
        have h1 := hF j hj'
        rw [addr_plus, addr_plus, Nat.mul_one, Nat.add_zero] at h1
        rw [h1]
        simp [List.getD_eq_getElem?_getD, hj']
theorem ounder29 : Tryz.prog.underlying 29 = some (.array 2 28) := by kernel_rfl
theorem ocells29 : Tryz.prog.cellsOf 29 = 34 := by kernel_rfl
set_option maxRecDepth 100000 in
theorem open_two {H : Type} {enc : TypeId × Value → H} {W : World} {base b0 : Nat} {sp : Nat → Bool} {held : Bool} {r : Reach} {v : Value} {d : DataW H} {p : List MemPlace} (hv : Value.okWide Tryz.prog W r b0 29 v) (h : DataW.Trod enc Tryz.prog W base sp held 29 v d p) :
    ∃ (ra rb : Rg) (ua ub : Value), v = .agg (ringC ua ra ++ ringC ub rb).toArray ∧ (RingAt W.heap.size W ua ra ∧ RFit ra) ∧ (RingAt W.heap.size W ub rb ∧ RFit rb) := by
  obtain ⟨⟨cs⟩, rfl, hsz⟩ := okWide_arrM ounder29 hv
  rw [ocells29] at hsz
  have hl : cs.length = 34 := hsz
  obtain ⟨fuel, hf⟩ := h
  have hf : DataW.trod enc Tryz.prog W base sp held fuel 29 cs = some (d, p) := hf
  obtain ⟨xs, m', _, _, hlx, hlen, hel⟩ := DataW.trod_array ounder29 hf
  have each : ∀ j, j < 2 → ∃ (u : Value) (r : Rg), (cs.drop (j * 17)).take 17 = ringC u r ∧ RingAt W.heap.size W u r ∧ RFit r := fun j hj => by
    have q := hel j hj
    rw [List.getElem?_eq_getElem (by omega), ocells28] at q
    exact ring_of q (by rw [List.length_take, List.length_drop]; omega)
  obtain ⟨ua, ra, ea, qa⟩ := each 0 (by omega)
  obtain ⟨ub, rb, eb, qb⟩ := each 1 (by omega)
  refine ⟨ra, rb, ua, ub, ?_, qa, qb⟩
  rw [← ea, ← eb]
  have h1 := List.take_append_drop 17 cs
  have h3 : (cs.drop 17).take 17 = cs.drop 17 := List.take_of_length_le (by rw [List.length_drop]; omega)
  rw [Nat.zero_mul, Nat.one_mul, List.drop_zero, h3, h1]
set_option maxRecDepth 100000 in
theorem open_int {H : Type} {enc : TypeId × Value → H} {W : World} {base b0 : Nat} {sp : Nat → Bool} {held : Bool} {r : Reach} {v : Value} {d : DataW H} {p : List MemPlace} (hv : Value.okWide Tryz.prog W r b0 3 v) (h : DataW.Trod enc Tryz.prog W base sp held 3 v d p) : ∃ n : Int, v = .int .i64 n ∧ I64 n := by
  obtain ⟨n, rfl⟩ := okWide_int Tryz.underlying3 hv
  obtain ⟨fuel, hf⟩ := h
  have hf : DataW.trod enc Tryz.prog W base sp held fuel 3 [.int .i64 n] = some (d, p) := hf
  obtain ⟨k, ek, _, wk⟩ := DataW.trod_int Tryz.underlying3 hf
  simp at ek
  exact ⟨n, rfl, by rw [ek]; exact wf_int wk⟩
set_option maxRecDepth 100000 in
theorem gossipMakes_lifted (os : Os) (started : os.Started) (H : Type) (enc : TypeId × Value → H) :
    ReturnsInHanded {} Tryz.checked os 3 .any (Rows.gossipMakesSpec.pre6 enc Tryz.prog Tryz.f3 Rows.gossipMakesRow.domain false) (Rows.gossipMakesSpec.post enc Tryz.prog Tryz.f3 false true false false) := by
  refine returnsInHanded_of_change (C := Tryz.checked) ownM started (by kernel_rfl) Tryz.func3
    (ChangeSpec.witness6 (enc := enc) (C := Tryz.checked) false ⟨#[], #[.agg (ringC (.slice none 0 0) ([], noOs) ++ ringC (.slice none 0 0) ([], noOs)).toArray, .int .i64 0, .slice none 0 0], []⟩ 8 (by kernel_rfl) (by kernel_rfl) (by kernel_rfl) (by kernel_rfl)) ?_
  intro W base args ds gs before hval0 hW _ _
  have hval : ∀ (j : Nat) t v, Tryz.f3.params[j]? = some t → args[j]? = some v → Value.okWide Tryz.prog W .any base t v := hval0
  have hW' := hW
  obtain ⟨p, q, hA0, hV, rfl, hfz, hnd⟩ := hW
  have hA : DataW.TrodAll enc Tryz.prog W 0 (fun _ => true) true Tryz.f3.params.toList args.toList ds p := hA0
  rw [Tryz.params3] at hA hval
  obtain ⟨v0, vs0, d0, ds0, p0, q0, hargs, rfl, rfl, h0, r0⟩ := trodAll_cons hA
  obtain ⟨v1, vs1, d1, ds1, p1, q1, rfl, rfl, rfl, h1, r1⟩ := trodAll_cons r0
  obtain ⟨v2, vs2, d2, ds2, p2, q2, rfl, rfl, rfl, h2, r2⟩ := trodAll_cons r1
  obtain ⟨rfl, rfl, rfl⟩ := trodAll_nil r2
  obtain rfl : args = #[v0, v1, v2] := by cases args; simp_all
  obtain ⟨rfl, rfl⟩ := trodVars_none hV
  have h0k := h0
  have h1k := h1
  have h2k := h2
  have hlt : ∀ x ∈ p0 ++ (p1 ++ (p2 ++ [])), x.block < W.heap.size := fun x hx => by
    have := hW'.lt x
    simp at this hx
    exact this (by simpa using hx)
  obtain ⟨ra, rb, ua, ub, rfl, ⟨RA, FA⟩, RB, FB⟩ := open_two (hval 0 29 v0 rfl rfl) h0
  obtain ⟨node, rfl, hn⟩ := open_int (hval 1 3 v1 rfl rfl) h1
  obtain ⟨a2, len2, cap2, rfl⟩ := okWide_slice Tryz.underlying30 (hval 2 30 v2 rfl rfl)
  obtain ⟨f2, h2⟩ := h2
  obtain ⟨ss, hss, hsl, _⟩ := open_row3 h2
  refine (En.makes_any ua ub ra rb FA FB node hn _ ss (Nat.le_trans hsl (by decide)) W RA RB hss).mono fun e W' ⟨he, hb⟩ => ?_
  have hb : Below W.heap.size W W' := hb
  subst he
  refine ⟨_, rfl, _, _, _, [], p0 ++ (p1 ++ (p2 ++ [])), [], hW', ?_, ?_, ?_, hb.frame _, fun h => by cases h⟩
  · exact trodAll_mk1 (shut_bool Tryz.underlying4 _)
  · exact trodAll_cons_mk (Below.trod laidOutM (by kernel_rfl) (of_decide_eq_true (by kernel_rfl)) h0k hb (fun x hx => hlt x (by simp [hx]))) (trodAll_cons_mk (Below.trod laidOutM (by kernel_rfl) (of_decide_eq_true (by kernel_rfl)) h1k hb (fun x hx => hlt x (by simp [hx]))) (trodAll_cons_mk (Below.trod laidOutM (by kernel_rfl) (of_decide_eq_true (by kernel_rfl)) h2k hb (fun x hx => hlt x (by simp [hx]))) trodAll_mk0))
  · rfl

theorem gossipMakes_holds : Rows.GossipMakesSaid :=
  OpenClaim.holds_of_wide 3 Tryz.f3 rfl rfl rfl rfl rfl rfl rfl ⟨rfl, rfl, rfl, rfl, rfl⟩ rfl rfl rfl rfl rfl (by kernel_rfl) Tryz.func3 (by kernel_rfl)
    (of_decide_eq_true (by kernel_rfl)) (by unfold Func.isWrapper; first | (rw [if_pos (by decide +kernel)]; kernel_rfl) | (rw [if_neg (by decide +kernel)]; exact ⟨rfl, rfl⟩))
    (fun os started H enc _ => gossipMakes_lifted os started H enc)
#print axioms gossipMakes_holds
end Go.Proofs.YthmnjebmnocoiaaGreat
