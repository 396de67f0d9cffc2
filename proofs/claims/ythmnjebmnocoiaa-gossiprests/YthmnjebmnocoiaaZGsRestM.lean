/- Three rings in a box: loads, stores, single operations on them. -/
import Derived.Test.YthmnjebmnocoiaaZGsLawS
import Derived.Test.YthmnjebmnocoiaaZGsRestP
namespace Go.Proofs.Ythmnjebmnocoiaa
open Go.RowKit

theorem ring_i64 {u : Value} {r : Rg} (hu : ∃ a n c, u = .slice a n c) (hr : r.2.length = 8) {j : Nat} {m : Int} (h : (ringC u r)[j]? = some (.int .i64 m)) : j % 2 = 1 := by
  have hl : j < 17 := by
    have := (List.getElem?_eq_some_iff.1 h).1
    unfold ringC at this
    rw [List.length_cons, ownV_len, hr] at this
    omega
  rcases Nat.eq_zero_or_pos j with h0 | h0
  · subst h0
    obtain ⟨a, n, c, rfl⟩ := hu
    cases h
  · obtain ⟨o, ho⟩ : ∃ o, r.2[(j - 1) / 2]? = some o := ⟨_, List.getElem?_eq_getElem (by omega)⟩
    have hc := ring_cell u r.1 r.2 ((j - 1) / 2) o ho ((j - 1) % 2) (by omega)
    have e : 1 + (j - 1) / 2 * 2 + (j - 1) % 2 = j := by omega
    rw [e] at hc
    have h' : (owV o)[(j - 1) % 2]? = some (.int .i64 m) := by rw [← hc]; exact h
    rcases Nat.mod_two_eq_zero_or_one (j - 1) with q | q
    · omega
    · rw [q] at h'
      cases h'
theorem flatR_len : ∀ (ps : List (Value × Rg)), (∀ p ∈ ps, p.2.2.length = 8) → (flatR ps).length = ps.length * 17
  | [], _ => rfl
  | q :: l, h => by
    have e : flatR (q :: l) = ringC q.1 q.2 ++ flatR l := by simp [flatR]
    rw [e, List.length_append, flatR_len l (fun p hp => h p (by simp [hp]))]
    unfold ringC
    rw [List.length_cons, List.length_cons, ownV_len, h q (by simp)]
    omega
theorem flat_i64 {ps : List (Value × Rg)} (hs : ∀ p ∈ ps, ∃ a n c, p.1 = .slice a n c) (h8 : ∀ p ∈ ps, p.2.2.length = 8) {o : Nat} {m : Int} (h : (flatR ps)[o]? = some (.int .i64 m)) : o % 17 % 2 = 1 := by
  have hl := (List.getElem?_eq_some_iff.1 h).1
  rw [flatR_len ps h8] at hl
  obtain ⟨p, hp⟩ : ∃ p, ps[o / 17]? = some p := ⟨_, List.getElem?_eq_getElem (by omega)⟩
  have hc := flatR_cell h8 hp (o % 17) (by omega)
  rw [show o / 17 * 17 + o % 17 = o by omega] at hc
  rw [hc] at h
  exact ring_i64 (hs p (List.mem_of_getElem? hp)) (h8 p (List.mem_of_getElem? hp)) h
/-- A ring's members do not lie in the box of three. -/
theorem RingAt.apart3 {x y : World} {g : Nat} {u : Value} {r : Rg} {ps : List (Value × Rg)} {cs : List Value} (h : RingAt x.heap.size x u r) (hg : Holds x g (flatR ps) 29) (hs : ∀ p ∈ ps, ∃ a n c, p.1 = .slice a n c) (h8 : ∀ p ∈ ps, p.2.2.length = 8) (ht : Turned g x y cs 29) : RingAt y.heap.size y u r := by
  obtain ⟨⟨a, cap, e, hcp, hc⟩, ho⟩ := h
  refine ⟨⟨a, cap, e, hcp, ?_⟩, ho⟩
  rcases hc with h0 | ⟨b, o, e1, h1, h2⟩
  · exact Or.inl h0
  · by_cases h0 : r.1.length = 0
    · exact Or.inl h0
    refine Or.inr ⟨b, o, e1, by rw [ht.size]; exact h1, ?_⟩
    have hb : b ≠ g := fun e => by
      subst e
      obtain ⟨m, hm⟩ : ∃ m, r.1[0]? = some m := ⟨_, List.getElem?_eq_getElem (by omega)⟩
      obtain ⟨q0, q1, _⟩ := h2 0 m hm
      rw [Nat.zero_mul, Nat.add_zero] at q0 q1
      rw [hg.cell] at q0 q1
      have a0 := flat_i64 hs h8 q0
      have a1 := flat_i64 hs h8 q1
      omega
    have hh : y.heap[b]? = x.heap[b]? := ht.others b hb
    intro i m hm
    obtain ⟨q0, q1, q2⟩ := h2 i m hm
    exact ⟨by rw [← q0]; unfold World.cell?; rw [hh], by rw [← q1]; unfold World.cell?; rw [hh], by rw [← q2]; unfold World.cell?; rw [hh]⟩
/-- Three rings in a box. -/
structure Bx (w : World) (g : Nat) (l : List Rg) : Prop where
  ex : ∃ ps : List (Value × Rg), ps.map (·.2) = l ∧ ps.length = 3 ∧ Holds w g (flatR ps) 29 ∧ ∀ p ∈ ps, RingAt w.heap.size w p.1 p.2
theorem Bx.lt {w : World} {g : Nat} {l : List Rg} (h : Bx w g l) : g < w.heap.size := by
  obtain ⟨ps, _, _, h1, _⟩ := h.ex
  exact h1.lt
theorem Bx.len {w : World} {g : Nat} {l : List Rg} (h : Bx w g l) : l.length = 3 := by
  obtain ⟨ps, e, h1, _, _⟩ := h.ex
  rw [← e, List.length_map, h1]
theorem Bx.gr {w w' : World} {g : Nat} {l : List Rg} (h : Bx w g l) (hb : Gr w w') : Bx w' g l := by
  obtain ⟨ps, e, h1, h2, h3⟩ := h.ex
  exact ⟨ps, e, h1, h2.below hb h2.lt, fun p hp => (h3 p hp).gr hb⟩
theorem Holds.row28o {w : World} {b : Nat} {cs : List Value} {t : TypeId} (h : Holds w b cs t) (o : Nat) (ds : List Value) (hl : ds.length = 17) (hd : ∀ j v, ds[j]? = some v → cs[o + j]? = some v) : rowOf w (.pointer (some ⟨b, o, none⟩)) 17 = some ds := by
  have hr : w.rangeAt b o ds := h.range o ds hd
  rw [← hl]
  exact rowOf_range hr
theorem Bx.row {w : World} {g : Nat} {l : List Rg} (h : Bx w g l) (i : Nat) (r : Rg) (hi : l[i]? = some r) : ∃ u, (ringC u r).length = 17 ∧ (∀ y, Gr w y → rowOf y (.pointer (some ⟨g, i * 17, none⟩)) 17 = some (ringC u r)) ∧ RingAt w.heap.size w u r := by
  obtain ⟨ps, e, h1, h2, h3⟩ := h.ex
  rw [← e, List.getElem?_map] at hi
  obtain ⟨p, hp, rfl⟩ := Option.map_eq_some_iff.1 hi
  have hR := h3 p (List.mem_of_getElem? hp)
  refine ⟨p.1, ringC_len hR, fun y hy => ?_, hR⟩
  refine (h2.below hy h2.lt).row28o (i * 17) _ (ringC_len hR) (fun j v hv => ?_)
  have hj : j < 17 := by have := (List.getElem?_eq_some_iff.1 hv).1; rw [ringC_len hR] at this; exact this
  rw [flatR_cell (fun q hq => (h3 q hq).own) hp j hj]; exact hv
theorem over_flat : ∀ (ps : List (Value × Rg)) (_ : ∀ p ∈ ps, p.2.2.length = 8) (i : Nat) (_ : i < ps.length) (q : Value × Rg) (_ : q.2.2.length = 8), overV (flatR ps) (i * 17) (ringC q.1 q.2) = flatR (ps.set i q)
  | p :: l, h, 0, hi, q, hq => by
    have e : flatR (p :: l) = ringC p.1 p.2 ++ flatR l := by simp [flatR]
    have hz : (ringC p.1 p.2).length = 17 := by unfold ringC; rw [List.length_cons, ownV_len, h p (by simp)]
    have hz2 : (ringC q.1 q.2).length = 17 := by unfold ringC; rw [List.length_cons, ownV_len, hq]
    unfold overV
    rw [e, Nat.zero_mul, List.take_zero, List.nil_append, Nat.zero_add, hz2, ← hz, List.drop_left]
    simp [flatR]
  | p :: l, h, i + 1, hi, q, hq => by
    have ih := over_flat l (fun p hp => h p (by simp [hp])) i (by simpa using hi) q hq
    have e : ∀ (p : Value × Rg) l, flatR (p :: l) = ringC p.1 p.2 ++ flatR l := fun p l => by simp [flatR]
    have hz : (ringC p.1 p.2).length = 17 := by unfold ringC; rw [List.length_cons, ownV_len, h p (by simp)]
    have hz2 : (ringC q.1 q.2).length = 17 := by unfold ringC; rw [List.length_cons, ownV_len, hq]
    rw [List.set_cons_succ, e, e, ← ih]
    unfold overV
    rw [show (i + 1) * 17 = (ringC p.1 p.2).length + i * 17 by rw [hz]; omega, List.take_length_add_append, show (ringC p.1 p.2).length + i * 17 + (ringC q.1 q.2).length = (ringC p.1 p.2).length + (i * 17 + (ringC q.1 q.2).length) by omega, List.drop_length_add_append]
    simp
/-- A store into the box. -/
theorem Bx.put {w : World} {g : Nat} {l : List Rg} (h : Bx w g l) (i : Nat) (hi : i < 3) (u : Value) (r : Rg) (hr : RingAt w.heap.size w u r) : ∃ old : List Value, Holds w g old 29 ∧ i * 17 + (ringC u r).length ≤ old.length ∧ ∀ w', Turned g w w' (overV old (i * 17) (ringC u r)) 29 → Bx w' g (l.set i r) := by
  obtain ⟨ps, e, h1, h2, h3⟩ := h.ex
  have h8 : ∀ p ∈ ps, p.2.2.length = 8 := fun p hp => (h3 p hp).own
  have hs : ∀ p ∈ ps, ∃ a n c, p.1 = .slice a n c := fun p hp => by
    obtain ⟨a, c, e⟩ := (h3 p hp).mem.len
    exact ⟨a, _, c, e⟩
  refine ⟨flatR ps, h2, by rw [flatR_len ps h8, ringC_len hr, h1]; omega, fun w' ht => ?_⟩
  rw [over_flat ps h8 i (by omega) (u, r) hr.own] at ht
  refine ⟨ps.set i (u, r), by rw [List.map_set, e], by rw [List.length_set, h1], ht.holds, fun p hp => ?_⟩
  rcases List.mem_or_eq_of_mem_set hp with q | q
  · exact (h3 p q).apart3 h2 hs h8 ht
  · subst q; exact hr.apart3 h2 hs h8 ht
theorem run_ix0 (g : Nat) (w : World) : (Instr.indexAt 29 (.pointer (some ⟨g, 0, none⟩)) (.int .i64 ((0 : Nat) : Int))).run Try.prog w = .ok (.pointer (some ⟨g, 0 * 17, none⟩)) w := by kernel_rfl
theorem run_ix1 (g : Nat) (w : World) : (Instr.indexAt 29 (.pointer (some ⟨g, 0, none⟩)) (.int .i64 ((1 : Nat) : Int))).run Try.prog w = .ok (.pointer (some ⟨g, 1 * 17, none⟩)) w := by kernel_rfl
theorem run_ix2 (g : Nat) (w : World) : (Instr.indexAt 29 (.pointer (some ⟨g, 0, none⟩)) (.int .i64 ((2 : Nat) : Int))).run Try.prog w = .ok (.pointer (some ⟨g, 2 * 17, none⟩)) w := by kernel_rfl
theorem run_ix29 (g k : Nat) (hk : k < 3) (w : World) : (Instr.indexAt 29 (.pointer (some ⟨g, 0, none⟩)) (.int .i64 (k : Int))).run Try.prog w = .ok (.pointer (some ⟨g, k * 17, none⟩)) w := by
  have h : k = 0 ∨ k = 1 ∨ k = 2 := by omega
  rcases h with rfl | rfl | rfl
  · exact run_ix0 g w
  · exact run_ix1 g w
  · exact run_ix2 g w
theorem run_fa42 (g : Nat) (w : World) : (Instr.fieldAt 42 (.pointer (some ⟨g, 0, none⟩)) 2).run Try.prog w = .ok (.pointer (some ⟨g, 2, none⟩)) w := by kernel_rfl
section
variable {ops : Array Oper} {D : List Nat} {T : Nat → Fk} {a0 : Act} {w : World} {Q : Exit → Act → World → Prop} {o : Oper}
theorem sa_ix29 (x1 x2 : Operand) (d g k : Nat) (hk : k < 3) (ho : o.op = .indexAddr 29 x1 x2) (hd : o.dst = some d) (hg : o.guard = none) (h1 : Has ops D T a0 o x1 (.val (.pointer (some ⟨g, 0, none⟩)))) (h2 : Has ops D T a0 o x2 (.val (.int .i64 (k : Int)))) (hT : T d = .val (.pointer (some ⟨g, k * 17, none⟩))) : StepAt ops D T a0 w Q o :=
  sa_run d _ hd hg hT fun f a y c => by
    have e1 : a.eval x1 = .pointer (some ⟨g, 0, none⟩) := h1.get c
    have e2 : a.eval x2 = .int .i64 (k : Int) := h2.get c
    unfold execOp
    simp only [ho, e1, e2, Sem.run_bind, run_ix29 g k hk, Sem.run_pure, Result.andThen_ok]
theorem sa_fa42 (x1 : Operand) (d g : Nat) (ho : o.op = .fieldAddr 42 x1 2) (hd : o.dst = some d) (hg : o.guard = none) (h1 : Has ops D T a0 o x1 (.val (.pointer (some ⟨g, 0, none⟩)))) (hT : T d = .val (.pointer (some ⟨g, 2, none⟩))) : StepAt ops D T a0 w Q o :=
  sa_run d _ hd hg hT fun f a y c => by
    have e1 : a.eval x1 = .pointer (some ⟨g, 0, none⟩) := h1.get c
    unfold execOp
    simp only [ho, e1, Sem.run_bind, run_fa42 g, Sem.run_pure, Result.andThen_ok]
theorem sa_load28at (x : Operand) (d g off : Nat) (ho : o.op = .load 28 x) (hd : o.dst = some d) (hg : o.guard = none) (h : Has ops D T a0 o x (.val (.pointer (some ⟨g, off, none⟩)))) (u : Value) (r : Rg) (hrow : ∀ y, Gr w y → rowOf y (.pointer (some ⟨g, off, none⟩)) 17 = some (ringC u r)) (hr : RingAt w.heap.size w u r) (hT : T d = .ring r) : StepAt ops D T a0 w Q o := fun f a y c => by
  refine ⟨wanted_none hg _, ?_⟩
  have e1 : a.eval x = .pointer (some ⟨g, off, none⟩) := h.get c
  have e2 := hrow y c.grown
  obtain ⟨dst, op, ty, pos, af, gd⟩ := o
  simp only at ho
  subst ho
  rw [rule28 dst x ty pos af gd a y _ Q (by rw [e1, e2]; rfl), e1, e2]
  refine ⟨_, rfl, Gr.refl _, fun d' hd' => ?_⟩
  rw [hd] at hd'
  cases hd'
  rw [hT]
  exact ⟨u, rfl, hr.gr c.grown⟩
theorem sa_load3 (x : Operand) (d g off : Nat) (n : Int) (ho : o.op = .load 3 x) (hd : o.dst = some d) (hg : o.guard = none) (h : Has ops D T a0 o x (.val (.pointer (some ⟨g, off, none⟩)))) (hc : ∀ y, Gr w y → y.cell? ⟨g, off, none⟩ = some (.int .i64 n)) (hT : T d = .val (.int .i64 n)) : StepAt ops D T a0 w Q o :=
  sa_run d _ hd hg hT fun f a y c => by
    have e1 : a.eval x = .pointer (some ⟨g, off, none⟩) := h.get c
    have e2 := hc y c.grown
    unfold execOp
    simp only [ho, e1, Sem.run_bind, Instr.loadAt, Instr.sureAddr, Sem.run_pure, Result.andThen_ok]
    simp [loadVar, e2]
end
end Go.Proofs.Ythmnjebmnocoiaa
