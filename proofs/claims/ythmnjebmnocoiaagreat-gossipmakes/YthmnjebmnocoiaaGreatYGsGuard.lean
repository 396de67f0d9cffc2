/- Guarded operations of a drawn region, whose guards hold; picks, comparisons, literals. -/
import Derived.Test.YthmnjebmnocoiaaGreatYGsSm
import Derived.Test.YthmnjebmnocoiaaGreatYGsPlan
namespace Go.Proofs.YthmnjebmnocoiaaGreat
open Go.RowKit
section
variable {ops : Array Oper} {D : List Nat} {T : Nat → Fk} {a0 : Act} {w : World} {Q : Exit → Act → World → Prop} {o : Oper}
theorem wanted_true (k d : Nat) (hk : o.guard = some (k, true)) (hd : (ops[k]?).bind (·.dst) = some d) (hn : needsB ops o d = true) (hs : d < a0.tmps.size) (hT : T d = .val (.bool true)) {f : Env} {a : Act} {y : World} (c : Ctx ops D T a0 w o f a y) : Region.wanted o (yielded ops a.tmps) = true := by
  obtain ⟨v, hf, hv⟩ := c.needs d hn
  rw [hT] at hv
  have hv : v = .bool true := hv
  subst hv
  have h1 := c.over.slot d
  rw [if_pos hs, hf] at h1
  have h2 : a.tmps.size = a0.tmps.size := c.over.size
  have h3 : a.tmps[d]? = some (.bool true) := by
    have hl : d < a.tmps.size := by omega
    have e : a.tmps.getD d undef = a.tmps[d] := by simp [hl]
    rw [Array.getElem?_eq_getElem hl, ← e, h1]; rfl
  unfold Region.wanted yielded
  rw [hk]
  simp only [hd, Option.bind_some, h3]
  rfl
theorem sa_guard (k d : Nat) (hk : o.guard = some (k, true)) (hd : (ops[k]?).bind (·.dst) = some d) (hn : needsB ops o d = true) (hs : d < a0.tmps.size) (hT : T d = .val (.bool true)) (h : StepAt ops D T a0 w Q { o with guard := none }) : StepAt ops D T a0 w Q o := fun f a x c => by
  refine ⟨wanted_true k d hk hd hn hs hT c, ?_⟩
  have := (h f a x ⟨c.over, c.grown, c.needs, c.out⟩).2
  obtain ⟨dst, op, ty, pos, af, gd⟩ := o
  exact this
theorem sa_run (d : Nat) (v0 : Value) (hd : o.dst = some d) (hg : o.guard = none) (hT : T d = .val v0) (h : ∀ f a y, Ctx ops D T a0 w o f a y → (execOp a.eval o).run Tryz.prog y = .ok (.value v0) y) : StepAt ops D T a0 w Q o := fun f a y c => by
  refine ⟨wanted_none hg _, ?_⟩
  unfold Oper.wp
  rw [h f a y c]
  refine ⟨_, rfl, Gr.refl _, fun d' hd' => ?_⟩
  rw [hd] at hd'
  cases hd'
  rw [hT]
  rfl
theorem run_eql3 (s t : Int) (w : World) : (binOp .eql 3 (.int .i64 s) (.int .i64 t)).run Tryz.prog w = .ok (.bool (s == t)) w := by kernel_rfl
theorem sa_eql3 (x1 x2 : Operand) (rt : TypeId) (d : Nat) (s t : Int) (ho : o.op = .binOp .eql 3 x1 x2 rt) (hd : o.dst = some d) (hg : o.guard = none) (h1 : Has ops D T a0 o x1 (.val (.int .i64 s))) (h2 : Has ops D T a0 o x2 (.val (.int .i64 t))) (hT : T d = .val (.bool true)) (hst : s = t) : StepAt ops D T a0 w Q o :=
  sa_run d _ hd hg hT fun f a y c => by
    have e1 : a.eval x1 = .int .i64 s := h1.get c
    have e2 : a.eval x2 = .int .i64 t := h2.get c
    unfold execOp
    subst hst
    have hb : (s == s) = true := by simp
    simp only [ho, e1, e2, Sem.run_bind, run_eql3, Sem.run_pure, hb]
    rfl
theorem sa_eqlV (ty : TypeId) (x1 x2 : Operand) (rt : TypeId) (d : Nat) (u v : Value) (ho : o.op = .binOp .eql ty x1 x2 rt) (hd : o.dst = some d) (hg : o.guard = none) (h1 : Has ops D T a0 o x1 (.val u)) (h2 : Has ops D T a0 o x2 (.val v)) (hgd : ∀ x y w, (eqGuard .eql ty x y u v).run Tryz.prog w = .ok () w) (hr : ∀ w, (binOp .eql ty u v).run Tryz.prog w = .ok (.bool true) w) (hT : T d = .val (.bool true)) : StepAt ops D T a0 w Q o :=
  sa_run d _ hd hg hT fun f a y c => by
    have e1 : a.eval x1 = u := h1.get c
    have e2 : a.eval x2 = v := h2.get c
    unfold execOp
    simp only [ho, e1, e2, Sem.run_bind, hgd, hr, Sem.run_pure, Result.andThen_ok]
theorem sa_pick (x1 x2 x3 : Operand) (d : Nat) (k : Fk) (ho : o.op = .pick x1 x2 x3) (hd : o.dst = some d) (hg : o.guard = none) (h1 : Has ops D T a0 o x1 (.val (.bool true))) (h2 : Has ops D T a0 o x2 k) (hT : T d = k) : StepAt ops D T a0 w Q o := fun f a y c => by
  refine ⟨wanted_none hg _, ?_⟩
  have e1 : a.eval x1 = .bool true := h1.get c
  unfold Oper.wp execOp
  simp only [ho, e1, asBool, Sem.run_bind, Sem.run_pure, Result.andThen_ok, if_true]
  refine ⟨_, rfl, Gr.refl _, fun d' hd' => ?_⟩
  rw [hd] at hd'
  cases hd'
  rw [hT]
  exact h2.get c
theorem run_len45 (ρ : Operand → Value) (x : Operand) (dst : Option Nat) (pos : String) (af : Array Edge) (gd : Option (Nat × Bool)) (b : Option Addr) (n cap : Nat) (w : World) (h : ρ x = .slice b n cap) : (execOp ρ ⟨dst, .call { callee := .builtin .len, args := #[x], argTypes := #[30] }, 3, pos, af, gd⟩).run Tryz.prog w = .ok (.value (.int .i64 (n : Int))) w := by
  have hr : #[x].map ρ = #[.slice b n cap] := by simp [h]
  show (do let d ← resolve ρ { callee := .builtin .len, args := #[x], argTypes := #[30] } 3; invoke d.target d.args : Sem Next).run Tryz.prog w = _
  unfold resolve
  simp only [hr]
  kernel_rfl
theorem sa_len (x : Operand) (d : Nat) (l : List Int) (ho : o.op = .call { callee := .builtin .len, args := #[x], argTypes := #[30] }) (hty : o.type = 3) (hd : o.dst = some d) (hg : o.guard = none) (h1 : Has ops D T a0 o x (.ints l)) (hT : T d = .val (.int .i64 (l.length : Int))) : StepAt ops D T a0 w Q o :=
  sa_run d _ hd hg hT fun f a y c => by
    obtain ⟨b, cap, e, _⟩ := (show Ints y.heap.size y (a.eval x) l from h1.get c)
    obtain ⟨dst, op, ty, pos, af, gd⟩ := o
    simp only at ho hty
    subst ho
    subst hty
    exact run_len45 _ x _ _ _ _ b _ cap y e
end
theorem c_same (r1 r2 : Rg) (hn : normL r1 = normL r2) (v1 v2 : Value) (y : World) (h1 : (Fk.ring r1).holds v1 y) (h2 : (Fk.ring r2).holds v2 y) : Calls Tryz.prog 28 #[v1, v2] y fun e z => ∃ u, e = .returned u ∧ Gr y z ∧ (Fk.val (.bool true)).holds u z := by
  obtain ⟨u1, rfl, R1⟩ := h1
  obtain ⟨u2, rfl, R2⟩ := h2
  exact (same_any u1 u2 r1 r2 y R1 R2 hn).mono fun e z ⟨e1, e2⟩ => ⟨_, e1, e2, rfl⟩
theorem c_plan (r : Rg) (hF : RFit r) (n : Int) (v s : Value) (y : World) (h : (Fk.ring r).holds v y) (hs : (Fk.val (.int .i64 n)).holds s y) : Calls Tryz.prog 16 #[v, s] y fun e z => ∃ u, e = .returned u ∧ Gr y z ∧ (Fk.ring (planL r n)).holds u z := by
  obtain ⟨u, rfl, R1⟩ := h
  obtain rfl : s = .int .i64 n := hs
  exact (plan_any u r hF n y R1).mono fun e z ⟨u', e1, e2, e3⟩ => ⟨_, e1, e3, u', rfl, e2⟩
theorem c_state (r : Rg) (n : Int) (hn : I64 n) (v s : Value) (y : World) (h : (Fk.ring r).holds v y) (hs : (Fk.val (.int .i64 n)).holds s y) : Calls Tryz.prog 26 #[v, s] y fun e z => ∃ u, e = .returned u ∧ Gr y z ∧ (Fk.val (.int .i64 (stateL r n))).holds u z := by
  obtain ⟨u, rfl, R1⟩ := h
  obtain rfl : s = .int .i64 n := hs
  exact (state_any u r n hn y R1).mono fun e z ⟨e1, e2⟩ => ⟨_, e1, e2, rfl⟩
end Go.Proofs.YthmnjebmnocoiaaGreat
