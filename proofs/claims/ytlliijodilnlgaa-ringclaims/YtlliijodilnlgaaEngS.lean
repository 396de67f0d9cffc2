/- More steps for the engine: numbers, conversions, function values, a call at a region's end. -/
import Derived.Test.YtlliijodilnlgaaEngL
import Derived.Laws.Bits64
import Derived.Shelf.Abstract
namespace Go.Proofs.Ytlliijodilnlgaa
open Go.RowKit
variable {P : Program} {ops : Array Oper} {Q : Exit → Act → World → Prop}
theorem wrap_in {z : Int} (h1 : -9223372036854775808 ≤ z) (h2 : z < 9223372036854775808) : IntKind.i64.wrap z = z := by
  simp [IntKind.wrap, IntKind.bits, IntKind.signed]
  split <;> omega
theorem bin_add {t : TypeId} {x y z : Int} (h : x + y = z) (h1 : -9223372036854775808 ≤ z) (h2 : z < 9223372036854775808) : ∀ w, (binOp .add t (.int .i64 x) (.int .i64 y)).run P w = .ok (.int .i64 z) w := by
  intro w
  subst h
  simp [binOp, Op.intArith, wrap_in h1 h2]
theorem bin_sub {t : TypeId} {x y z : Int} (h : x - y = z) (h1 : -9223372036854775808 ≤ z) (h2 : z < 9223372036854775808) : ∀ w, (binOp .sub t (.int .i64 x) (.int .i64 y)).run P w = .ok (.int .i64 z) w := by
  intro w
  subst h
  simp [binOp, Op.intArith, wrap_in h1 h2]
theorem bin_mul {t : TypeId} {x y z : Int} (h : x * y = z) (h1 : -9223372036854775808 ≤ z) (h2 : z < 9223372036854775808) : ∀ w, (binOp .mul t (.int .i64 x) (.int .i64 y)).run P w = .ok (.int .i64 z) w := by
  intro w
  subst h
  simp [binOp, Op.intArith, wrap_in h1 h2]
theorem bin_lss {t : TypeId} {x y : Int} {b : Bool} (h : decide (x < y) = b) : ∀ w, (binOp .lss t (.int .i64 x) (.int .i64 y)).run P w = .ok (.bool b) w := by
  intro w; subst h; simp [binOp, Op.intCmp]
theorem bin_leq {t : TypeId} {x y : Int} {b : Bool} (h : decide (x ≤ y) = b) : ∀ w, (binOp .leq t (.int .i64 x) (.int .i64 y)).run P w = .ok (.bool b) w := by
  intro w; subst h; simp [binOp, Op.intCmp]
theorem bin_gtr {t : TypeId} {x y : Int} {b : Bool} (h : decide (x > y) = b) : ∀ w, (binOp .gtr t (.int .i64 x) (.int .i64 y)).run P w = .ok (.bool b) w := by
  intro w; subst h; simp [binOp, Op.intCmp]
theorem bin_geq {t : TypeId} {x y : Int} {b : Bool} (h : decide (x ≥ y) = b) : ∀ w, (binOp .geq t (.int .i64 x) (.int .i64 y)).run P w = .ok (.bool b) w := by
  intro w; subst h; simp [binOp, Op.intCmp]
theorem bin_eql {t : TypeId} {x y : Int} {b : Bool} (h : decide (x = y) = b) : ∀ w, (binOp .eql t (.int .i64 x) (.int .i64 y)).run P w = .ok (.bool b) w := by
  intro w; subst h; simp [binOp, Op.intCmp]; rfl
theorem bin_neq {t : TypeId} {x y : Int} {b : Bool} (h : decide (¬ x = y) = b) : ∀ w, (binOp .neq t (.int .i64 x) (.int .i64 y)).run P w = .ok (.bool b) w := by
  intro w; subst h; simp only [binOp, Op.intCmp, ne_eq, not_true_eq_false, if_false, Sem.run_pure, bne, decide_not]; rfl
theorem guard_int {b : BinOp} {t : TypeId} {u v : Operand} {x y : Int} : ∀ w, (eqGuard b t u v (.int .i64 x) (.int .i64 y)).run P w = .ok () w := by
  intro w
  unfold eqGuard
  cases b <;> rfl
theorem un_not {b c : Bool} (h : (!b) = c) : ∀ w, (Op.unary .not (.bool b)).run P w = .ok (.bool c) w := by
  intro w; subst h; rfl
theorem conv_u64 {s d : TypeId} {ds : TypeDesc} {x : Int} (hs : P.underlying s = some ds) (hd : P.underlying d = some (.int .u64)) (h1 : 0 ≤ x) (h2 : x < 18446744073709551616) : ∀ w, (convert s d (.int .i64 x)).run P w = .ok (.int .u64 x) w := by
  intro w
  have e : IntKind.u64.wrap x = x := by rw [IntKind.wrap_u64]; omega
  simp [convert, run_underlying hs, run_underlying hd, Conv.intToInt, e]
theorem conv_i64 {s d : TypeId} {ds : TypeDesc} {x : Int} (hs : P.underlying s = some ds) (hd : P.underlying d = some (.int .i64)) (h1 : 0 ≤ x) (h2 : x < 9223372036854775808) : ∀ w, (convert s d (.int .u64 x)).run P w = .ok (.int .i64 x) w := by
  intro w
  have e : IntKind.i64.wrap x = x := wrap_in (by omega) h2
  simp [convert, run_underlying hs, run_underlying hd, Conv.intToInt, e]
theorem bin_half {t : TypeId} {x z : Int} (h : x / 2 = z) : ∀ w, (binOp .shr t (.int .u64 x) (.int .u64 1)).run P w = .ok (.int .u64 z) w := by
  intro w
  subst h
  have e : x.fdiv 2 = x / 2 := Int.fdiv_eq_ediv_of_nonneg _ (by omega)
  simp [binOp, Op.shift, IntKind.bits, e]
/-- A place of a list. -/
theorem ix_slice {t e : TypeId} {b o n cap i j sz : Nat} (hu : P.underlying t = some (.slice e)) (hs : ∀ w, (Go.sizeOf e).run P w = .ok sz w) (hi : i < n) (hj : o + i * sz = j) : ∀ w, (Instr.indexAt t (.slice (some ⟨b, o, none⟩) n cap) (.int .i64 (i : Int))).run P w = .ok (.pointer (some ⟨b, j, none⟩)) w := by
  intro w
  have he : P.elem t = e := by simp [Program.elem, hu]
  rw [run_indexAt_slice w t ⟨b, o, none⟩ n cap .i64 (i : Int) (by rw [he]; exact hu), if_pos (by omega), he, hs, Result.andThen_ok]
  simp [Addr.add, hj]
  intro h
  omega
/-- A place of an array that lies in memory. -/
theorem ix_array {t e : TypeId} {n b o i j sz : Nat} (hu : P.underlying t = some (.array n e)) (hs : ∀ w, (Go.sizeOf e).run P w = .ok sz w) (hi : i < n) (hj : o + i * sz = j) : ∀ w, (Instr.indexAt t (.pointer (some ⟨b, o, none⟩)) (.int .i64 (i : Int))).run P w = .ok (.pointer (some ⟨b, j, none⟩)) w := by
  intro w
  have he : P.elem t = e := by simp [Program.elem, hu]
  have hn : P.arrayLen t = n := by simp [Program.arrayLen, hu]
  rw [run_indexAt_array w t ⟨b, o, none⟩ .i64 (i : Int) (by rw [he, hn]; exact hu), hn, if_pos (by omega), he, hs, Result.andThen_ok]
  simp [Addr.add, hj]
  intro h
  omega
theorem bin_rem {t : TypeId} {x y z : Int} (hy : y ≠ 0) (h : x.tmod y = z) : ∀ w, (binOp .rem t (.int .i64 x) (.int .i64 y)).run P w = .ok (.int .i64 z) w := by
  intro w
  subst h
  simp [binOp, Op.intDiv, hy]
theorem un_neg {x z : Int} (h : -x = z) (h1 : -9223372036854775808 ≤ z) (h2 : z < 9223372036854775808) : ∀ w, (Op.unary .neg (.int .i64 x)).run P w = .ok (.int .i64 z) w := by
  intro w
  subst h
  have e : IntKind.i64.wrap (0 - x) = -x := by rw [Int.zero_sub]; exact wrap_in h1 h2
  simp only [Op.unary, Op.intArith, e, Sem.run_pure]
section
variable {D : List Nat} {T : Nat → Fact} {a0 : Act} {w : World} {o : Oper} {a : Act} {K : Act → World → Prop}
theorem sa_conv (t t' : TypeId) (u : Operand) (d : Nat) (s q : Value) (ho : o.op = .convert t t' u) (hd : o.dst = some d) (hg : o.guard = none) (h1 : Has ops D T a0 o u (Fact.val s)) (hr : ∀ w, (convert t t' s).run P w = .ok q w) (hT : T d = Fact.val q) : StepAt P ops D T a0 w Q o :=
  sa_of d hd hg fun f a y c => op_conv t t' u s q ho (h1.get c) (hr y) ⟨_, rfl, Gr.refl _, by rw [hT]; rfl⟩
theorem op_nil (u : Operand) (p : Addr) (ho : o.op = .nilCheck u) (e : a.eval u = .pointer (some p)) (h : K (a.put o.dst (.pointer (some p))) w) : o.wp P a w K Q := by
  refine op_val (.pointer (some p)) ?_ h
  unfold execOp
  simp [ho, e]
theorem sa_nil (u : Operand) (d : Nat) (p : Addr) (ho : o.op = .nilCheck u) (hd : o.dst = some d) (hg : o.guard = none) (h1 : Has ops D T a0 o u (Fact.val (.pointer (some p)))) (hT : T d = Fact.val (.pointer (some p))) : StepAt P ops D T a0 w Q o :=
  sa_of d hd hg fun f a y c => op_nil u p ho (h1.get c) ⟨_, rfl, Gr.refl _, by rw [hT]; rfl⟩
theorem sa_row (t : TypeId) (u : Operand) (d b k : Nat) (n : Nat) (ds : TypeDesc) (cs : List Value) (ho : o.op = .load t u) (hd : o.dst = some d) (hg : o.guard = none) (hu : P.underlying t = some ds) (hdr : ds.isRow = true) (hi : (P.info? t).map (·.size) = some n) (hn : cs.length = n) (h1 : Has ops D T a0 o u (Fact.val (.pointer (some ⟨b, k, none⟩)))) (hr : ∀ y, Gr w y → y.rangeAt b k cs) (hT : T d = Fact.val (.agg cs.toArray)) : StepAt P ops D T a0 w Q o :=
  sa_of d hd hg fun f a y c => op_row t u n ds cs ho b k (h1.get c) hu hdr hi hn (hr y c.grown) ⟨_, rfl, Gr.refl _, by rw [hT]; rfl⟩
theorem sa_len (t : TypeId) (u : Operand) (d : Nat) (s q : Value) (ho : o.op = .call { callee := .builtin .len, args := #[u], argTypes := #[t] }) (hd : o.dst = some d) (hg : o.guard = none) (h1 : Has ops D T a0 o u (Fact.val s)) (hr : ∀ y, (Builtin.len_ #[t] o.type #[s]).run P y = .ok q y) (hT : T d = Fact.val q) : StepAt P ops D T a0 w Q o :=
  sa_of d hd hg fun f a y c => op_val q (by
    have e1 : a.eval u = s := h1.get c
    unfold execOp
    simp only [ho, resolve, invoke, builtin, Sem.run_bind, Sem.run_pure, Result.andThen_ok, List.map_toArray, List.map_cons, List.map_nil, e1, hr]) ⟨_, rfl, Gr.refl _, by rw [hT]; rfl⟩
theorem guard_slotF (k d : Nat) (b : Bool) (hk : o.guard = some (k, false)) (hd : (ops[k]?).bind (·.dst) = some d) (hn : needsB ops o d = true) (hs : d < a0.tmps.size) (hT : T d = Fact.val (.bool b)) {f : Env} {a : Act} {y : World} (c : Ctx ops D T a0 w o f a y) : Region.wanted o (yielded ops a.tmps) = !b := by
  obtain ⟨v, hf, hv⟩ := c.needs d hn
  rw [hT] at hv
  have hv : v = .bool b := hv
  subst hv
  have h1 := c.over.slot d
  rw [if_pos hs, hf] at h1
  have h2 : a.tmps.size = a0.tmps.size := c.over.size
  have h3 : a.tmps[d]? = some (.bool b) := by
    have hl : d < a.tmps.size := by omega
    have e : a.tmps.getD d undef = a.tmps[d] := by simp [hl]
    rw [Array.getElem?_eq_getElem hl, ← e, h1]; rfl
  unfold Region.wanted yielded
  rw [hk]
  simp only [hd, Option.bind_some, h3]
  cases b <;> rfl
theorem sa_guardF (k d : Nat) (hk : o.guard = some (k, false)) (hd : (ops[k]?).bind (·.dst) = some d) (hn : needsB ops o d = true) (hs : d < a0.tmps.size) (hT : T d = Fact.val (.bool false)) (h : StepAt P ops D T a0 w Q { o with guard := none }) : StepAt P ops D T a0 w Q o := fun f a x c => by
  refine .inl ⟨guard_slotF k d false hk hd hn hs hT c, ?_⟩
  rcases h f a x ⟨c.over, c.grown, c.needs, c.out⟩ with ⟨_, hwp⟩ | ⟨hw, _⟩
  · obtain ⟨dst, op, ty, pos, af, gd⟩ := o
    exact hwp
  · rw [wanted_none rfl _] at hw; cases hw
theorem so_guardF (k d : Nat) (hk : o.guard = some (k, false)) (hd : (ops[k]?).bind (·.dst) = some d) (hn : needsB ops o d = true) (hs : d < a0.tmps.size) (hT : T d = Fact.val (.bool true)) (hany : ∀ d, o.dst = some d → T d = Fact.any) : StepAt P ops D T a0 w Q o := fun f a x c =>
  .inr ⟨guard_slotF k d true hk hd hn hs hT c, fun d' hd' => by rw [hany d' hd']; trivial⟩
theorem sa_ix (t : TypeId) (u v : Operand) (d : Nat) (s r q : Value) (ho : o.op = .index t u v) (hd : o.dst = some d) (hg : o.guard = none) (h1 : Has ops D T a0 o u (Fact.val s)) (h2 : Has ops D T a0 o v (Fact.val r)) (hr : ∀ w, (Instr.index t s r).run P w = .ok q w) (hT : T d = Fact.val q) : StepAt P ops D T a0 w Q o :=
  sa_of d hd hg fun f a y c => op_ix t u v s r q ho (h1.get c) (h2.get c) hr ⟨_, rfl, Gr.refl _, by rw [hT]; rfl⟩
theorem sa_bd0 (t : Nat) (d : Nat) (q : Value) (ho : o.op = .build t #[]) (hd : o.dst = some d) (hg : o.guard = none) (hr : ∀ y, (Instr.build t #[]).run P y = .ok q y) (hT : T d = Fact.val q) : StepAt P ops D T a0 w Q o :=
  sa_of d hd hg fun f a y c => by
    refine op_val q (y := y) ?_ ⟨_, rfl, Gr.refl _, by rw [hT]; rfl⟩
    unfold execOp
    simp only [ho, List.map_toArray, List.map_nil, Sem.run_bind, hr, Sem.run_pure, Result.andThen_ok]
/-- A list of one thing, newly made. -/
theorem sa_bs1 (t n : Nat) (u : Operand) (d : Nat) (s : Value) (ho : o.op = .buildSlice t n #[(0, u)]) (hd : o.dst = some d) (hg : o.guard = none) (h1 : Has ops D T a0 o u (Fact.val s))
    (hr : ∀ y, ∃ q z, (Instr.buildSlice t n #[(0, s)]).run P y = .ok q z ∧ Gr y z ∧ (T d).holds q z) : StepAt P ops D T a0 w Q o :=
  sa_of d hd hg fun f a y c => by
    have e1 : a.eval u = s := h1.get c
    obtain ⟨q, z, e3, e4, e5⟩ := hr y
    refine op_val q (y := z) ?_ ⟨_, rfl, e4, e5⟩
    unfold execOp
    simp only [ho, List.map_toArray, List.map_cons, List.map_nil, e1, Sem.run_bind, e3, Sem.run_pure, Result.andThen_ok]
/-- A call of a function value. -/
theorem op_callv (u : Operand) (n : Nat) (cb : Array Value) (args : Array Operand) (tys : Array TypeId) (ho : o.op = .call { callee := .value u, args := args, argTypes := tys }) (hu : a.eval u = .func (.func n) #[] cb) (vs : Array Value) (hv : args.map a.eval = vs)
    (he : ∀ args w, (callFunc n args).run P w = .ok (.enter n args) w) (hc : Calls P n (vs ++ cb) w fun e w' => ∃ v, e = .returned v ∧ K (a.put o.dst v) w') : o.wp P a w K Q := by
  have hrun : (execOp a.eval o).run P w = .ok (.enter n (vs ++ cb)) w := by
    unfold execOp
    rw [ho]
    show (do let d ← resolve a.eval _ o.type; invoke d.target d.args : Sem Next).run P w = _
    have h1 : resolve a.eval { callee := .value u, args := args, argTypes := tys } o.type = pure { target := .fn (.func n) cb, args := #[] ++ vs } := by
      unfold resolve
      rw [← hv]
      show Deferred.ofValue (a.eval u) _ = _
      rw [hu]
      rfl
    rw [h1, Sem.run_bind, Sem.run_pure, Result.andThen_ok]
    show (callFunc n ((#[] ++ vs) ++ cb)).run P w = _
    rw [Array.empty_append]
    exact he (vs ++ cb) w
  unfold Oper.wp
  rw [hrun]
  refine Calls.mono hc fun e w' ⟨v, e1, e2⟩ => ?_
  subst e1
  exact e2
theorem sa_callv2 (n : Nat) (u0 u1 u2 : Operand) (cb : Array Value) (v1 v2 q : Value) (tys : Array TypeId) (d : Nat) (ho : o.op = .call { callee := .value u0, args := #[u1, u2], argTypes := tys }) (hd : o.dst = some d) (hg : o.guard = none) (h0 : Has ops D T a0 o u0 (Fact.val (.func (.func n) #[] cb))) (h1 : Has ops D T a0 o u1 (Fact.val v1)) (h2 : Has ops D T a0 o u2 (Fact.val v2))
    (he : ∀ args w, (callFunc n args).run P w = .ok (.enter n args) w) (hc : ∀ y, Gr w y → Calls P n (#[v1, v2] ++ cb) y fun e z => e = .returned q ∧ Gr y z) (hT : T d = Fact.val q) : StepAt P ops D T a0 w Q o :=
  sa_of d hd hg fun f a y c => op_callv u0 n cb _ tys ho (h0.get c) #[v1, v2] (by rw [show #[v1, v2] = #[a.eval u1, a.eval u2] by rw [show a.eval u1 = v1 from h1.get c, show a.eval u2 = v2 from h2.get c]]; simp) he ((hc y c.grown).mono fun e z ⟨e1, e2⟩ => ⟨q, e1, q, rfl, e2, by rw [hT]; rfl⟩)
theorem sa_call4 (n : Nat) (u1 u2 u3 u4 : Operand) (tys : Array TypeId) (d : Nat) (k1 k2 k3 k4 : Fact) (ho : o.op = .call { callee := .value (.func n), args := #[u1, u2, u3, u4], argTypes := tys }) (hd : o.dst = some d) (hg : o.guard = none) (h1 : Has ops D T a0 o u1 k1) (h2 : Has ops D T a0 o u2 k2) (h3 : Has ops D T a0 o u3 k3) (h4 : Has ops D T a0 o u4 k4)
    (he : ∀ args w, (callFunc n args).run P w = .ok (.enter n args) w) (hc : ∀ v1 v2 v3 v4 y, Gr w y → k1.holds v1 y → k2.holds v2 y → k3.holds v3 y → k4.holds v4 y → Calls P n #[v1, v2, v3, v4] y fun e z => ∃ u, e = .returned u ∧ Gr y z ∧ (T d).holds u z) : StepAt P ops D T a0 w Q o :=
  sa_of d hd hg fun f a y c => op_call n _ tys ho #[a.eval u1, a.eval u2, a.eval u3, a.eval u4] (by simp) he ((hc _ _ _ _ y c.grown (h1.get c) (h2.get c) (h3.get c) (h4.get c)).mono fun e z ⟨u, e1, e2, e3⟩ => ⟨u, e1, u, rfl, e2, e3⟩)
end
/-- A store of one number. -/
theorem op_store1 {o : Oper} {a : Act} {w : World} {K : Act → World → Prop} (t : TypeId) (u v : Operand) (ho : o.op = .store t u v) (b k : Nat) (e1 : a.eval u = .pointer (some ⟨b, k, none⟩)) (x : Value) (e2 : a.eval v = x) (hx : x.cells = #[x]) (hx1 : x.oneCell' = true) (hs : ∀ w, (Go.sizeOf t).run P w = .ok 1 w) {old : Value} (hc : w.cell? ⟨b, k, none⟩ = some old) (hf : w.frozen? ⟨b, k, none⟩ = false) (h : K (a.put o.dst undef) (w.setCell ⟨b, k, none⟩ x)) : o.wp P a w K Q := by
  have hr : (Instr.storeAt t (.pointer (some ⟨b, k, none⟩)) x).run P w = .ok () (w.setCell ⟨b, k, none⟩ x) := by
    simp only [Instr.storeAt, Instr.sureAddr, storeVar, Sem.run_bind, Sem.run_pure, Result.andThen_ok, hs, hx]
    have ha : (⟨b, k, none⟩ : Addr).add 0 = ⟨b, k, none⟩ := by simp [Addr.add]
    simp [storeCells, run_store P w _ x _ hx1, ha, hc, hf]
  unfold Oper.wp execOp
  simp only [ho, e1, e2, Sem.run_bind, hr, Sem.run_pure, Result.andThen_ok]
  exact h
/-- A fact of the slots behind a region. -/
theorem After.get {D : List Nat} {a0 a : Act} (h : After D a0 a) {s : Nat} {v : Value} (e : a0.eval (.tmp s) = v) (hs : D.contains s = false) : a.eval (.tmp s) = v := (h.old s (by intro q; simp [q] at hs)).trans e
theorem After.trans {D E : List Nat} {a b c : Act} (h : After D a b) (k : After E b c) : After (D ++ E) a c := ⟨k.size.trans h.size, k.defers.trans h.defers, fun s hs => (k.old s (fun q => hs (by simp [q]))).trans (h.old s (fun q => hs (by simp [q])))⟩
theorem After.mono {D E : List Nat} {a b : Act} (h : After D a b) (hs : (D.all fun s => E.contains s) = true) : After E a b := ⟨h.size, h.defers, fun s hq => h.old s (fun q => hq (by have := List.all_eq_true.1 hs s q; simpa using this))⟩
/-- A call, its act a letter. -/
theorem calls_by {f : FuncId} {fn : Func} {c : Code} {args : Array Value} {w : World} {R : Ending → World → Prop} (hf : P.funcs[f]? = some fn) (hb : fn.body = some c) (n : Nat) (hn : args.size + (fn.ntmps - args.size) = n)
    (h : ∀ ac : Act, ac.tmps.size = n → ac.defers = [] → (∀ (i : Nat) (v : Value), args[i]? = some v → ac.eval (.tmp i) = v) → c.wp P (bodyPost P fn R) ac w) : Calls P f args w R :=
  calls_of_wp hf hb (h _ (by rw [act_size]; exact hn) rfl (fun i v hv => act_arg _ _ i v hv))
theorem Gr.upd {b : Nat} {x y : World} (h : Gr x y) : Upd b x y := ⟨h.os, h.tape, h.output, h.size, fun k hk _ => h.block k hk⟩
end Go.Proofs.Ytlliijodilnlgaa
