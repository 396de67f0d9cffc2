/- GsFacts, GsStep, GsStepT. -/
import Derived.Test.YthmnjebmnocoiaaGreatYA0
import Derived.Test.YthmnjebmnocoiaaGreatYA7
/- Facts that last while new things are made, and what single operations do with them. -/
namespace Go.Proofs.YthmnjebmnocoiaaGreat
open Go.RowKit

def Gr (x y : World) : Prop := Below x.heap.size x y
theorem Gr.trans {x y z : World} (h : Gr x y) (k : Gr y z) : Gr x z := Below.trans h (Below.mono k h.size)
theorem Gr.refl (x : World) : Gr x x := Below.refl _ _
theorem Gr.drew (w : World) : Gr w { w with drawn := w.drawn + 1 } := Below.drew (Below.refl _ _)
inductive Fk where
  | val (v0 : Value)
  | ring (r : Rg)
  | ring35 (r : Rg)
  | row (l : List Rg)
  | ints (l : List Int)
  | box (H : Nat)
  | fresh (H : Nat) (r : Rg)
  | any
def Fk.holds : Fk → Value → World → Prop
  | .val v0, v, _ => v = v0
  | .ring r, v, x => ∃ u, v = ringV u r ∧ RingAt x.heap.size x u r
  | .ring35 r, v, x => ∃ u, v = ringV u r ∧ RingAt x.heap.size x u r ∧ ∀ g, u.ownBlock = some g → ∃ cs fr, x.heap[g]? = some (.cells cs 53 fr)
  | .row l, v, x => ∃ (L : List (Value × Rg)) (g : Nat), L.map (·.2) = l ∧ v = .slice (some ⟨g, 0, none⟩) L.length L.length ∧ Holds x g (flatR L) 28 ∧ ∀ p ∈ L, RingAt x.heap.size x p.1 p.2
  | .ints l, v, x => Ints x.heap.size x v l
  | .box H, v, x => ∃ g, v = .pointer (some ⟨g, 0, none⟩) ∧ H ≤ g ∧ Holds x g (ringC (.slice none 0 0) ([], noOs)) 28
  | .fresh H r, v, x => ∃ u, v = ringV u r ∧ RingAt x.heap.size x u r ∧ Fresh H u
  | .any, _, _ => True
theorem RingAt.gr {x y : World} {u : Value} {r : Rg} (h : RingAt x.heap.size x u r) (g : Gr x y) : RingAt y.heap.size y u r := (h.below g).mono g.size
theorem Fk.mono {k : Fk} {v : Value} {x y : World} (h : k.holds v x) (g : Gr x y) : k.holds v y := by
  cases k with
  | val v0 => exact h
  | ring r => obtain ⟨u, h1, h2⟩ := h; exact ⟨u, h1, h2.gr g⟩
  | ring35 r =>
    obtain ⟨u, h1, h2, h3⟩ := h
    exact ⟨u, h1, h2.gr g, fun b hb => by
      obtain ⟨cs, fr, q⟩ := h3 b hb
      exact ⟨cs, fr, (g.block b (Array.getElem?_eq_some_iff.1 q).1).trans q⟩⟩
  | row l => obtain ⟨L, b, h1, h2, h3, h4⟩ := h; exact ⟨L, b, h1, h2, h3.below g h3.lt, fun p hp => (h4 p hp).gr g⟩
  | ints l => exact (Ints.below h g).mono g.size
  | box H => obtain ⟨b, h1, h2, h3⟩ := h; exact ⟨b, h1, h2, h3.below g h3.lt⟩
  | fresh H r => obtain ⟨u, h1, h2, h3⟩ := h; exact ⟨u, h1, h2.gr g, h3⟩
  | any => trivial
theorem Over.get {a0 a : Act} {f : Env} (h : Over a0 f a) {s : Nat} {v : Value} (hs : s < a0.tmps.size) (hf : f s = some v) : a.eval (.tmp s) = v := by
  show a.tmps.getD s undef = v
  rw [h.slot, if_pos hs, hf]; rfl
theorem Over.old {a0 a : Act} {f : Env} (h : Over a0 f a) {s : Nat} (hf : f s = none) : a.eval (.tmp s) = a0.eval (.tmp s) := by
  show a.tmps.getD s undef = a0.tmps.getD s undef
  rw [h.slot, hf]
  by_cases hs : s < a0.tmps.size
  · rw [if_pos hs]; rfl
  · rw [if_neg hs]; simp [hs]
section
variable {o : Oper} {a : Act} {w : World} {K : Act → World → Prop} {Q : Exit → Act → World → Prop}
theorem op_load28 (x : Operand) (ho : o.op = .load 28 x) (g : Nat) (hx : a.eval x = .pointer (some ⟨g, 0, none⟩)) (cs : List Value) (t : TypeId) (hg : Holds w g cs t) (hl : cs.length = 17) (h : K (a.put o.dst (.agg cs.toArray)) w) : o.wp Tryz.prog a w K Q := by
  obtain ⟨dst, op, ty, pos, af, gd⟩ := o
  simp only at ho
  subst ho
  rw [rule28 dst x ty pos af gd a w K Q (by rw [hx, hg.row28 hl]; rfl), hx, hg.row28 hl]
  exact h
theorem op_rings (len : Nat) (parts : Array (Nat × Operand)) (ho : o.op = .buildSlice 36 len parts) (L : List (List Value)) (hlen : L.length = len) (hL : ∀ c ∈ L, c.length = 17) (h0 : 0 < len) (h1 : len ≤ 1000) (hp : parts.toList.map (fun p => (p.1, a.eval p.2)) = (L.zipIdx 0).map fun x => (x.2, Value.agg x.1.toArray))
    (h : K (a.put o.dst (.slice (some ⟨w.heap.size, 0, none⟩) len len)) (w.alloc (.cells L.flatten.toArray 28))) : o.wp Tryz.prog a w K Q := by
  subst hlen
  have hp' : (parts.map fun (i, x) => (i, a.eval x)).toList = (L.zipIdx 0).map fun x => (x.2, Value.agg x.1.toArray) := by rw [Array.toList_map]; exact hp
  unfold Oper.wp execOp
  simp only [ho, Sem.run_bind, run_rings L hL h0 h1 w _ hp', Result.andThen_ok]
  exact h
theorem op_move (x : Operand) (ho : o.op = .move x ∨ o.op = .assign x) (h : K (a.put o.dst (a.eval x)) w) : o.wp Tryz.prog a w K Q := by
  unfold Oper.wp execOp
  rcases ho with ho | ho
  · simp only [ho]; exact h
  · simp only [ho]; exact h
theorem op_alloc28 (ho : o.op = .alloc 28) (h : K (a.put o.dst (.pointer (some ⟨w.heap.size, 0, none⟩))) (w.alloc (.cells (ringC (.slice none 0 0) ([], noOs)).toArray 28))) : o.wp Tryz.prog a w K Q := by
  unfold Oper.wp execOp
  simp only [ho, zero28, Instr.alloc, newVar, newRow, newObj, Value.cells, Sem.run_bind, Sem.run_pure, Result.andThen_ok]
  exact h
theorem op_buildInt (n : Int) (ho : o.op = .buildSlice 30 1 #[(0, .const (.int .i64 n))]) (h : K (a.put o.dst (.slice (some ⟨w.heap.size, 0, none⟩) 1 1)) (w.alloc (.cells #[.int .i64 n] 3))) : o.wp Tryz.prog a w K Q := by
  obtain ⟨i, hi, hz, hs, _⟩ := inf3
  refine wp_buildSlice 30 3 1 _ ho #[.int .i64 n] i _ und24 hi hz (by rw [hs]; decide) (by rw [hs]; decide) ?_ h
  rw [hs]
  simp [Instr.fill, Act.eval, Value.cells]
  apply Array.ext
  · simp
  · intro j h1 h2
    have : j = 0 := by simp at h2; omega
    subst this
    simp
theorem op_store28 (x y : Operand) (ho : o.op = .store 28 x y) (g : Nat) (hx : a.eval x = .pointer (some ⟨g, 0, none⟩)) (old cs : List Value) (hy : a.eval y = .agg cs.toArray) (hg : Holds w g old 28) (h0 : old.length = 17) (hl : cs.length = 17) (h1 : ∀ u ∈ cs, u.oneCell' = true) (h : ∀ w', Turned g w w' cs 28 → K (a.put o.dst undef) w') : o.wp Tryz.prog a w K Q :=
  wp_store_row 28 x y ho g cs.toArray hx hy 28 old.toArray hg (by rw [siz28]; simp [hl]) (by simp [h0, hl]) (all_oneCell_toArray h1) (h _ (turned_setRow hg cs))
theorem op_call (n : Nat) (args : Array Operand) (tys : Array TypeId) (ho : o.op = .call { callee := .value (.func n), args := args, argTypes := tys }) (vs : Array Value) (hv : args.map a.eval = vs)
    (he : ∀ args w, (callFunc n args).run Tryz.prog w = .ok (.enter n args) w) (hc : Calls Tryz.prog n vs w fun e w' => ∃ v, e = .returned v ∧ K (a.put o.dst v) w') : o.wp Tryz.prog a w K Q := by
  have hrun : (execOp a.eval o).run Tryz.prog w = .ok (.enter n vs) w := by
    unfold execOp
    rw [ho]
    show (do let d ← resolve a.eval _ o.type; invoke d.target d.args : Sem Next).run Tryz.prog w = _
    have h1 : resolve a.eval { callee := .value (.func n), args := args, argTypes := tys } o.type = pure { target := .fn (.func n) #[], args := #[] ++ vs } := by
      unfold resolve
      rw [← hv]
      rfl
    rw [h1, Sem.run_bind, Sem.run_pure, Result.andThen_ok]
    show (callFunc n ((#[] ++ vs) ++ #[])).run Tryz.prog w = _
    rw [Array.append_empty, Array.empty_append]
    exact he vs w
  unfold Oper.wp
  rw [hrun]
  refine Calls.mono hc fun e w' ⟨v, e1, e2⟩ => ?_
  subst e1
  exact e2
end
end Go.Proofs.YthmnjebmnocoiaaGreat

/- A region by facts: its single operations. -/
namespace Go.Proofs.YthmnjebmnocoiaaGreat
open Go.RowKit

def needsB (ops : Array Oper) (o : Oper) (s : Nat) : Bool := o.after.toList.any fun e => Region.binds .any e && decide ((ops[e.on]?).bind (·.dst) = some s)
structure Ctx (ops : Array Oper) (D : List Nat) (T : Nat → Fk) (a0 : Act) (w : World) (o : Oper) (f : Env) (a : Act) (x : World) : Prop where
  over : Over a0 f a
  grown : Gr w x
  needs : ∀ s, needsB ops o s = true → ∃ v, f s = some v ∧ (T s).holds v x
  out : ∀ s, s ∉ D → f s = none
def StepAt (ops : Array Oper) (D : List Nat) (T : Nat → Fk) (a0 : Act) (w : World) (Q : Exit → Act → World → Prop) (o : Oper) : Prop :=
  ∀ f a x, Ctx ops D T a0 w o f a x → Region.wanted o (yielded ops a.tmps) = true ∧ o.wp Tryz.prog a x (fun a' y => ∃ v, a' = a.put o.dst v ∧ Gr x y ∧ ∀ d, o.dst = some d → (T d).holds v y) Q
theorem region_by {ops : Array Oper} {Q : Exit → Act → World → Prop} {id : Nat} {a0 : Act} {w : World} (hm : Tryz.prog.follows .mixedOrders = true) (hlex : lexOk ops = true) (D : List Nat) (T : Nat → Fk)
    (hD : (ops.toList.all fun o => match o.dst with | some d => D.contains d | none => true) = true)
    (hstep : ∀ o ∈ ops.toList, StepAt ops D T a0 w Q o)
    (hend : ∀ (f : Env) (a : Act) (x : World), Over a0 f a → Gr w x → (∀ s ∈ D, (∃ o ∈ ops.toList, o.dst = some s) → ∃ v, f s = some v ∧ (T s).holds v x) → (∀ s, s ∉ D → f s = none) → Q .normal a x) :
    (Code.region id ops true).wp Tryz.prog Q a0 w := by
  refine region_facts hm hlex D Gr (fun s v x => (T s).holds v x) (Gr.drew w) Gr.trans (fun h g => Fk.mono h g) (fun j o d ho hd => ?_) (fun i o ho f a x h1 h2 _ h4 h5 => ?_) (fun f a x h1 h2 h3 h4 => ?_)
  · have := List.all_eq_true.1 hD o (by simpa using Array.mem_of_getElem? ho)
    rw [hd] at this
    simpa using this
  · refine hstep o (by simpa using Array.mem_of_getElem? ho) f a x ⟨h1, h2, fun s hs => ?_, h5⟩
    obtain ⟨e, he, hb⟩ := List.any_eq_true.1 hs
    rw [Bool.and_eq_true] at hb
    obtain ⟨b1, b2⟩ := hb
    have b2 := of_decide_eq_true b2
    cases hoj : ops[e.on]? with
    | none => rw [hoj] at b2; cases b2
    | some oj => rw [hoj] at b2; exact h4 e (by simpa using he) b1 oj s hoj b2
  · refine hend f a x h1 h2 (fun s _ ⟨o, ho, hd⟩ => ?_) h4
    obtain ⟨i, hi, e⟩ := List.getElem_of_mem ho
    exact h3 i o s (by rw [← e]; simp at hi ⊢) hd
theorem region_by_last {ops : Array Oper} {Q : Exit → Act → World → Prop} {id : Nat} {a0 : Act} {w : World} (hm : Tryz.prog.follows .mixedOrders = true) (hlex : lexOk ops = true) (m : Nat) (hsz : ops.size = m + 1) (D : List Nat) (T : Nat → Fk) (st : Oper) (hst : ops[m]? = some st)
    (hwait : ((List.range m).all fun j => st.after.toList.any fun e => Region.binds .any e && decide (e.on = j)) = true)
    (hD : (ops.toList.all fun o => match o.dst with | some d => D.contains d | none => true) = true)
    (hstep : ∀ o ∈ ops.toList.take m, StepAt ops D T a0 w Q o)
    (hend : ∀ (f : Env) (a : Act) (x : World), Over a0 f a → Gr w x → (∀ s ∈ D, (∃ o ∈ ops.toList.take m, o.dst = some s) → ∃ v, f s = some v ∧ (T s).holds v x) → (∀ s, s ∉ D → f s = none) → Region.wanted st (yielded ops a.tmps) = true ∧ st.wp Tryz.prog a x (fun a' y => Q .normal a' y) Q) :
    (Code.region id ops true).wp Tryz.prog Q a0 w := by
  have hmem : ∀ (j : Nat) (o : Oper), j < m → ops[j]? = some o → o ∈ ops.toList.take m := fun j o hj ho => by
    rw [List.mem_iff_getElem?]
    exact ⟨j, by rw [List.getElem?_take_of_lt hj]; simpa using ho⟩
  refine region_facts_last m hsz hm hlex D Gr (fun s v x => (T s).holds v x) (Gr.drew w) Gr.trans (fun h g => Fk.mono h g) (fun j o d ho hd => ?_) (fun o ho j hj => ?_) (fun i o hi ho f a x h1 h2 _ h4 h5 => ?_) (fun f a x o ho h1 h2 h3 h4 => ?_)
  · have := List.all_eq_true.1 hD o (by simpa using Array.mem_of_getElem? ho)
    rw [hd] at this
    simpa using this
  · rw [hst] at ho
    cases ho
    have := List.all_eq_true.1 hwait j (List.mem_range.2 hj)
    obtain ⟨e, he, hb⟩ := List.any_eq_true.1 this
    rw [Bool.and_eq_true] at hb
    exact ⟨e, by simpa using he, hb.1, of_decide_eq_true hb.2⟩
  · refine hstep o (hmem i o hi ho) f a x ⟨h1, h2, fun s hs => ?_, h5⟩
    obtain ⟨e, he, hb⟩ := List.any_eq_true.1 hs
    rw [Bool.and_eq_true] at hb
    obtain ⟨b1, b2⟩ := hb
    have b2 := of_decide_eq_true b2
    cases hoj : ops[e.on]? with
    | none => rw [hoj] at b2; cases b2
    | some oj => rw [hoj] at b2; exact h4 e (by simpa using he) b1 oj s hoj b2
  · rw [hst] at ho
    cases ho
    refine hend f a x h1 h2 (fun s _ ⟨o, ho, hd⟩ => ?_) h4
    obtain ⟨i, hi⟩ := List.mem_iff_getElem?.1 ho
    have him : i < m := by
      have := (List.getElem?_eq_some_iff.1 hi).1
      simp at this; omega
    rw [List.getElem?_take_of_lt him] at hi
    exact h3 i o s him (by simpa using hi) hd
theorem Over.eq {a0 a : Act} {f : Env} (h : Over a0 f a) : a = ⟨((List.range a0.tmps.size).map fun s => (f s).getD (a0.tmps.getD s undef)).toArray, a0.defers⟩ := by
  obtain ⟨A, Df⟩ := a
  have h1 : Df = a0.defers := h.defers
  have h2 : A.size = a0.tmps.size := h.size
  subst h1
  congr 1
  apply Array.ext
  · simp [h2]
  · intro i hi1 hi2
    have := h.slot i
    have hi : i < a0.tmps.size := by omega
    rw [if_pos hi] at this
    have e : A[i] = A.getD i undef := by simp [hi1]
    rw [e, this]
    simp
section
variable {ops : Array Oper} {D : List Nat} {T : Nat → Fk} {a0 : Act} {w : World} {Q : Exit → Act → World → Prop} {o : Oper}
inductive Has (ops : Array Oper) (D : List Nat) (T : Nat → Fk) (a0 : Act) (o : Oper) : Operand → Fk → Prop where
  | new (s : Nat) (hn : needsB ops o s = true) (hs : s < a0.tmps.size) : Has ops D T a0 o (.tmp s) (T s)
  | old (s : Nat) (v : Value) (hs : s ∉ D) (hv : a0.eval (.tmp s) = v) : Has ops D T a0 o (.tmp s) (.val v)
  | const (c : Value) : Has ops D T a0 o (.const c) (.val c)
theorem Has.get {x : Operand} {k : Fk} (h : Has ops D T a0 o x k) {f : Env} {a : Act} {y : World} (c : Ctx ops D T a0 w o f a y) : k.holds (a.eval x) y := by
  cases h with
  | new s hn hs =>
    obtain ⟨v, hf, hv⟩ := c.needs s hn
    rw [c.over.get hs hf]; exact hv
  | old s v hs hv =>
    show a.eval (.tmp s) = v
    rw [c.over.old (c.out s hs)]; exact hv
  | const cst => rfl
theorem wanted_none (hg : o.guard = none) (y : Nat → Option Bool) : Region.wanted o y = true := by unfold Region.wanted; rw [hg]
theorem sa_load28 (s d : Nat) (ho : o.op = .load 28 (.tmp s)) (hd : o.dst = some d) (hg : o.guard = none) (hs : s ∉ D) (g : Nat) (hp : a0.eval (.tmp s) = .pointer (some ⟨g, 0, none⟩)) (u : Value) (r : Rg) (H : Holds w g (ringC u r) 28) (hr : RingAt w.heap.size w u r) (hT : T d = .ring r) : StepAt ops D T a0 w Q o := fun f a x c => by
  refine ⟨wanted_none hg _, op_load28 (.tmp s) ho g (by rw [c.over.old (c.out s hs)]; exact hp) (ringC u r) 28 (H.below c.grown H.lt) (ringC_len hr) ⟨_, rfl, Gr.refl _, fun d' hd' => ?_⟩⟩
  rw [hd] at hd'
  cases hd'
  rw [hT]
  exact ⟨u, rfl, hr.gr c.grown⟩
theorem sa_move (x : Operand) (d : Nat) (k : Fk) (ho : o.op = .move x ∨ o.op = .assign x) (hd : o.dst = some d) (hg : o.guard = none) (h : Has ops D T a0 o x k) (hT : T d = k) : StepAt ops D T a0 w Q o := fun f a y c => by
  refine ⟨wanted_none hg _, op_move x ho ⟨_, rfl, Gr.refl _, fun d' hd' => ?_⟩⟩
  rw [hd] at hd'
  cases hd'
  rw [hT]
  exact h.get c
theorem sa_call1 (n : Nat) (x : Operand) (tys : Array TypeId) (d : Nat) (k : Fk) (ho : o.op = .call { callee := .value (.func n), args := #[x], argTypes := tys }) (hd : o.dst = some d) (hg : o.guard = none) (h : Has ops D T a0 o x k)
    (he : ∀ args w, (callFunc n args).run Tryz.prog w = .ok (.enter n args) w) (hc : ∀ v y, k.holds v y → Calls Tryz.prog n #[v] y fun e z => ∃ u, e = .returned u ∧ Gr y z ∧ (T d).holds u z) : StepAt ops D T a0 w Q o := fun f a y c => by
  refine ⟨wanted_none hg _, op_call n _ tys ho #[a.eval x] (by simp) he ((hc _ y (h.get c)).mono fun e z ⟨u, e1, e2, e3⟩ => ⟨u, e1, u, rfl, e2, fun d' hd' => ?_⟩)⟩
  rw [hd] at hd'
  cases hd'
  exact e3
theorem sa_call2 (n : Nat) (x1 x2 : Operand) (tys : Array TypeId) (d : Nat) (k1 k2 : Fk) (ho : o.op = .call { callee := .value (.func n), args := #[x1, x2], argTypes := tys }) (hd : o.dst = some d) (hg : o.guard = none) (h1 : Has ops D T a0 o x1 k1) (h2 : Has ops D T a0 o x2 k2)
    (he : ∀ args w, (callFunc n args).run Tryz.prog w = .ok (.enter n args) w) (hc : ∀ v1 v2 y, k1.holds v1 y → k2.holds v2 y → Calls Tryz.prog n #[v1, v2] y fun e z => ∃ u, e = .returned u ∧ Gr y z ∧ (T d).holds u z) : StepAt ops D T a0 w Q o := fun f a y c => by
  refine ⟨wanted_none hg _, op_call n _ tys ho #[a.eval x1, a.eval x2] (by simp) he ((hc _ _ y (h1.get c) (h2.get c)).mono fun e z ⟨u, e1, e2, e3⟩ => ⟨u, e1, u, rfl, e2, fun d' hd' => ?_⟩)⟩
  rw [hd] at hd'
  cases hd'
  exact e3
theorem row_made {y : World} (L : List (Value × Rg)) (hL : ∀ p ∈ L, RingAt y.heap.size y p.1 p.2) : Gr y (y.alloc (.cells (L.map fun p => ringC p.1 p.2).flatten.toArray 28)) ∧ (Fk.row (L.map (·.2))).holds (.slice (some ⟨y.heap.size, 0, none⟩) L.length L.length) (y.alloc (.cells (L.map fun p => ringC p.1 p.2).flatten.toArray 28)) := by
  have g : Gr y (y.alloc (.cells (L.map fun p => ringC p.1 p.2).flatten.toArray 28)) := (Below.refl _ _).alloc (Nat.le_refl _) _
  refine ⟨g, L, y.heap.size, rfl, rfl, ?_, fun p hp => (hL p hp).gr g⟩
  have : flatR L = (L.map fun p => ringC p.1 p.2).flatten := by simp [flatR, List.flatMap]
  rw [this]
  exact holds_new y _ 28
theorem sa_rings2 (x1 x2 : Operand) (d : Nat) (r1 r2 : Rg) (ho : o.op = .buildSlice 36 2 #[(0, x1), (1, x2)]) (hd : o.dst = some d) (hg : o.guard = none) (h1 : Has ops D T a0 o x1 (.ring r1)) (h2 : Has ops D T a0 o x2 (.ring r2)) (hT : T d = .row [r1, r2]) : StepAt ops D T a0 w Q o := fun f a y c => by
  obtain ⟨u1, e1, R1⟩ := h1.get c
  obtain ⟨u2, e2, R2⟩ := h2.get c
  obtain ⟨g, q⟩ := row_made (y := y) [(u1, r1), (u2, r2)] (by simp [R1, R2])
  refine ⟨wanted_none hg _, op_rings 2 _ ho [ringC u1 r1, ringC u2 r2] rfl (all2 (ringC_len R1) (ringC_len R2)) (by decide) (by decide) (by simp [e1, e2, ringV]) ⟨_, rfl, g, fun d' hd' => ?_⟩⟩
  rw [hd] at hd'
  cases hd'
  rw [hT]
  exact q
theorem sa_alloc28 (d H : Nat) (ho : o.op = .alloc 28) (hd : o.dst = some d) (hg : o.guard = none) (hH : H ≤ w.heap.size) (hT : T d = .box H) : StepAt ops D T a0 w Q o := fun f a y c => by
  refine ⟨wanted_none hg _, op_alloc28 ho ⟨_, rfl, (Below.refl _ _).alloc (Nat.le_refl _) _, fun d' hd' => ?_⟩⟩
  rw [hd] at hd'
  cases hd'
  rw [hT]
  exact ⟨_, rfl, Nat.le_trans hH c.grown.size, holds_new y _ 28⟩
theorem sa_buildInt (n : Int) (d : Nat) (ho : o.op = .buildSlice 30 1 #[(0, .const (.int .i64 n))]) (hd : o.dst = some d) (hg : o.guard = none) (hT : T d = .ints [n]) : StepAt ops D T a0 w Q o := fun f a y c => by
  refine ⟨wanted_none hg _, op_buildInt n ho ⟨_, rfl, (Below.refl _ _).alloc (Nat.le_refl _) _, fun d' hd' => ?_⟩⟩
  rw [hd] at hd'
  cases hd'
  rw [hT]
  exact ints_one _ _ n (holds_new y [.int .i64 n] 3)
theorem sa_call3 (n : Nat) (x1 x2 x3 : Operand) (tys : Array TypeId) (d : Nat) (k1 k2 k3 : Fk) (ho : o.op = .call { callee := .value (.func n), args := #[x1, x2, x3], argTypes := tys }) (hd : o.dst = some d) (hg : o.guard = none) (h1 : Has ops D T a0 o x1 k1) (h2 : Has ops D T a0 o x2 k2) (h3 : Has ops D T a0 o x3 k3)
    (he : ∀ args w, (callFunc n args).run Tryz.prog w = .ok (.enter n args) w) (hc : ∀ v1 v2 v3 y, k1.holds v1 y → k2.holds v2 y → k3.holds v3 y → Calls Tryz.prog n #[v1, v2, v3] y fun e z => ∃ u, e = .returned u ∧ Gr y z ∧ (T d).holds u z) : StepAt ops D T a0 w Q o := fun f a y c => by
  refine ⟨wanted_none hg _, op_call n _ tys ho #[a.eval x1, a.eval x2, a.eval x3] (by simp) he ((hc _ _ _ y (h1.get c) (h2.get c) (h3.get c)).mono fun e z ⟨u, e1, e2, e3⟩ => ⟨u, e1, u, rfl, e2, fun d' hd' => ?_⟩)⟩
  rw [hd] at hd'
  cases hd'
  exact e3
/-! The calls, by facts. -/
theorem c_turned (r : Rg) (hF : RFit r) (s : Int) (hs : 1 ≤ s ∧ s ≤ 3) (ns : List Int) (hn : ∀ n ∈ ns, 1 ≤ n ∧ n ≤ 7) (hl : ns.length ≤ 1000) (v1 v2 v3 : Value) (y : World) (h1 : (Fk.ring r).holds v1 y) (h2 : (Fk.val (.int .i64 s)).holds v2 y) (h3 : (Fk.ints ns).holds v3 y) : Calls Tryz.prog 38 #[v1, v2, v3] y fun e z => ∃ u, e = .returned u ∧ Gr y z ∧ (Fk.ring35 (turnL r s ns)).holds u z := by
  obtain ⟨u, rfl, R1⟩ := h1
  obtain rfl : v2 = .int .i64 s := h2
  exact (turned_any u r hF s hs y.heap.size v3 ns hn hl y (Nat.le_refl _) h3 R1).mono fun e z ⟨u', e1, e2, _, e3, e4⟩ => ⟨_, e1, e4, u', rfl, e2, e3⟩
theorem risen_len (ms : List Int) (h : ∀ x ∈ ms, 1 ≤ x ∧ x ≤ 7) : (risenL ms).length ≤ 7 := by
  obtain ⟨h1, h2⟩ := risen_facts ms
  have hnd : (risenL ms).Nodup := h1.imp fun {a b} q e => by omega
  have hp : (risenL ms).Perm (seven.filter fun x => decide (x ∈ risenL ms)) := by
    refine (List.perm_ext_iff_of_nodup hnd (seven_nodup.filter _)).2 fun x => ?_
    rw [List.mem_filter]
    exact ⟨fun hx => ⟨(mem_seven x).2 (h x ((h2 x).1 hx).1), by simpa using hx⟩, fun hx => by simpa using hx.2⟩
  rw [hp.length_eq]
  exact List.length_filter_le _ _
theorem c_claim (o ms : List Int) (ho : o.length = 8) (hl : ms.length ≤ 7) (hm : ∀ x ∈ ms, 1 ≤ x ∧ x ≤ 7) (v1 v2 : Value) (y : World) (h1 : (Fk.val (.agg (intV o).toArray)).holds v1 y) (h2 : (Fk.ints ms).holds v2 y) : Calls Tryz.prog 42 #[v1, v2] y fun e z => ∃ u, e = .returned u ∧ Gr y z ∧ (Fk.val (.agg (intV (claimL o ms)).toArray)).holds u z := by
  obtain rfl : v1 = .agg (intV o).toArray := h1
  exact (claim_any y.heap.size o ho v2 ms y h2 (Nat.le_refl _) (by omega) (by have := risen_len ms hm; omega)).mono fun e z ⟨e1, e2⟩ => ⟨_, e1, e2, rfl⟩
theorem c_merge (l : List Rg) (hl : l.length ≤ 1000) (v : Value) (y : World) (h : (Fk.row l).holds v y) : Calls Tryz.prog 10 #[v] y fun e z => ∃ u, e = .returned u ∧ Gr y z ∧ (Fk.ring (mergeL l)).holds u z := by
  obtain ⟨L, g, rfl, rfl, H, hR⟩ := h
  refine (merge_any L g y H hR (by simpa using hl)).mono fun e z ⟨u, e1, e2, _, e4⟩ => ⟨_, e1, e4, u, rfl, e2⟩
theorem c_claimant (r : Rg) (v : Value) (y : World) (h : (Fk.ring r).holds v y) : Calls Tryz.prog 22 #[v] y fun e z => ∃ u, e = .returned u ∧ Gr y z ∧ (Fk.val (.int .i64 (claimantL r))).holds u z := by
  obtain ⟨u, rfl, R1⟩ := h
  exact (claimant_any u r y R1).mono fun e z ⟨e1, e2⟩ => ⟨_, e1, e2, rfl⟩
theorem c_owners (r : Rg) (v : Value) (y : World) (h : (Fk.ring r).holds v y) : Calls Tryz.prog 24 #[v] y fun e z => ∃ u, e = .returned u ∧ Gr y z ∧ (Fk.val (.agg (intV (ownersL r)).toArray)).holds u z := by
  obtain ⟨u, rfl, R1⟩ := h
  exact (owners_any u r y R1).mono fun e z ⟨e1, e2⟩ => ⟨_, e1, e2, rfl⟩
theorem c_members (r : Rg) (l : List Int) (hl : l.length ≤ 1000) (v s : Value) (y : World) (h : (Fk.ring r).holds v y) (hs : (Fk.ints l).holds s y) : Calls Tryz.prog 20 #[v, s] y fun e z => ∃ u, e = .returned u ∧ Gr y z ∧ (Fk.ints (membersL r l)).holds u z := by
  obtain ⟨u, rfl, R1⟩ := h
  exact (members_any u r y.heap.size s l y (Nat.le_refl _) hs (by omega) R1).mono fun e z ⟨u', e1, e2, e3⟩ => ⟨_, e1, e3, ints_of_row e2⟩
end
end Go.Proofs.YthmnjebmnocoiaaGreat

/- region_by with two last stores, one behind the other. -/
namespace Go.Proofs.YthmnjebmnocoiaaGreat
open Go.RowKit

theorem region_by_two {ops : Array Oper} {Q : Exit → Act → World → Prop} {id : Nat} {a0 : Act} {w : World} (hm : Tryz.prog.follows .mixedOrders = true) (hlex : lexOk ops = true) (m : Nat) (hsz : ops.size = m + 2) (D : List Nat) (T : Nat → Fk) (st st2 : Oper) (hst : ops[m]? = some st) (hst2 : ops[m + 1]? = some st2)
    (hwait : ((List.range m).all fun j => st.after.toList.any fun e => Region.binds .any e && (decide (e.on = j) || match ops[e.on]? with | some oj => oj.after.toList.any fun e' => Region.binds .any e' && decide (e'.on = j) | none => false)) = true)
    (hwait2 : (st2.after.toList.any fun e => Region.binds .any e && decide (e.on = m)) = true)
    (hD : (ops.toList.all fun o => match o.dst with | some d => D.contains d | none => true) = true)
    (hstep : ∀ o ∈ ops.toList.take m, StepAt ops D T a0 w Q o)
    (hend : ∀ (f : Env) (a : Act) (x : World), Over a0 f a → Gr w x → (∀ s ∈ D, (∃ o ∈ ops.toList.take m, o.dst = some s) → ∃ v, f s = some v ∧ (T s).holds v x) → (∀ s, s ∉ D → f s = none) → Region.wanted st (yielded ops a.tmps) = true ∧ st.wp Tryz.prog a x (fun a' y => Region.wanted st2 (yielded ops a'.tmps) = true ∧ st2.wp Tryz.prog a' y (fun a'' z => Q .normal a'' z) Q) Q) :
    (Code.region id ops true).wp Tryz.prog Q a0 w := by
  have hmem : ∀ (j : Nat) (o : Oper), j < m → ops[j]? = some o → o ∈ ops.toList.take m := fun j o hj ho => by
    rw [List.mem_iff_getElem?]
    exact ⟨j, by rw [List.getElem?_take_of_lt hj]; simpa using ho⟩
  refine region_facts_two m hsz hm hlex D Gr (fun s v x => (T s).holds v x) (Gr.drew w) Gr.trans (fun h g => Fk.mono h g) (fun j o d ho hd => ?_) (fun o ho j hj => ?_) (fun o ho => ?_) (fun i o hi ho f a x h1 h2 _ h4 h5 => ?_) (fun f a x o o2 ho ho2 h1 h2 h3 h4 => ?_)
  · have := List.all_eq_true.1 hD o (by simpa using Array.mem_of_getElem? ho)
    rw [hd] at this
    simpa using this
  · rw [hst] at ho
    cases ho
    have := List.all_eq_true.1 hwait j (List.mem_range.2 hj)
    obtain ⟨e, he, hb⟩ := List.any_eq_true.1 this
    rw [Bool.and_eq_true, Bool.or_eq_true] at hb
    refine ⟨e, by simpa using he, hb.1, ?_⟩
    rcases hb.2 with q | q
    · exact .inl (of_decide_eq_true q)
    · cases hoj : ops[e.on]? with
      | none => rw [hoj] at q; cases q
      | some oj =>
        rw [hoj] at q
        obtain ⟨e', he', hb'⟩ := List.any_eq_true.1 q
        rw [Bool.and_eq_true] at hb'
        exact .inr ⟨oj, rfl, e', by simpa using he', hb'.1, of_decide_eq_true hb'.2⟩
  · rw [hst2] at ho
    cases ho
    obtain ⟨e, he, hb⟩ := List.any_eq_true.1 hwait2
    rw [Bool.and_eq_true] at hb
    exact ⟨e, by simpa using he, hb.1, of_decide_eq_true hb.2⟩
  · refine hstep o (hmem i o hi ho) f a x ⟨h1, h2, fun s hs => ?_, h5⟩
    obtain ⟨e, he, hb⟩ := List.any_eq_true.1 hs
    rw [Bool.and_eq_true] at hb
    obtain ⟨b1, b2⟩ := hb
    have b2 := of_decide_eq_true b2
    cases hoj : ops[e.on]? with
    | none => rw [hoj] at b2; cases b2
    | some oj => rw [hoj] at b2; exact h4 e (by simpa using he) b1 oj s hoj b2
  · rw [hst] at ho
    cases ho
    rw [hst2] at ho2
    cases ho2
    refine hend f a x h1 h2 (fun s _ ⟨o, ho, hd⟩ => ?_) h4
    obtain ⟨i, hi⟩ := List.mem_iff_getElem?.1 ho
    have him : i < m := by
      have := (List.getElem?_eq_some_iff.1 hi).1
      simp at this; omega
    exact h3 i o s him (by rw [List.getElem?_take_of_lt him] at hi; simpa using hi) hd
end Go.Proofs.YthmnjebmnocoiaaGreat
