/- Regions by facts: those in order, and the drawn ones, told alike; more single operations. -/
import Derived.Test.YthmnjebmnocoiaaZGsRestM
namespace Go.Proofs.Ythmnjebmnocoiaa
open Go.RowKit

def dstsB (ops : Array Oper) (m s : Nat) : Bool := (ops.toList.take m).any fun o => decide (o.dst = some s)
/-- An operation that is passed over. -/
def StepOff (ops : Array Oper) (D : List Nat) (T : Nat → Fk) (a0 : Act) (w : World) (o : Oper) : Prop :=
  ∀ f a x, Ctx ops D T a0 w o f a x → Region.wanted o (yielded ops a.tmps) = false ∧ ∀ d, o.dst = some d → (T d).holds undef x
theorem Over.after {D : List Nat} {a0 a : Act} {f : Env} (h : Over a0 f a) (ho : ∀ s, s ∉ D → f s = none) : After D a0 a := ⟨h.size, h.defers, fun s hs => h.old (ho s hs)⟩
theorem seq_by {ops : Array Oper} {Q : Exit → Act → World → Prop} {id : Nat} {a0 : Act} {w : World} (hlex : lexOk ops = true) (m : Nat) (hm : m ≤ ops.size) (D : List Nat) (T : Nat → Fk)
    (hD : ((ops.toList.take m).all fun o => match o.dst with | some d => D.contains d | none => true) = true)
    (hstep : ∀ o ∈ ops.toList.take m, StepAt ops D T a0 w Q o ∨ StepOff ops D T a0 w o)
    (hend : ∀ (a : Act) (x : World), After D a0 a → Gr w x → (∀ s, dstsB ops m s = true → s < a0.tmps.size → (T s).holds (a.eval (.tmp s)) x) → wpList Try.prog ops Q (ops.toList.drop m) a x) :
    (Code.region id ops false).wp Try.prog Q a0 w := by
  refine wp_region_list ?_
  have key : ∀ (n k : Nat), k + n = m → ∀ (f : Env) (a : Act) (x : World), Over a0 f a → Gr w x → (∀ s v, f s = some v → (T s).holds v x) → (∀ (j : Nat) (o : Oper) (d : Nat), j < k → ops[j]? = some o → o.dst = some d → (f d).isSome = true) → (∀ s, s ∉ D → f s = none) → wpList Try.prog ops Q (ops.toList.drop k) a x := by
    intro n
    induction n with
    | zero =>
      intro k hk f a x hov hgr hf hdone hout
      obtain rfl : k = m := by omega
      refine hend a x (hov.after hout) hgr (fun s hs hsz => ?_)
      obtain ⟨o, ho, hd⟩ := List.any_eq_true.1 hs
      have hd := of_decide_eq_true hd
      obtain ⟨j, hj⟩ := List.mem_iff_getElem?.1 ho
      have hjk : j < k := by
        have := (List.getElem?_eq_some_iff.1 hj).1
        simp at this; omega
      rw [List.getElem?_take_of_lt hjk] at hj
      obtain ⟨v, hv⟩ := Option.isSome_iff_exists.1 (hdone j o s hjk (by simpa using hj) hd)
      rw [hov.get hsz hv]
      exact hf s v hv
    | succ n ih =>
      intro k hk f a x hov hgr hf hdone hout
      have hks : k < ops.size := by omega
      obtain ⟨o, ho⟩ : ∃ o, ops[k]? = some o := ⟨_, Array.getElem?_eq_getElem hks⟩
      have hl : ops.toList[k]? = some o := by simpa using ho
      have hdrop : ops.toList.drop k = o :: ops.toList.drop (k + 1) := by
        rw [List.drop_eq_getElem_cons (by simpa using hks)]
        congr 1
        exact (List.getElem?_eq_some_iff.1 hl).2
      have hmem : o ∈ ops.toList.take m := List.mem_iff_getElem?.2 ⟨k, by rw [List.getElem?_take_of_lt (by omega)]; exact hl⟩
      have hc : Ctx ops D T a0 w o f a x := ⟨hov, hgr, fun s hs => by
        obtain ⟨e, he, hb⟩ := List.any_eq_true.1 hs
        rw [Bool.and_eq_true] at hb
        have b2 := of_decide_eq_true hb.2
        have hlt := lexOk_spec hlex ho e (by simpa using he) hb.1
        cases hoj : ops[e.on]? with
        | none => rw [hoj] at b2; cases b2
        | some oj =>
          rw [hoj] at b2
          obtain ⟨v, hv⟩ := Option.isSome_iff_exists.1 (hdone e.on oj s hlt hoj b2)
          exact ⟨v, hv, hf s v hv⟩, hout⟩
      have hDo : ∀ d, o.dst = some d → d ∈ D := fun d hd => by
        have := List.all_eq_true.1 hD o hmem
        rw [hd] at this
        simpa using this
      have next : ∀ (v : Value) (y : World), Gr x y → (∀ d, o.dst = some d → (T d).holds v y) → wpList Try.prog ops Q (ops.toList.drop (k + 1)) (a.put o.dst v) y := fun v y hxy hv => by
        refine ih (k + 1) (by omega) (putE f o.dst v) _ y (hov.put o.dst v) (hgr.trans hxy) (fun s u hs => ?_) (fun j oj d hj hoj hd => ?_) (fun s hs => ?_)
        · unfold putE at hs
          split at hs
          · rename_i e
            cases hs
            exact hv s e
          · exact Fk.mono (hf s u hs) hxy
        · unfold putE
          split
          · rfl
          · rename_i e
            rcases Nat.lt_or_ge j k with q | q
            · exact hdone j oj d q hoj hd
            · obtain rfl : j = k := by omega
              rw [ho] at hoj
              cases hoj
              exact absurd hd e
        · unfold putE
          split
          · rename_i e
            exact absurd (hDo s e) hs
          · exact hout s hs
      rw [hdrop]
      unfold wpList
      rcases hstep o hmem with h | h
      · obtain ⟨hw, hwp⟩ := h f a x hc
        rw [if_pos hw]
        refine .inl (Oper.wp_mono (fun a' y ⟨v, e1, r1, f1⟩ => ?_) hwp)
        subst e1
        exact next v y r1 f1
      · obtain ⟨hw, hv⟩ := h f a x hc
        rw [if_neg (by rw [hw]; decide)]
        exact next undef x (Gr.refl _) hv
  exact key m 0 (by omega) (fun _ => none) a0 w (Over.start a0) (Gr.refl w) (fun s v h => by cases h) (fun j o d hj => absurd hj (Nat.not_lt_zero _)) (fun s _ => rfl)
theorem drawn_by {ops : Array Oper} {Q : Exit → Act → World → Prop} {id : Nat} {a0 : Act} {w : World} (hm : Try.prog.follows .mixedOrders = true) (hlex : lexOk ops = true) (D : List Nat) (T : Nat → Fk)
    (hD : (ops.toList.all fun o => match o.dst with | some d => D.contains d | none => true) = true)
    (hstep : ∀ o ∈ ops.toList, StepAt ops D T a0 w Q o)
    (hend : ∀ (a : Act) (x : World), After D a0 a → Gr w x → (∀ s, dstsB ops ops.size s = true → s < a0.tmps.size → (T s).holds (a.eval (.tmp s)) x) → Q .normal a x) :
    (Code.region id ops true).wp Try.prog Q a0 w := by
  refine region_by hm hlex D T hD hstep (fun f a x hov hgr hfa hno => hend a x (hov.after hno) hgr (fun s hs hsz => ?_))
  obtain ⟨o, ho, hd⟩ := List.any_eq_true.1 hs
  have hd := of_decide_eq_true hd
  have ho' : o ∈ ops.toList := List.mem_of_mem_take ho
  have hsD : s ∈ D := by
    have := List.all_eq_true.1 hD o ho'
    rw [hd] at this
    simpa using this
  obtain ⟨v, fv, hv⟩ := hfa s hsD ⟨o, ho', hd⟩
  rw [hov.get hsz fv]
  exact hv
theorem drawn_by_last {ops : Array Oper} {Q : Exit → Act → World → Prop} {id : Nat} {a0 : Act} {w : World} (hm : Try.prog.follows .mixedOrders = true) (hlex : lexOk ops = true) (m : Nat) (hsz : ops.size = m + 1) (D : List Nat) (T : Nat → Fk) (st : Oper) (hst : ops[m]? = some st)
    (hwait : ((List.range m).all fun j => st.after.toList.any fun e => Region.binds .any e && decide (e.on = j)) = true)
    (hD : (ops.toList.all fun o => match o.dst with | some d => D.contains d | none => true) = true)
    (hstep : ∀ o ∈ ops.toList.take m, StepAt ops D T a0 w Q o)
    (hend : ∀ (a : Act) (x : World), After D a0 a → Gr w x → (∀ s, dstsB ops m s = true → s < a0.tmps.size → (T s).holds (a.eval (.tmp s)) x) → Region.wanted st (yielded ops a.tmps) = true ∧ st.wp Try.prog a x (fun a' y => Q .normal a' y) Q) :
    (Code.region id ops true).wp Try.prog Q a0 w := by
  refine region_by_last hm hlex m hsz D T st hst hwait hD hstep (fun f a x hov hgr hfa hno => hend a x (hov.after hno) hgr (fun s hs hsz => ?_))
  obtain ⟨o, ho, hd⟩ := List.any_eq_true.1 hs
  have hd := of_decide_eq_true hd
  have hsD : s ∈ D := by
    have := List.all_eq_true.1 hD o (List.mem_of_mem_take ho)
    rw [hd] at this
    simpa using this
  obtain ⟨v, fv, hv⟩ := hfa s hsD ⟨o, ho, hd⟩
  rw [hov.get hsz fv]
  exact hv
theorem After.refl (a : Act) : After [] a a := ⟨rfl, rfl, fun _ _ => rfl⟩
theorem put_eval_same {a : Act} {d : Nat} {v : Value} (h : d < a.tmps.size) : (a.put (some d) v).eval (.tmp d) = v := by
  show (a.tmps.setIfInBounds d v).getD d undef = v
  simp [h]
theorem put_eval_other {a : Act} {d s : Nat} {v : Value} (h : d ≠ s) : (a.put (some d) v).eval (.tmp s) = a.eval (.tmp s) := by
  show (a.tmps.setIfInBounds d v).getD s undef = a.tmps.getD s undef
  simp [h]
section
variable {ops : Array Oper} {D : List Nat} {T : Nat → Fk} {a0 : Act} {w : World} {Q : Exit → Act → World → Prop} {o : Oper}
theorem sa_call0 (n : Nat) (d : Nat) (ho : o.op = .call { callee := .value (.func n), args := #[], argTypes := #[] }) (hd : o.dst = some d) (hg : o.guard = none)
    (he : ∀ args w, (callFunc n args).run Try.prog w = .ok (.enter n args) w) (hc : ∀ y, Calls Try.prog n #[] y fun e z => ∃ u, e = .returned u ∧ Gr y z ∧ (T d).holds u z) : StepAt ops D T a0 w Q o := fun f a y c => by
  refine ⟨wanted_none hg _, op_call n _ #[] ho #[] (by simp) he ((hc y).mono fun e z ⟨u, e1, e2, e3⟩ => ⟨u, e1, u, rfl, e2, fun d' hd' => ?_⟩)⟩
  rw [hd] at hd'
  cases hd'
  exact e3
theorem sa_eqlB (x1 x2 : Operand) (rt : TypeId) (d : Nat) (s t : Int) (ho : o.op = .binOp .eql 3 x1 x2 rt) (hd : o.dst = some d) (hg : o.guard = none) (h1 : Has ops D T a0 o x1 (.val (.int .i64 s))) (h2 : Has ops D T a0 o x2 (.val (.int .i64 t))) (hT : T d = .val (.bool (s == t))) : StepAt ops D T a0 w Q o :=
  sa_run d _ hd hg hT fun f a y c => by
    have e1 : a.eval x1 = .int .i64 s := h1.get c
    have e2 : a.eval x2 = .int .i64 t := h2.get c
    unfold execOp
    simp only [ho, e1, e2, Sem.run_bind, run_eql3, Sem.run_pure]
    rfl
theorem run_lss3 (s t : Int) (w : World) : (binOp .lss 3 (.int .i64 s) (.int .i64 t)).run Try.prog w = .ok (.bool (decide (s < t))) w := by kernel_rfl
theorem sa_lss (x1 x2 : Operand) (rt : TypeId) (d : Nat) (s t : Int) (ho : o.op = .binOp .lss 3 x1 x2 rt) (hd : o.dst = some d) (hg : o.guard = none) (h1 : Has ops D T a0 o x1 (.val (.int .i64 s))) (h2 : Has ops D T a0 o x2 (.val (.int .i64 t))) (hT : T d = .val (.bool (decide (s < t)))) : StepAt ops D T a0 w Q o :=
  sa_run d _ hd hg hT fun f a y c => by
    have e1 : a.eval x1 = .int .i64 s := h1.get c
    have e2 : a.eval x2 = .int .i64 t := h2.get c
    unfold execOp
    simp only [ho, e1, e2, Sem.run_bind, run_lss3, Sem.run_pure]
    rfl
theorem run_add3 (s t : Int) (w : World) : (binOp .add 3 (.int .i64 s) (.int .i64 t)).run Try.prog w = .ok (.int .i64 (IntKind.i64.wrap (s + t))) w := by kernel_rfl
theorem wrap_id {s : Int} (h : I64 s) : IntKind.i64.wrap s = s := by
  rw [IntKind.wrap_i64]
  have h1 := h.1
  have h2 := h.2
  omega
theorem sa_add (x1 x2 : Operand) (rt : TypeId) (d : Nat) (s t : Int) (ho : o.op = .binOp .add 3 x1 x2 rt) (hd : o.dst = some d) (hg : o.guard = none) (h1 : Has ops D T a0 o x1 (.val (.int .i64 s))) (h2 : Has ops D T a0 o x2 (.val (.int .i64 t))) (hst : I64 (s + t)) (hT : T d = .val (.int .i64 (s + t))) : StepAt ops D T a0 w Q o :=
  sa_run d _ hd hg hT fun f a y c => by
    have e1 : a.eval x1 = .int .i64 s := h1.get c
    have e2 : a.eval x2 = .int .i64 t := h2.get c
    unfold execOp
    simp only [ho, e1, e2, Sem.run_bind, run_add3, Sem.run_pure, wrap_id hst]
    rfl
theorem run_not4 (b : Bool) (w : World) : (Op.unary .not (.bool b)).run Try.prog w = .ok (.bool (!b)) w := by kernel_rfl
theorem sa_not (x1 : Operand) (d : Nat) (b : Bool) (ho : o.op = .unOp .not 4 x1) (hd : o.dst = some d) (hg : o.guard = none) (h1 : Has ops D T a0 o x1 (.val (.bool b))) (hT : T d = .val (.bool (!b))) : StepAt ops D T a0 w Q o :=
  sa_run d _ hd hg hT fun f a y c => by
    have e1 : a.eval x1 = .bool b := h1.get c
    unfold execOp
    simp only [ho, e1, Sem.run_bind, run_not4, Sem.run_pure]
    rfl
theorem sa_pickF (x1 x2 x3 : Operand) (d : Nat) (k : Fk) (ho : o.op = .pick x1 x2 x3) (hd : o.dst = some d) (hg : o.guard = none) (h1 : Has ops D T a0 o x1 (.val (.bool false))) (h3 : Has ops D T a0 o x3 k) (hT : T d = k) : StepAt ops D T a0 w Q o := fun f a y c => by
  refine ⟨wanted_none hg _, ?_⟩
  have e1 : a.eval x1 = .bool false := h1.get c
  unfold Oper.wp execOp
  simp only [ho, e1, asBool, Sem.run_bind, Sem.run_pure, Result.andThen_ok]
  refine ⟨_, rfl, Gr.refl _, fun d' hd' => ?_⟩
  rw [hd] at hd'
  cases hd'
  rw [hT]
  exact h3.get c
theorem so_guard (k d : Nat) (hk : o.guard = some (k, true)) (hd : (ops[k]?).bind (·.dst) = some d) (hn : needsB ops o d = true) (hs : d < a0.tmps.size) (hT : T d = .val (.bool false)) (hany : ∀ d, o.dst = some d → T d = .any) : StepOff ops D T a0 w o := fun f a y c => by
  refine ⟨?_, fun d' hd' => by rw [hany d' hd']; trivial⟩
  obtain ⟨v, hf, hv⟩ := c.needs d hn
  rw [hT] at hv
  have hv : v = .bool false := hv
  subst hv
  have h1 := c.over.slot d
  rw [if_pos hs, hf] at h1
  have h2 : a.tmps.size = a0.tmps.size := c.over.size
  have h3 : a.tmps[d]? = some (.bool false) := by
    have hl : d < a.tmps.size := by omega
    have e : a.tmps.getD d undef = a.tmps[d] := by simp [hl]
    rw [Array.getElem?_eq_getElem hl, ← e, h1]; rfl
  unfold Region.wanted yielded
  rw [hk]
  simp only [hd, Option.bind_some, h3]
  rfl
theorem run_len39 (ρ : Operand → Value) (x : Operand) (dst : Option Nat) (pos : String) (af : Array Edge) (gd : Option (Nat × Bool)) (b : Option Addr) (n cap : Nat) (w : World) (h : ρ x = .slice b n cap) : (execOp ρ ⟨dst, .call { callee := .builtin .len, args := #[x], argTypes := #[39] }, 3, pos, af, gd⟩).run Try.prog w = .ok (.value (.int .i64 (n : Int))) w := by
  have hr : #[x].map ρ = #[.slice b n cap] := by simp [h]
  show (do let d ← resolve ρ { callee := .builtin .len, args := #[x], argTypes := #[39] } 3; invoke d.target d.args : Sem Next).run Try.prog w = _
  unfold resolve
  simp only [hr]
  kernel_rfl
theorem sa_len39 (x : Operand) (d : Nat) (b : Option Addr) (n cap : Nat) (ho : o.op = .call { callee := .builtin .len, args := #[x], argTypes := #[39] }) (hty : o.type = 3) (hd : o.dst = some d) (hg : o.guard = none) (h1 : Has ops D T a0 o x (.val (.slice b n cap))) (hT : T d = .val (.int .i64 (n : Int))) : StepAt ops D T a0 w Q o :=
  sa_run d _ hd hg hT fun f a y c => by
    have e : a.eval x = .slice b n cap := h1.get c
    obtain ⟨dst, op, ty, pos, af, gd⟩ := o
    simp only at ho hty
    subst ho
    subst hty
    exact run_len39 _ x _ _ _ _ b n cap y e
theorem elem39 : Try.prog.elem 39 = 42 := by kernel_rfl
theorem und39 : Try.prog.underlying 39 = some (.slice (Try.prog.elem 39)) := by kernel_rfl
theorem run_ix39 (g of n cap i : Nat) (hi : i < n) (w : World) : (Instr.indexAt 39 (.slice (some ⟨g, of, none⟩) n cap) (.int .i64 (i : Int))).run Try.prog w = .ok (.pointer (some ⟨g, of + i * 4, none⟩)) w := by
  have h1 : (0 : Int) ≤ (i : Int) ∧ (i : Int) < (n : Int) := by omega
  have hs : (sizeOf 42).run Try.prog w = .ok 4 w := by kernel_rfl
  rw [run_indexAt_slice w 39 _ n cap .i64 i und39, if_pos h1, elem39, hs]
  simp [Addr.add]
theorem run_fa (g f : Nat) (hf : f < 4) (w : World) : (Instr.fieldAt 42 (.pointer (some ⟨g, 0, none⟩)) f).run Try.prog w = .ok (.pointer (some ⟨g, f, none⟩)) w := by
  have h0 : (Instr.fieldAt 42 (.pointer (some ⟨g, 0, none⟩)) 0).run Try.prog w = .ok (.pointer (some ⟨g, 0, none⟩)) w := by kernel_rfl
  have h1 : (Instr.fieldAt 42 (.pointer (some ⟨g, 0, none⟩)) 1).run Try.prog w = .ok (.pointer (some ⟨g, 1, none⟩)) w := by kernel_rfl
  have h2 : (Instr.fieldAt 42 (.pointer (some ⟨g, 0, none⟩)) 2).run Try.prog w = .ok (.pointer (some ⟨g, 2, none⟩)) w := by kernel_rfl
  have h3 : (Instr.fieldAt 42 (.pointer (some ⟨g, 0, none⟩)) 3).run Try.prog w = .ok (.pointer (some ⟨g, 3, none⟩)) w := by kernel_rfl
  have h : f = 0 ∨ f = 1 ∨ f = 2 ∨ f = 3 := by omega
  rcases h with rfl | rfl | rfl | rfl
  · exact h0
  · exact h1
  · exact h2
  · exact h3
theorem sa_fa (x1 : Operand) (fl d g : Nat) (hf : fl < 4) (ho : o.op = .fieldAddr 42 x1 fl) (hd : o.dst = some d) (hg : o.guard = none) (h1 : Has ops D T a0 o x1 (.val (.pointer (some ⟨g, 0, none⟩)))) (hT : T d = .val (.pointer (some ⟨g, fl, none⟩))) : StepAt ops D T a0 w Q o :=
  sa_run d _ hd hg hT fun f a y c => by
    have e1 : a.eval x1 = .pointer (some ⟨g, 0, none⟩) := h1.get c
    unfold execOp
    simp only [ho, e1, Sem.run_bind, run_fa g fl hf, Sem.run_pure, Result.andThen_ok]
end
end Go.Proofs.Ythmnjebmnocoiaa
