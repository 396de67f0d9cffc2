/- Eng, EngL. -/
import Derived.Orders
import Derived.Test.YtogippkapadolaaDoorYJ1
/- The engine: regions by facts, acts as letters; over whatever program. -/
namespace Go.Proofs.YtogippkapadolaaDoor
open Go.RowKit
variable {P : Program} {ops : Array Oper} {Q : Exit → Act → World → Prop}

/-! The world has grown: what was there is as it was. -/
def Gr (x y : World) : Prop := Below x.heap.size x y
theorem Gr.trans {x y z : World} (h : Gr x y) (k : Gr y z) : Gr x z := Below.trans h (Below.mono k h.size)
theorem Gr.refl (x : World) : Gr x x := Below.refl _ _
theorem Gr.drew (w : World) : Gr w { w with drawn := w.drawn + 1 } := Below.drew (Below.refl _ _)
theorem Gr.alloc (x : World) (o : Obj) : Gr x (x.alloc o) := (Below.refl _ _).alloc (Nat.le_refl _) _
/-! Acts: slots that are put. -/
abbrev Env := Nat → Option Value
structure Over (a0 : Act) (f : Env) (a : Act) : Prop where
  defers : a.defers = a0.defers
  size : a.tmps.size = a0.tmps.size
  slot : ∀ s, a.tmps.getD s undef = if s < a0.tmps.size then (f s).getD (a0.tmps.getD s undef) else undef
theorem Over.start (a0 : Act) : Over a0 (fun _ => none) a0 := ⟨rfl, rfl, fun s => by
  by_cases h : s < a0.tmps.size
  · rw [if_pos h]; rfl
  · rw [if_neg h]; simp [h]⟩
def putE (f : Env) (d : Option Tmp) (v : Value) : Env := fun s => if d = some s then some v else f s
theorem Over.put {a0 a : Act} {f : Env} (h : Over a0 f a) (d : Option Tmp) (v : Value) : Over a0 (putE f d v) (a.put d v) := by
  cases d with
  | none => exact ⟨h.defers, h.size, fun s => by rw [show putE f none v s = f s by simp [putE]]; exact h.slot s⟩
  | some d =>
    refine ⟨h.defers, by simp [Act.put, h.size], fun s => ?_⟩
    show (a.tmps.setIfInBounds d v).getD s undef = _
    by_cases e : d = s
    · subst e
      by_cases hs : d < a0.tmps.size
      · rw [if_pos hs]
        simp [putE, h.size, hs]
      · rw [if_neg hs]
        simp [h.size, hs]
    · have : putE f (some d) v s = f s := by simp [putE, e]
      rw [this, ← h.slot s]
      simp [e]
theorem Over.get {a0 a : Act} {f : Env} (h : Over a0 f a) {s : Nat} {v : Value} (hs : s < a0.tmps.size) (hf : f s = some v) : a.eval (.tmp s) = v := by
  show a.tmps.getD s undef = v
  rw [h.slot, if_pos hs, hf]; rfl
theorem Over.old {a0 a : Act} {f : Env} (h : Over a0 f a) {s : Nat} (hf : f s = none) : a.eval (.tmp s) = a0.eval (.tmp s) := by
  show a.tmps.getD s undef = a0.tmps.getD s undef
  rw [h.slot, hf]
  by_cases hs : s < a0.tmps.size
  · rw [if_pos hs]; rfl
  · rw [if_neg hs]; simp [hs]
/-- An act whose slots are as they were, but for some. -/
structure After (D : List Nat) (a0 a : Act) : Prop where
  size : a.tmps.size = a0.tmps.size
  defers : a.defers = a0.defers
  old : ∀ s, s ∉ D → a.eval (.tmp s) = a0.eval (.tmp s)
theorem Over.after {D : List Nat} {a0 a : Act} {f : Env} (h : Over a0 f a) (ho : ∀ s, s ∉ D → f s = none) : After D a0 a := ⟨h.size, h.defers, fun s hs => h.old (ho s hs)⟩
theorem put_size {a : Act} {d : Option Nat} {v : Value} : (a.put d v).tmps.size = a.tmps.size := by
  cases d with
  | none => rfl
  | some d => show (a.tmps.setIfInBounds d v).size = _; rw [Array.size_setIfInBounds]
theorem put_none {a : Act} {v : Value} : a.put none v = a := rfl
theorem put_defers {a : Act} {d : Option Nat} {v : Value} : (a.put d v).defers = a.defers := by cases d <;> rfl
theorem ev_put {a : Act} {d s : Nat} {v : Value} (h : d < a.tmps.size) : (a.put (some d) v).eval (.tmp s) = if d = s then v else a.eval (.tmp s) := by
  show (a.tmps.setIfInBounds d v).getD s undef = if d = s then v else a.tmps.getD s undef
  by_cases e : d = s
  · subst e; simp [h]
  · simp [e]
theorem ev_const {a : Act} {v : Value} : a.eval (.const v) = v := rfl
theorem After.put {D : List Nat} {a0 a : Act} (h : After D a0 a) (d : Nat) (v : Value) : After (d :: D) a0 (a.put (some d) v) :=
  ⟨put_size.trans h.size, put_defers.trans h.defers, fun s hs => by
    by_cases hd : d < a.tmps.size
    · rw [ev_put hd, if_neg (fun e => hs (by simp [e]))]
      exact h.old s (fun q => hs (by simp [q]))
    · have : (a.put (some d) v) = a := by
        show Act.mk (a.tmps.setIfInBounds d v) a.defers = a
        rw [Array.setIfInBounds, dif_neg hd]
      rw [this]; exact h.old s (fun q => hs (by simp [q]))⟩
theorem After.self (a : Act) : After [] a a := ⟨rfl, rfl, fun _ _ => rfl⟩
theorem act_arg (args : Array Value) (k i : Nat) (v : Value) (h : args[i]? = some v) : (Act.mk (args ++ Array.replicate k undef) []).eval (.tmp i) = v := by
  show (args ++ Array.replicate k undef).getD i undef = v
  rw [Array.getD_eq_getD_getElem?, Array.getElem?_append_left (Array.getElem?_eq_some_iff.1 h).1, h]
  rfl
theorem act_size (args : Array Value) (k : Nat) : (Act.mk (args ++ Array.replicate k undef) []).tmps.size = args.size + k := by simp
/-! Regions that draw their order, by whatever holds from operation to operation. -/
def lexOk (ops : Array Oper) : Bool := (List.range ops.size).all fun i => match ops[i]? with
  | some o => o.after.toList.all fun e => !Region.binds .any e || decide (e.on < i)
  | none => true
theorem lexOk_spec (h : lexOk ops = true) {i : Nat} {o : Oper} (hi : ops[i]? = some o) : ∀ e ∈ o.after, Region.binds .any e = true → e.on < i := fun e he hb => by
  have hlt : i < ops.size := (Array.getElem?_eq_some_iff.1 hi).1
  have := List.all_eq_true.1 h i (List.mem_range.2 hlt)
  rw [hi] at this
  have := List.all_eq_true.1 this e (by simpa using he)
  rw [hb] at this
  simpa using this
def unlisted (ops : Array Oper) (listed : Array Bool) : List Nat := (List.range ops.size).filter fun j => !listed.getD j true
theorem all_listed (hlex : lexOk ops = true) {listed : Array Bool} (hz : listed.size = ops.size) (hr : Region.ready .any ops listed = []) : ∀ j, j < ops.size → listed.getD j true = true := by
  intro j
  induction j using Nat.strongRecOn with
  | ind j ih =>
    intro hj
    cases hl : listed.getD j true with
    | true => rfl
    | false =>
      exfalso
      have : j ∈ Region.ready .any ops listed := by
        refine mem_ready.2 ⟨hl, ops[j], Array.getElem?_eq_getElem hj, fun e he hb => ?_⟩
        have hlt := lexOk_spec hlex (Array.getElem?_eq_getElem hj) e he hb
        have := ih e.on hlt (by omega)
        have hs : e.on < listed.size := by omega
        simpa [hs] using this
      rw [hr] at this
      cases this
def needsB (ops : Array Oper) (o : Oper) (s : Nat) : Bool := o.after.toList.any fun e => Region.binds .any e && decide ((ops[e.on]?).bind (·.dst) = some s)
def onceB (ops : Array Oper) : Bool := (List.range ops.size).all fun i => (List.range ops.size).all fun j => decide (i = j) || !decide ((ops[i]?).bind (·.dst) = (ops[j]?).bind (·.dst)) || decide ((ops[i]?).bind (·.dst) = none)
theorem once_spec (h : onceB ops = true) {i j : Nat} {o p : Oper} {d : Nat} (hi : ops[i]? = some o) (hj : ops[j]? = some p) (ho : o.dst = some d) (hp : p.dst = some d) : i = j := by
  have h1 := List.all_eq_true.1 h i (List.mem_range.2 (Array.getElem?_eq_some_iff.1 hi).1)
  have h2 := List.all_eq_true.1 h1 j (List.mem_range.2 (Array.getElem?_eq_some_iff.1 hj).1)
  rw [hi, hj] at h2
  simpa [ho, hp] using h2
/-- What was put. -/
def Put (I : Env → World → Prop) (f : Env) (o : Oper) (v : Value) (y : World) : Prop := (∀ d, o.dst = some d → I (putE f (some d) v) y) ∧ (o.dst = none → I f y)
theorem put_of {I : Env → World → Prop} {f : Env} {o : Oper} {v : Value} {y : World} (d : Nat) (hd : o.dst = some d) (h : I (putE f (some d) v) y) : Put I f o v y :=
  ⟨fun d' hd' => by rw [hd] at hd'; cases hd'; exact h, fun q => by rw [hd] at q; cases q⟩
theorem put_skip {I : Env → World → Prop} {f : Env} {o : Oper} {v : Value} {y : World} (hd : o.dst = none) (h : I f y) : Put I f o v y :=
  ⟨fun d' hd' => (by rw [hd] at hd'; cases hd'), fun _ => h⟩
theorem Put.get {I : Env → World → Prop} {f : Env} {o : Oper} {v : Value} {y : World} (h : Put I f o v y) : I (putE f o.dst v) y := by
  cases hd : o.dst with
  | none =>
    have : putE f none v = f := by funext s; simp [putE]
    rw [this]; exact h.2 hd
  | some d => exact h.1 d hd
structure MidI (ops : Array Oper) (I : Env → Array Bool → World → Prop) (a0 : Act) (f : Env) (listed : Array Bool) (a : Act) (w : World) : Prop where
  over : Over a0 f a
  inv : I f listed w
  done : ∀ (j : Nat) (o : Oper) (d : Nat), ops[j]? = some o → listed.getD j false = true → o.dst = some d → (f d).isSome = true
  from_ : ∀ (d : Nat), (f d).isSome = true → ∃ (j : Nat) (o : Oper), ops[j]? = some o ∧ listed.getD j false = true ∧ o.dst = some d
theorem region_inv {id : Nat} {a0 : Act} {w : World} (hm : P.follows .mixedOrders = true) (hlex : lexOk ops = true) (hon : onceB ops = true) (I : Env → World → Prop)
    (h0 : I (fun _ => none) { w with drawn := w.drawn + 1 })
    (hstep : ∀ (i : Nat) (o : Oper), ops[i]? = some o → ∀ (f : Env) (a : Act) (x : World), Over a0 f a → I f x →
      (∀ s, needsB ops o s = true → (f s).isSome = true) → (∀ d, o.dst = some d → f d = none) →
      (Region.wanted o (yielded ops a.tmps) = true ∧ o.wp P a x (fun a' y => ∃ v, a' = a.put o.dst v ∧ Put I f o v y) Q) ∨ (Region.wanted o (yielded ops a.tmps) = false ∧ Put I f o undef x))
    (hend : ∀ (f : Env) (a : Act) (x : World), Over a0 f a → I f x → (∀ (j : Nat) (o : Oper) (d : Nat), ops[j]? = some o → o.dst = some d → (f d).isSome = true) → Q .normal a x) :
    (Code.region id ops true).wp P Q a0 w := by
  refine wp_region_any hm ?_
  have key : ∀ (fuel : Nat) (listed : Array Bool) (f : Env) (a : Act) (x : World), listed.size = ops.size → (unlisted ops listed).length ≤ fuel → MidI ops (fun f _ x => I f x) a0 f listed a x → wpAny P .any ops Q fuel listed a x := by
    intro fuel
    induction fuel with
    | zero =>
      intro listed f a x hz hu h
      have hnil : unlisted ops listed = [] := List.eq_nil_of_length_eq_zero (by omega)
      have hall : ∀ j, j < ops.size → listed.getD j true = true := fun j hj => by
        cases hl : listed.getD j true with
        | true => rfl
        | false =>
          have : j ∈ unlisted ops listed := List.mem_filter.2 ⟨List.mem_range.2 hj, by rw [hl]; rfl⟩
          rw [hnil] at this; cases this
      refine ⟨?_, hend f a x h.over h.inv (fun j o d ho hd => ?_)⟩
      · cases hr : Region.ready .any ops listed with
        | nil => rfl
        | cons j l =>
          have hj : j ∈ Region.ready .any ops listed := by rw [hr]; simp
          obtain ⟨h0, o, ho, _⟩ := mem_ready.1 hj
          have := hall j (Array.getElem?_eq_some_iff.1 ho).1
          rw [this] at h0; cases h0
      · have hj := (Array.getElem?_eq_some_iff.1 ho).1
        have h1 : listed.getD j false = true := by
          have := hall j hj
          have hs : j < listed.size := by omega
          simpa [hs] using this
        exact h.done j o d ho h1 hd
    | succ fuel ih =>
      intro listed f a x hz hu h
      refine ⟨fun hr => ?_, fun i hi => ?_⟩
      · have hall := all_listed hlex hz hr
        refine hend f a x h.over h.inv (fun j o d ho hd => ?_)
        have hj := (Array.getElem?_eq_some_iff.1 ho).1
        have h1 : listed.getD j false = true := by
          have := hall j hj
          have hs : j < listed.size := by omega
          simpa [hs] using this
        exact h.done j o d ho h1 hd
      · obtain ⟨h0, o, ho, haf⟩ := mem_ready.1 hi
        have hil := (Array.getElem?_eq_some_iff.1 ho).1
        have hif : listed.getD i false = false := by
          have hs : i < listed.size := by omega
          simpa [hs] using h0
        have hmem : i ∈ unlisted ops listed := List.mem_filter.2 ⟨List.mem_range.2 hil, by rw [h0]; rfl⟩
        have hlt : (unlisted ops (listed.setIfInBounds i true)).length < (unlisted ops listed).length := by
          have hsub : unlisted ops (listed.setIfInBounds i true) = (unlisted ops listed).filter fun j => decide (j ≠ i) := by
            unfold unlisted
            rw [List.filter_filter]
            apply List.filter_congr
            intro j hj
            by_cases e : i = j
            · subst e
              have : i < listed.size := by omega
              simp [this]
            · rw [getD_set_ne true e]
              have e' : ¬ j = i := fun q => e q.symm
              simp [e']
          rw [hsub]
          exact List.length_filter_lt_length_iff_exists.2 ⟨i, hmem, by simp⟩
        have next : ∀ (v : Value) (y : World), Put I f o v y → wpAny P .any ops Q fuel (listed.setIfInBounds i true) (a.put o.dst v) y := fun v y f1 => by
          refine ih (listed.setIfInBounds i true) (putE f o.dst v) _ y (by simp [hz]) (by omega) ⟨h.over.put o.dst v, f1.get, fun j oj d hoj hl hd => ?_, fun d hd => ?_⟩
          · unfold putE
            by_cases e : o.dst = some d
            · rw [if_pos e]; rfl
            · rw [if_neg e]
              by_cases hji : i = j
              · subst hji
                rw [ho] at hoj
                cases hoj
                exact absurd hd e
              · rw [getD_set_ne false hji] at hl
                exact h.done j oj d hoj hl hd
          · unfold putE at hd
            by_cases e : o.dst = some d
            · refine ⟨i, o, ho, ?_, e⟩
              have hs : i < listed.size := by omega
              simp [hs]
            · rw [if_neg e] at hd
              obtain ⟨j, p, hj, hl, hp⟩ := h.from_ d hd
              refine ⟨j, p, hj, ?_, hp⟩
              by_cases hji : i = j
              · subst hji
                rw [hif] at hl; cases hl
              · rw [getD_set_ne false hji]; exact hl
        unfold wpOp
        rcases hstep i o ho f a x h.over h.inv (fun s hs => by
          obtain ⟨e, he, hb⟩ := List.any_eq_true.1 hs
          rw [Bool.and_eq_true] at hb
          have b2 := of_decide_eq_true hb.2
          cases hoj : ops[e.on]? with
          | none => rw [hoj] at b2; cases b2
          | some oj => rw [hoj] at b2; exact h.done e.on oj s hoj (haf e (by simpa using he) hb.1) b2) (fun d hd => by
          cases hf : f d with
          | none => rfl
          | some v =>
            obtain ⟨j, p, hj, hl, hp⟩ := h.from_ d (by rw [hf]; rfl)
            obtain rfl := once_spec hon ho hj hd hp
            rw [hif] at hl; cases hl) with ⟨hw, hwp⟩ | ⟨hw, hp⟩
        · simp only [ho, hw, if_true]
          refine .inl (Oper.wp_mono (fun a' y ⟨v, e1, f1⟩ => ?_) hwp)
          subst e1
          exact next v y f1
        · simp only [ho, hw]
          exact next undef x hp
  refine key ops.size (Array.replicate ops.size false) (fun _ => none) a0 _ (by simp) ?_ ⟨Over.start a0, h0, fun j o d _ hl _ => ?_, fun d hd => by cases hd⟩
  · exact Nat.le_trans (List.length_filter_le _ _) (by simp)
  · exfalso
    have : (Array.replicate ops.size false).getD j false = false := by
      simp only [Array.getD_eq_getD_getElem?, Array.getElem?_replicate]
      split <;> rfl
    rw [this] at hl; cases hl
/-! Facts that last while the world grows. -/
structure Fact where
  holds : Value → World → Prop
  mono : ∀ {v : Value} {x y : World}, holds v x → Gr x y → holds v y
def Fact.val (v0 : Value) : Fact := ⟨fun v _ => v = v0, fun h _ => h⟩
def Fact.any : Fact := ⟨fun _ _ => True, fun _ _ => trivial⟩
structure Ctx (ops : Array Oper) (D : List Nat) (T : Nat → Fact) (a0 : Act) (w : World) (o : Oper) (f : Env) (a : Act) (x : World) : Prop where
  over : Over a0 f a
  grown : Gr w x
  needs : ∀ s, needsB ops o s = true → ∃ v, f s = some v ∧ (T s).holds v x
  out : ∀ s, s ∉ D → f s = none
/-- An operation, by the facts of its slots: it runs, or is passed over. -/
def StepAt (P : Program) (ops : Array Oper) (D : List Nat) (T : Nat → Fact) (a0 : Act) (w : World) (Q : Exit → Act → World → Prop) (o : Oper) : Prop :=
  ∀ f a x, Ctx ops D T a0 w o f a x → (Region.wanted o (yielded ops a.tmps) = true ∧ o.wp P a x (fun a' y => ∃ v, a' = a.put o.dst v ∧ Gr x y ∧ ∀ d, o.dst = some d → (T d).holds v y) Q) ∨ (Region.wanted o (yielded ops a.tmps) = false ∧ ∀ d, o.dst = some d → (T d).holds undef x)
def dstsB (ops : Array Oper) (m s : Nat) : Bool := (ops.toList.take m).any fun o => decide (o.dst = some s)
theorem drawn_by {id : Nat} {a0 : Act} {w : World} (hm : P.follows .mixedOrders = true) (hlex : lexOk ops = true) (hon : onceB ops = true) (D : List Nat) (T : Nat → Fact)
    (hD : (ops.toList.all fun o => match o.dst with | some d => D.contains d | none => true) = true)
    (hstep : ∀ o ∈ ops.toList, StepAt P ops D T a0 w Q o)
    (hend : ∀ (a : Act) (x : World), After D a0 a → Gr w x → (∀ s, dstsB ops ops.size s = true → s < a0.tmps.size → (T s).holds (a.eval (.tmp s)) x) → Q .normal a x) :
    (Code.region id ops true).wp P Q a0 w := by
  refine region_inv hm hlex hon (fun f x => Gr w x ∧ (∀ s v, f s = some v → (T s).holds v x) ∧ ∀ s, s ∉ D → f s = none) ⟨Gr.drew w, (fun _ _ h => nomatch h), fun _ _ => rfl⟩ (fun i o ho f a x hov ⟨hg, hf, hout⟩ hdep _ => ?_) (fun f a x hov ⟨hg, hf, hout⟩ hall => ?_)
  · have hmem : o ∈ ops.toList := by simpa using Array.mem_of_getElem? ho
    have hDo : ∀ d, o.dst = some d → d ∈ D := fun d hd => by
      have := List.all_eq_true.1 hD o hmem
      rw [hd] at this
      simpa using this
    have putok : ∀ v y, Gr x y → (∀ d, o.dst = some d → (T d).holds v y) → Put (fun f x => Gr w x ∧ (∀ s v, f s = some v → (T s).holds v x) ∧ ∀ s, s ∉ D → f s = none) f o v y := fun v y hxy hv => by
      refine ⟨fun d hd => ⟨hg.trans hxy, fun s u hs => ?_, fun s hs => ?_⟩, fun _ => ⟨hg.trans hxy, fun s u hs => (T s).mono (hf s u hs) hxy, hout⟩⟩
      · unfold putE at hs
        by_cases e : some d = some s
        · rw [if_pos e] at hs
          cases hs
          cases e
          exact hv d hd
        · rw [if_neg e] at hs
          exact (T s).mono (hf s u hs) hxy
      · unfold putE
        rw [if_neg (fun e => hs (by cases e; exact hDo d hd))]
        exact hout s hs
    have hc : Ctx ops D T a0 w o f a x := ⟨hov, hg, fun s hs => by
      obtain ⟨v, hv⟩ := Option.isSome_iff_exists.1 (hdep s hs)
      exact ⟨v, hv, hf s v hv⟩, hout⟩
    rcases hstep o hmem f a x hc with ⟨hw, hwp⟩ | ⟨hw, hv⟩
    · exact .inl ⟨hw, Oper.wp_mono (fun a' y ⟨v, e1, r1, f1⟩ => ⟨v, e1, putok v y r1 f1⟩) hwp⟩
    · exact .inr ⟨hw, putok undef x (Gr.refl _) hv⟩
  · refine hend a x (hov.after hout) hg (fun s hs hsz => ?_)
    obtain ⟨o, ho, hd⟩ := List.any_eq_true.1 hs
    have hd := of_decide_eq_true hd
    obtain ⟨j, hj⟩ := List.mem_iff_getElem?.1 (List.mem_of_mem_take ho)
    obtain ⟨v, hv⟩ := Option.isSome_iff_exists.1 (hall j o s (by simpa using hj) hd)
    rw [hov.get hsz hv]
    exact hf s v hv
/-- Regions in order: the first m operations by facts, the rest as it likes. -/
theorem seq_by {id : Nat} {a0 : Act} {w : World} (hlex : lexOk ops = true) (m : Nat) (hm : m ≤ ops.size) (D : List Nat) (T : Nat → Fact)
    (hD : ((ops.toList.take m).all fun o => match o.dst with | some d => D.contains d | none => true) = true)
    (hstep : ∀ o ∈ ops.toList.take m, StepAt P ops D T a0 w Q o)
    (hend : ∀ (a : Act) (x : World), After D a0 a → Gr w x → (∀ s, dstsB ops m s = true → s < a0.tmps.size → (T s).holds (a.eval (.tmp s)) x) → wpList P ops Q (ops.toList.drop m) a x) :
    (Code.region id ops false).wp P Q a0 w := by
  refine wp_region_list ?_
  have key : ∀ (n k : Nat), k + n = m → ∀ (f : Env) (a : Act) (x : World), Over a0 f a → Gr w x → (∀ s v, f s = some v → (T s).holds v x) → (∀ (j : Nat) (o : Oper) (d : Nat), j < k → ops[j]? = some o → o.dst = some d → (f d).isSome = true) → (∀ s, s ∉ D → f s = none) → wpList P ops Q (ops.toList.drop k) a x := by
    intro n
    induction n with
    | zero =>
      intro k hk f a x hov hgr hf hdone hout
      obtain rfl : k = m := by omega
      refine hend a x (hov.after hout) hgr (fun s hs hsz => ?_)
      obtain ⟨o, ho, hd⟩ := List.any_eq_true.1 hs
      have hd := of_decide_eq_true hd
      obtain ⟨j, hj⟩ := List.mem_iff_getElem?.1 ho
      have hjk : j < k := by
        have := (List.getElem?_eq_some_iff.1 hj).1
        simp at this; omega
      rw [List.getElem?_take_of_lt hjk] at hj
      obtain ⟨v, hv⟩ := Option.isSome_iff_exists.1 (hdone j o s hjk (by simpa using hj) hd)
      rw [hov.get hsz hv]
      exact hf s v hv
    | succ n ih =>
      intro k hk f a x hov hgr hf hdone hout
      have hks : k < ops.size := by omega
      obtain ⟨o, ho⟩ : ∃ o, ops[k]? = some o := ⟨_, Array.getElem?_eq_getElem hks⟩
      have hl : ops.toList[k]? = some o := by simpa using ho
      have hdrop : ops.toList.drop k = o :: ops.toList.drop (k + 1) := by
        rw [List.drop_eq_getElem_cons (by simpa using hks)]
        congr 1
        exact (List.getElem?_eq_some_iff.1 hl).2
      have hmem : o ∈ ops.toList.take m := List.mem_iff_getElem?.2 ⟨k, by rw [List.getElem?_take_of_lt (by omega)]; exact hl⟩
      have hc : Ctx ops D T a0 w o f a x := ⟨hov, hgr, fun s hs => by
        obtain ⟨e, he, hb⟩ := List.any_eq_true.1 hs
        rw [Bool.and_eq_true] at hb
        have b2 := of_decide_eq_true hb.2
        have hlt := lexOk_spec hlex ho e (by simpa using he) hb.1
        cases hoj : ops[e.on]? with
        | none => rw [hoj] at b2; cases b2
        | some oj =>
          rw [hoj] at b2
          obtain ⟨v, hv⟩ := Option.isSome_iff_exists.1 (hdone e.on oj s hlt hoj b2)
          exact ⟨v, hv, hf s v hv⟩, hout⟩
      have hDo : ∀ d, o.dst = some d → d ∈ D := fun d hd => by
        have := List.all_eq_true.1 hD o hmem
        rw [hd] at this
        simpa using this
      have next : ∀ (v : Value) (y : World), Gr x y → (∀ d, o.dst = some d → (T d).holds v y) → wpList P ops Q (ops.toList.drop (k + 1)) (a.put o.dst v) y := fun v y hxy hv => by
        refine ih (k + 1) (by omega) (putE f o.dst v) _ y (hov.put o.dst v) (hgr.trans hxy) (fun s u hs => ?_) (fun j oj d hj hoj hd => ?_) (fun s hs => ?_)
        · unfold putE at hs
          split at hs
          · rename_i e
            cases hs
            exact hv s e
          · exact (T s).mono (hf s u hs) hxy
        · unfold putE
          split
          · rfl
          · rename_i e
            rcases Nat.lt_or_ge j k with q | q
            · exact hdone j oj d q hoj hd
            · obtain rfl : j = k := by omega
              rw [ho] at hoj
              cases hoj
              exact absurd hd e
        · unfold putE
          split
          · rename_i e
            exact absurd (hDo s e) hs
          · exact hout s hs
      rw [hdrop]
      unfold wpList
      rcases hstep o hmem f a x hc with ⟨hw, hwp⟩ | ⟨hw, hv⟩
      · rw [if_pos hw]
        refine .inl (Oper.wp_mono (fun a' y ⟨v, e1, r1, f1⟩ => ?_) hwp)
        subst e1
        exact next v y r1 f1
      · rw [if_neg (by rw [hw]; decide)]
        exact next undef x (Gr.refl _) hv
  exact key m 0 (by omega) (fun _ => none) a0 w (Over.start a0) (Gr.refl w) (fun s v h => by cases h) (fun j o d hj => absurd hj (Nat.not_lt_zero _)) (fun s _ => rfl)
/-! Single operations. -/
theorem wanted_none {o : Oper} (hg : o.guard = none) (y : Nat → Option Bool) : Region.wanted o y = true := by unfold Region.wanted; rw [hg]
section
variable {o : Oper} {a : Act} {w x y : World} {K : Act → World → Prop}
theorem op_val (v : Value) (h : (execOp a.eval o).run P x = .ok (.value v) y) (hK : K (a.put o.dst v) y) : o.wp P a x K Q := by
  unfold Oper.wp
  rw [h]
  exact hK
theorem op_move (u : Operand) (ho : o.op = .move u ∨ o.op = .assign u) (h : K (a.put o.dst (a.eval u)) w) : o.wp P a w K Q := by
  refine op_val (a.eval u) ?_ h
  unfold execOp
  rcases ho with ho | ho <;> simp [ho]
theorem op_call (n : Nat) (args : Array Operand) (tys : Array TypeId) (ho : o.op = .call { callee := .value (.func n), args := args, argTypes := tys }) (vs : Array Value) (hv : args.map a.eval = vs)
    (he : ∀ args w, (callFunc n args).run P w = .ok (.enter n args) w) (hc : Calls P n vs w fun e w' => ∃ v, e = .returned v ∧ K (a.put o.dst v) w') : o.wp P a w K Q := by
  have hrun : (execOp a.eval o).run P w = .ok (.enter n vs) w := by
    unfold execOp
    rw [ho]
    show (do let d ← resolve a.eval _ o.type; invoke d.target d.args : Sem Next).run P w = _
    have h1 : resolve a.eval { callee := .value (.func n), args := args, argTypes := tys } o.type = pure { target := .fn (.func n) #[], args := #[] ++ vs } := by
      unfold resolve
      rw [← hv]
      rfl
    rw [h1, Sem.run_bind, Sem.run_pure, Result.andThen_ok]
    show (callFunc n ((#[] ++ vs) ++ #[])).run P w = _
    rw [Array.append_empty, Array.empty_append]
    exact he vs w
  unfold Oper.wp
  rw [hrun]
  refine Calls.mono hc fun e w' ⟨v, e1, e2⟩ => ?_
  subst e1
  exact e2
theorem op_bin (b : BinOp) (t : TypeId) (u v : Operand) (rt : TypeId) (s r q : Value) (ho : o.op = .binOp b t u v rt) (e1 : a.eval u = s) (e2 : a.eval v = r) (hg : ∀ w, (eqGuard b t u v s r).run P w = .ok () w) (hr : ∀ w, (binOp b t s r).run P w = .ok q w) (h : K (a.put o.dst q) w) : o.wp P a w K Q := by
  refine op_val q ?_ h
  unfold execOp
  simp only [ho, e1, e2, Sem.run_bind, hg, hr, Sem.run_pure, Result.andThen_ok]
theorem op_un (b : UnOp) (t : TypeId) (u : Operand) (s q : Value) (ho : o.op = .unOp b t u) (e1 : a.eval u = s) (hr : ∀ w, (Op.unary b s).run P w = .ok q w) (h : K (a.put o.dst q) w) : o.wp P a w K Q := by
  refine op_val q ?_ h
  unfold execOp
  simp only [ho, e1, Sem.run_bind, hr, Sem.run_pure, Result.andThen_ok]
theorem op_conv (t t' : TypeId) (u : Operand) (s q : Value) (ho : o.op = .convert t t' u) (e1 : a.eval u = s) (hr : (convert t t' s).run P w = .ok q w) (h : K (a.put o.dst q) w) : o.wp P a w K Q := by
  refine op_val q ?_ h
  unfold execOp
  simp only [ho, e1, Sem.run_bind, hr, Sem.run_pure, Result.andThen_ok]
theorem op_fa (t : TypeId) (u : Operand) (k : Nat) (s q : Value) (ho : o.op = .fieldAddr t u k) (e : a.eval u = s) (hr : ∀ w, (Instr.fieldAt t s k).run P w = .ok q w) (h : K (a.put o.dst q) w) : o.wp P a w K Q := by
  refine op_val _ ?_ h
  unfold execOp
  simp only [ho, e, Sem.run_bind, hr, Sem.run_pure, Result.andThen_ok]
theorem op_fd (t : TypeId) (u : Operand) (k : Nat) (s q : Value) (ho : o.op = .field t u k) (e : a.eval u = s) (hr : ∀ w, (Instr.field t s k).run P w = .ok q w) (h : K (a.put o.dst q) w) : o.wp P a w K Q := by
  refine op_val _ ?_ h
  unfold execOp
  simp only [ho, e, Sem.run_bind, hr, Sem.run_pure, Result.andThen_ok]
theorem op_ixa (t : TypeId) (u v : Operand) (s r q : Value) (ho : o.op = .indexAddr t u v) (e1 : a.eval u = s) (e2 : a.eval v = r) (hr : ∀ w, (Instr.indexAt t s r).run P w = .ok q w) (h : K (a.put o.dst q) w) : o.wp P a w K Q := by
  refine op_val _ ?_ h
  unfold execOp
  simp only [ho, e1, e2, Sem.run_bind, hr, Sem.run_pure, Result.andThen_ok]
theorem op_ix (t : TypeId) (u v : Operand) (s r q : Value) (ho : o.op = .index t u v) (e1 : a.eval u = s) (e2 : a.eval v = r) (hr : ∀ w, (Instr.index t s r).run P w = .ok q w) (h : K (a.put o.dst q) w) : o.wp P a w K Q := by
  refine op_val _ ?_ h
  unfold execOp
  simp only [ho, e1, e2, Sem.run_bind, hr, Sem.run_pure, Result.andThen_ok]
theorem op_loadc (t : TypeId) (u : Operand) (ho : o.op = .load t u) (ht : ∀ w, (isAgg t).run P w = .ok false w) (g k : Nat) (e : a.eval u = .pointer (some ⟨g, k, none⟩)) (v : Value) (hc : w.cell? ⟨g, k, none⟩ = some v) (h : K (a.put o.dst v) w) : o.wp P a w K Q := by
  refine op_val v ?_ h
  unfold execOp
  simp only [ho, e, Instr.loadAt, Instr.sureAddr, Sem.run_bind, Sem.run_pure, Result.andThen_ok, loadVar, ht]
  simp [hc]
theorem op_row (t : TypeId) (u : Operand) (n : Nat) (d : TypeDesc) (cs : List Value) (ho : o.op = .load t u) (b k : Nat) (e : a.eval u = .pointer (some ⟨b, k, none⟩)) (hu : P.underlying t = some d) (hd : d.isRow = true) (hi : (P.info? t).map (·.size) = some n) (hn : cs.length = n) (hr : w.rangeAt b k cs) (h : K (a.put o.dst (.agg cs.toArray)) w) : o.wp P a w K Q := by
  refine op_val _ ?_ h
  unfold execOp
  simp only [ho, e, Sem.run_bind, run_loadAt_mid w b k t cs d hr hu hd (by rw [hn]; exact hi), Sem.run_pure, Result.andThen_ok]
theorem op_pick (u v z : Operand) (b : Bool) (ho : o.op = .pick u v z) (e : a.eval u = .bool b) (h : K (a.put o.dst (if b then a.eval v else a.eval z)) w) : o.wp P a w K Q := by
  refine op_val (if b then a.eval v else a.eval z) ?_ h
  unfold execOp
  simp only [ho, e, asBool, Sem.run_bind, Sem.run_pure, Result.andThen_ok]
variable {rest : List Oper}
theorem wl_of (hg : o.guard = none) (h : o.wp P a w (wpList P ops Q rest) Q) : wpList P ops Q (o :: rest) a w := by
  unfold wpList
  rw [if_pos (wanted_none hg _)]
  exact .inl h
theorem wl_end (h : Q .normal a w) : wpList P ops Q [] a w := h
end
/-! Steps by facts. -/
section
variable {D : List Nat} {T : Nat → Fact} {a0 : Act} {w : World} {o : Oper}
/-- An operand by its fact. -/
inductive Has (ops : Array Oper) (D : List Nat) (T : Nat → Fact) (a0 : Act) (o : Oper) : Operand → Fact → Prop where
  | new (s : Nat) (hn : needsB ops o s = true) (hs : s < a0.tmps.size) : Has ops D T a0 o (.tmp s) (T s)
  | old (s : Nat) (v : Value) (hs : s ∉ D) (hv : a0.eval (.tmp s) = v) : Has ops D T a0 o (.tmp s) (Fact.val v)
  | const (c : Value) : Has ops D T a0 o (.const c) (Fact.val c)
theorem Has.get {u : Operand} {k : Fact} (h : Has ops D T a0 o u k) {f : Env} {a : Act} {y : World} (c : Ctx ops D T a0 w o f a y) : k.holds (a.eval u) y := by
  cases h with
  | new s hn hs =>
    obtain ⟨v, hf, hv⟩ := c.needs s hn
    rw [c.over.get hs hf]; exact hv
  | old s v hs hv =>
    show a.eval (.tmp s) = v
    rw [c.over.old (c.out s hs)]; exact hv
  | const cst => rfl
/-- A step out of what the operation does: value and world behind it. -/
theorem sa_of (d : Nat) (hd : o.dst = some d) (hg : o.guard = none) (h : ∀ f a y, Ctx ops D T a0 w o f a y → o.wp P a y (fun a' z => ∃ v, a' = a.put o.dst v ∧ Gr y z ∧ (T d).holds v z) Q) : StepAt P ops D T a0 w Q o := fun f a y c => by
  refine .inl ⟨wanted_none hg _, Oper.wp_mono (fun a' z ⟨v, e1, e2, e3⟩ => ⟨v, e1, e2, fun d' hd' => ?_⟩) (h f a y c)⟩
  rw [hd] at hd'
  cases hd'
  exact e3
theorem sa_move (u : Operand) (d : Nat) (k : Fact) (ho : o.op = .move u ∨ o.op = .assign u) (hd : o.dst = some d) (hg : o.guard = none) (h : Has ops D T a0 o u k) (hT : T d = k) : StepAt P ops D T a0 w Q o :=
  sa_of d hd hg fun f a y c => op_move u ho ⟨_, rfl, Gr.refl _, by rw [hT]; exact h.get c⟩
theorem sa_run (d : Nat) (v0 : Value) (hd : o.dst = some d) (hg : o.guard = none) (hT : T d = Fact.val v0) (h : ∀ f a y, Ctx ops D T a0 w o f a y → (execOp a.eval o).run P y = .ok (.value v0) y) : StepAt P ops D T a0 w Q o :=
  sa_of d hd hg fun f a y c => op_val v0 (h f a y c) ⟨_, rfl, Gr.refl _, by rw [hT]; rfl⟩
theorem sa_bin (b : BinOp) (t : TypeId) (u v : Operand) (rt : TypeId) (d : Nat) (s r q : Value) (ho : o.op = .binOp b t u v rt) (hd : o.dst = some d) (hg : o.guard = none) (h1 : Has ops D T a0 o u (Fact.val s)) (h2 : Has ops D T a0 o v (Fact.val r)) (hgd : ∀ w, (eqGuard b t u v s r).run P w = .ok () w) (hr : ∀ w, (binOp b t s r).run P w = .ok q w) (hT : T d = Fact.val q) : StepAt P ops D T a0 w Q o :=
  sa_of d hd hg fun f a y c => op_bin b t u v rt s r q ho (h1.get c) (h2.get c) hgd hr ⟨_, rfl, Gr.refl _, by rw [hT]; rfl⟩
theorem sa_un (b : UnOp) (t : TypeId) (u : Operand) (d : Nat) (s q : Value) (ho : o.op = .unOp b t u) (hd : o.dst = some d) (hg : o.guard = none) (h1 : Has ops D T a0 o u (Fact.val s)) (hr : ∀ w, (Op.unary b s).run P w = .ok q w) (hT : T d = Fact.val q) : StepAt P ops D T a0 w Q o :=
  sa_of d hd hg fun f a y c => op_un b t u s q ho (h1.get c) hr ⟨_, rfl, Gr.refl _, by rw [hT]; rfl⟩
theorem sa_fa (t : TypeId) (u : Operand) (k d : Nat) (s q : Value) (ho : o.op = .fieldAddr t u k) (hd : o.dst = some d) (hg : o.guard = none) (h1 : Has ops D T a0 o u (Fact.val s)) (hr : ∀ w, (Instr.fieldAt t s k).run P w = .ok q w) (hT : T d = Fact.val q) : StepAt P ops D T a0 w Q o :=
  sa_of d hd hg fun f a y c => op_fa t u k s q ho (h1.get c) hr ⟨_, rfl, Gr.refl _, by rw [hT]; rfl⟩
theorem sa_ixa (t : TypeId) (u v : Operand) (d : Nat) (s r q : Value) (ho : o.op = .indexAddr t u v) (hd : o.dst = some d) (hg : o.guard = none) (h1 : Has ops D T a0 o u (Fact.val s)) (h2 : Has ops D T a0 o v (Fact.val r)) (hr : ∀ w, (Instr.indexAt t s r).run P w = .ok q w) (hT : T d = Fact.val q) : StepAt P ops D T a0 w Q o :=
  sa_of d hd hg fun f a y c => op_ixa t u v s r q ho (h1.get c) (h2.get c) hr ⟨_, rfl, Gr.refl _, by rw [hT]; rfl⟩
theorem sa_loadc (t : TypeId) (u : Operand) (d g k : Nat) (v : Value) (ho : o.op = .load t u) (hd : o.dst = some d) (hg : o.guard = none) (ht : ∀ w, (isAgg t).run P w = .ok false w) (h1 : Has ops D T a0 o u (Fact.val (.pointer (some ⟨g, k, none⟩)))) (hc : ∀ y, Gr w y → y.cell? ⟨g, k, none⟩ = some v) (hT : T d = Fact.val v) : StepAt P ops D T a0 w Q o :=
  sa_of d hd hg fun f a y c => op_loadc t u ho ht g k (h1.get c) v (hc y c.grown) ⟨_, rfl, Gr.refl _, by rw [hT]; rfl⟩
theorem sa_pick (u v z : Operand) (d : Nat) (k : Fact) (ho : o.op = .pick u v z) (hd : o.dst = some d) (hg : o.guard = none) (h1 : Has ops D T a0 o u (Fact.val (.bool true))) (h2 : Has ops D T a0 o v k) (hT : T d = k) : StepAt P ops D T a0 w Q o :=
  sa_of d hd hg fun f a y c => op_pick u v z true ho (h1.get c) ⟨_, rfl, Gr.refl _, by rw [hT]; exact h2.get c⟩
theorem sa_pickF (u v z : Operand) (d : Nat) (k : Fact) (ho : o.op = .pick u v z) (hd : o.dst = some d) (hg : o.guard = none) (h1 : Has ops D T a0 o u (Fact.val (.bool false))) (h3 : Has ops D T a0 o z k) (hT : T d = k) : StepAt P ops D T a0 w Q o :=
  sa_of d hd hg fun f a y c => op_pick u v z false ho (h1.get c) ⟨_, rfl, Gr.refl _, by rw [hT]; exact h3.get c⟩
theorem sa_call0 (n : Nat) (tys : Array TypeId) (d : Nat) (ho : o.op = .call { callee := .value (.func n), args := #[], argTypes := tys }) (hd : o.dst = some d) (hg : o.guard = none)
    (he : ∀ args w, (callFunc n args).run P w = .ok (.enter n args) w) (hc : ∀ y, Gr w y → Calls P n #[] y fun e z => ∃ u, e = .returned u ∧ Gr y z ∧ (T d).holds u z) : StepAt P ops D T a0 w Q o :=
  sa_of d hd hg fun f a y c => op_call n _ tys ho #[] (by simp) he ((hc y c.grown).mono fun e z ⟨u, e1, e2, e3⟩ => ⟨u, e1, u, rfl, e2, e3⟩)
theorem sa_call1 (n : Nat) (u : Operand) (tys : Array TypeId) (d : Nat) (k : Fact) (ho : o.op = .call { callee := .value (.func n), args := #[u], argTypes := tys }) (hd : o.dst = some d) (hg : o.guard = none) (h : Has ops D T a0 o u k)
    (he : ∀ args w, (callFunc n args).run P w = .ok (.enter n args) w) (hc : ∀ v y, Gr w y → k.holds v y → Calls P n #[v] y fun e z => ∃ u, e = .returned u ∧ Gr y z ∧ (T d).holds u z) : StepAt P ops D T a0 w Q o :=
  sa_of d hd hg fun f a y c => op_call n _ tys ho #[a.eval u] (by simp) he ((hc _ y c.grown (h.get c)).mono fun e z ⟨u, e1, e2, e3⟩ => ⟨u, e1, u, rfl, e2, e3⟩)
theorem sa_call2 (n : Nat) (u1 u2 : Operand) (tys : Array TypeId) (d : Nat) (k1 k2 : Fact) (ho : o.op = .call { callee := .value (.func n), args := #[u1, u2], argTypes := tys }) (hd : o.dst = some d) (hg : o.guard = none) (h1 : Has ops D T a0 o u1 k1) (h2 : Has ops D T a0 o u2 k2)
    (he : ∀ args w, (callFunc n args).run P w = .ok (.enter n args) w) (hc : ∀ v1 v2 y, Gr w y → k1.holds v1 y → k2.holds v2 y → Calls P n #[v1, v2] y fun e z => ∃ u, e = .returned u ∧ Gr y z ∧ (T d).holds u z) : StepAt P ops D T a0 w Q o :=
  sa_of d hd hg fun f a y c => op_call n _ tys ho #[a.eval u1, a.eval u2] (by simp) he ((hc _ _ y c.grown (h1.get c) (h2.get c)).mono fun e z ⟨u, e1, e2, e3⟩ => ⟨u, e1, u, rfl, e2, e3⟩)
theorem sa_call3 (n : Nat) (u1 u2 u3 : Operand) (tys : Array TypeId) (d : Nat) (k1 k2 k3 : Fact) (ho : o.op = .call { callee := .value (.func n), args := #[u1, u2, u3], argTypes := tys }) (hd : o.dst = some d) (hg : o.guard = none) (h1 : Has ops D T a0 o u1 k1) (h2 : Has ops D T a0 o u2 k2) (h3 : Has ops D T a0 o u3 k3)
    (he : ∀ args w, (callFunc n args).run P w = .ok (.enter n args) w) (hc : ∀ v1 v2 v3 y, Gr w y → k1.holds v1 y → k2.holds v2 y → k3.holds v3 y → Calls P n #[v1, v2, v3] y fun e z => ∃ u, e = .returned u ∧ Gr y z ∧ (T d).holds u z) : StepAt P ops D T a0 w Q o :=
  sa_of d hd hg fun f a y c => op_call n _ tys ho #[a.eval u1, a.eval u2, a.eval u3] (by simp) he ((hc _ _ _ y c.grown (h1.get c) (h2.get c) (h3.get c)).mono fun e z ⟨u, e1, e2, e3⟩ => ⟨u, e1, u, rfl, e2, e3⟩)
theorem guard_slot (k d : Nat) (b : Bool) (hk : o.guard = some (k, true)) (hd : (ops[k]?).bind (·.dst) = some d) (hn : needsB ops o d = true) (hs : d < a0.tmps.size) (hT : T d = Fact.val (.bool b)) {f : Env} {a : Act} {y : World} (c : Ctx ops D T a0 w o f a y) : Region.wanted o (yielded ops a.tmps) = b := by
  obtain ⟨v, hf, hv⟩ := c.needs d hn
  rw [hT] at hv
  have hv : v = .bool b := hv
  subst hv
  have h1 := c.over.slot d
  rw [if_pos hs, hf] at h1
  have h2 : a.tmps.size = a0.tmps.size := c.over.size
  have h3 : a.tmps[d]? = some (.bool b) := by
    have hl : d < a.tmps.size := by omega
    have e : a.tmps.getD d undef = a.tmps[d] := by simp [hl]
    rw [Array.getElem?_eq_getElem hl, ← e, h1]; rfl
  unfold Region.wanted yielded
  rw [hk]
  simp only [hd, Option.bind_some, h3]
  cases b <;> rfl
/-- A guard that holds: the step without it. -/
theorem sa_guard (k d : Nat) (hk : o.guard = some (k, true)) (hd : (ops[k]?).bind (·.dst) = some d) (hn : needsB ops o d = true) (hs : d < a0.tmps.size) (hT : T d = Fact.val (.bool true)) (h : StepAt P ops D T a0 w Q { o with guard := none }) : StepAt P ops D T a0 w Q o := fun f a x c => by
  refine .inl ⟨guard_slot k d true hk hd hn hs hT c, ?_⟩
  rcases h f a x ⟨c.over, c.grown, c.needs, c.out⟩ with ⟨_, hwp⟩ | ⟨hw, _⟩
  · obtain ⟨dst, op, ty, pos, af, gd⟩ := o
    exact hwp
  · rw [wanted_none rfl _] at hw; cases hw
/-- A guard that does not: it is passed over. -/
theorem so_guard (k d : Nat) (hk : o.guard = some (k, true)) (hd : (ops[k]?).bind (·.dst) = some d) (hn : needsB ops o d = true) (hs : d < a0.tmps.size) (hT : T d = Fact.val (.bool false)) (hany : ∀ d, o.dst = some d → T d = Fact.any) : StepAt P ops D T a0 w Q o := fun f a x c =>
  .inr ⟨guard_slot k d false hk hd hn hs hT c, fun d' hd' => by rw [hany d' hd']; trivial⟩
end
end Go.Proofs.YtogippkapadolaaDoor

/- The engine: a drawn region whose last operation (a store) waits for all others, be it by way of others. -/
namespace Go.Proofs.YtogippkapadolaaDoor
open Go.RowKit
variable {P : Program} {ops : Array Oper} {Q : Exit → Act → World → Prop}

def edgeB (ops : Array Oper) (k j : Nat) : Bool := match ops[k]? with
  | some o => o.after.toList.any fun e => Region.binds .any e && decide (e.on = j)
  | none => false
/-- Every operation ahead of m is waited for by a later one, up to m. -/
def coverB (ops : Array Oper) (m : Nat) : Bool := (List.range m).all fun j => (List.range (m + 1)).any fun k => decide (j < k) && edgeB ops k j
theorem cover_spec {m : Nat} (h : coverB ops m = true) {j : Nat} (hj : j < m) : ∃ k o e, j < k ∧ k ≤ m ∧ ops[k]? = some o ∧ e ∈ o.after ∧ Region.binds .any e = true ∧ e.on = j := by
  have := List.all_eq_true.1 h j (List.mem_range.2 hj)
  obtain ⟨k, hk, hb⟩ := List.any_eq_true.1 this
  rw [Bool.and_eq_true] at hb
  obtain ⟨b1, b2⟩ := hb
  unfold edgeB at b2
  cases ho : ops[k]? with
  | none => rw [ho] at b2; cases b2
  | some o =>
    rw [ho] at b2
    obtain ⟨e, he, hb⟩ := List.any_eq_true.1 b2
    rw [Bool.and_eq_true] at hb
    exact ⟨k, o, e, of_decide_eq_true b1, by have := List.mem_range.1 hk; omega, ho, by simpa using he, hb.1, of_decide_eq_true hb.2⟩
structure MidL (ops : Array Oper) (D : List Nat) (T : Nat → Fact) (a0 : Act) (w : World) (f : Env) (listed : Array Bool) (a : Act) (x : World) : Prop where
  over : Over a0 f a
  grown : Gr w x
  fact : ∀ s v, f s = some v → (T s).holds v x
  done : ∀ (j : Nat) (o : Oper) (d : Nat), ops[j]? = some o → listed.getD j false = true → o.dst = some d → (f d).isSome = true
  out : ∀ s, s ∉ D → f s = none
  closed : ∀ (j : Nat) (o : Oper), ops[j]? = some o → listed.getD j false = true → ∀ e ∈ o.after, Region.binds .any e = true → listed.getD e.on false = true
theorem drawn_last {id : Nat} {a0 : Act} {w : World} (hm : P.follows .mixedOrders = true) (hlex : lexOk ops = true) (m : Nat) (hsz : ops.size = m + 1) (hcov : coverB ops m = true) (st : Oper) (hst : ops[m]? = some st) (D : List Nat) (T : Nat → Fact)
    (hD : (ops.toList.all fun o => match o.dst with | some d => D.contains d | none => true) = true)
    (hstep : ∀ o ∈ ops.toList.take m, StepAt P ops D T a0 w Q o)
    (hend : ∀ (a : Act) (x : World), After D a0 a → Gr w x → (∀ s, dstsB ops m s = true → s < a0.tmps.size → (T s).holds (a.eval (.tmp s)) x) → Region.wanted st (yielded ops a.tmps) = true ∧ st.wp P a x (fun a' y => Q .normal a' y) Q) :
    (Code.region id ops true).wp P Q a0 w := by
  refine wp_region_any hm ?_
  have key : ∀ (fuel : Nat) (listed : Array Bool) (f : Env) (a : Act) (x : World), listed.size = ops.size → (unlisted ops listed).length ≤ fuel → listed.getD m true = false → MidL ops D T a0 w f listed a x → wpAny P .any ops Q fuel listed a x := by
    intro fuel
    induction fuel with
    | zero =>
      intro listed f a x hz hu hl h
      have : m ∈ unlisted ops listed := List.mem_filter.2 ⟨List.mem_range.2 (by omega), by rw [hl]; rfl⟩
      have hnil : unlisted ops listed = [] := List.eq_nil_of_length_eq_zero (by omega)
      rw [hnil] at this; cases this
    | succ fuel ih =>
      intro listed f a x hz hu hlm h
      refine ⟨fun hr => ?_, fun i hi => ?_⟩
      · have := all_listed hlex hz hr m (by omega)
        rw [hlm] at this; cases this
      · obtain ⟨h0, o, ho, haf⟩ := mem_ready.1 hi
        have hil := (Array.getElem?_eq_some_iff.1 ho).1
        by_cases him : i = m
        · subst him
          have hall : ∀ n j, i ≤ j + n → j < i → listed.getD j false = true := by
            intro n
            induction n with
            | zero => intro j h1 h2; omega
            | succ n ihn =>
              intro j h1 h2
              obtain ⟨k, ok, e, hjk, hk, hok, he, hb, hon⟩ := cover_spec hcov h2
              by_cases hki : k = i
              · subst hki
                rw [ho] at hok
                cases hok
                have := haf e he hb
                rw [hon] at this; exact this
              · have := h.closed k ok hok (ihn k (by omega) (by omega)) e he hb
                rw [hon] at this; exact this
          have hall : ∀ j, j < i → listed.getD j false = true := fun j hj => hall i j (by omega) hj
          rw [hst] at ho
          cases ho
          obtain ⟨hw, hwp⟩ := hend a x (h.over.after h.out) h.grown (fun s hs hsz' => by
            obtain ⟨oj, hoj, hd⟩ := List.any_eq_true.1 hs
            have hd := of_decide_eq_true hd
            obtain ⟨j, hj⟩ := List.mem_iff_getElem?.1 hoj
            have hjk : j < i := by
              have := (List.getElem?_eq_some_iff.1 hj).1
              simp at this; omega
            rw [List.getElem?_take_of_lt hjk] at hj
            obtain ⟨v, hv⟩ := Option.isSome_iff_exists.1 (h.done j oj s (by simpa using hj) (hall j hjk) hd)
            rw [h.over.get hsz' hv]
            exact h.fact s v hv)
          unfold wpOp
          simp only [hst, hw, if_true]
          refine .inl (Oper.wp_mono (fun a' y hQ => ?_) hwp)
          have hnone : Region.ready .any ops (listed.setIfInBounds i true) = [] := by
            cases hr : Region.ready .any ops (listed.setIfInBounds i true) with
            | nil => rfl
            | cons j l =>
              exfalso
              have hj : j ∈ Region.ready .any ops (listed.setIfInBounds i true) := by rw [hr]; simp
              obtain ⟨g0, oj, hoj, _⟩ := mem_ready.1 hj
              have hjl := (Array.getElem?_eq_some_iff.1 hoj).1
              by_cases e : i = j
              · subst e
                have : i < listed.size := by omega
                simp [this] at g0
              · rw [getD_set_ne true e] at g0
                have := hall j (by omega)
                have hs : j < listed.size := by omega
                simp [hs] at g0 this
                rw [g0] at this; cases this
          cases fuel with
          | zero => exact ⟨hnone, hQ⟩
          | succ fuel => exact ⟨fun _ => hQ, by rw [hnone]; simp⟩
        · have hmem : o ∈ ops.toList.take m := by
            rw [List.mem_iff_getElem?]
            exact ⟨i, by rw [List.getElem?_take_of_lt (by omega)]; simpa using ho⟩
          have hc : Ctx ops D T a0 w o f a x := ⟨h.over, h.grown, fun s hs => by
            obtain ⟨e, he, hb⟩ := List.any_eq_true.1 hs
            rw [Bool.and_eq_true] at hb
            have b2 := of_decide_eq_true hb.2
            cases hoj : ops[e.on]? with
            | none => rw [hoj] at b2; cases b2
            | some oj =>
              rw [hoj] at b2
              obtain ⟨v, hv⟩ := Option.isSome_iff_exists.1 (h.done e.on oj s hoj (haf e (by simpa using he) hb.1) b2)
              exact ⟨v, hv, h.fact s v hv⟩, h.out⟩
          have hDo : ∀ d, o.dst = some d → d ∈ D := fun d hd => by
            have := List.all_eq_true.1 hD o (by simpa using Array.mem_of_getElem? ho)
            rw [hd] at this
            simpa using this
          have hun : i ∈ unlisted ops listed := List.mem_filter.2 ⟨List.mem_range.2 hil, by rw [h0]; rfl⟩
          have hlt : (unlisted ops (listed.setIfInBounds i true)).length < (unlisted ops listed).length := by
            have hsub : unlisted ops (listed.setIfInBounds i true) = (unlisted ops listed).filter fun j => decide (j ≠ i) := by
              unfold unlisted
              rw [List.filter_filter]
              apply List.filter_congr
              intro j hj
              by_cases e : i = j
              · subst e
                have : i < listed.size := by omega
                simp [this]
              · rw [getD_set_ne true e]
                have e' : ¬ j = i := fun q => e q.symm
                simp [e']
            rw [hsub]
            exact List.length_filter_lt_length_iff_exists.2 ⟨i, hun, by simp⟩
          have next : ∀ (v : Value) (y : World), Gr x y → (∀ d, o.dst = some d → (T d).holds v y) → wpAny P .any ops Q fuel (listed.setIfInBounds i true) (a.put o.dst v) y := fun v y r1 f1 => by
            refine ih (listed.setIfInBounds i true) (putE f o.dst v) _ y (by simp [hz]) (by omega) (by rw [getD_set_ne true him]; exact hlm) ⟨h.over.put o.dst v, h.grown.trans r1, fun s u hs => ?_, fun j oj d hoj hl hd => ?_, fun s hs => ?_, fun j oj hoj hl e he hb => ?_⟩
            · unfold putE at hs
              by_cases e : o.dst = some s
              · rw [if_pos e] at hs
                cases hs
                exact f1 s e
              · rw [if_neg e] at hs
                exact (T s).mono (h.fact s u hs) r1
            · unfold putE
              by_cases e : o.dst = some d
              · rw [if_pos e]; rfl
              · rw [if_neg e]
                by_cases hji : i = j
                · subst hji
                  rw [ho] at hoj
                  cases hoj
                  exact absurd hd e
                · rw [getD_set_ne false hji] at hl
                  exact h.done j oj d hoj hl hd
            · unfold putE
              by_cases e : o.dst = some s
              · exact absurd (hDo s e) hs
              · rw [if_neg e]; exact h.out s hs
            · have hle : listed.getD e.on false = true := by
                by_cases hji : i = j
                · subst hji
                  rw [ho] at hoj
                  cases hoj
                  exact haf e he hb
                · rw [getD_set_ne false hji] at hl
                  exact h.closed j oj hoj hl e he hb
              by_cases q : i = e.on
              · have : i < listed.size := by omega
                rw [← q]; simp [this]
              · rw [getD_set_ne false q]; exact hle
          unfold wpOp
          rcases hstep o hmem f a x hc with ⟨hw, hwp⟩ | ⟨hw, hv⟩
          · simp only [ho, hw, if_true]
            refine .inl (Oper.wp_mono (fun a' y ⟨v, e1, r1, f1⟩ => ?_) hwp)
            subst e1
            exact next v y r1 f1
          · simp only [ho, hw]
            exact next undef x (Gr.refl _) hv
  refine key ops.size (Array.replicate ops.size false) (fun _ => none) a0 _ (by simp) ?_ (by simp [hsz]) ⟨Over.start a0, Gr.drew w, (fun s v h => nomatch h), fun j o d _ hl _ => ?_, fun _ _ => rfl, fun j o _ hl _ _ _ => ?_⟩
  · exact Nat.le_trans (List.length_filter_le _ _) (by simp)
  all_goals
    exfalso
    have : (Array.replicate ops.size false).getD j false = false := by
      by_cases hj : j < ops.size <;> simp [hj]
    rw [this] at hl; cases hl
end Go.Proofs.YtogippkapadolaaDoor
