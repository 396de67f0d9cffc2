/- EngP, JsEng, JsPass, JsDig, JsEsc. -/
import Derived.Test.YtogippkapadolaaDoorProg
import Derived.Test.YtogippkapadolaaDoorYJ3
/- The engine: a drawn region in which some operations, one behind the other, change a thing of their own (a reader, a writer); all else lasts. Its tail goes in order. -/
namespace Go.Proofs.YtogippkapadolaaDoor
open Go.RowKit
variable {P : Program} {ops : Array Oper} {Q : Exit → Act → World → Prop} {R : World → World → Prop}

/-- What lasts while the world goes on as R says. -/
structure FactR (R : World → World → Prop) where
  holds : Value → World → Prop
  mono : ∀ {v x y}, holds v x → R x y → holds v y
def FactR.val (v0 : Value) : FactR R := ⟨fun v _ => v = v0, fun h _ => h⟩
def FactR.any : FactR R := ⟨fun _ _ => True, fun _ _ => trivial⟩
structure CtxR (ops : Array Oper) (D : List Nat) (T : Nat → FactR R) (a0 : Act) (w : World) (o : Oper) (f : Env) (a : Act) (x : World) : Prop where
  over : Over a0 f a
  grown : R w x
  get : ∀ s, needsB ops o s = true → ∃ v, f s = some v ∧ (T s).holds v x
  out : ∀ s, s ∉ D → f s = none
/-- An operation that changes nothing that is there. -/
def StepR (P : Program) (ops : Array Oper) (D : List Nat) (T : Nat → FactR R) (a0 : Act) (w : World) (Q : Exit → Act → World → Prop) (o : Oper) : Prop :=
  ∀ f a x, CtxR ops D T a0 w o f a x → Region.wanted o (yielded ops a.tmps) = true ∧ o.wp P a x (fun a' y => ∃ v, a' = a.put o.dst v ∧ Gr x y ∧ ∀ d, o.dst = some d → (T d).holds v y) Q
/-- An operation that takes the thing from its state k to the next one. -/
def StepC (P : Program) (ops : Array Oper) (D : List Nat) (T : Nat → FactR R) (S : Nat → World → Prop) (a0 : Act) (w : World) (Q : Exit → Act → World → Prop) (k : Nat) (o : Oper) : Prop :=
  ∀ f a x, CtxR ops D T a0 w o f a x → S k x → Region.wanted o (yielded ops a.tmps) = true ∧ o.wp P a x (fun a' y => ∃ v, a' = a.put o.dst v ∧ R x y ∧ S (k + 1) y ∧ ∀ d, o.dst = some d → (T d).holds v y) Q
structure MidP (ops : Array Oper) (D C : List Nat) (T : Nat → FactR R) (S : Nat → World → Prop) (a0 : Act) (w : World) (f : Env) (listed : Array Bool) (a : Act) (x : World) : Prop where
  over : Over a0 f a
  grown : R w x
  fact : ∀ s v, f s = some v → (T s).holds v x
  done : ∀ (j : Nat) (o : Oper) (d : Nat), ops[j]? = some o → listed.getD j false = true → o.dst = some d → (f d).isSome = true
  out : ∀ s, s ∉ D → f s = none
  closed : ∀ (j : Nat) (o : Oper), ops[j]? = some o → listed.getD j false = true → ∀ e ∈ o.after, Region.binds .any e = true → listed.getD e.on false = true
  from_ : ∀ (d : Nat), (f d).isSome = true → ∃ (j : Nat) (o : Oper), ops[j]? = some o ∧ listed.getD j false = true ∧ o.dst = some d
  st : ∃ k, k ≤ C.length ∧ S k x ∧ ∀ j d, C[j]? = some d → ((f d).isSome = true ↔ j < k)
theorem drawn_ph {id : Nat} {a0 : Act} {w : World} (rt : ∀ {x y z}, R x y → R y z → R x z) (rg : ∀ {x y}, Gr x y → R x y) (hm : P.follows .mixedOrders = true) (hlex : lexOk ops = true) (hon : onceB ops = true) (m : Nat) (hsz : m < ops.size) (hcov : coverB ops m = true) (hch : chainB ops m = true) (D C : List Nat) (hCn : C.Nodup) (T : Nat → FactR R) (S : Nat → World → Prop)
    (hD : ((ops.toList.take m).all fun o => match o.dst with | some d => D.contains d | none => true) = true) (hC : (C.all fun d => dstsB ops m d) = true)
    (s0 : S 0 w) (sg : ∀ {k x y}, S k x → Gr x y → S k y)
    (hstep : ∀ o ∈ ops.toList.take m, (StepR P ops D T a0 w Q o ∧ ∀ d, o.dst = some d → C.contains d = false) ∨ ∃ i d, C[i]? = some d ∧ o.dst = some d ∧ (i = 0 ∨ ∃ d', C[i - 1]? = some d' ∧ needsB ops o d' = true) ∧ StepC P ops D T S a0 w Q i o)
    (hend : ∀ (a : Act) (x : World), After D a0 a → R w x → S C.length x → (∀ s, dstsB ops m s = true → s < a0.tmps.size → (T s).holds (a.eval (.tmp s)) x) → wpList P ops Q (ops.toList.drop m) a x) :
    (Code.region id ops true).wp P Q a0 w := by
  refine wp_region_any hm ?_
  have key : ∀ (fuel : Nat) (listed : Array Bool) (f : Env) (a : Act) (x : World), listed.size = ops.size → (unlisted ops listed).length ≤ fuel → listed.getD m true = false → MidP ops D C T S a0 w f listed a x → wpAny P .any ops Q fuel listed a x := by
    intro fuel
    induction fuel with
    | zero =>
      intro listed f a x hz hu hl h
      have : m ∈ unlisted ops listed := List.mem_filter.2 ⟨List.mem_range.2 (by omega), by rw [hl]; rfl⟩
      have hnil : unlisted ops listed = [] := List.eq_nil_of_length_eq_zero (by omega)
      rw [hnil] at this; cases this
    | succ fuel ih =>
      intro listed f a x hz hu hlm h
      refine ⟨fun hr => ?_, fun i hi => ?_⟩
      · have := all_listed hlex hz hr m (by omega)
        rw [hlm] at this; cases this
      · obtain ⟨h0, o, ho, haf⟩ := mem_ready.1 hi
        have hil := (Array.getElem?_eq_some_iff.1 ho).1
        have hif : listed.getD i false = false := by
          have hs : i < listed.size := by omega
          simpa [hs] using h0
        by_cases him : i = m
        · subst him
          have hall : ∀ n j, i ≤ j + n → j < i → listed.getD j false = true := by
            intro n
            induction n with
            | zero => intro j h1 h2; omega
            | succ n ihn =>
              intro j h1 h2
              obtain ⟨k, ok, e, hjk, hk, hok, he, hb, hon⟩ := cover_spec hcov h2
              by_cases hki : k = i
              · subst hki
                rw [ho] at hok
                cases hok
                have := haf e he hb
                rw [hon] at this; exact this
              · have := h.closed k ok hok (ihn k (by omega) (by omega)) e he hb
                rw [hon] at this; exact this
          have hall : ∀ j, j < i → listed.getD j false = true := fun j hj => hall i j (by omega) hj
          have hfil : ∀ s, dstsB ops i s = true → (f s).isSome = true := fun s hs => by
            obtain ⟨oj, hoj, hd⟩ := List.any_eq_true.1 hs
            have hd := of_decide_eq_true hd
            obtain ⟨j, hj⟩ := List.mem_iff_getElem?.1 hoj
            have hjk : j < i := by
              have := (List.getElem?_eq_some_iff.1 hj).1
              simp at this; omega
            rw [List.getElem?_take_of_lt hjk] at hj
            exact h.done j oj s (by simpa using hj) (hall j hjk) hd
          obtain ⟨k, hkC, hSk, hk⟩ := h.st
          have hkl : k = C.length := by
            rcases Nat.eq_zero_or_pos C.length with q | q
            · omega
            · have hl1 : C.length - 1 < C.length := by omega
              have hc : C[C.length - 1]? = some C[C.length - 1] := List.getElem?_eq_getElem hl1
              have := (hk _ _ hc).1 (hfil _ (List.all_eq_true.1 hC _ (List.getElem_mem hl1)))
              omega
          have hwl : wpList P ops Q (ops.toList.drop i) a x := hend a x (h.over.after h.out) h.grown (hkl ▸ hSk) (fun s hs hsz' => by
            obtain ⟨v, hv⟩ := Option.isSome_iff_exists.1 (hfil s hs)
            rw [h.over.get hsz' hv]
            exact h.fact s v hv)
          have hlate : ∀ j, i ≤ j → j < ops.size → listed.getD j true = false := fun j h1 h2 => by
            cases hl : listed.getD j true with
            | false => rfl
            | true =>
              exfalso
              have hbad := late_closed hch h.closed j h1 h2 (by
                have hs : j < listed.size := by omega
                simp [hs] at hl ⊢; exact hl)
              have hs : i < listed.size := by omega
              simp [hs] at hlm hbad
              rw [hlm] at hbad; cases hbad
          have := (any_of_list hlex hch (ops.size - i) i (fuel + 1) listed a x (by omega) hz (by
            have h9 : (unlisted ops listed).length ≤ fuel + 1 := hu
            have h8 : ops.size - i ≤ (unlisted ops listed).length := late_len hlate
            omega) hall hlate hwl (Nat.le_refl _)).2 i hi
          exact this
        · have hlt' : i < m := by
            rcases Nat.lt_or_ge i m with q | q
            · exact q
            · exfalso
              obtain ⟨o1, e1, ho1, he1, hb1, hon⟩ := chain_spec hch (show m < i by omega) hil
              rw [ho] at ho1
              cases ho1
              have h1 := haf e1 he1 hb1
              rw [hon] at h1
              have hbad := late_closed hch h.closed (i - 1) (by omega) (by omega) h1
              have hs : m < listed.size := by omega
              simp [hs] at hlm hbad
              rw [hlm] at hbad; cases hbad
          have hmem : o ∈ ops.toList.take m := by
            rw [List.mem_iff_getElem?]
            exact ⟨i, by rw [List.getElem?_take_of_lt (by omega)]; simpa using ho⟩
          have hneed : ∀ s, needsB ops o s = true → (f s).isSome = true := fun s hs => by
            obtain ⟨e, he, hb⟩ := List.any_eq_true.1 hs
            rw [Bool.and_eq_true] at hb
            have b2 := of_decide_eq_true hb.2
            cases hoj : ops[e.on]? with
            | none => rw [hoj] at b2; cases b2
            | some oj =>
              rw [hoj] at b2
              exact h.done e.on oj s hoj (haf e (by simpa using he) hb.1) b2
          have hc : CtxR ops D T a0 w o f a x := ⟨h.over, h.grown, fun s hs => by
            obtain ⟨v, hv⟩ := Option.isSome_iff_exists.1 (hneed s hs)
            exact ⟨v, hv, h.fact s v hv⟩, h.out⟩
          have hnone : ∀ d, o.dst = some d → f d = none := fun d hd => by
            cases hf : f d with
            | none => rfl
            | some v =>
              obtain ⟨j, p, hj, hl, hp⟩ := h.from_ d (by rw [hf]; rfl)
              obtain rfl := once_spec hon ho hj hd hp
              rw [hif] at hl; cases hl
          have hDo : ∀ d, o.dst = some d → d ∈ D := fun d hd => by
            have := List.all_eq_true.1 hD o hmem
            rw [hd] at this
            simpa using this
          have hun : i ∈ unlisted ops listed := List.mem_filter.2 ⟨List.mem_range.2 hil, by rw [h0]; rfl⟩
          have hlt : (unlisted ops (listed.setIfInBounds i true)).length < (unlisted ops listed).length := by
            have hsub : unlisted ops (listed.setIfInBounds i true) = (unlisted ops listed).filter fun j => decide (j ≠ i) := by
              unfold unlisted
              rw [List.filter_filter]
              apply List.filter_congr
              intro j hj
              by_cases e : i = j
              · subst e
                have : i < listed.size := by omega
                simp [this]
              · rw [getD_set_ne true e]
                have e' : ¬ j = i := fun q => e q.symm
                simp [e']
            rw [hsub]
            exact List.length_filter_lt_length_iff_exists.2 ⟨i, hun, by simp⟩
          have next : ∀ (v : Value) (y : World), R x y → (∃ k, k ≤ C.length ∧ S k y ∧ ∀ j d, C[j]? = some d → ((putE f o.dst v d).isSome = true ↔ j < k)) → (∀ d, o.dst = some d → (T d).holds v y) → wpAny P .any ops Q fuel (listed.setIfInBounds i true) (a.put o.dst v) y := fun v y r1 hst f1 => by
            refine ih (listed.setIfInBounds i true) (putE f o.dst v) _ y (by simp [hz]) (by omega) (by rw [getD_set_ne true him]; exact hlm) ⟨h.over.put o.dst v, rt h.grown r1, fun s u hs => ?_, fun j oj d hoj hl hd => ?_, fun s hs => ?_, fun j oj hoj hl e he hb => ?_, fun d hd => ?_, hst⟩
            · unfold putE at hs
              by_cases e : o.dst = some s
              · rw [if_pos e] at hs
                cases hs
                exact f1 s e
              · rw [if_neg e] at hs
                exact (T s).mono (h.fact s u hs) r1
            · unfold putE
              by_cases e : o.dst = some d
              · rw [if_pos e]; rfl
              · rw [if_neg e]
                by_cases hji : i = j
                · subst hji
                  rw [ho] at hoj
                  cases hoj
                  exact absurd hd e
                · rw [getD_set_ne false hji] at hl
                  exact h.done j oj d hoj hl hd
            · unfold putE
              by_cases e : o.dst = some s
              · exact absurd (hDo s e) hs
              · rw [if_neg e]; exact h.out s hs
            · have hle : listed.getD e.on false = true := by
                by_cases hji : i = j
                · subst hji
                  rw [ho] at hoj
                  cases hoj
                  exact haf e he hb
                · rw [getD_set_ne false hji] at hl
                  exact h.closed j oj hoj hl e he hb
              by_cases q : i = e.on
              · have : i < listed.size := by omega
                rw [← q]; simp [this]
              · rw [getD_set_ne false q]; exact hle
            · unfold putE at hd
              by_cases e : o.dst = some d
              · refine ⟨i, o, ho, ?_, e⟩
                have hs : i < listed.size := by omega
                simp [hs]
              · rw [if_neg e] at hd
                obtain ⟨j, p, hj, hl, hp⟩ := h.from_ d hd
                refine ⟨j, p, hj, ?_, hp⟩
                by_cases hji : i = j
                · subst hji
                  rw [hif] at hl; cases hl
                · rw [getD_set_ne false hji]; exact hl
          obtain ⟨k, hkC, hSk, hk⟩ := h.st
          unfold wpOp
          rcases hstep o hmem with ⟨hR, hnC⟩ | ⟨c, d, hcd, hod, hpre, hSC⟩
          · obtain ⟨hw, hwp⟩ := hR f a x hc
            simp only [ho, hw, if_true]
            refine .inl (Oper.wp_mono (fun a' y ⟨v, e1, r1, f1⟩ => ?_) hwp)
            subst e1
            refine next v y (rg r1) ⟨k, hkC, sg hSk r1, fun j d hj => ?_⟩ f1
            have : putE f o.dst v d = f d := by
              unfold putE
              rw [if_neg]
              intro e
              have h1 := hnC d e
              have h2 : C.contains d = true := by
                rw [List.contains_iff_mem]
                exact List.mem_iff_getElem?.2 ⟨j, hj⟩
              rw [h1] at h2; cases h2
            rw [this]; exact hk j d hj
          · have hfd : f d = none := hnone d hod
            have hck : k = c := by
              have h1 : ¬ c < k := fun q => by
                have := (hk c d hcd).2 q
                rw [hfd] at this; cases this
              rcases hpre with rfl | ⟨d', hd', hnd⟩
              · omega
              · have := (hk _ _ hd').1 (hneed d' hnd)
                omega
            subst hck
            have hcl : k < C.length := (List.getElem?_eq_some_iff.1 hcd).1
            obtain ⟨hw, hwp⟩ := hSC f a x hc hSk
            simp only [ho, hw, if_true]
            refine .inl (Oper.wp_mono (fun a' y ⟨v, e1, r1, s1, f1⟩ => ?_) hwp)
            subst e1
            refine next v y r1 ⟨k + 1, hcl, s1, fun j d2 hj => ?_⟩ f1
            unfold putE
            by_cases e : d = d2
            · subst e
              have hjk : j = k := by
                have hjl := (List.getElem?_eq_some_iff.1 hj).1
                exact (List.getElem?_inj hjl hCn).1 (hj.trans hcd.symm)
              rw [if_pos hod, hjk]
              simp
            · rw [if_neg (by rw [hod]; intro q; exact e (Option.some.inj q)), hk j d2 hj]
              have hjk : j ≠ k := fun q => by
                rw [q, hcd] at hj
                exact e (Option.some.inj hj)
              omega
  refine key ops.size (Array.replicate ops.size false) (fun _ => none) a0 _ (by simp) ?_ (by simp [hsz]) ⟨Over.start a0, rg (Gr.drew w), (fun s v h => nomatch h), fun j o d _ hl _ => ?_, fun _ _ => rfl, fun j o _ hl _ _ _ => ?_, (fun d h => nomatch h), ⟨0, Nat.zero_le _, sg s0 (Gr.drew w), fun j d _ => ⟨(fun h => nomatch h), fun h => absurd h (Nat.not_lt_zero _)⟩⟩⟩
  · exact Nat.le_trans (List.length_filter_le _ _) (by simp)
  all_goals
    exfalso
    have : (Array.replicate ops.size false).getD j false = false := by
      by_cases hj : j < ops.size <;> simp [hj]
    rw [this] at hl; cases hl

section
variable {D : List Nat} {T : Nat → FactR R} {S : Nat → World → Prop} {a0 : Act} {w : World} {o : Oper}
inductive HasR (ops : Array Oper) (D : List Nat) (T : Nat → FactR R) (a0 : Act) (o : Oper) : Operand → FactR R → Prop where
  | new (s : Nat) (h : needsB ops o s = true) (hs : s < a0.tmps.size) : HasR ops D T a0 o (.tmp s) (T s)
  | old (s : Nat) (v : Value) (h : s ∉ D) (e : a0.eval (.tmp s) = v) : HasR ops D T a0 o (.tmp s) (FactR.val v)
  | const (v : Value) : HasR ops D T a0 o (.const v) (FactR.val v)
theorem HasR.get {u : Operand} {k : FactR R} (h : HasR ops D T a0 o u k) {f : Env} {a : Act} {y : World} (c : CtxR ops D T a0 w o f a y) : k.holds (a.eval u) y := by
  cases h with
  | new s h hs =>
    obtain ⟨v, hv, hh⟩ := c.get s h
    rw [c.over.get hs hv]
    exact hh
  | old s v h e => exact (c.over.old (c.out s h)).trans e
  | const v => rfl
theorem sr_of (d : Nat) (hd : o.dst = some d) (hg : o.guard = none) (h : ∀ f a y, CtxR ops D T a0 w o f a y → o.wp P a y (fun a' z => ∃ v, a' = a.put o.dst v ∧ Gr y z ∧ (T d).holds v z) Q) : StepR P ops D T a0 w Q o := fun f a y c =>
  ⟨wanted_none hg _, Oper.wp_mono (fun a' z ⟨v, e1, e2, e3⟩ => ⟨v, e1, e2, fun d' hd' => by rw [hd] at hd'; cases hd'; exact e3⟩) (h f a y c)⟩
theorem sr_move (u : Operand) (d : Nat) (k : FactR R) (ho : o.op = .move u ∨ o.op = .assign u) (hd : o.dst = some d) (hg : o.guard = none) (h : HasR ops D T a0 o u k) (hT : T d = k) : StepR P ops D T a0 w Q o :=
  sr_of d hd hg fun f a y c => op_move u ho ⟨_, rfl, Gr.refl _, by rw [hT]; exact h.get c⟩
theorem sr_fa (t : TypeId) (u : Operand) (k d : Nat) (s q : Value) (ho : o.op = .fieldAddr t u k) (hd : o.dst = some d) (hg : o.guard = none) (h1 : HasR ops D T a0 o u (FactR.val s)) (hr : ∀ w, (Instr.fieldAt t s k).run P w = .ok q w) (hT : T d = FactR.val q) : StepR P ops D T a0 w Q o :=
  sr_of d hd hg fun f a y c => op_fa t u k s q ho (h1.get c) hr ⟨_, rfl, Gr.refl _, by rw [hT]; rfl⟩
theorem sr_loadc (t : TypeId) (u : Operand) (d g k : Nat) (v : Value) (ho : o.op = .load t u) (hd : o.dst = some d) (hg : o.guard = none) (ht : ∀ w, (isAgg t).run P w = .ok false w) (h1 : HasR ops D T a0 o u (FactR.val (.pointer (some ⟨g, k, none⟩)))) (hc : ∀ y, R w y → y.cell? ⟨g, k, none⟩ = some v) (hT : T d = FactR.val v) : StepR P ops D T a0 w Q o :=
  sr_of d hd hg fun f a y c => op_loadc t u ho ht g k (h1.get c) v (hc y c.grown) ⟨_, rfl, Gr.refl _, by rw [hT]; rfl⟩
theorem sr_run (d : Nat) (v0 : Value) (hd : o.dst = some d) (hg : o.guard = none) (hT : T d = FactR.val v0) (h : ∀ f a y, CtxR ops D T a0 w o f a y → (execOp a.eval o).run P y = .ok (.value v0) y) : StepR P ops D T a0 w Q o :=
  sr_of d hd hg fun f a y c => op_val v0 (h f a y c) ⟨_, rfl, Gr.refl _, by rw [hT]; rfl⟩
/-- A call that takes the thing on. -/
theorem sc_call1 (k : Nat) (n : Nat) (u : Operand) (tys : Array TypeId) (d : Nat) (s q : Value) (ho : o.op = .call { callee := .value (.func n), args := #[u], argTypes := tys }) (hd : o.dst = some d) (hg : o.guard = none) (h : HasR ops D T a0 o u (FactR.val s))
    (he : ∀ args w, (callFunc n args).run P w = .ok (.enter n args) w) (hc : ∀ y, S k y → Calls P n #[s] y fun e z => e = .returned q ∧ R y z ∧ S (k + 1) z) (hT : T d = FactR.val q) : StepC P ops D T S a0 w Q k o := fun f a y c hS =>
  ⟨wanted_none hg _, op_call n _ tys ho #[s] (by simp [show a.eval u = s from h.get c]) he ((hc y hS).mono fun e z ⟨e1, e2, e3⟩ => ⟨q, e1, q, rfl, e2, e3, fun d' hd' => by rw [hd] at hd'; cases hd'; rw [hT]; rfl⟩)⟩
end
end Go.Proofs.YtogippkapadolaaDoor

/- More for the engine: a call that may give up; an act behind a region written out again. -/
namespace Go.Proofs.YtogippkapadolaaDoor
open Go.RowKit
variable {P : Program} {ops : Array Oper} {Q : Exit → Act → World → Prop}
theorem op_callP {o : Oper} {a : Act} {w : World} {K : Act → World → Prop} (n : Nat) (args : Array Operand) (tys : Array TypeId) (ho : o.op = .call { callee := .value (.func n), args := args, argTypes := tys }) (vs : Array Value) (hv : args.map a.eval = vs)
    (he : ∀ args w, (callFunc n args).run P w = .ok (.enter n args) w) (hc : Calls P n vs w fun e w' => (∃ v, e = .returned v ∧ K (a.put o.dst v) w') ∨ ∃ ch, e = .panicked ch ∧ Q (.panic ch) a w') : o.wp P a w K Q := by
  have hrun : (execOp a.eval o).run P w = .ok (.enter n vs) w := by
    unfold execOp
    rw [ho]
    show (do let d ← resolve a.eval _ o.type; invoke d.target d.args : Sem Next).run P w = _
    have h1 : resolve a.eval { callee := .value (.func n), args := args, argTypes := tys } o.type = pure { target := .fn (.func n) #[], args := #[] ++ vs } := by
      unfold resolve
      rw [← hv]
      rfl
    rw [h1, Sem.run_bind, Sem.run_pure, Result.andThen_ok]
    show (callFunc n ((#[] ++ vs) ++ #[])).run P w = _
    rw [Array.append_empty, Array.empty_append]
    exact he vs w
  unfold Oper.wp
  rw [hrun]
  refine Calls.mono hc fun e w' h => ?_
  rcases h with ⟨v, e1, e2⟩ | ⟨ch, e1, e2⟩
  · subst e1
    exact e2
  · subst e1
    exact e2
/-- A call of a function value that may give up. -/
theorem op_callvP {o : Oper} {a : Act} {w : World} {K : Act → World → Prop} (u : Operand) (n : Nat) (cb : Array Value) (args : Array Operand) (tys : Array TypeId) (ho : o.op = .call { callee := .value u, args := args, argTypes := tys }) (hu : a.eval u = .func (.func n) #[] cb) (vs : Array Value) (hv : args.map a.eval = vs)
    (he : ∀ args w, (callFunc n args).run P w = .ok (.enter n args) w) (hc : Calls P n (vs ++ cb) w fun e w' => (∃ v, e = .returned v ∧ K (a.put o.dst v) w') ∨ ∃ ch, e = .panicked ch ∧ Q (.panic ch) a w') : o.wp P a w K Q := by
  have hrun : (execOp a.eval o).run P w = .ok (.enter n (vs ++ cb)) w := by
    unfold execOp
    rw [ho]
    show (do let d ← resolve a.eval _ o.type; invoke d.target d.args : Sem Next).run P w = _
    have h1 : resolve a.eval { callee := .value u, args := args, argTypes := tys } o.type = pure { target := .fn (.func n) cb, args := #[] ++ vs } := by
      unfold resolve
      rw [← hv]
      show Deferred.ofValue (a.eval u) _ = _
      rw [hu]
      rfl
    rw [h1, Sem.run_bind, Sem.run_pure, Result.andThen_ok]
    show (callFunc n ((#[] ++ vs) ++ cb)).run P w = _
    rw [Array.empty_append]
    exact he (vs ++ cb) w
  unfold Oper.wp
  rw [hrun]
  refine Calls.mono hc fun e w' h => ?_
  rcases h with ⟨v, e1, e2⟩ | ⟨ch, e1, e2⟩
  · subst e1
    exact e2
  · subst e1
    exact e2
theorem After.lit {D : List Nat} {a0 a : Act} (h : After D a0 a) : a = ⟨((List.range a0.tmps.size).map fun s => if D.contains s then a.eval (.tmp s) else a0.tmps.getD s undef).toArray, a0.defers⟩ := by
  obtain ⟨A, Df⟩ := a
  have h1 : Df = a0.defers := h.defers
  have h2 : A.size = a0.tmps.size := h.size
  subst h1
  congr 1
  apply Array.ext
  · simp [h2]
  · intro i hi1 hi2
    have e : A[i] = Act.eval ⟨A, a0.defers⟩ (.tmp i) := by
      show A[i] = A.getD i undef
      simp [hi1]
    rw [e]
    have h3 := h.old i
    by_cases hD : D.contains i = true
    · simp only [List.getElem_toArray, List.getElem_map, List.getElem_range, hD, if_true]
    · simp only [List.getElem_toArray, List.getElem_map, List.getElem_range, hD]
      exact h3 (by simpa using hD)
end Go.Proofs.YtogippkapadolaaDoor

/- The parser goes over a word. -/
namespace Go.Proofs.YtogippkapadolaaDoor
open Go.RowKit

/-- What a piece of the parser does: it tells a value and stands where that ends, or gives up. -/
def Done (b : Nat) (s : ByteArray) (k : Nat) (w : World) {α : Type} (r : Res α) (V : α → Value → World → Prop) : Ending → World → Prop := fun e w' => Upd b w w' ∧ match r with
  | .ok v q => ∃ u, e = .returned u ∧ V v u w' ∧ PAt w' b s q k
  | .bad q er => e = .panicked (faultV q er)
def nilV {α : Type} : α → Value → World → Prop := fun _ u _ => u = .tuple #[]
theorem pass_step {L W : List UInt8} {p i : Nat} {d : UInt8} (h : W[i]? = some d) (hc : hereP L (p + i) = d) : passP L (W.drop i) (p + i) = passP L (W.drop (i + 1)) (p + (i + 1)) := by
  have hi : i < W.length := (List.getElem?_eq_some_iff.1 h).1
  rw [List.drop_eq_getElem_cons hi, passP, (List.getElem?_eq_some_iff.1 h).2, if_pos hc]; rfl
theorem pass_stop {L W : List UInt8} {p i : Nat} {d : UInt8} (h : W[i]? = some d) (hc : hereP L (p + i) ≠ d) : passP L (W.drop i) (p + i) = .bad (p + i) 60 := by
  have hi : i < W.length := (List.getElem?_eq_some_iff.1 h).1
  rw [List.drop_eq_getElem_cons hi, passP, (List.getElem?_eq_some_iff.1 h).2, if_neg hc]
theorem u8_eq (c d : UInt8) : ((c.toNat : Int) == (d.toNat : Int)) = (c == d) := by
  have := u8_int c d.toNat d.toNat_lt
  rw [this]; simp
theorem bin_eql8 {P : Program} {t : TypeId} (c d : UInt8) : ∀ w, (binOp .eql t (.int .u8 (c.toNat : Int)) (.int .u8 (d.toNat : Int))).run P w = .ok (.bool (c == d)) w := by
  intro w
  rw [← u8_eq]
  rfl
theorem guard_u8 {b : BinOp} {t : TypeId} {P : Program} {u v : Operand} {x y : Int} : ∀ w, (eqGuard b t u v (.int .u8 x) (.int .u8 y)).run P w = .ok () w := by
  intro w
  unfold eqGuard
  cases b <;> rfl
theorem ix_str {i : Nat} {wd : ByteArray} (h : i < wd.size) : ∀ w, (Instr.index 9 (.string wd) (.int .i64 (i : Int))).run Tryd.prog w = .ok (.int .u8 ((wd[i]'h).toNat : Int)) w := by
  intro w
  rw [run_index_string w 9 wd .i64 i Tryd.underlying9, dif_pos ⟨by omega, by omega⟩]
  rfl
def q55_3 : Array Oper := #[{ dst := some 10, op := Op.move (Operand.tmp 0), type := 45, pos := "parse.go:62", after := #[], guard := none }, { dst := some 11, op := Op.move (Operand.tmp 0), type := 45, pos := "parse.go:62", after := #[], guard := none }, { dst := some 12, op := Op.call { callee := Callee.value (Operand.func 60), args := #[Operand.tmp 11], argTypes := #[45] }, type := 5, pos := "parse.go:62", after := #[{ on := 1, ground := Ground.data }], guard := none }, { dst := some 13, op := Op.move (Operand.tmp 1), type := 9, pos := "parse.go:62", after := #[], guard := none }, { dst := some 14, op := Op.move (Operand.tmp 4), type := 3, pos := "parse.go:62", after := #[], guard := none }, { dst := some 15, op := Op.index 9 (Operand.tmp 13) (Operand.tmp 14), type := 5, pos := "parse.go:62", after := #[{ on := 3, ground := Ground.data }, { on := 4, ground := Ground.data }], guard := none }, { dst := some 16, op := Op.binOp BinOp.eql 5 (Operand.tmp 12) (Operand.tmp 15) 5, type := 4, pos := "parse.go:62", after := #[{ on := 2, ground := Ground.data }, { on := 5, ground := Ground.data }], guard := none }, { dst := some 17, op := Op.call { callee := Callee.value (Operand.func 37), args := #[Operand.tmp 10, Operand.tmp 16], argTypes := #[45, 4] }, type := 0, pos := "parse.go:62", after := #[{ on := 0, ground := Ground.data }, { on := 6, ground := Ground.data }, { on := 2, ground := Ground.chain }], guard := none }]
set_option maxRecDepth 100000 in
theorem r55_3 {Q : Exit → Act → World → Prop} {a0 : Act} {w : World} (hz : a0.tmps.size = 26) {b i : Nat} {wd : ByteArray} {c d : UInt8} (hh : ∀ y, Gr w y → Calls Tryd.prog 60 #[.pointer (some ⟨b, 0, none⟩)] y fun e z => e = .returned (.int .u8 (c.toNat : Int)) ∧ Gr y z) (hix : ∀ w, (Instr.index 9 (.string wd) (.int .i64 (i : Int))).run Tryd.prog w = .ok (.int .u8 (d.toNat : Int)) w) (e0 : a0.eval (.tmp 0) = .pointer (some ⟨b, 0, none⟩)) (e1 : a0.eval (.tmp 1) = .string wd) (e4 : a0.eval (.tmp 4) = .int .i64 (i : Int)) {R : Value → World → Prop} {B : List PanicEntry → World → Prop} (hc : ∀ wy, Gr w wy → Calls Tryd.prog 37 #[.pointer (some ⟨b, 0, none⟩), .bool (c == d)] wy fun er wz => (∃ u, er = .returned u ∧ R u wz) ∨ ∃ ch, er = .panicked ch ∧ B ch wz) (hend : ∀ ac wz u, After (17 :: [10, 11, 12, 13, 14, 15, 16, 17]) a0 ac → ac.eval (.tmp 17) = u → R u wz → Q .normal ac wz) (hbad : ∀ ac wz ch, ac.defers = a0.defers → B ch wz → Q (.panic ch) ac wz) : (Code.region 3 q55_3 true).wp Tryd.prog Q a0 w := by
  refine drawn_last (by kernel_rfl) (by kernel_rfl) 7 (by decide) (by kernel_rfl) _ rfl [10, 11, 12, 13, 14, 15, 16, 17] (fun | 10 => .val (.pointer (some ⟨b, 0, none⟩)) | 11 => .val (.pointer (some ⟨b, 0, none⟩)) | 12 => .val (.int .u8 (c.toNat : Int)) | 13 => .val (.string wd) | 14 => .val (.int .i64 (i : Int)) | 15 => .val (.int .u8 (d.toNat : Int)) | 16 => .val (.bool (c == d)) | _ => .any) (by kernel_rfl) (List.forall_mem_cons.2 ⟨?s0, List.forall_mem_cons.2 ⟨?s1, List.forall_mem_cons.2 ⟨?s2, List.forall_mem_cons.2 ⟨?s3, List.forall_mem_cons.2 ⟨?s4, List.forall_mem_cons.2 ⟨?s5, List.forall_mem_cons.2 ⟨?s6, fun o ho => nomatch ho⟩⟩⟩⟩⟩⟩⟩) ?e
  case s0 => exact sa_move (.tmp 0) 10 (.val (.pointer (some ⟨b, 0, none⟩))) (.inl rfl) rfl rfl (.old 0 _ (by decide) e0) rfl
  case s1 => exact sa_move (.tmp 0) 11 (.val (.pointer (some ⟨b, 0, none⟩))) (.inl rfl) rfl rfl (.old 0 _ (by decide) e0) rfl
  case s2 => exact sa_call1 60 (.tmp 11) _ 12 (.val (.pointer (some ⟨b, 0, none⟩))) rfl rfl rfl (.new 11 (by kernel_rfl) (by rw [hz]; decide)) (enters_of Tryd.func60 (by kernel_rfl) rfl) (fun v0 y hgy q0 => by rw [show v0 = _ from q0]; exact (hh _ hgy).mono fun e z ⟨e1, e2⟩ => ⟨_, e1, e2, rfl⟩)
  case s3 => exact sa_move (.tmp 1) 13 (.val (.string wd)) (.inl rfl) rfl rfl (.old 1 _ (by decide) e1) rfl
  case s4 => exact sa_move (.tmp 4) 14 (.val (.int .i64 (i : Int))) (.inl rfl) rfl rfl (.old 4 _ (by decide) e4) rfl
  case s5 => exact sa_ix 9 (.tmp 13) (.tmp 14) 15 (.string wd) (.int .i64 (i : Int)) (.int .u8 (d.toNat : Int)) rfl rfl rfl (.new 13 (by kernel_rfl) (by rw [hz]; decide)) (.new 14 (by kernel_rfl) (by rw [hz]; decide)) hix rfl
  case s6 => exact sa_bin .eql 5 (.tmp 12) (.tmp 15) 5 16 (.int .u8 (c.toNat : Int)) (.int .u8 (d.toNat : Int)) (.bool (c == d)) rfl rfl rfl (.new 12 (by kernel_rfl) (by rw [hz]; decide)) (.new 15 (by kernel_rfl) (by rw [hz]; decide)) guard_u8 (bin_eql8 c d) rfl
  case e =>
  intro ac wz hA hgr hv
  have o10 : ac.eval (.tmp 10) = .pointer (some ⟨b, 0, none⟩) := hv 10 (by kernel_rfl) (by rw [hz]; decide)
  have o16 : ac.eval (.tmp 16) = .bool (c == d) := hv 16 (by kernel_rfl) (by rw [hz]; decide)
  refine ⟨wanted_none rfl _, op_callP 37 #[.tmp 10, .tmp 16] #[45, 4] rfl #[.pointer (some ⟨b, 0, none⟩), .bool (c == d)] (by simp [o10, o16]) (enters_of Tryd.func37 (by kernel_rfl) rfl) ((hc wz hgr).mono ?_)⟩
  rintro er wy (⟨u, e1, e2⟩ | ⟨ch, e1, e2⟩)
  · exact .inl ⟨u, e1, hend _ wy u (hA.put 17 u) ((ev_put (by rw [hA.size, hz]; decide)).trans (if_pos rfl)) e2⟩
  · exact .inr ⟨ch, e1, hbad _ wy ch hA.defers e2⟩

set_option maxHeartbeats 1000000 in
set_option maxRecDepth 100000 in
theorem pass_any (b : Nat) (s : ByteArray) (p k : Nat) (wd : ByteArray) (hp : p ≤ s.size) (hs : s.size < 9223372036854775807) (hz : ∀ d ∈ wd.data.toList, d ≠ 0) (w : World) (h : PAt w b s p k) :
    Calls Tryd.prog 55 #[.pointer (some ⟨b, 0, none⟩), .string wd] w (Done b s k w (passP s.data.toList wd.data.toList p) nilV) := by
  obtain ⟨n, hn⟩ : ∃ n, wd.size = n := ⟨_, rfl⟩
  have hnl : wd.data.toList.length = n := hn
  have hsl : s.data.toList.length = s.size := rfl
  obtain ⟨r, hr⟩ : ∃ r, passP s.data.toList wd.data.toList p = r := ⟨_, rfl⟩
  rw [hr]
  go_enter Tryd.func55, Tryd.ntmps55
  go_wp2_with fail
  go_loopw [7] (fun c wr => ∃ i : Nat, c = .int .i64 (i : Int) ∧ i ≤ n ∧ p + i ≤ s.size ∧ passP s.data.toList (wd.data.toList.drop i) (p + i) = r ∧ PAt wr b s (p + i) k ∧ Upd b w wr) (fun c _ => n - (intOf c).toNat)
  case atStart => exact ⟨0, rfl, by omega, hp, hr, h, Upd.refl b w⟩
  case round =>
    obtain ⟨i, rfl, hi, hpi, hri, hP, hU⟩ := hrel
    rcases Nat.lt_or_ge i n with hlt | hge
    · have hd : wd.data.toList[i]? = some (wd[i]'(by omega)) := by rw [List.getElem?_eq_getElem (by omega)]; rfl
      have hd0 := hz _ (List.mem_of_getElem? hd)
      have g1 : (i : Int) < (n : Int) := by omega
      go_wp2_with fail
      refine r55_3 rfl (b := b) (i := i) (wd := wd) (c := hereP s.data.toList (p + i)) (d := wd[i]'(by omega)) (fun y hy => (here_any b s (p + i) k hpi y (hP.gr hy)).mono fun e z ⟨e1, e2⟩ => ⟨e1, e2⟩) (ix_str (by omega)) rfl rfl rfl
        (R := fun u wz => u = .tuple #[] ∧ Gr wr wz ∧ hereP s.data.toList (p + i) = wd[i]'(by omega)) (B := fun ch wz => Gr wr wz ∧ ch = faultV (p + i) 60 ∧ hereP s.data.toList (p + i) ≠ wd[i]'(by omega)) (fun wy hy => ?_) (fun ac wz u hA _ hR => ?_) (fun ac wz ch hdf hB => ?_)
      · by_cases hc : hereP s.data.toList (p + i) = wd[i]'(by omega)
        · rw [show (hereP s.data.toList (p + i) == wd[i]'(by omega)) = true by rw [hc]; simp]
          exact (insist_true _ wy).mono fun e z ⟨e1, e2⟩ => .inl ⟨_, e1, rfl, e2 ▸ hy, hc⟩
        · rw [show (hereP s.data.toList (p + i) == wd[i]'(by omega)) = false by simpa using hc]
          exact (insist_false b s (p + i) k wy (hP.gr hy)).mono fun e z ⟨e1, e2⟩ => .inr ⟨_, e1, e2 ▸ hy, rfl, hc⟩
      · obtain ⟨rfl, hg, hc⟩ := hR
        have e : ac = ⟨#[.pointer (some ⟨b, 0, none⟩), .string wd, undef, undef, .int .i64 (i : Int), .string wd, .int .i64 (n : Int), .int .i64 (i : Int), .bool true, .int .i64 (i : Int), ac.eval (.tmp 10), ac.eval (.tmp 11), ac.eval (.tmp 12), ac.eval (.tmp 13), ac.eval (.tmp 14), ac.eval (.tmp 15), ac.eval (.tmp 16), ac.eval (.tmp 17), u18, u19, u20, u21, u22, u23, u24, u25], []⟩ := hA.lit.trans rfl
        generalize ac.eval (.tmp 10) = x10 at e
        generalize ac.eval (.tmp 11) = x11 at e
        generalize ac.eval (.tmp 12) = x12 at e
        generalize ac.eval (.tmp 13) = x13 at e
        generalize ac.eval (.tmp 14) = x14 at e
        generalize ac.eval (.tmp 15) = x15 at e
        generalize ac.eval (.tmp 16) = x16 at e
        generalize ac.eval (.tmp 17) = x17 at e
        subst e
        have hlt2 : p + i < s.size := by
          have : p + i < s.data.toList.length := here_lt (by rw [hc]; exact hd0)
          omega
        rw [pass_step hd hc] at hri
        have hPz := hP.gr hg
        have c1 : wz.cell? ⟨b, 1, none⟩ = some (.int .i64 ((p + i : Nat) : Int)) := hPz.at 1 _ rfl
        have f1 : wz.frozen? ⟨b, 1, none⟩ = false := hPz.frozen 1
        have ew : ((p + i : Nat) : Int) + 1 = ((p + (i + 1) : Nat) : Int) := by omega
        have fin : PAt (wz.setCell ⟨b, 1, none⟩ (.int .i64 (((p + i : Nat) : Int) + 1))) b s (p + (i + 1)) k := by rw [ew]; exact hPz.set 1 _
        have finU := (hU.trans (gr_upd hg)).setCell 1 (.int .i64 (((p + i : Nat) : Int) + 1))
        clear ew hc
        generalize hq : p + i = q at *
        clear hP hPz hU
        go_wp2
        exact ⟨⟨i + 1, rfl, by omega, by omega, hri, fin, finU⟩, by simp; omega⟩
      · obtain ⟨hg, rfl, hc⟩ := hB
        rw [pass_stop hd hc] at hri
        subst hri
        exact ⟨hdf, hU.trans (gr_upd hg), rfl⟩
    · have hin : i = n := by omega
      subst hin
      have hri' : r = .ok () (p + i) := by rw [← hri, List.drop_of_length_le (by omega)]; rfl
      have g1 : ¬ (i : Int) < (i : Int) := by omega
      subst hri'
      go_wp2
      exact bodyPost_end (results_none (by kernel_rfl) _ _ _) rfl ⟨hU, _, rfl, rfl, hP⟩
end Go.Proofs.YtogippkapadolaaDoor

/- Hexadecimal digits and escapes. -/
namespace Go.Proofs.YtogippkapadolaaDoor
open Go.RowKit

def u8V : UInt8 → Value → World → Prop := fun d u _ => u = .int .u8 (d.toNat : Int)
theorem u8_sub (c : UInt8) (n : Nat) (hn : n < 256) : IntKind.u8.wrap ((c.toNat : Int) - (n : Int)) = ((c - UInt8.ofNat n).toNat : Int) := by
  have hc := c.toNat_lt
  rw [wrap_u8, UInt8.toNat_sub, UInt8.toNat_ofNat', Nat.mod_eq_of_lt (show n < 2 ^ 8 by omega)]
  omega
theorem u8_sub2 (c : UInt8) (n : Nat) (hn : n < 256) (h : n ≤ c.toNat) : (c.toNat : Int) - (n : Int) = ((c - UInt8.ofNat n).toNat : Int) := by
  have hc := c.toNat_lt
  rw [UInt8.toNat_sub, UInt8.toNat_ofNat', Nat.mod_eq_of_lt (show n < 2 ^ 8 by omega)]
  omega
theorem u8_le {c d : UInt8} : (c ≤ d) ↔ c.toNat ≤ d.toNat := UInt8.le_iff_toNat_le
theorem digit_b {c : UInt8} (h : digitB c = true) : 48 ≤ c.toNat ∧ c.toNat ≤ 57 := by
  simpa [digitB, u8_le] using h
theorem digit_n {c : UInt8} (h : ¬ digitB c = true) : ¬ (48 ≤ c.toNat ∧ c.toNat ≤ 57) := by
  simpa [digitB, u8_le] using h
/-- What a hexadecimal digit is. -/
theorem hex_cases (c : UInt8) : (digitB c = true ∧ hexD c = some (c - 48)) ∨ (digitB c = false ∧ 97 ≤ c.toNat ∧ c.toNat ≤ 102 ∧ hexD c = some (c - 87)) ∨ (digitB c = false ∧ c.toNat < 97 ∧ 65 ≤ c.toNat ∧ c.toNat ≤ 70 ∧ hexD c = some (c - 55))
    ∨ (digitB c = false ∧ hexD c = none ∧ (97 ≤ c.toNat ∧ 102 < c.toNat ∨ c.toNat < 97 ∧ 70 < c.toNat ∨ c.toNat < 65)) := by
  unfold hexD
  cases hd : digitB c with
  | true => exact .inl ⟨rfl, by simp⟩
  | false =>
    refine .inr ?_
    by_cases h1 : 97 ≤ c.toNat ∧ c.toNat ≤ 102
    · refine .inl ⟨rfl, h1.1, h1.2, ?_⟩
      simp [u8_le, h1.1, h1.2]
    · refine .inr ?_
      by_cases h2 : 65 ≤ c.toNat ∧ c.toNat ≤ 70
      · refine .inl ⟨rfl, by omega, h2.1, h2.2, ?_⟩
        have : ¬ 97 ≤ c.toNat := by omega
        simp [u8_le, h2.1, h2.2, this]
      · refine .inr ⟨rfl, ?_, by omega⟩
        have e1 : (decide (97 ≤ c) && decide (c ≤ 102)) = false := by simpa [u8_le] using h1
        have e2 : (decide (65 ≤ c) && decide (c ≤ 70)) = false := by simpa [u8_le] using h2
        rw [e1, e2]; rfl
theorem hex_pos {c d : UInt8} (h : hexD c = some d) : c ≠ 0 := by
  intro e
  subst e
  revert h
  decide +revert
theorem digP_le {L : List UInt8} {p q : Nat} {d : UInt8} (h : digP L p = .ok d q) : q = p + 1 ∧ p < L.length := by
  unfold digP at h
  cases hx : hexD (hereP L p) with
  | none => rw [hx] at h; cases h
  | some d' =>
    rw [hx] at h
    cases h
    exact ⟨rfl, here_lt (hex_pos hx)⟩
set_option maxHeartbeats 1000000 in
set_option maxRecDepth 100000 in
theorem digit_any (b : Nat) (s : ByteArray) (p k : Nat) (hp : p ≤ s.size) (hs : s.size < 9223372036854775807) (w : World) (h : PAt w b s p k) :
    Calls Tryd.prog 81 #[.pointer (some ⟨b, 0, none⟩)] w (Done b s k w (digP s.data.toList p) u8V) := by
  have hh := here_any b s p k hp w h
  have fin : ∀ wz, Gr w wz → PAt (wz.setCell ⟨b, 1, none⟩ (.int .i64 ((p : Int) + 1))) b s (p + 1) k ∧ Upd b w (wz.setCell ⟨b, 1, none⟩ (.int .i64 ((p : Int) + 1))) := fun wz hg => ⟨pat_step (h.gr hg), (gr_upd hg).setCell 1 _⟩
  have c1 : ∀ wz, Gr w wz → wz.cell? ⟨b, 1, none⟩ = some (.int .i64 (p : Int)) := fun wz hg => (h.gr hg).at 1 _ rfl
  have f1 : ∀ wz, Gr w wz → wz.frozen? ⟨b, 1, none⟩ = false := fun wz hg => (h.gr hg).frozen 1
  have hbad : ∀ wz, Gr w wz → Calls Tryd.prog 37 #[.pointer (some ⟨b, 0, none⟩), .bool false] wz fun e w' => e = .panicked (faultV p 60) ∧ w' = wz := fun wz hg => insist_false b s p k wz (h.gr hg)
  have hpl : p < s.size ∨ hexD (hereP s.data.toList p) = none := by
    cases hx : hexD (hereP s.data.toList p) with
    | none => exact .inr rfl
    | some d => exact .inl (here_lt (hex_pos hx))
  unfold digP
  generalize hereP s.data.toList p = c at *
  have hdg := isDigit_any c
  clear h
  rcases hex_cases c with ⟨h1, h2⟩ | ⟨h1, h2, h3, h4⟩ | ⟨h1, h2, h3, h4, h5⟩ | ⟨h1, h2, h3⟩
  · have hlt : p < s.size := hpl.resolve_right (by rw [h2]; simp)
    rw [h2]; rw [h1] at hdg
    clear hbad hpl h1 h2
    go_enter Tryd.func81, Tryd.ntmps81
    go_wp2_with (first
      | (go_at_call 60; refine hh.mono ?_; rintro e w1 ⟨rfl, hg⟩; have c1 := c1 w1 hg; have f1 := f1 w1 hg; have fin := fin w1 hg; clear hh)
      | (go_at_call 73; refine (hdg _).mono ?_; rintro e w2 ⟨rfl, rfl⟩; clear hdg))
    go_ret
    exact ⟨fin.2, _, rfl, by rw [u8V]; exact congrArg _ (u8_sub c 48 (by decide)), fin.1⟩
  · have hlt : p < s.size := hpl.resolve_right (by rw [h4]; simp)
    rw [h4]; rw [h1] at hdg
    have g1 : (c.toNat : Int) ≥ 97 := by omega
    have g2 : (c.toNat : Int) ≤ 102 := by omega
    clear hbad hpl h1 h2 h3 h4
    go_enter Tryd.func81, Tryd.ntmps81
    go_wp2_with (first
      | (go_at_call 60; refine hh.mono ?_; rintro e w1 ⟨rfl, hg⟩; have c1 := c1 w1 hg; have f1 := f1 w1 hg; have fin := fin w1 hg; clear hh)
      | (go_at_call 73; refine (hdg _).mono ?_; rintro e w2 ⟨rfl, rfl⟩; clear hdg))
    go_ret
    exact ⟨fin.2, _, rfl, by rw [u8V]; exact congrArg _ (u8_sub2 c 87 (by decide) (by omega)), fin.1⟩
  · have hlt : p < s.size := hpl.resolve_right (by rw [h5]; simp)
    rw [h5]; rw [h1] at hdg
    have g1 : ¬ (c.toNat : Int) ≥ 97 := by omega
    have g2 : (c.toNat : Int) ≥ 65 := by omega
    have g3 : (c.toNat : Int) ≤ 70 := by omega
    clear hbad hpl h1 h2 h3 h4 h5
    go_enter Tryd.func81, Tryd.ntmps81
    go_wp2_with (first
      | (go_at_call 60; refine hh.mono ?_; rintro e w1 ⟨rfl, hg⟩; have c1 := c1 w1 hg; have f1 := f1 w1 hg; have fin := fin w1 hg; clear hh)
      | (go_at_call 73; refine (hdg _).mono ?_; rintro e w2 ⟨rfl, rfl⟩; clear hdg))
    go_ret
    exact ⟨fin.2, _, rfl, by rw [u8V]; exact congrArg _ (u8_sub2 c 55 (by decide) (by omega)), fin.1⟩
  · rw [h2]; rw [h1] at hdg
    clear fin c1 f1 hpl h1 h2
    rcases h3 with ⟨q1, q2⟩ | ⟨q1, q2⟩ | q1
    · have g1 : (c.toNat : Int) ≥ 97 := by omega
      have g2 : ¬ (c.toNat : Int) ≤ 102 := by omega
      have g3 : (c.toNat : Int) ≥ 65 := by omega
      have g4 : ¬ (c.toNat : Int) ≤ 70 := by omega
      clear q1 q2
      go_enter Tryd.func81, Tryd.ntmps81
      go_wp2_with (first
        | (go_at_call 60; refine hh.mono ?_; rintro e w1 ⟨rfl, hg⟩; have hbad := hbad w1 hg; have hu := gr_upd (b := b) hg; clear hh)
        | (go_at_call 73; refine (hdg _).mono ?_; rintro e w2 ⟨rfl, rfl⟩; clear hdg)
        | (go_at_call 37; refine hbad.mono ?_; rintro e w2 ⟨rfl, rfl⟩; clear hbad))
      exact ⟨rfl, hu, rfl⟩
    · by_cases q3 : 65 ≤ c.toNat
      · have g1 : ¬ (c.toNat : Int) ≥ 97 := by omega
        have g3 : (c.toNat : Int) ≥ 65 := by omega
        have g4 : ¬ (c.toNat : Int) ≤ 70 := by omega
        clear q1 q2 q3
        go_enter Tryd.func81, Tryd.ntmps81
        go_wp2_with (first
          | (go_at_call 60; refine hh.mono ?_; rintro e w1 ⟨rfl, hg⟩; have hbad := hbad w1 hg; have hu := gr_upd (b := b) hg; clear hh)
          | (go_at_call 73; refine (hdg _).mono ?_; rintro e w2 ⟨rfl, rfl⟩; clear hdg)
          | (go_at_call 37; refine hbad.mono ?_; rintro e w2 ⟨rfl, rfl⟩; clear hbad))
        exact ⟨rfl, hu, rfl⟩
      · omega
    · have g1 : ¬ (c.toNat : Int) ≥ 97 := by omega
      have g3 : ¬ (c.toNat : Int) ≥ 65 := by omega
      clear q1
      go_enter Tryd.func81, Tryd.ntmps81
      go_wp2_with (first
        | (go_at_call 60; refine hh.mono ?_; rintro e w1 ⟨rfl, hg⟩; have hbad := hbad w1 hg; have hu := gr_upd (b := b) hg; clear hh)
        | (go_at_call 73; refine (hdg _).mono ?_; rintro e w2 ⟨rfl, rfl⟩; clear hdg)
        | (go_at_call 37; refine hbad.mono ?_; rintro e w2 ⟨rfl, rfl⟩; clear hbad))
      exact ⟨rfl, hu, rfl⟩
end Go.Proofs.YtogippkapadolaaDoor

/- What is said behind a backslash. -/
namespace Go.Proofs.YtogippkapadolaaDoor
open Go.RowKit

theorem ofInt_nat (m n : Nat) (h : n < 2 ^ m) : (BitVec.ofInt m (n : Int)).toNat = n := by
  rw [BitVec.ofInt_natCast, BitVec.toNat_ofNat, Nat.mod_eq_of_lt h]
theorem or_u8 (a b : Nat) (ha : a < 256) (hb : b < 256) : bits .or .u8 (a : Int) (b : Int) = ((a ||| b : Nat) : Int) := by
  show IntKind.u8.wrap ((BitVec.ofInt 8 (a : Int) ||| BitVec.ofInt 8 (b : Int)).toNat : Int) = _
  rw [BitVec.toNat_or, ofInt_nat 8 a ha, ofInt_nat 8 b hb, wrap_u8]
  have : a ||| b < 2 ^ 8 := Nat.or_lt_two_pow ha hb
  omega
theorem nib_u8 (d e : UInt8) : bits .or .u8 (IntKind.u8.wrap ((d.toNat : Int) * 16)) (e.toNat : Int) = (((d <<< 4) ||| e).toNat : Int) := by
  have h1 := d.toNat_lt
  have h2 : (d <<< 4).toNat = d.toNat * 16 % 256 := by
    rw [UInt8.toNat_shiftLeft, Nat.shiftLeft_eq]; rfl
  rw [wrap_u8, show ((d.toNat : Int) * 16) % 256 = ((d.toNat * 16 % 256 : Nat) : Int) by omega, or_u8 _ _ (by omega) e.toNat_lt, UInt8.toNat_or, h2]
theorem passP_le {L : List UInt8} : ∀ {W : List UInt8} {p q : Nat}, (∀ d ∈ W, d ≠ 0) → passP L W p = .ok () q → q = p + W.length ∧ (p ≤ L.length → q ≤ L.length)
  | [], p, q, _, h => by cases h; exact ⟨rfl, id⟩
  | c :: cs, p, q, hz, h => by
    unfold passP at h
    split at h
    · rename_i hc
      have hl : p < L.length := here_lt (by rw [hc]; exact hz c (by simp))
      have := passP_le (fun d hd => hz d (by simp [hd])) h
      exact ⟨by simp; omega, fun _ => this.2 (by omega)⟩
    · cases h
theorem esc_not {c : UInt8} (h : escB c = none) : ¬ (c = 34 ∨ c = 92 ∨ c = 47) ∧ c ≠ 98 ∧ c ≠ 102 ∧ c ≠ 110 ∧ c ≠ 114 ∧ c ≠ 116 := by
  unfold escB at h
  split at h
  · cases h
  · split at h
    · cases h
    · split at h
      · cases h
      · split at h
        · cases h
        · split at h
          · cases h
          · split at h
            · cases h
            · rename_i h1 h2 h3 h4 h5 h6
              exact ⟨h1, h2, h3, h4, h5, h6⟩
theorem esc_some {c d : UInt8} (h : escB c = some d) : (c = 34 ∨ c = 92 ∨ c = 47) ∧ d = c ∨ c = 98 ∧ d = 8 ∨ c = 102 ∧ d = 12 ∨ c = 110 ∧ d = 10 ∨ c = 114 ∧ d = 13 ∨ c = 116 ∧ d = 9 := by
  unfold escB at h
  split at h
  · rename_i h1; cases h; exact .inl ⟨h1, rfl⟩
  · split at h
    · rename_i h1; cases h; exact .inr (.inl ⟨h1, rfl⟩)
    · split at h
      · rename_i h1; cases h; exact .inr (.inr (.inl ⟨h1, rfl⟩))
      · split at h
        · rename_i h1; cases h; exact .inr (.inr (.inr (.inl ⟨h1, rfl⟩)))
        · split at h
          · rename_i h1; cases h; exact .inr (.inr (.inr (.inr (.inl ⟨h1, rfl⟩))))
          · split at h
            · rename_i h1; cases h; exact .inr (.inr (.inr (.inr (.inr ⟨h1, rfl⟩))))
            · cases h
theorem u8_ne {c : UInt8} {n : Nat} (hn : n < 256) (h : c ≠ UInt8.ofNat n) : ((c.toNat : Int) == (n : Int)) = false := by
  rw [u8_int c n hn]; simpa using h
set_option maxHeartbeats 1000000 in
set_option maxRecDepth 100000 in
theorem escaped_any (b : Nat) (s : ByteArray) (p k : Nat) (hp : p ≤ s.size) (hs : s.size < 9223372036854775807) (w : World) (h : PAt w b s p k) :
    Calls Tryd.prog 68 #[.pointer (some ⟨b, 0, none⟩)] w (Done b s k w (escP s.data.toList p) u8V) := by
  have hsl : s.data.toList.length = s.size := rfl
  have hh := here_any b s p k hp w h
  have fin : ∀ wz, Gr w wz → PAt (wz.setCell ⟨b, 1, none⟩ (.int .i64 ((p : Int) + 1))) b s (p + 1) k ∧ Upd b w (wz.setCell ⟨b, 1, none⟩ (.int .i64 ((p : Int) + 1))) := fun wz hg => ⟨pat_step (h.gr hg), (gr_upd hg).setCell 1 _⟩
  have c1 : ∀ wz, Gr w wz → wz.cell? ⟨b, 1, none⟩ = some (.int .i64 (p : Int)) := fun wz hg => (h.gr hg).at 1 _ rfl
  have f1 : ∀ wz, Gr w wz → wz.frozen? ⟨b, 1, none⟩ = false := fun wz hg => (h.gr hg).frozen 1
  cases he : escB (hereP s.data.toList p) with
  | some d =>
    have hlt : p < s.size := by
      have : p < s.data.toList.length := here_lt (fun e => by rw [e] at he; cases he)
      exact this
    rw [show escP s.data.toList p = .ok d (p + 1) by unfold escP; rw [he]]
    clear h
    rcases esc_some he with ⟨h1, rfl⟩ | ⟨h1, rfl⟩ | ⟨h1, rfl⟩ | ⟨h1, rfl⟩ | ⟨h1, rfl⟩ | ⟨h1, rfl⟩
    · rcases h1 with h1 | h1 | h1
      all_goals
        rw [h1] at hh
        rw [h1]
        clear he h1
        go_enter Tryd.func68, Tryd.ntmps68
        go_wp2_with (go_at_call 60; refine hh.mono ?_; rintro e w1 ⟨rfl, hg⟩; have c1 := c1 w1 hg; have f1 := f1 w1 hg; have fin := fin w1 hg; clear hh)
        go_ret
        exact ⟨fin.2, _, rfl, rfl, fin.1⟩
    all_goals
      rw [h1] at hh
      clear he h1
      go_enter Tryd.func68, Tryd.ntmps68
      go_wp2_with (go_at_call 60; refine hh.mono ?_; rintro e w1 ⟨rfl, hg⟩; have c1 := c1 w1 hg; have f1 := f1 w1 hg; have fin := fin w1 hg; clear hh)
      go_ret
      exact ⟨fin.2, _, rfl, rfl, fin.1⟩
  | none =>
    obtain ⟨n1, n2, n3, n4, n5, n6⟩ := esc_not he
    by_cases hu : hereP s.data.toList p = 117
    · rw [hu] at hh
      have hpass : ∀ wz, Gr w wz → Calls Tryd.prog 55 #[.pointer (some ⟨b, 0, none⟩), .string ⟨#[117, 48, 48]⟩] wz (Done b s k wz (passP s.data.toList [117, 48, 48] p) nilV) := fun wz hg => pass_any b s p k ⟨#[117, 48, 48]⟩ hp hs (by decide) wz (h.gr hg)
      rw [show escP s.data.toList p = (passP s.data.toList [117, 48, 48] p).bind fun _ q => (digP s.data.toList q).bind fun h q' => (digP s.data.toList q').bind fun l q'' => .ok ((h <<< 4) ||| l) q'' by unfold escP; rw [he, hu]; rfl]
      clear he n1 n2 n3 n4 n5 n6 fin c1 f1 h hu
      cases hp1 : passP s.data.toList [117, 48, 48] p with
      | bad q1 e1 =>
        rw [hp1] at hpass
        clear hp1
        go_enter Tryd.func68, Tryd.ntmps68
        go_wp2_with (first
          | (go_at_call 60; refine hh.mono ?_; rintro e w1 ⟨rfl, hg⟩; have hpass := hpass w1 hg; have hu1 := gr_upd (b := b) hg; clear hh)
          | (go_at_call 55; refine hpass.mono ?_; rintro e w2 ⟨hu2, rfl⟩; have hu1 := hu1.trans hu2; clear hpass hu2))
        exact ⟨rfl, hu1, rfl⟩
      | ok _ q1 =>
        rw [hp1] at hpass
        have hq1 := (passP_le (by decide) hp1).2 hp
        have hd1 : ∀ wz, PAt wz b s q1 k → Calls Tryd.prog 81 #[.pointer (some ⟨b, 0, none⟩)] wz (Done b s k wz (digP s.data.toList q1) u8V) := fun wz hP => digit_any b s q1 k hq1 hs wz hP
        cases hp2 : digP s.data.toList q1 with
        | bad q2 e2 =>
          rw [hp2] at hd1
          show Calls _ _ _ _ (Done b s k w (Res.bind (digP s.data.toList q1) _) u8V)
          rw [hp2]
          clear hp1 hp2
          go_enter Tryd.func68, Tryd.ntmps68
          go_wp2_with (first
            | (go_at_call 60; refine hh.mono ?_; rintro e w1 ⟨rfl, hg⟩; have hpass := hpass w1 hg; have hu1 := gr_upd (b := b) hg; clear hh)
            | (go_at_call 55; refine hpass.mono ?_; rintro e w2 ⟨hu2, _, rfl, rfl, hP2⟩; have hu1 := hu1.trans hu2; clear hpass hu2)
            | (go_at_call 81; refine (hd1 _ hP2).mono ?_; rintro e w3 ⟨hu3, rfl⟩; have hu1 := hu1.trans hu3; clear hu3))
          exact ⟨rfl, hu1, rfl⟩
        | ok x q2 =>
          rw [hp2] at hd1
          have hq2 : q2 ≤ s.size := by have := digP_le hp2; omega
          have hd2 : ∀ wz, PAt wz b s q2 k → Calls Tryd.prog 81 #[.pointer (some ⟨b, 0, none⟩)] wz (Done b s k wz (digP s.data.toList q2) u8V) := fun wz hP => digit_any b s q2 k hq2 hs wz hP
          show Calls _ _ _ _ (Done b s k w (Res.bind (digP s.data.toList q1) _) u8V)
          rw [hp2]
          show Calls _ _ _ _ (Done b s k w (Res.bind (digP s.data.toList q2) _) u8V)
          cases hp3 : digP s.data.toList q2 with
          | bad q3 e3 =>
            rw [hp3] at hd2
            clear hp1 hp2 hp3
            go_enter Tryd.func68, Tryd.ntmps68
            go_wp2_with (first
              | (go_at_call 60; refine hh.mono ?_; rintro e w1 ⟨rfl, hg⟩; have hpass := hpass w1 hg; have hu1 := gr_upd (b := b) hg; clear hh)
              | (go_at_call 55; refine hpass.mono ?_; rintro e w2 ⟨hu2, _, rfl, rfl, hP2⟩; have hu1 := hu1.trans hu2; clear hpass hu2)
              | (go_at_call 81; refine (hd1 _ hP2).mono ?_; clear hd1; rintro e w3 ⟨hu3, _, rfl, rfl, hP3⟩; have hu1 := hu1.trans hu3; clear hu3)
              | (go_at_call 81; refine (hd2 _ hP3).mono ?_; clear hd2; rintro e w4 ⟨hu4, rfl⟩; have hu1 := hu1.trans hu4; clear hu4))
            exact ⟨rfl, hu1, rfl⟩
          | ok y q3 =>
            rw [hp3] at hd2
            clear hp1 hp2 hp3
            go_enter Tryd.func68, Tryd.ntmps68
            go_wp2_with (first
              | (go_at_call 60; refine hh.mono ?_; rintro e w1 ⟨rfl, hg⟩; have hpass := hpass w1 hg; have hu1 := gr_upd (b := b) hg; clear hh)
              | (go_at_call 55; refine hpass.mono ?_; rintro e w2 ⟨hu2, _, rfl, rfl, hP2⟩; have hu1 := hu1.trans hu2; clear hpass hu2)
              | (go_at_call 81; refine (hd1 _ hP2).mono ?_; clear hd1; rintro e w3 ⟨hu3, _, rfl, rfl, hP3⟩; have hu1 := hu1.trans hu3; clear hu3)
              | (go_at_call 81; refine (hd2 _ hP3).mono ?_; clear hd2; rintro e w4 ⟨hu4, _, rfl, rfl, hP4⟩; have hu1 := hu1.trans hu4; clear hu4))
            go_ret
            exact ⟨hu1, _, rfl, congrArg _ (nib_u8 x y), hP4⟩
    · have hbad : ∀ wz, Gr w wz → Calls Tryd.prog 37 #[.pointer (some ⟨b, 0, none⟩), .bool false] wz fun e w' => e = .panicked (faultV p 60) ∧ w' = wz := fun wz hg => insist_false b s p k wz (h.gr hg)
      rw [show escP s.data.toList p = .bad p 60 by unfold escP; rw [he, if_neg hu]]
      have g1 := u8_ne (n := 34) (by decide) (fun e => n1 (.inl e))
      have g2 := u8_ne (n := 92) (by decide) (fun e => n1 (.inr (.inl e)))
      have g3 := u8_ne (n := 47) (by decide) (fun e => n1 (.inr (.inr e)))
      have g4 := u8_ne (n := 98) (by decide) n2
      have g5 := u8_ne (n := 102) (by decide) n3
      have g6 := u8_ne (n := 110) (by decide) n4
      have g7 := u8_ne (n := 114) (by decide) n5
      have g8 := u8_ne (n := 116) (by decide) n6
      have g9 := u8_ne (n := 117) (by decide) hu
      clear he n1 n2 n3 n4 n5 n6 fin c1 f1 h hu
      generalize hereP s.data.toList p = c at *
      go_enter Tryd.func68, Tryd.ntmps68
      go_wp2_with (first
        | (go_at_call 60; refine hh.mono ?_; rintro e w1 ⟨rfl, hg⟩; have hbad := hbad w1 hg; have hu1 := gr_upd (b := b) hg; clear hh)
        | (go_at_call 37; refine hbad.mono ?_; rintro e w2 ⟨rfl, rfl⟩; clear hbad))
      exact ⟨rfl, hu1, rfl⟩
end Go.Proofs.YtogippkapadolaaDoor
