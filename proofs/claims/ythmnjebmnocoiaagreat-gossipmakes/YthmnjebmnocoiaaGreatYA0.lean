/- GsRegion, GsRegionS, GsRegionT. -/
import Derived.Orders
import Derived.Test.YthmnjebmnocoiaaGreatYLaws
/- A region that draws its order, whose operations make new things alone: what each one leaves is told by a fact that lasts. -/
namespace Go.Proofs.YthmnjebmnocoiaaGreat
open Go.RowKit
variable {P : Program} {ops : Array Oper} {Q : Exit → Act → World → Prop}

abbrev Env := Nat → Option Value
structure Over (a0 : Act) (f : Env) (a : Act) : Prop where
  defers : a.defers = a0.defers
  size : a.tmps.size = a0.tmps.size
  slot : ∀ s, a.tmps.getD s undef = if s < a0.tmps.size then (f s).getD (a0.tmps.getD s undef) else undef
theorem Over.start (a0 : Act) : Over a0 (fun _ => none) a0 := ⟨rfl, rfl, fun s => by
  by_cases h : s < a0.tmps.size
  · rw [if_pos h]; rfl
  · rw [if_neg h]; simp [h]⟩
def putE (f : Env) (d : Option Tmp) (v : Value) : Env := fun s => if d = some s then some v else f s
theorem Over.put {a0 a : Act} {f : Env} (h : Over a0 f a) (d : Option Tmp) (v : Value) : Over a0 (putE f d v) (a.put d v) := by
  cases d with
  | none => exact ⟨h.defers, h.size, fun s => by rw [show putE f none v s = f s by simp [putE]]; exact h.slot s⟩
  | some d =>
    refine ⟨h.defers, by simp [Act.put, h.size], fun s => ?_⟩
    show (a.tmps.setIfInBounds d v).getD s undef = _
    by_cases e : d = s
    · subst e
      by_cases hs : d < a0.tmps.size
      · rw [if_pos hs]
        simp [putE, h.size, hs]
      · rw [if_neg hs]
        simp [h.size, hs]
    · have : putE f (some d) v s = f s := by simp [putE, e]
      rw [this, ← h.slot s]
      simp [e]
def lexOk (ops : Array Oper) : Bool := (List.range ops.size).all fun i => match ops[i]? with
  | some o => o.after.toList.all fun e => !Region.binds .any e || decide (e.on < i)
  | none => true
theorem lexOk_spec (h : lexOk ops = true) {i : Nat} {o : Oper} (hi : ops[i]? = some o) : ∀ e ∈ o.after, Region.binds .any e = true → e.on < i := fun e he hb => by
  have hlt : i < ops.size := (Array.getElem?_eq_some_iff.1 hi).1
  have := List.all_eq_true.1 h i (List.mem_range.2 hlt)
  rw [hi] at this
  have := List.all_eq_true.1 this e (by simpa using he)
  rw [hb] at this
  simpa using this
def unlisted (ops : Array Oper) (listed : Array Bool) : List Nat := (List.range ops.size).filter fun j => !listed.getD j true
theorem all_listed (hlex : lexOk ops = true) {listed : Array Bool} (hz : listed.size = ops.size) (hr : Region.ready .any ops listed = []) : ∀ j, j < ops.size → listed.getD j true = true := by
  intro j
  induction j using Nat.strongRecOn with
  | ind j ih =>
    intro hj
    cases hl : listed.getD j true with
    | true => rfl
    | false =>
      exfalso
      have : j ∈ Region.ready .any ops listed := by
        refine mem_ready.2 ⟨hl, ops[j], Array.getElem?_eq_getElem hj, fun e he hb => ?_⟩
        have hlt := lexOk_spec hlex (Array.getElem?_eq_getElem hj) e he hb
        have := ih e.on hlt (by omega)
        have hs : e.on < listed.size := by omega
        simpa [hs] using this
      rw [hr] at this
      cases this
structure Mid (ops : Array Oper) (D : List Nat) (R : World → World → Prop) (F : Nat → Value → World → Prop) (a0 : Act) (w0 : World) (f : Env) (listed : Array Bool) (a : Act) (w : World) : Prop where
  over : Over a0 f a
  grown : R w0 w
  fact : ∀ s v, f s = some v → F s v w
  done : ∀ (j : Nat) (o : Oper) (d : Nat), ops[j]? = some o → listed.getD j false = true → o.dst = some d → (f d).isSome = true
  out : ∀ s, s ∉ D → f s = none
theorem region_facts {id : Nat} {a0 : Act} {w : World} (hm : P.follows .mixedOrders = true) (hlex : lexOk ops = true) (D : List Nat) (R : World → World → Prop) (F : Nat → Value → World → Prop)
    (Rr : R w { w with drawn := w.drawn + 1 }) (Rt : ∀ {x y z}, R x y → R y z → R x z) (Fm : ∀ {s v x y}, F s v x → R x y → F s v y)
    (hD : ∀ (j : Nat) (o : Oper) (d : Nat), ops[j]? = some o → o.dst = some d → d ∈ D)
    (hstep : ∀ (i : Nat) (o : Oper), ops[i]? = some o → ∀ (f : Env) (a : Act) (x : World), Over a0 f a → R w x → (∀ s v, f s = some v → F s v x) →
      (∀ e ∈ o.after, Region.binds .any e = true → ∀ (oj : Oper) (d : Nat), ops[e.on]? = some oj → oj.dst = some d → ∃ v, f d = some v ∧ F d v x) → (∀ s, s ∉ D → f s = none) →
      Region.wanted o (yielded ops a.tmps) = true ∧ o.wp P a x (fun a' y => ∃ v, a' = a.put o.dst v ∧ R x y ∧ ∀ d, o.dst = some d → F d v y) Q)
    (hend : ∀ (f : Env) (a : Act) (x : World), Over a0 f a → R w x → (∀ (j : Nat) (o : Oper) (d : Nat), ops[j]? = some o → o.dst = some d → ∃ v, f d = some v ∧ F d v x) → (∀ s, s ∉ D → f s = none) → Q .normal a x) :
    (Code.region id ops true).wp P Q a0 w := by
  refine wp_region_any hm ?_
  have key : ∀ (fuel : Nat) (listed : Array Bool) (f : Env) (a : Act) (x : World), listed.size = ops.size → (unlisted ops listed).length ≤ fuel → Mid ops D R F a0 w f listed a x → wpAny P .any ops Q fuel listed a x := by
    intro fuel
    induction fuel with
    | zero =>
      intro listed f a x hz hu h
      have hnil : unlisted ops listed = [] := List.eq_nil_of_length_eq_zero (by omega)
      have hall : ∀ j, j < ops.size → listed.getD j true = true := fun j hj => by
        cases hl : listed.getD j true with
        | true => rfl
        | false =>
          have : j ∈ unlisted ops listed := List.mem_filter.2 ⟨List.mem_range.2 hj, by rw [hl]; rfl⟩
          rw [hnil] at this; cases this
      refine ⟨?_, hend f a x h.over h.grown (fun j o d ho hd => ?_) h.out⟩
      · cases hr : Region.ready .any ops listed with
        | nil => rfl
        | cons j l =>
          have hj : j ∈ Region.ready .any ops listed := by rw [hr]; simp
          obtain ⟨h0, o, ho, _⟩ := mem_ready.1 hj
          have := hall j (Array.getElem?_eq_some_iff.1 ho).1
          rw [this] at h0; cases h0
      · have hj := (Array.getElem?_eq_some_iff.1 ho).1
        have h1 : listed.getD j false = true := by
          have := hall j hj
          have hs : j < listed.size := by omega
          simpa [hs] using this
        obtain ⟨v, hv⟩ := Option.isSome_iff_exists.1 (h.done j o d ho h1 hd)
        exact ⟨v, hv, h.fact d v hv⟩
    | succ fuel ih =>
      intro listed f a x hz hu h
      refine ⟨fun hr => ?_, fun i hi => ?_⟩
      · have hall := all_listed hlex hz hr
        refine hend f a x h.over h.grown (fun j o d ho hd => ?_) h.out
        have hj := (Array.getElem?_eq_some_iff.1 ho).1
        have h1 : listed.getD j false = true := by
          have := hall j hj
          have hs : j < listed.size := by omega
          simpa [hs] using this
        obtain ⟨v, hv⟩ := Option.isSome_iff_exists.1 (h.done j o d ho h1 hd)
        exact ⟨v, hv, h.fact d v hv⟩
      · obtain ⟨h0, o, ho, haf⟩ := mem_ready.1 hi
        have hil := (Array.getElem?_eq_some_iff.1 ho).1
        obtain ⟨hw, hwp⟩ := hstep i o ho f a x h.over h.grown h.fact (fun e he hb oj d hoj hd => by
          obtain ⟨v, hv⟩ := Option.isSome_iff_exists.1 (h.done e.on oj d hoj (haf e he hb) hd)
          exact ⟨v, hv, h.fact d v hv⟩) h.out
        unfold wpOp
        simp only [ho, hw, if_true]
        refine .inl (Oper.wp_mono (fun a' y ⟨v, e1, r1, f1⟩ => ?_) hwp)
        subst e1
        have hmem : i ∈ unlisted ops listed := List.mem_filter.2 ⟨List.mem_range.2 hil, by rw [h0]; rfl⟩
        refine ih (listed.setIfInBounds i true) (putE f o.dst v) _ y (by simp [hz]) ?_ ⟨h.over.put o.dst v, Rt h.grown r1, fun s u hs => ?_, fun j oj d hoj hl hd => ?_, fun s hs => ?_⟩
        · have hlt : (unlisted ops (listed.setIfInBounds i true)).length < (unlisted ops listed).length := by
            have hsub : unlisted ops (listed.setIfInBounds i true) = (unlisted ops listed).filter fun j => decide (j ≠ i) := by
              unfold unlisted
              rw [List.filter_filter]
              apply List.filter_congr
              intro j hj
              by_cases e : i = j
              · subst e
                have : i < listed.size := by omega
                simp [this]
              · rw [getD_set_ne true e]
                have e' : ¬ j = i := fun q => e q.symm
                simp [e']
            rw [hsub]
            exact List.length_filter_lt_length_iff_exists.2 ⟨i, hmem, by simp⟩
          omega
        · unfold putE at hs
          by_cases e : o.dst = some s
          · rw [if_pos e] at hs
            cases hs
            exact f1 s e
          · rw [if_neg e] at hs
            exact Fm (h.fact s u hs) r1
        · unfold putE
          by_cases e : o.dst = some d
          · rw [if_pos e]; rfl
          · rw [if_neg e]
            by_cases hji : i = j
            · subst hji
              rw [ho] at hoj
              cases hoj
              exact absurd hd e
            · rw [getD_set_ne false hji] at hl
              exact h.done j oj d hoj hl hd
        · unfold putE
          by_cases e : o.dst = some s
          · exact absurd (hD i o s ho e) hs
          · rw [if_neg e]; exact h.out s hs
  refine key ops.size (Array.replicate ops.size false) (fun _ => none) a0 _ (by simp) ?_ ⟨Over.start a0, Rr, (fun s v h => nomatch h), fun j o d _ hl _ => ?_, fun _ _ => rfl⟩
  · exact Nat.le_trans (List.length_filter_le _ _) (by simp)
  · exfalso
    have : (Array.replicate ops.size false).getD j false = false := by
      by_cases hj : j < ops.size <;> simp [hj]
    rw [this] at hl; cases hl
end Go.Proofs.YthmnjebmnocoiaaGreat

/- The same, where the last operation (a store) waits for all others. -/
namespace Go.Proofs.YthmnjebmnocoiaaGreat
open Go.RowKit
variable {P : Program} {ops : Array Oper} {Q : Exit → Act → World → Prop}

theorem region_facts_last {id : Nat} (m : Nat) (hsz : ops.size = m + 1) {a0 : Act} {w : World} (hm : P.follows .mixedOrders = true) (hlex : lexOk ops = true) (D : List Nat) (R : World → World → Prop) (F : Nat → Value → World → Prop)
    (Rr : R w { w with drawn := w.drawn + 1 }) (Rt : ∀ {x y z}, R x y → R y z → R x z) (Fm : ∀ {s v x y}, F s v x → R x y → F s v y)
    (hD : ∀ (j : Nat) (o : Oper) (d : Nat), ops[j]? = some o → o.dst = some d → d ∈ D)
    (hwait : ∀ (o : Oper), ops[m]? = some o → ∀ j, j < m → ∃ e ∈ o.after, Region.binds .any e = true ∧ e.on = j)
    (hstep : ∀ (i : Nat) (o : Oper), i < m → ops[i]? = some o → ∀ (f : Env) (a : Act) (x : World), Over a0 f a → R w x → (∀ s v, f s = some v → F s v x) →
      (∀ e ∈ o.after, Region.binds .any e = true → ∀ (oj : Oper) (d : Nat), ops[e.on]? = some oj → oj.dst = some d → ∃ v, f d = some v ∧ F d v x) → (∀ s, s ∉ D → f s = none) →
      Region.wanted o (yielded ops a.tmps) = true ∧ o.wp P a x (fun a' y => ∃ v, a' = a.put o.dst v ∧ R x y ∧ ∀ d, o.dst = some d → F d v y) Q)
    (hend : ∀ (f : Env) (a : Act) (x : World) (o : Oper), ops[m]? = some o → Over a0 f a → R w x → (∀ (j : Nat) (o : Oper) (d : Nat), j < m → ops[j]? = some o → o.dst = some d → ∃ v, f d = some v ∧ F d v x) → (∀ s, s ∉ D → f s = none) → Region.wanted o (yielded ops a.tmps) = true ∧ o.wp P a x (fun a' y => Q .normal a' y) Q) :
    (Code.region id ops true).wp P Q a0 w := by
  refine wp_region_any hm ?_
  have key : ∀ (fuel : Nat) (listed : Array Bool) (f : Env) (a : Act) (x : World), listed.size = ops.size → (unlisted ops listed).length ≤ fuel → listed.getD m true = false → Mid ops D R F a0 w f listed a x → wpAny P .any ops Q fuel listed a x := by
    intro fuel
    induction fuel with
    | zero =>
      intro listed f a x hz hu hl h
      have : m ∈ unlisted ops listed := List.mem_filter.2 ⟨List.mem_range.2 (by omega), by rw [hl]; rfl⟩
      have hnil : unlisted ops listed = [] := List.eq_nil_of_length_eq_zero (by omega)
      rw [hnil] at this; cases this
    | succ fuel ih =>
      intro listed f a x hz hu hlm h
      refine ⟨fun hr => ?_, fun i hi => ?_⟩
      · have := all_listed hlex hz hr m (by omega)
        rw [hlm] at this; cases this
      · obtain ⟨h0, o, ho, haf⟩ := mem_ready.1 hi
        have hil := (Array.getElem?_eq_some_iff.1 ho).1
        by_cases him : i = m
        · subst him
          have hall : ∀ j, j < i → listed.getD j false = true := fun j hj => by
            obtain ⟨e, he, hb, e1⟩ := hwait o ho j hj
            have := haf e he hb
            rw [e1] at this; exact this
          obtain ⟨hw, hwp⟩ := hend f a x o ho h.over h.grown (fun j oj d hj hoj hd => by
            obtain ⟨v, hv⟩ := Option.isSome_iff_exists.1 (h.done j oj d hoj (hall j hj) hd)
            exact ⟨v, hv, h.fact d v hv⟩) h.out
          unfold wpOp
          simp only [ho, hw, if_true]
          refine .inl (Oper.wp_mono (fun a' y hQ => ?_) hwp)
          have hnone : Region.ready .any ops (listed.setIfInBounds i true) = [] := by
            cases hr : Region.ready .any ops (listed.setIfInBounds i true) with
            | nil => rfl
            | cons j l =>
              exfalso
              have hj : j ∈ Region.ready .any ops (listed.setIfInBounds i true) := by rw [hr]; simp
              obtain ⟨g0, oj, hoj, _⟩ := mem_ready.1 hj
              have hjl := (Array.getElem?_eq_some_iff.1 hoj).1
              by_cases e : i = j
              · subst e
                have : i < listed.size := by omega
                simp [this] at g0
              · rw [getD_set_ne true e] at g0
                have := hall j (by omega)
                have hs : j < listed.size := by omega
                simp [hs] at g0 this
                rw [g0] at this; cases this
          cases fuel with
          | zero => exact ⟨hnone, hQ⟩
          | succ fuel => exact ⟨fun _ => hQ, by rw [hnone]; simp⟩
        · obtain ⟨hw, hwp⟩ := hstep i o (by omega) ho f a x h.over h.grown h.fact (fun e he hb oj d hoj hd => by
            obtain ⟨v, hv⟩ := Option.isSome_iff_exists.1 (h.done e.on oj d hoj (haf e he hb) hd)
            exact ⟨v, hv, h.fact d v hv⟩) h.out
          unfold wpOp
          simp only [ho, hw, if_true]
          refine .inl (Oper.wp_mono (fun a' y ⟨v, e1, r1, f1⟩ => ?_) hwp)
          subst e1
          have hmem : i ∈ unlisted ops listed := List.mem_filter.2 ⟨List.mem_range.2 hil, by rw [h0]; rfl⟩
          refine ih (listed.setIfInBounds i true) (putE f o.dst v) _ y (by simp [hz]) ?_ (by rw [getD_set_ne true him]; exact hlm) ⟨h.over.put o.dst v, Rt h.grown r1, fun s u hs => ?_, fun j oj d hoj hl hd => ?_, fun s hs => ?_⟩
          · have hlt : (unlisted ops (listed.setIfInBounds i true)).length < (unlisted ops listed).length := by
              have hsub : unlisted ops (listed.setIfInBounds i true) = (unlisted ops listed).filter fun j => decide (j ≠ i) := by
                unfold unlisted
                rw [List.filter_filter]
                apply List.filter_congr
                intro j hj
                by_cases e : i = j
                · subst e
                  have : i < listed.size := by omega
                  simp [this]
                · rw [getD_set_ne true e]
                  have e' : ¬ j = i := fun q => e q.symm
                  simp [e']
              rw [hsub]
              exact List.length_filter_lt_length_iff_exists.2 ⟨i, hmem, by simp⟩
            omega
          · unfold putE at hs
            by_cases e : o.dst = some s
            · rw [if_pos e] at hs
              cases hs
              exact f1 s e
            · rw [if_neg e] at hs
              exact Fm (h.fact s u hs) r1
          · unfold putE
            by_cases e : o.dst = some d
            · rw [if_pos e]; rfl
            · rw [if_neg e]
              by_cases hji : i = j
              · subst hji
                rw [ho] at hoj
                cases hoj
                exact absurd hd e
              · rw [getD_set_ne false hji] at hl
                exact h.done j oj d hoj hl hd
          · unfold putE
            by_cases e : o.dst = some s
            · exact absurd (hD i o s ho e) hs
            · rw [if_neg e]; exact h.out s hs
  refine key ops.size (Array.replicate ops.size false) (fun _ => none) a0 _ (by simp) ?_ (by simp [hsz]) ⟨Over.start a0, Rr, (fun s v h => nomatch h), fun j o d _ hl _ => ?_, fun _ _ => rfl⟩
  · exact Nat.le_trans (List.length_filter_le _ _) (by simp)
  · exfalso
    have : (Array.replicate ops.size false).getD j false = false := by
      by_cases hj : j < ops.size <;> simp [hj]
    rw [this] at hl; cases hl
end Go.Proofs.YthmnjebmnocoiaaGreat

/- The same, where the last two operations (stores) wait for all others, one behind the other. -/
namespace Go.Proofs.YthmnjebmnocoiaaGreat
open Go.RowKit
variable {P : Program} {ops : Array Oper} {Q : Exit → Act → World → Prop}

theorem getD_mono {l : Array Bool} (i j : Nat) (h : l.getD j false = true) : (l.setIfInBounds i true).getD j false = true := by
  by_cases e : i = j
  · subst e
    have hl : i < l.size := by
      rcases Nat.lt_or_ge i l.size with q | q
      · exact q
      · simp [Nat.not_lt.2 q] at h
    simp [hl]
  · rw [getD_set_ne false e]; exact h
theorem getD_tf {l : Array Bool} {j : Nat} (h : l.getD j false = true) : l.getD j true = true := by
  rcases Nat.lt_or_ge j l.size with q | q
  · simpa [q] using h
  · simp [Nat.not_lt.2 q]
theorem region_facts_two {id : Nat} (m : Nat) (hsz : ops.size = m + 2) {a0 : Act} {w : World} (hm : P.follows .mixedOrders = true) (hlex : lexOk ops = true) (D : List Nat) (R : World → World → Prop) (F : Nat → Value → World → Prop)
    (Rr : R w { w with drawn := w.drawn + 1 }) (Rt : ∀ {x y z}, R x y → R y z → R x z) (Fm : ∀ {s v x y}, F s v x → R x y → F s v y)
    (hD : ∀ (j : Nat) (o : Oper) (d : Nat), ops[j]? = some o → o.dst = some d → d ∈ D)
    (hwait : ∀ (o : Oper), ops[m]? = some o → ∀ j, j < m → ∃ e ∈ o.after, Region.binds .any e = true ∧ (e.on = j ∨ ∃ (oj : Oper), ops[e.on]? = some oj ∧ ∃ e' ∈ oj.after, Region.binds .any e' = true ∧ e'.on = j))
    (hwait2 : ∀ (o : Oper), ops[m + 1]? = some o → ∃ e ∈ o.after, Region.binds .any e = true ∧ e.on = m)
    (hstep : ∀ (i : Nat) (o : Oper), i < m → ops[i]? = some o → ∀ (f : Env) (a : Act) (x : World), Over a0 f a → R w x → (∀ s v, f s = some v → F s v x) →
      (∀ e ∈ o.after, Region.binds .any e = true → ∀ (oj : Oper) (d : Nat), ops[e.on]? = some oj → oj.dst = some d → ∃ v, f d = some v ∧ F d v x) → (∀ s, s ∉ D → f s = none) →
      Region.wanted o (yielded ops a.tmps) = true ∧ o.wp P a x (fun a' y => ∃ v, a' = a.put o.dst v ∧ R x y ∧ ∀ d, o.dst = some d → F d v y) Q)
    (hend : ∀ (f : Env) (a : Act) (x : World) (o o2 : Oper), ops[m]? = some o → ops[m + 1]? = some o2 → Over a0 f a → R w x → (∀ (j : Nat) (o : Oper) (d : Nat), j < m → ops[j]? = some o → o.dst = some d → ∃ v, f d = some v ∧ F d v x) → (∀ s, s ∉ D → f s = none) → Region.wanted o (yielded ops a.tmps) = true ∧ o.wp P a x (fun a' y => Region.wanted o2 (yielded ops a'.tmps) = true ∧ o2.wp P a' y (fun a'' z => Q .normal a'' z) Q) Q) :
    (Code.region id ops true).wp P Q a0 w := by
  refine wp_region_any hm ?_
  have key : ∀ (fuel : Nat) (listed : Array Bool) (f : Env) (a : Act) (x : World), listed.size = ops.size → (unlisted ops listed).length ≤ fuel → listed.getD m true = false → listed.getD (m + 1) true = false → (∀ (j : Nat) (oj : Oper), ops[j]? = some oj → listed.getD j false = true → ∀ e ∈ oj.after, Region.binds .any e = true → listed.getD e.on false = true) → Mid ops D R F a0 w f listed a x → wpAny P .any ops Q fuel listed a x := by
    intro fuel
    induction fuel with
    | zero =>
      intro listed f a x hz hu hl _ _ h
      have : m ∈ unlisted ops listed := List.mem_filter.2 ⟨List.mem_range.2 (by omega), by rw [hl]; rfl⟩
      have hnil : unlisted ops listed = [] := List.eq_nil_of_length_eq_zero (by omega)
      rw [hnil] at this; cases this
    | succ fuel ih =>
      intro listed f a x hz hu hlm hlm2 hcl h
      refine ⟨fun hr => ?_, fun i hi => ?_⟩
      · have := all_listed hlex hz hr m (by omega)
        rw [hlm] at this; cases this
      · obtain ⟨h0, o, ho, haf⟩ := mem_ready.1 hi
        have hil := (Array.getElem?_eq_some_iff.1 ho).1
        by_cases him : i = m
        · subst him
          have hall : ∀ j, j < i → listed.getD j false = true := fun j hj => by
            obtain ⟨e, he, hb, e1⟩ := hwait o ho j hj
            have h1 := haf e he hb
            rcases e1 with e1 | ⟨oj, hoj, e', he', hb', e1⟩
            · rw [e1] at h1; exact h1
            · have := hcl e.on oj hoj h1 e' he' hb'
              rw [e1] at this; exact this
          obtain ⟨o2, ho2⟩ : ∃ o2, ops[i + 1]? = some o2 := ⟨_, Array.getElem?_eq_getElem (by omega)⟩
          obtain ⟨hw, hwp⟩ := hend f a x o o2 ho ho2 h.over h.grown (fun j oj d hj hoj hd => by
            obtain ⟨v, hv⟩ := Option.isSome_iff_exists.1 (h.done j oj d hoj (hall j hj) hd)
            exact ⟨v, hv, h.fact d v hv⟩) h.out
          unfold wpOp
          simp only [ho, hw, if_true]
          refine .inl (Oper.wp_mono (fun a' y hQ => ?_) hwp)
          obtain ⟨hw2, hwp2⟩ := hQ
          have hmem1 : i ∈ unlisted ops listed := List.mem_filter.2 ⟨List.mem_range.2 (by omega), by rw [hlm]; rfl⟩
          have hmem2 : i + 1 ∈ unlisted ops listed := List.mem_filter.2 ⟨List.mem_range.2 (by omega), by rw [hlm2]; rfl⟩
          have hlen2 : 2 ≤ (unlisted ops listed).length := by
            cases hul : unlisted ops listed with
            | nil => rw [hul] at hmem1; cases hmem1
            | cons x r =>
              cases r with
              | nil =>
                rw [hul] at hmem1 hmem2
                simp at hmem1 hmem2
                omega
              | cons y r => simp
          have hall1 : ∀ j, j ≤ i → (listed.setIfInBounds i true).getD j false = true := fun j hj => by
            by_cases e : i = j
            · subst e
              have : i < listed.size := by omega
              simp [this]
            · exact getD_mono i j (hall j (by omega))
          have hl1 : (listed.setIfInBounds i true).getD (i + 1) true = false := by rw [getD_set_ne true (by omega)]; exact hlm2
          have hnone : Region.ready .any ops ((listed.setIfInBounds i true).setIfInBounds (i + 1) true) = [] := by
            cases hr : Region.ready .any ops ((listed.setIfInBounds i true).setIfInBounds (i + 1) true) with
            | nil => rfl
            | cons j l =>
              exfalso
              have hj : j ∈ Region.ready .any ops ((listed.setIfInBounds i true).setIfInBounds (i + 1) true) := by rw [hr]; simp
              obtain ⟨g0, oj, hoj, _⟩ := mem_ready.1 hj
              have hjl := (Array.getElem?_eq_some_iff.1 hoj).1
              by_cases e : i + 1 = j
              · subst e
                have : i + 1 < listed.size := by omega
                simp [this] at g0
              · rw [getD_set_ne true e] at g0
                have := getD_tf (hall1 j (by omega))
                rw [g0] at this; cases this
          cases fuel with
          | zero => omega
          | succ fuel =>
            refine ⟨fun hr => ?_, fun k hk => ?_⟩
            · have := all_listed hlex (by simp [hz]) hr (i + 1) (by omega)
              rw [hl1] at this; cases this
            · obtain ⟨g0, ok, hok, _⟩ := mem_ready.1 hk
              have hkl := (Array.getElem?_eq_some_iff.1 hok).1
              obtain rfl : k = i + 1 := by
                rcases Nat.lt_or_ge i k with q | q
                · omega
                · have := getD_tf (hall1 k q)
                  rw [g0] at this; cases this
              rw [ho2] at hok
              cases hok
              unfold wpOp
              simp only [ho2, hw2, if_true]
              refine .inl (Oper.wp_mono (fun a'' z hQ => ?_) hwp2)
              cases fuel with
              | zero => exact ⟨hnone, hQ⟩
              | succ fuel => exact ⟨fun _ => hQ, by rw [hnone]; simp⟩
        · have him2 : i ≠ m + 1 := fun e => by
            subst e
            obtain ⟨e, he, hb, e1⟩ := hwait2 o ho
            have := getD_tf (haf e he hb)
            rw [e1, hlm] at this; cases this
          obtain ⟨hw, hwp⟩ := hstep i o (by omega) ho f a x h.over h.grown h.fact (fun e he hb oj d hoj hd => by
            obtain ⟨v, hv⟩ := Option.isSome_iff_exists.1 (h.done e.on oj d hoj (haf e he hb) hd)
            exact ⟨v, hv, h.fact d v hv⟩) h.out
          unfold wpOp
          simp only [ho, hw, if_true]
          refine .inl (Oper.wp_mono (fun a' y ⟨v, e1, r1, f1⟩ => ?_) hwp)
          subst e1
          have hmem : i ∈ unlisted ops listed := List.mem_filter.2 ⟨List.mem_range.2 hil, by rw [h0]; rfl⟩
          refine ih (listed.setIfInBounds i true) (putE f o.dst v) _ y (by simp [hz]) ?_ (by rw [getD_set_ne true him]; exact hlm) (by rw [getD_set_ne true him2]; exact hlm2) (fun j oj hoj hl e he hb => ?_) ⟨h.over.put o.dst v, Rt h.grown r1, fun s u hs => ?_, fun j oj d hoj hl hd => ?_, fun s hs => ?_⟩
          rotate_left
          · by_cases hji : i = j
            · subst hji
              rw [ho] at hoj
              cases hoj
              exact getD_mono i _ (haf e he hb)
            · rw [getD_set_ne false hji] at hl
              exact getD_mono i _ (hcl j oj hoj hl e he hb)
          rotate_right
          · have hlt : (unlisted ops (listed.setIfInBounds i true)).length < (unlisted ops listed).length := by
              have hsub : unlisted ops (listed.setIfInBounds i true) = (unlisted ops listed).filter fun j => decide (j ≠ i) := by
                unfold unlisted
                rw [List.filter_filter]
                apply List.filter_congr
                intro j hj
                by_cases e : i = j
                · subst e
                  have : i < listed.size := by omega
                  simp [this]
                · rw [getD_set_ne true e]
                  have e' : ¬ j = i := fun q => e q.symm
                  simp [e']
              rw [hsub]
              exact List.length_filter_lt_length_iff_exists.2 ⟨i, hmem, by simp⟩
            omega
          · unfold putE at hs
            by_cases e : o.dst = some s
            · rw [if_pos e] at hs
              cases hs
              exact f1 s e
            · rw [if_neg e] at hs
              exact Fm (h.fact s u hs) r1
          · unfold putE
            by_cases e : o.dst = some d
            · rw [if_pos e]; rfl
            · rw [if_neg e]
              by_cases hji : i = j
              · subst hji
                rw [ho] at hoj
                cases hoj
                exact absurd hd e
              · rw [getD_set_ne false hji] at hl
                exact h.done j oj d hoj hl hd
          · unfold putE
            by_cases e : o.dst = some s
            · exact absurd (hD i o s ho e) hs
            · rw [if_neg e]; exact h.out s hs
  refine key ops.size (Array.replicate ops.size false) (fun _ => none) a0 _ (by simp) ?_ (by simp [hsz]) (by simp [hsz]) (fun j oj _ hl => ?_) ⟨Over.start a0, Rr, (fun s v h => nomatch h), fun j o d _ hl _ => ?_, fun _ _ => rfl⟩
  · exact Nat.le_trans (List.length_filter_le _ _) (by simp)
  · exfalso
    have : (Array.replicate ops.size false).getD j false = false := by
      by_cases hj : j < ops.size <;> simp [hj]
    rw [this] at hl; cases hl
  · exfalso
    have : (Array.replicate ops.size false).getD j false = false := by
      by_cases hj : j < ops.size <;> simp [hj]
    rw [this] at hl; cases hl
end Go.Proofs.YthmnjebmnocoiaaGreat
