/- The engine: a drawn region whose last operation (a store) waits for all others, be it by way of others. -/
import Derived.Test.YtlliijodilnlgaaEng
namespace Go.Proofs.Ytlliijodilnlgaa
open Go.RowKit
variable {P : Program} {ops : Array Oper} {Q : Exit → Act → World → Prop}

def edgeB (ops : Array Oper) (k j : Nat) : Bool := match ops[k]? with
  | some o => o.after.toList.any fun e => Region.binds .any e && decide (e.on = j)
  | none => false
/-- Every operation ahead of m is waited for by a later one, up to m. -/
def coverB (ops : Array Oper) (m : Nat) : Bool := (List.range m).all fun j => (List.range (m + 1)).any fun k => decide (j < k) && edgeB ops k j
theorem cover_spec {m : Nat} (h : coverB ops m = true) {j : Nat} (hj : j < m) : ∃ k o e, j < k ∧ k ≤ m ∧ ops[k]? = some o ∧ e ∈ o.after ∧ Region.binds .any e = true ∧ e.on = j := by
  have := List.all_eq_true.1 h j (List.mem_range.2 hj)
  obtain ⟨k, hk, hb⟩ := List.any_eq_true.1 this
  rw [Bool.and_eq_true] at hb
  obtain ⟨b1, b2⟩ := hb
  unfold edgeB at b2
  cases ho : ops[k]? with
  | none => rw [ho] at b2; cases b2
  | some o =>
    rw [ho] at b2
    obtain ⟨e, he, hb⟩ := List.any_eq_true.1 b2
    rw [Bool.and_eq_true] at hb
    exact ⟨k, o, e, of_decide_eq_true b1, by have := List.mem_range.1 hk; omega, ho, by simpa using he, hb.1, of_decide_eq_true hb.2⟩
structure MidL (ops : Array Oper) (D : List Nat) (T : Nat → Fact) (a0 : Act) (w : World) (f : Env) (listed : Array Bool) (a : Act) (x : World) : Prop where
  over : Over a0 f a
  grown : Gr w x
  fact : ∀ s v, f s = some v → (T s).holds v x
  done : ∀ (j : Nat) (o : Oper) (d : Nat), ops[j]? = some o → listed.getD j false = true → o.dst = some d → (f d).isSome = true
  out : ∀ s, s ∉ D → f s = none
  closed : ∀ (j : Nat) (o : Oper), ops[j]? = some o → listed.getD j false = true → ∀ e ∈ o.after, Region.binds .any e = true → listed.getD e.on false = true
theorem drawn_last {id : Nat} {a0 : Act} {w : World} (hm : P.follows .mixedOrders = true) (hlex : lexOk ops = true) (m : Nat) (hsz : ops.size = m + 1) (hcov : coverB ops m = true) (st : Oper) (hst : ops[m]? = some st) (D : List Nat) (T : Nat → Fact)
    (hD : (ops.toList.all fun o => match o.dst with | some d => D.contains d | none => true) = true)
    (hstep : ∀ o ∈ ops.toList.take m, StepAt P ops D T a0 w Q o)
    (hend : ∀ (a : Act) (x : World), After D a0 a → Gr w x → (∀ s, dstsB ops m s = true → s < a0.tmps.size → (T s).holds (a.eval (.tmp s)) x) → Region.wanted st (yielded ops a.tmps) = true ∧ st.wp P a x (fun a' y => Q .normal a' y) Q) :
    (Code.region id ops true).wp P Q a0 w := by
  refine wp_region_any hm ?_
  have key : ∀ (fuel : Nat) (listed : Array Bool) (f : Env) (a : Act) (x : World), listed.size = ops.size → (unlisted ops listed).length ≤ fuel → listed.getD m true = false → MidL ops D T a0 w f listed a x → wpAny P .any ops Q fuel listed a x := by
    intro fuel
    induction fuel with
    | zero =>
      intro listed f a x hz hu hl h
      have : m ∈ unlisted ops listed := List.mem_filter.2 ⟨List.mem_range.2 (by omega), by rw [hl]; rfl⟩
      have hnil : unlisted ops listed = [] := List.eq_nil_of_length_eq_zero (by omega)
      rw [hnil] at this; cases this
    | succ fuel ih =>
      intro listed f a x hz hu hlm h
      refine ⟨fun hr => ?_, fun i hi => ?_⟩
      · have := all_listed hlex hz hr m (by omega)
        rw [hlm] at this; cases this
      · obtain ⟨h0, o, ho, haf⟩ := mem_ready.1 hi
        have hil := (Array.getElem?_eq_some_iff.1 ho).1
        by_cases him : i = m
        · subst him
          have hall : ∀ n j, i ≤ j + n → j < i → listed.getD j false = true := by
            intro n
            induction n with
            | zero => intro j h1 h2; omega
            | succ n ihn =>
              intro j h1 h2
              obtain ⟨k, ok, e, hjk, hk, hok, he, hb, hon⟩ := cover_spec hcov h2
              by_cases hki : k = i
              · subst hki
                rw [ho] at hok
                cases hok
                have := haf e he hb
                rw [hon] at this; exact this
              · have := h.closed k ok hok (ihn k (by omega) (by omega)) e he hb
                rw [hon] at this; exact this
          have hall : ∀ j, j < i → listed.getD j false = true := fun j hj => hall i j (by omega) hj
          rw [hst] at ho
          cases ho
          obtain ⟨hw, hwp⟩ := hend a x (h.over.after h.out) h.grown (fun s hs hsz' => by
            obtain ⟨oj, hoj, hd⟩ := List.any_eq_true.1 hs
            have hd := of_decide_eq_true hd
            obtain ⟨j, hj⟩ := List.mem_iff_getElem?.1 hoj
            have hjk : j < i := by
              have := (List.getElem?_eq_some_iff.1 hj).1
              simp at this; omega
            rw [List.getElem?_take_of_lt hjk] at hj
            obtain ⟨v, hv⟩ := Option.isSome_iff_exists.1 (h.done j oj s (by simpa using hj) (hall j hjk) hd)
            rw [h.over.get hsz' hv]
            exact h.fact s v hv)
          unfold wpOp
          simp only [hst, hw, if_true]
          refine .inl (Oper.wp_mono (fun a' y hQ => ?_) hwp)
          have hnone : Region.ready .any ops (listed.setIfInBounds i true) = [] := by
            cases hr : Region.ready .any ops (listed.setIfInBounds i true) with
            | nil => rfl
            | cons j l =>
              exfalso
              have hj : j ∈ Region.ready .any ops (listed.setIfInBounds i true) := by rw [hr]; simp
              obtain ⟨g0, oj, hoj, _⟩ := mem_ready.1 hj
              have hjl := (Array.getElem?_eq_some_iff.1 hoj).1
              by_cases e : i = j
              · subst e
                have : i < listed.size := by omega
                simp [this] at g0
              · rw [getD_set_ne true e] at g0
                have := hall j (by omega)
                have hs : j < listed.size := by omega
                simp [hs] at g0 this
                rw [g0] at this; cases this
          cases fuel with
          | zero => exact ⟨hnone, hQ⟩
          | succ fuel => exact ⟨fun _ => hQ, by rw [hnone]; simp⟩
        · have hmem : o ∈ ops.toList.take m := by
            rw [List.mem_iff_getElem?]
            exact ⟨i, by rw [List.getElem?_take_of_lt (by omega)]; simpa using ho⟩
          have hc : Ctx ops D T a0 w o f a x := ⟨h.over, h.grown, fun s hs => by
            obtain ⟨e, he, hb⟩ := List.any_eq_true.1 hs
            rw [Bool.and_eq_true] at hb
            have b2 := of_decide_eq_true hb.2
            cases hoj : ops[e.on]? with
            | none => rw [hoj] at b2; cases b2
            | some oj =>
              rw [hoj] at b2
              obtain ⟨v, hv⟩ := Option.isSome_iff_exists.1 (h.done e.on oj s hoj (haf e (by simpa using he) hb.1) b2)
              exact ⟨v, hv, h.fact s v hv⟩, h.out⟩
          have hDo : ∀ d, o.dst = some d → d ∈ D := fun d hd => by
            have := List.all_eq_true.1 hD o (by simpa using Array.mem_of_getElem? ho)
            rw [hd] at this
            simpa using this
          have hun : i ∈ unlisted ops listed := List.mem_filter.2 ⟨List.mem_range.2 hil, by rw [h0]; rfl⟩
          have hlt : (unlisted ops (listed.setIfInBounds i true)).length < (unlisted ops listed).length := by
            have hsub : unlisted ops (listed.setIfInBounds i true) = (unlisted ops listed).filter fun j => decide (j ≠ i) := by
              unfold unlisted
              rw [List.filter_filter]
              apply List.filter_congr
              intro j hj
              by_cases e : i = j
              · subst e
                have : i < listed.size := by omega
                simp [this]
              · rw [getD_set_ne true e]
                have e' : ¬ j = i := fun q => e q.symm
                simp [e']
            rw [hsub]
            exact List.length_filter_lt_length_iff_exists.2 ⟨i, hun, by simp⟩
          have next : ∀ (v : Value) (y : World), Gr x y → (∀ d, o.dst = some d → (T d).holds v y) → wpAny P .any ops Q fuel (listed.setIfInBounds i true) (a.put o.dst v) y := fun v y r1 f1 => by
            refine ih (listed.setIfInBounds i true) (putE f o.dst v) _ y (by simp [hz]) (by omega) (by rw [getD_set_ne true him]; exact hlm) ⟨h.over.put o.dst v, h.grown.trans r1, fun s u hs => ?_, fun j oj d hoj hl hd => ?_, fun s hs => ?_, fun j oj hoj hl e he hb => ?_⟩
            · unfold putE at hs
              by_cases e : o.dst = some s
              · rw [if_pos e] at hs
                cases hs
                exact f1 s e
              · rw [if_neg e] at hs
                exact (T s).mono (h.fact s u hs) r1
            · unfold putE
              by_cases e : o.dst = some d
              · rw [if_pos e]; rfl
              · rw [if_neg e]
                by_cases hji : i = j
                · subst hji
                  rw [ho] at hoj
                  cases hoj
                  exact absurd hd e
                · rw [getD_set_ne false hji] at hl
                  exact h.done j oj d hoj hl hd
            · unfold putE
              by_cases e : o.dst = some s
              · exact absurd (hDo s e) hs
              · rw [if_neg e]; exact h.out s hs
            · have hle : listed.getD e.on false = true := by
                by_cases hji : i = j
                · subst hji
                  rw [ho] at hoj
                  cases hoj
                  exact haf e he hb
                · rw [getD_set_ne false hji] at hl
                  exact h.closed j oj hoj hl e he hb
              by_cases q : i = e.on
              · have : i < listed.size := by omega
                rw [← q]; simp [this]
              · rw [getD_set_ne false q]; exact hle
          unfold wpOp
          rcases hstep o hmem f a x hc with ⟨hw, hwp⟩ | ⟨hw, hv⟩
          · simp only [ho, hw, if_true]
            refine .inl (Oper.wp_mono (fun a' y ⟨v, e1, r1, f1⟩ => ?_) hwp)
            subst e1
            exact next v y r1 f1
          · simp only [ho, hw]
            exact next undef x (Gr.refl _) hv
  refine key ops.size (Array.replicate ops.size false) (fun _ => none) a0 _ (by simp) ?_ (by simp [hsz]) ⟨Over.start a0, Gr.drew w, (fun s v h => nomatch h), fun j o d _ hl _ => ?_, fun _ _ => rfl, fun j o _ hl _ _ _ => ?_⟩
  · exact Nat.le_trans (List.length_filter_le _ _) (by simp)
  all_goals
    exfalso
    have : (Array.replicate ops.size false).getD j false = false := by
      by_cases hj : j < ops.size <;> simp [hj]
    rw [this] at hl; cases hl
end Go.Proofs.Ytlliijodilnlgaa
