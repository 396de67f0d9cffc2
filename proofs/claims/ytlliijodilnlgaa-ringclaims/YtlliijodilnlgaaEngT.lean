/- The engine: a drawn region whose tail (an append and what takes it up, say) goes in order behind all others. -/
import Derived.Test.YtlliijodilnlgaaEngL
namespace Go.Proofs.Ytlliijodilnlgaa
open Go.RowKit
variable {P : Program} {ops : Array Oper} {Q : Exit → Act → World → Prop}
/-- From m on each operation waits for the one ahead of it. -/
def chainB (ops : Array Oper) (m : Nat) : Bool := (List.range ops.size).all fun k => decide (k ≤ m) || edgeB ops k (k - 1)
theorem chain_spec {m k : Nat} (h : chainB ops m = true) (hk : m < k) (hs : k < ops.size) : ∃ o e, ops[k]? = some o ∧ e ∈ o.after ∧ Region.binds .any e = true ∧ e.on = k - 1 := by
  have := List.all_eq_true.1 h k (List.mem_range.2 hs)
  rw [Bool.or_eq_true] at this
  rcases this with q | b2
  · have := of_decide_eq_true q; omega
  · unfold edgeB at b2
    cases ho : ops[k]? with
    | none => rw [ho] at b2; cases b2
    | some o =>
      rw [ho] at b2
      obtain ⟨e, he, hb⟩ := List.any_eq_true.1 b2
      rw [Bool.and_eq_true] at hb
      exact ⟨o, e, rfl, by simpa using he, hb.1, of_decide_eq_true hb.2⟩
theorem late_closed {m : Nat} {listed : Array Bool} (hch : chainB ops m = true) (hcl : ∀ (j : Nat) (o : Oper), ops[j]? = some o → listed.getD j false = true → ∀ e ∈ o.after, Region.binds .any e = true → listed.getD e.on false = true) : ∀ j, m ≤ j → j < ops.size → listed.getD j false = true → listed.getD m false = true := by
  intro j
  induction j with
  | zero => intro h1 _ h3; obtain rfl : m = 0 := by omega
            exact h3
  | succ j ih =>
    intro h1 h2 h3
    by_cases e : m = j + 1
    · rw [e]; exact h3
    · obtain ⟨o, ed, ho, he, hb, hon⟩ := chain_spec hch (show m < j + 1 by omega) h2
      have := hcl (j + 1) o ho h3 ed he hb
      rw [hon] at this
      exact ih (by omega) (by omega) (by simpa using this)
theorem late_len {i : Nat} {listed : Array Bool} (h : ∀ j, i ≤ j → j < ops.size → listed.getD j true = false) : ops.size - i ≤ (unlisted ops listed).length := by
  have hsub : ((List.range ops.size).filter fun j => decide (i ≤ j)).length ≤ (unlisted ops listed).length := by
    unfold unlisted
    rw [← List.countP_eq_length_filter, ← List.countP_eq_length_filter]
    refine List.countP_mono_left fun j hj hd => ?_
    rw [h j (of_decide_eq_true hd) (List.mem_range.1 hj)]; rfl
  have hlen : ((List.range ops.size).filter fun j => decide (i ≤ j)).length = ops.size - i := by
    generalize ops.size = n
    induction n with
    | zero => simp
    | succ n ih =>
      rw [List.range_succ, List.filter_append, List.length_append, ih]
      by_cases q : i ≤ n
      · simp [q]; omega
      · simp [q]; omega
  omega
theorem any_of_list {m : Nat} (hlex : lexOk ops = true) (hch : chainB ops m = true) : ∀ (n k fuel : Nat) (listed : Array Bool) (a : Act) (x : World), k + n = ops.size → listed.size = ops.size → n ≤ fuel → (∀ j, j < k → listed.getD j false = true) → (∀ j, k ≤ j → j < ops.size → listed.getD j true = false) → wpList P ops Q (ops.toList.drop k) a x → m ≤ k → wpAny P .any ops Q fuel listed a x := by
  intro n
  induction n with
  | zero =>
    intro k fuel listed a x hk hz _ hall _ hwl _
    have hnil : Region.ready .any ops listed = [] := by
      cases hr : Region.ready .any ops listed with
      | nil => rfl
      | cons j l =>
        exfalso
        obtain ⟨g0, oj, hoj, _⟩ := mem_ready.1 (show j ∈ Region.ready .any ops listed by rw [hr]; simp)
        have hjl := (Array.getElem?_eq_some_iff.1 hoj).1
        have := hall j (by omega)
        have hs : j < listed.size := by omega
        simp [hs] at g0 this
        rw [g0] at this; cases this
    rw [List.drop_eq_nil_of_le (by simp; omega)] at hwl
    cases fuel with
    | zero => exact ⟨hnil, hwl⟩
    | succ fuel => exact ⟨fun _ => hwl, by rw [hnil]; simp⟩
  | succ n ih =>
    intro k fuel listed a x hk hz hf hall hlate hwl hmk
    cases fuel with
    | zero => omega
    | succ fuel =>
      have hks : k < ops.size := by omega
      have ho : ops[k]? = some ops[k] := Array.getElem?_eq_getElem hks
      have hdrop : ops.toList.drop k = ops[k] :: ops.toList.drop (k + 1) := by
        rw [List.drop_eq_getElem_cons (by simpa using hks)]; rfl
      have hnext : ∀ a' y, wpList P ops Q (ops.toList.drop (k + 1)) a' y → wpAny P .any ops Q fuel (listed.setIfInBounds k true) a' y := fun a' y hw =>
        ih (k + 1) fuel _ a' y (by omega) (by simp [hz]) (by omega) (fun j hj => by
          by_cases e : k = j
          · subst e
            have : k < listed.size := by omega
            simp [this]
          · rw [getD_set_ne false e]; exact hall j (by omega)) (fun j h1 h2 => by
          rw [getD_set_ne true (by omega)]; exact hlate j (by omega) h2) hw (by omega)
      refine ⟨fun hr => ?_, fun i hi => ?_⟩
      · exfalso
        have hmem : k ∈ Region.ready .any ops listed := by
          refine mem_ready.2 ⟨hlate k (Nat.le_refl _) hks, ops[k], ho, fun e he hb => ?_⟩
          exact hall e.on (lexOk_spec hlex ho e he hb)
        rw [hr] at hmem; cases hmem
      · obtain ⟨h0, o, hoi, haf⟩ := mem_ready.1 hi
        have hil := (Array.getElem?_eq_some_iff.1 hoi).1
        have hik : i = k := by
          rcases Nat.lt_trichotomy i k with q | q | q
          · have := hall i q
            have hs : i < listed.size := by omega
            simp [hs] at h0 this
            rw [h0] at this; cases this
          · exact q
          · exfalso
            obtain ⟨o1, e1, ho1, he1, hb1, hon⟩ := chain_spec hch (show m < i by omega) hil
            rw [hoi] at ho1
            cases ho1
            have h1 := haf e1 he1 hb1
            rw [hon] at h1
            have h2 := hlate (i - 1) (by omega) (by omega)
            have hs : i - 1 < listed.size := by omega
            simp [hs] at h1 h2
            rw [h1] at h2; cases h2
        subst hik
        rw [hdrop] at hwl
        unfold wpOp
        unfold wpList at hwl
        simp only [ho]
        split
        · rename_i hw
          rw [if_pos hw] at hwl
          rcases hwl with hwp | hask
          · exact .inl (Oper.wp_mono (fun a' y h => hnext a' y h) hwp)
          · exact .inr hask
        · rename_i hw
          rw [if_neg hw] at hwl
          exact hnext _ _ hwl
theorem drawn_tail {id : Nat} {a0 : Act} {w : World} (hm : P.follows .mixedOrders = true) (hlex : lexOk ops = true) (m : Nat) (hsz : m < ops.size) (hcov : coverB ops m = true) (hch : chainB ops m = true) (D : List Nat) (T : Nat → Fact)
    (hD : ((ops.toList.take m).all fun o => match o.dst with | some d => D.contains d | none => true) = true)
    (hstep : ∀ o ∈ ops.toList.take m, StepAt P ops D T a0 w Q o)
    (hend : ∀ (a : Act) (x : World), After D a0 a → Gr w x → (∀ s, dstsB ops m s = true → s < a0.tmps.size → (T s).holds (a.eval (.tmp s)) x) → wpList P ops Q (ops.toList.drop m) a x) :
    (Code.region id ops true).wp P Q a0 w := by
  refine wp_region_any hm ?_
  have key : ∀ (fuel : Nat) (listed : Array Bool) (f : Env) (a : Act) (x : World), listed.size = ops.size → (unlisted ops listed).length ≤ fuel → listed.getD m true = false → MidL ops D T a0 w f listed a x → wpAny P .any ops Q fuel listed a x := by
    intro fuel
    induction fuel with
    | zero =>
      intro listed f a x hz hu hl h
      have : m ∈ unlisted ops listed := List.mem_filter.2 ⟨List.mem_range.2 (by omega), by rw [hl]; rfl⟩
      have hnil : unlisted ops listed = [] := List.eq_nil_of_length_eq_zero (by omega)
      rw [hnil] at this; cases this
    | succ fuel ih =>
      intro listed f a x hz hu hlm h
      refine ⟨fun hr => ?_, fun i hi => ?_⟩
      · have := all_listed hlex hz hr m (by omega)
        rw [hlm] at this; cases this
      · obtain ⟨h0, o, ho, haf⟩ := mem_ready.1 hi
        have hil := (Array.getElem?_eq_some_iff.1 ho).1
        by_cases him : i = m
        · subst him
          have hall : ∀ n j, i ≤ j + n → j < i → listed.getD j false = true := by
            intro n
            induction n with
            | zero => intro j h1 h2; omega
            | succ n ihn =>
              intro j h1 h2
              obtain ⟨k, ok, e, hjk, hk, hok, he, hb, hon⟩ := cover_spec hcov h2
              by_cases hki : k = i
              · subst hki
                rw [ho] at hok
                cases hok
                have := haf e he hb
                rw [hon] at this; exact this
              · have := h.closed k ok hok (ihn k (by omega) (by omega)) e he hb
                rw [hon] at this; exact this
          have hall : ∀ j, j < i → listed.getD j false = true := fun j hj => hall i j (by omega) hj
          have hwl := hend a x (h.over.after h.out) h.grown (fun s hs hsz' => by
            obtain ⟨oj, hoj, hd⟩ := List.any_eq_true.1 hs
            have hd := of_decide_eq_true hd
            obtain ⟨j, hj⟩ := List.mem_iff_getElem?.1 hoj
            have hjk : j < i := by
              have := (List.getElem?_eq_some_iff.1 hj).1
              simp at this; omega
            rw [List.getElem?_take_of_lt hjk] at hj
            obtain ⟨v, hv⟩ := Option.isSome_iff_exists.1 (h.done j oj s (by simpa using hj) (hall j hjk) hd)
            rw [h.over.get hsz' hv]
            exact h.fact s v hv)
          have hlate : ∀ j, i ≤ j → j < ops.size → listed.getD j true = false := fun j h1 h2 => by
            cases hl : listed.getD j true with
            | false => rfl
            | true =>
              exfalso
              have hbad := late_closed hch h.closed j h1 h2 (by
                have hs : j < listed.size := by omega
                simp [hs] at hl ⊢; exact hl)
              have hs : i < listed.size := by omega
              simp [hs] at hlm hbad
              rw [hlm] at hbad; cases hbad
          have := (any_of_list hlex hch (ops.size - i) i (fuel + 1) listed a x (by omega) hz (by
            have h9 : (unlisted ops listed).length ≤ fuel + 1 := hu
            have h8 : ops.size - i ≤ (unlisted ops listed).length := late_len hlate
            omega) hall hlate hwl (Nat.le_refl _)).2 i hi
          exact this
        · have hlt' : i < m := by
            rcases Nat.lt_or_ge i m with q | q
            · exact q
            · exfalso
              obtain ⟨o1, e1, ho1, he1, hb1, hon⟩ := chain_spec hch (show m < i by omega) hil
              rw [ho] at ho1
              cases ho1
              have h1 := haf e1 he1 hb1
              rw [hon] at h1
              have hbad := late_closed hch h.closed (i - 1) (by omega) (by omega) h1
              have hs : m < listed.size := by omega
              simp [hs] at hlm hbad
              rw [hlm] at hbad; cases hbad
          have hmem : o ∈ ops.toList.take m := by
            rw [List.mem_iff_getElem?]
            exact ⟨i, by rw [List.getElem?_take_of_lt (by omega)]; simpa using ho⟩
          have hc : Ctx ops D T a0 w o f a x := ⟨h.over, h.grown, fun s hs => by
            obtain ⟨e, he, hb⟩ := List.any_eq_true.1 hs
            rw [Bool.and_eq_true] at hb
            have b2 := of_decide_eq_true hb.2
            cases hoj : ops[e.on]? with
            | none => rw [hoj] at b2; cases b2
            | some oj =>
              rw [hoj] at b2
              obtain ⟨v, hv⟩ := Option.isSome_iff_exists.1 (h.done e.on oj s hoj (haf e (by simpa using he) hb.1) b2)
              exact ⟨v, hv, h.fact s v hv⟩, h.out⟩
          have hDo : ∀ d, o.dst = some d → d ∈ D := fun d hd => by
            have := List.all_eq_true.1 hD o hmem
            rw [hd] at this
            simpa using this
          have hun : i ∈ unlisted ops listed := List.mem_filter.2 ⟨List.mem_range.2 hil, by rw [h0]; rfl⟩
          have hlt : (unlisted ops (listed.setIfInBounds i true)).length < (unlisted ops listed).length := by
            have hsub : unlisted ops (listed.setIfInBounds i true) = (unlisted ops listed).filter fun j => decide (j ≠ i) := by
              unfold unlisted
              rw [List.filter_filter]
              apply List.filter_congr
              intro j hj
              by_cases e : i = j
              · subst e
                have : i < listed.size := by omega
                simp [this]
              · rw [getD_set_ne true e]
                have e' : ¬ j = i := fun q => e q.symm
                simp [e']
            rw [hsub]
            exact List.length_filter_lt_length_iff_exists.2 ⟨i, hun, by simp⟩
          have next : ∀ (v : Value) (y : World), Gr x y → (∀ d, o.dst = some d → (T d).holds v y) → wpAny P .any ops Q fuel (listed.setIfInBounds i true) (a.put o.dst v) y := fun v y r1 f1 => by
            refine ih (listed.setIfInBounds i true) (putE f o.dst v) _ y (by simp [hz]) (by omega) (by rw [getD_set_ne true him]; exact hlm) ⟨h.over.put o.dst v, h.grown.trans r1, fun s u hs => ?_, fun j oj d hoj hl hd => ?_, fun s hs => ?_, fun j oj hoj hl e he hb => ?_⟩
            · unfold putE at hs
              by_cases e : o.dst = some s
              · rw [if_pos e] at hs
                cases hs
                exact f1 s e
              · rw [if_neg e] at hs
                exact (T s).mono (h.fact s u hs) r1
            · unfold putE
              by_cases e : o.dst = some d
              · rw [if_pos e]; rfl
              · rw [if_neg e]
                by_cases hji : i = j
                · subst hji
                  rw [ho] at hoj
                  cases hoj
                  exact absurd hd e
                · rw [getD_set_ne false hji] at hl
                  exact h.done j oj d hoj hl hd
            · unfold putE
              by_cases e : o.dst = some s
              · exact absurd (hDo s e) hs
              · rw [if_neg e]; exact h.out s hs
            · have hle : listed.getD e.on false = true := by
                by_cases hji : i = j
                · subst hji
                  rw [ho] at hoj
                  cases hoj
                  exact haf e he hb
                · rw [getD_set_ne false hji] at hl
                  exact h.closed j oj hoj hl e he hb
              by_cases q : i = e.on
              · have : i < listed.size := by omega
                rw [← q]; simp [this]
              · rw [getD_set_ne false q]; exact hle
          unfold wpOp
          rcases hstep o hmem f a x hc with ⟨hw, hwp⟩ | ⟨hw, hv⟩
          · simp only [ho, hw, if_true]
            refine .inl (Oper.wp_mono (fun a' y ⟨v, e1, r1, f1⟩ => ?_) hwp)
            subst e1
            exact next v y r1 f1
          · simp only [ho, hw]
            exact next undef x (Gr.refl _) hv
  refine key ops.size (Array.replicate ops.size false) (fun _ => none) a0 _ (by simp) ?_ (by simp [hsz]) ⟨Over.start a0, Gr.drew w, (fun s v h => nomatch h), fun j o d _ hl _ => ?_, fun _ _ => rfl, fun j o _ hl _ _ _ => ?_⟩
  · exact Nat.le_trans (List.length_filter_le _ _) (by simp)
  all_goals
    exfalso
    have : (Array.replicate ops.size false).getD j false = false := by
      by_cases hj : j < ops.size <;> simp [hj]
    rw [this] at hl; cases hl
end Go.Proofs.Ytlliijodilnlgaa
