/- EngT, EngS, EngR, JsPure, JsBase, JsNext. -/
import Derived.Laws.Bits64
import Derived.Shelf.Abstract
import Derived.Lib.ParseIntB
import Derived.Test.YtogippkapadolaaDoorProg
import Derived.Test.YtogippkapadolaaDoorYJ2
/- The engine: a drawn region whose tail (an append and what takes it up, say) goes in order behind all others. -/
namespace Go.Proofs.YtogippkapadolaaDoor
open Go.RowKit
variable {P : Program} {ops : Array Oper} {Q : Exit → Act → World → Prop}
/-- From m on each operation waits for the one ahead of it. -/
def chainB (ops : Array Oper) (m : Nat) : Bool := (List.range ops.size).all fun k => decide (k ≤ m) || edgeB ops k (k - 1)
theorem chain_spec {m k : Nat} (h : chainB ops m = true) (hk : m < k) (hs : k < ops.size) : ∃ o e, ops[k]? = some o ∧ e ∈ o.after ∧ Region.binds .any e = true ∧ e.on = k - 1 := by
  have := List.all_eq_true.1 h k (List.mem_range.2 hs)
  rw [Bool.or_eq_true] at this
  rcases this with q | b2
  · have := of_decide_eq_true q; omega
  · unfold edgeB at b2
    cases ho : ops[k]? with
    | none => rw [ho] at b2; cases b2
    | some o =>
      rw [ho] at b2
      obtain ⟨e, he, hb⟩ := List.any_eq_true.1 b2
      rw [Bool.and_eq_true] at hb
      exact ⟨o, e, rfl, by simpa using he, hb.1, of_decide_eq_true hb.2⟩
theorem late_closed {m : Nat} {listed : Array Bool} (hch : chainB ops m = true) (hcl : ∀ (j : Nat) (o : Oper), ops[j]? = some o → listed.getD j false = true → ∀ e ∈ o.after, Region.binds .any e = true → listed.getD e.on false = true) : ∀ j, m ≤ j → j < ops.size → listed.getD j false = true → listed.getD m false = true := by
  intro j
  induction j with
  | zero => intro h1 _ h3; obtain rfl : m = 0 := by omega
            exact h3
  | succ j ih =>
    intro h1 h2 h3
    by_cases e : m = j + 1
    · rw [e]; exact h3
    · obtain ⟨o, ed, ho, he, hb, hon⟩ := chain_spec hch (show m < j + 1 by omega) h2
      have := hcl (j + 1) o ho h3 ed he hb
      rw [hon] at this
      exact ih (by omega) (by omega) (by simpa using this)
theorem late_len {i : Nat} {listed : Array Bool} (h : ∀ j, i ≤ j → j < ops.size → listed.getD j true = false) : ops.size - i ≤ (unlisted ops listed).length := by
  have hsub : ((List.range ops.size).filter fun j => decide (i ≤ j)).length ≤ (unlisted ops listed).length := by
    unfold unlisted
    rw [← List.countP_eq_length_filter, ← List.countP_eq_length_filter]
    refine List.countP_mono_left fun j hj hd => ?_
    rw [h j (of_decide_eq_true hd) (List.mem_range.1 hj)]; rfl
  have hlen : ((List.range ops.size).filter fun j => decide (i ≤ j)).length = ops.size - i := by
    generalize ops.size = n
    induction n with
    | zero => simp
    | succ n ih =>
      rw [List.range_succ, List.filter_append, List.length_append, ih]
      by_cases q : i ≤ n
      · simp [q]; omega
      · simp [q]; omega
  omega
theorem any_of_list {m : Nat} (hlex : lexOk ops = true) (hch : chainB ops m = true) : ∀ (n k fuel : Nat) (listed : Array Bool) (a : Act) (x : World), k + n = ops.size → listed.size = ops.size → n ≤ fuel → (∀ j, j < k → listed.getD j false = true) → (∀ j, k ≤ j → j < ops.size → listed.getD j true = false) → wpList P ops Q (ops.toList.drop k) a x → m ≤ k → wpAny P .any ops Q fuel listed a x := by
  intro n
  induction n with
  | zero =>
    intro k fuel listed a x hk hz _ hall _ hwl _
    have hnil : Region.ready .any ops listed = [] := by
      cases hr : Region.ready .any ops listed with
      | nil => rfl
      | cons j l =>
        exfalso
        obtain ⟨g0, oj, hoj, _⟩ := mem_ready.1 (show j ∈ Region.ready .any ops listed by rw [hr]; simp)
        have hjl := (Array.getElem?_eq_some_iff.1 hoj).1
        have := hall j (by omega)
        have hs : j < listed.size := by omega
        simp [hs] at g0 this
        rw [g0] at this; cases this
    rw [List.drop_eq_nil_of_le (by simp; omega)] at hwl
    cases fuel with
    | zero => exact ⟨hnil, hwl⟩
    | succ fuel => exact ⟨fun _ => hwl, by rw [hnil]; simp⟩
  | succ n ih =>
    intro k fuel listed a x hk hz hf hall hlate hwl hmk
    cases fuel with
    | zero => omega
    | succ fuel =>
      have hks : k < ops.size := by omega
      have ho : ops[k]? = some ops[k] := Array.getElem?_eq_getElem hks
      have hdrop : ops.toList.drop k = ops[k] :: ops.toList.drop (k + 1) := by
        rw [List.drop_eq_getElem_cons (by simpa using hks)]; rfl
      have hnext : ∀ a' y, wpList P ops Q (ops.toList.drop (k + 1)) a' y → wpAny P .any ops Q fuel (listed.setIfInBounds k true) a' y := fun a' y hw =>
        ih (k + 1) fuel _ a' y (by omega) (by simp [hz]) (by omega) (fun j hj => by
          by_cases e : k = j
          · subst e
            have : k < listed.size := by omega
            simp [this]
          · rw [getD_set_ne false e]; exact hall j (by omega)) (fun j h1 h2 => by
          rw [getD_set_ne true (by omega)]; exact hlate j (by omega) h2) hw (by omega)
      refine ⟨fun hr => ?_, fun i hi => ?_⟩
      · exfalso
        have hmem : k ∈ Region.ready .any ops listed := by
          refine mem_ready.2 ⟨hlate k (Nat.le_refl _) hks, ops[k], ho, fun e he hb => ?_⟩
          exact hall e.on (lexOk_spec hlex ho e he hb)
        rw [hr] at hmem; cases hmem
      · obtain ⟨h0, o, hoi, haf⟩ := mem_ready.1 hi
        have hil := (Array.getElem?_eq_some_iff.1 hoi).1
        have hik : i = k := by
          rcases Nat.lt_trichotomy i k with q | q | q
          · have := hall i q
            have hs : i < listed.size := by omega
            simp [hs] at h0 this
            rw [h0] at this; cases this
          · exact q
          · exfalso
            obtain ⟨o1, e1, ho1, he1, hb1, hon⟩ := chain_spec hch (show m < i by omega) hil
            rw [hoi] at ho1
            cases ho1
            have h1 := haf e1 he1 hb1
            rw [hon] at h1
            have h2 := hlate (i - 1) (by omega) (by omega)
            have hs : i - 1 < listed.size := by omega
            simp [hs] at h1 h2
            rw [h1] at h2; cases h2
        subst hik
        rw [hdrop] at hwl
        unfold wpOp
        unfold wpList at hwl
        simp only [ho]
        split
        · rename_i hw
          rw [if_pos hw] at hwl
          rcases hwl with hwp | hask
          · exact .inl (Oper.wp_mono (fun a' y h => hnext a' y h) hwp)
          · exact .inr hask
        · rename_i hw
          rw [if_neg hw] at hwl
          exact hnext _ _ hwl
theorem drawn_tail {id : Nat} {a0 : Act} {w : World} (hm : P.follows .mixedOrders = true) (hlex : lexOk ops = true) (m : Nat) (hsz : m < ops.size) (hcov : coverB ops m = true) (hch : chainB ops m = true) (D : List Nat) (T : Nat → Fact)
    (hD : ((ops.toList.take m).all fun o => match o.dst with | some d => D.contains d | none => true) = true)
    (hstep : ∀ o ∈ ops.toList.take m, StepAt P ops D T a0 w Q o)
    (hend : ∀ (a : Act) (x : World), After D a0 a → Gr w x → (∀ s, dstsB ops m s = true → s < a0.tmps.size → (T s).holds (a.eval (.tmp s)) x) → wpList P ops Q (ops.toList.drop m) a x) :
    (Code.region id ops true).wp P Q a0 w := by
  refine wp_region_any hm ?_
  have key : ∀ (fuel : Nat) (listed : Array Bool) (f : Env) (a : Act) (x : World), listed.size = ops.size → (unlisted ops listed).length ≤ fuel → listed.getD m true = false → MidL ops D T a0 w f listed a x → wpAny P .any ops Q fuel listed a x := by
    intro fuel
    induction fuel with
    | zero =>
      intro listed f a x hz hu hl h
      have : m ∈ unlisted ops listed := List.mem_filter.2 ⟨List.mem_range.2 (by omega), by rw [hl]; rfl⟩
      have hnil : unlisted ops listed = [] := List.eq_nil_of_length_eq_zero (by omega)
      rw [hnil] at this; cases this
    | succ fuel ih =>
      intro listed f a x hz hu hlm h
      refine ⟨fun hr => ?_, fun i hi => ?_⟩
      · have := all_listed hlex hz hr m (by omega)
        rw [hlm] at this; cases this
      · obtain ⟨h0, o, ho, haf⟩ := mem_ready.1 hi
        have hil := (Array.getElem?_eq_some_iff.1 ho).1
        by_cases him : i = m
        · subst him
          have hall : ∀ n j, i ≤ j + n → j < i → listed.getD j false = true := by
            intro n
            induction n with
            | zero => intro j h1 h2; omega
            | succ n ihn =>
              intro j h1 h2
              obtain ⟨k, ok, e, hjk, hk, hok, he, hb, hon⟩ := cover_spec hcov h2
              by_cases hki : k = i
              · subst hki
                rw [ho] at hok
                cases hok
                have := haf e he hb
                rw [hon] at this; exact this
              · have := h.closed k ok hok (ihn k (by omega) (by omega)) e he hb
                rw [hon] at this; exact this
          have hall : ∀ j, j < i → listed.getD j false = true := fun j hj => hall i j (by omega) hj
          have hwl := hend a x (h.over.after h.out) h.grown (fun s hs hsz' => by
            obtain ⟨oj, hoj, hd⟩ := List.any_eq_true.1 hs
            have hd := of_decide_eq_true hd
            obtain ⟨j, hj⟩ := List.mem_iff_getElem?.1 hoj
            have hjk : j < i := by
              have := (List.getElem?_eq_some_iff.1 hj).1
              simp at this; omega
            rw [List.getElem?_take_of_lt hjk] at hj
            obtain ⟨v, hv⟩ := Option.isSome_iff_exists.1 (h.done j oj s (by simpa using hj) (hall j hjk) hd)
            rw [h.over.get hsz' hv]
            exact h.fact s v hv)
          have hlate : ∀ j, i ≤ j → j < ops.size → listed.getD j true = false := fun j h1 h2 => by
            cases hl : listed.getD j true with
            | false => rfl
            | true =>
              exfalso
              have hbad := late_closed hch h.closed j h1 h2 (by
                have hs : j < listed.size := by omega
                simp [hs] at hl ⊢; exact hl)
              have hs : i < listed.size := by omega
              simp [hs] at hlm hbad
              rw [hlm] at hbad; cases hbad
          have := (any_of_list hlex hch (ops.size - i) i (fuel + 1) listed a x (by omega) hz (by
            have h9 : (unlisted ops listed).length ≤ fuel + 1 := hu
            have h8 : ops.size - i ≤ (unlisted ops listed).length := late_len hlate
            omega) hall hlate hwl (Nat.le_refl _)).2 i hi
          exact this
        · have hlt' : i < m := by
            rcases Nat.lt_or_ge i m with q | q
            · exact q
            · exfalso
              obtain ⟨o1, e1, ho1, he1, hb1, hon⟩ := chain_spec hch (show m < i by omega) hil
              rw [ho] at ho1
              cases ho1
              have h1 := haf e1 he1 hb1
              rw [hon] at h1
              have hbad := late_closed hch h.closed (i - 1) (by omega) (by omega) h1
              have hs : m < listed.size := by omega
              simp [hs] at hlm hbad
              rw [hlm] at hbad; cases hbad
          have hmem : o ∈ ops.toList.take m := by
            rw [List.mem_iff_getElem?]
            exact ⟨i, by rw [List.getElem?_take_of_lt (by omega)]; simpa using ho⟩
          have hc : Ctx ops D T a0 w o f a x := ⟨h.over, h.grown, fun s hs => by
            obtain ⟨e, he, hb⟩ := List.any_eq_true.1 hs
            rw [Bool.and_eq_true] at hb
            have b2 := of_decide_eq_true hb.2
            cases hoj : ops[e.on]? with
            | none => rw [hoj] at b2; cases b2
            | some oj =>
              rw [hoj] at b2
              obtain ⟨v, hv⟩ := Option.isSome_iff_exists.1 (h.done e.on oj s hoj (haf e (by simpa using he) hb.1) b2)
              exact ⟨v, hv, h.fact s v hv⟩, h.out⟩
          have hDo : ∀ d, o.dst = some d → d ∈ D := fun d hd => by
            have := List.all_eq_true.1 hD o hmem
            rw [hd] at this
            simpa using this
          have hun : i ∈ unlisted ops listed := List.mem_filter.2 ⟨List.mem_range.2 hil, by rw [h0]; rfl⟩
          have hlt : (unlisted ops (listed.setIfInBounds i true)).length < (unlisted ops listed).length := by
            have hsub : unlisted ops (listed.setIfInBounds i true) = (unlisted ops listed).filter fun j => decide (j ≠ i) := by
              unfold unlisted
              rw [List.filter_filter]
              apply List.filter_congr
              intro j hj
              by_cases e : i = j
              · subst e
                have : i < listed.size := by omega
                simp [this]
              · rw [getD_set_ne true e]
                have e' : ¬ j = i := fun q => e q.symm
                simp [e']
            rw [hsub]
            exact List.length_filter_lt_length_iff_exists.2 ⟨i, hun, by simp⟩
          have next : ∀ (v : Value) (y : World), Gr x y → (∀ d, o.dst = some d → (T d).holds v y) → wpAny P .any ops Q fuel (listed.setIfInBounds i true) (a.put o.dst v) y := fun v y r1 f1 => by
            refine ih (listed.setIfInBounds i true) (putE f o.dst v) _ y (by simp [hz]) (by omega) (by rw [getD_set_ne true him]; exact hlm) ⟨h.over.put o.dst v, h.grown.trans r1, fun s u hs => ?_, fun j oj d hoj hl hd => ?_, fun s hs => ?_, fun j oj hoj hl e he hb => ?_⟩
            · unfold putE at hs
              by_cases e : o.dst = some s
              · rw [if_pos e] at hs
                cases hs
                exact f1 s e
              · rw [if_neg e] at hs
                exact (T s).mono (h.fact s u hs) r1
            · unfold putE
              by_cases e : o.dst = some d
              · rw [if_pos e]; rfl
              · rw [if_neg e]
                by_cases hji : i = j
                · subst hji
                  rw [ho] at hoj
                  cases hoj
                  exact absurd hd e
                · rw [getD_set_ne false hji] at hl
                  exact h.done j oj d hoj hl hd
            · unfold putE
              by_cases e : o.dst = some s
              · exact absurd (hDo s e) hs
              · rw [if_neg e]; exact h.out s hs
            · have hle : listed.getD e.on false = true := by
                by_cases hji : i = j
                · subst hji
                  rw [ho] at hoj
                  cases hoj
                  exact haf e he hb
                · rw [getD_set_ne false hji] at hl
                  exact h.closed j oj hoj hl e he hb
              by_cases q : i = e.on
              · have : i < listed.size := by omega
                rw [← q]; simp [this]
              · rw [getD_set_ne false q]; exact hle
          unfold wpOp
          rcases hstep o hmem f a x hc with ⟨hw, hwp⟩ | ⟨hw, hv⟩
          · simp only [ho, hw, if_true]
            refine .inl (Oper.wp_mono (fun a' y ⟨v, e1, r1, f1⟩ => ?_) hwp)
            subst e1
            exact next v y r1 f1
          · simp only [ho, hw]
            exact next undef x (Gr.refl _) hv
  refine key ops.size (Array.replicate ops.size false) (fun _ => none) a0 _ (by simp) ?_ (by simp [hsz]) ⟨Over.start a0, Gr.drew w, (fun s v h => nomatch h), fun j o d _ hl _ => ?_, fun _ _ => rfl, fun j o _ hl _ _ _ => ?_⟩
  · exact Nat.le_trans (List.length_filter_le _ _) (by simp)
  all_goals
    exfalso
    have : (Array.replicate ops.size false).getD j false = false := by
      by_cases hj : j < ops.size <;> simp [hj]
    rw [this] at hl; cases hl
end Go.Proofs.YtogippkapadolaaDoor

/- More steps for the engine: numbers, conversions, function values, a call at a region's end. -/
namespace Go.Proofs.YtogippkapadolaaDoor
open Go.RowKit
variable {P : Program} {ops : Array Oper} {Q : Exit → Act → World → Prop}
theorem wrap_in {z : Int} (h1 : -9223372036854775808 ≤ z) (h2 : z < 9223372036854775808) : IntKind.i64.wrap z = z := by
  simp [IntKind.wrap, IntKind.bits, IntKind.signed]
  split <;> omega
theorem bin_add {t : TypeId} {x y z : Int} (h : x + y = z) (h1 : -9223372036854775808 ≤ z) (h2 : z < 9223372036854775808) : ∀ w, (binOp .add t (.int .i64 x) (.int .i64 y)).run P w = .ok (.int .i64 z) w := by
  intro w
  subst h
  simp [binOp, Op.intArith, wrap_in h1 h2]
theorem bin_sub {t : TypeId} {x y z : Int} (h : x - y = z) (h1 : -9223372036854775808 ≤ z) (h2 : z < 9223372036854775808) : ∀ w, (binOp .sub t (.int .i64 x) (.int .i64 y)).run P w = .ok (.int .i64 z) w := by
  intro w
  subst h
  simp [binOp, Op.intArith, wrap_in h1 h2]
theorem bin_mul {t : TypeId} {x y z : Int} (h : x * y = z) (h1 : -9223372036854775808 ≤ z) (h2 : z < 9223372036854775808) : ∀ w, (binOp .mul t (.int .i64 x) (.int .i64 y)).run P w = .ok (.int .i64 z) w := by
  intro w
  subst h
  simp [binOp, Op.intArith, wrap_in h1 h2]
theorem bin_lss {t : TypeId} {x y : Int} {b : Bool} (h : decide (x < y) = b) : ∀ w, (binOp .lss t (.int .i64 x) (.int .i64 y)).run P w = .ok (.bool b) w := by
  intro w; subst h; simp [binOp, Op.intCmp]
theorem bin_leq {t : TypeId} {x y : Int} {b : Bool} (h : decide (x ≤ y) = b) : ∀ w, (binOp .leq t (.int .i64 x) (.int .i64 y)).run P w = .ok (.bool b) w := by
  intro w; subst h; simp [binOp, Op.intCmp]
theorem bin_gtr {t : TypeId} {x y : Int} {b : Bool} (h : decide (x > y) = b) : ∀ w, (binOp .gtr t (.int .i64 x) (.int .i64 y)).run P w = .ok (.bool b) w := by
  intro w; subst h; simp [binOp, Op.intCmp]
theorem bin_geq {t : TypeId} {x y : Int} {b : Bool} (h : decide (x ≥ y) = b) : ∀ w, (binOp .geq t (.int .i64 x) (.int .i64 y)).run P w = .ok (.bool b) w := by
  intro w; subst h; simp [binOp, Op.intCmp]
theorem bin_eql {t : TypeId} {x y : Int} {b : Bool} (h : decide (x = y) = b) : ∀ w, (binOp .eql t (.int .i64 x) (.int .i64 y)).run P w = .ok (.bool b) w := by
  intro w; subst h; simp [binOp, Op.intCmp]; rfl
theorem bin_neq {t : TypeId} {x y : Int} {b : Bool} (h : decide (¬ x = y) = b) : ∀ w, (binOp .neq t (.int .i64 x) (.int .i64 y)).run P w = .ok (.bool b) w := by
  intro w; subst h; simp only [binOp, Op.intCmp, ne_eq, not_true_eq_false, if_false, Sem.run_pure, bne, decide_not]; rfl
theorem guard_int {b : BinOp} {t : TypeId} {u v : Operand} {x y : Int} : ∀ w, (eqGuard b t u v (.int .i64 x) (.int .i64 y)).run P w = .ok () w := by
  intro w
  unfold eqGuard
  cases b <;> rfl
theorem un_not {b c : Bool} (h : (!b) = c) : ∀ w, (Op.unary .not (.bool b)).run P w = .ok (.bool c) w := by
  intro w; subst h; rfl
theorem conv_u64 {s d : TypeId} {ds : TypeDesc} {x : Int} (hs : P.underlying s = some ds) (hd : P.underlying d = some (.int .u64)) (h1 : 0 ≤ x) (h2 : x < 18446744073709551616) : ∀ w, (convert s d (.int .i64 x)).run P w = .ok (.int .u64 x) w := by
  intro w
  have e : IntKind.u64.wrap x = x := by rw [IntKind.wrap_u64]; omega
  simp [convert, run_underlying hs, run_underlying hd, Conv.intToInt, e]
theorem conv_i64 {s d : TypeId} {ds : TypeDesc} {x : Int} (hs : P.underlying s = some ds) (hd : P.underlying d = some (.int .i64)) (h1 : 0 ≤ x) (h2 : x < 9223372036854775808) : ∀ w, (convert s d (.int .u64 x)).run P w = .ok (.int .i64 x) w := by
  intro w
  have e : IntKind.i64.wrap x = x := wrap_in (by omega) h2
  simp [convert, run_underlying hs, run_underlying hd, Conv.intToInt, e]
theorem bin_half {t : TypeId} {x z : Int} (h : x / 2 = z) : ∀ w, (binOp .shr t (.int .u64 x) (.int .u64 1)).run P w = .ok (.int .u64 z) w := by
  intro w
  subst h
  have e : x.fdiv 2 = x / 2 := Int.fdiv_eq_ediv_of_nonneg _ (by omega)
  simp [binOp, Op.shift, IntKind.bits, e]
/-- A place of a list. -/
theorem ix_slice {t e : TypeId} {b o n cap i j sz : Nat} (hu : P.underlying t = some (.slice e)) (hs : ∀ w, (Go.sizeOf e).run P w = .ok sz w) (hi : i < n) (hj : o + i * sz = j) : ∀ w, (Instr.indexAt t (.slice (some ⟨b, o, none⟩) n cap) (.int .i64 (i : Int))).run P w = .ok (.pointer (some ⟨b, j, none⟩)) w := by
  intro w
  have he : P.elem t = e := by simp [Program.elem, hu]
  rw [run_indexAt_slice w t ⟨b, o, none⟩ n cap .i64 (i : Int) (by rw [he]; exact hu), if_pos (by omega), he, hs, Result.andThen_ok]
  simp [Addr.add, hj]
  intro h
  omega
/-- A place of an array that lies in memory. -/
theorem ix_array {t e : TypeId} {n b o i j sz : Nat} (hu : P.underlying t = some (.array n e)) (hs : ∀ w, (Go.sizeOf e).run P w = .ok sz w) (hi : i < n) (hj : o + i * sz = j) : ∀ w, (Instr.indexAt t (.pointer (some ⟨b, o, none⟩)) (.int .i64 (i : Int))).run P w = .ok (.pointer (some ⟨b, j, none⟩)) w := by
  intro w
  have he : P.elem t = e := by simp [Program.elem, hu]
  have hn : P.arrayLen t = n := by simp [Program.arrayLen, hu]
  rw [run_indexAt_array w t ⟨b, o, none⟩ .i64 (i : Int) (by rw [he, hn]; exact hu), hn, if_pos (by omega), he, hs, Result.andThen_ok]
  simp [Addr.add, hj]
  intro h
  omega
theorem bin_rem {t : TypeId} {x y z : Int} (hy : y ≠ 0) (h : x.tmod y = z) : ∀ w, (binOp .rem t (.int .i64 x) (.int .i64 y)).run P w = .ok (.int .i64 z) w := by
  intro w
  subst h
  simp [binOp, Op.intDiv, hy]
theorem un_neg {x z : Int} (h : -x = z) (h1 : -9223372036854775808 ≤ z) (h2 : z < 9223372036854775808) : ∀ w, (Op.unary .neg (.int .i64 x)).run P w = .ok (.int .i64 z) w := by
  intro w
  subst h
  have e : IntKind.i64.wrap (0 - x) = -x := by rw [Int.zero_sub]; exact wrap_in h1 h2
  simp only [Op.unary, Op.intArith, e, Sem.run_pure]
section
variable {D : List Nat} {T : Nat → Fact} {a0 : Act} {w : World} {o : Oper} {a : Act} {K : Act → World → Prop}
theorem sa_conv (t t' : TypeId) (u : Operand) (d : Nat) (s q : Value) (ho : o.op = .convert t t' u) (hd : o.dst = some d) (hg : o.guard = none) (h1 : Has ops D T a0 o u (Fact.val s)) (hr : ∀ w, (convert t t' s).run P w = .ok q w) (hT : T d = Fact.val q) : StepAt P ops D T a0 w Q o :=
  sa_of d hd hg fun f a y c => op_conv t t' u s q ho (h1.get c) (hr y) ⟨_, rfl, Gr.refl _, by rw [hT]; rfl⟩
theorem op_nil (u : Operand) (p : Addr) (ho : o.op = .nilCheck u) (e : a.eval u = .pointer (some p)) (h : K (a.put o.dst (.pointer (some p))) w) : o.wp P a w K Q := by
  refine op_val (.pointer (some p)) ?_ h
  unfold execOp
  simp [ho, e]
theorem sa_nil (u : Operand) (d : Nat) (p : Addr) (ho : o.op = .nilCheck u) (hd : o.dst = some d) (hg : o.guard = none) (h1 : Has ops D T a0 o u (Fact.val (.pointer (some p)))) (hT : T d = Fact.val (.pointer (some p))) : StepAt P ops D T a0 w Q o :=
  sa_of d hd hg fun f a y c => op_nil u p ho (h1.get c) ⟨_, rfl, Gr.refl _, by rw [hT]; rfl⟩
theorem sa_row (t : TypeId) (u : Operand) (d b k : Nat) (n : Nat) (ds : TypeDesc) (cs : List Value) (ho : o.op = .load t u) (hd : o.dst = some d) (hg : o.guard = none) (hu : P.underlying t = some ds) (hdr : ds.isRow = true) (hi : (P.info? t).map (·.size) = some n) (hn : cs.length = n) (h1 : Has ops D T a0 o u (Fact.val (.pointer (some ⟨b, k, none⟩)))) (hr : ∀ y, Gr w y → y.rangeAt b k cs) (hT : T d = Fact.val (.agg cs.toArray)) : StepAt P ops D T a0 w Q o :=
  sa_of d hd hg fun f a y c => op_row t u n ds cs ho b k (h1.get c) hu hdr hi hn (hr y c.grown) ⟨_, rfl, Gr.refl _, by rw [hT]; rfl⟩
theorem sa_len (t : TypeId) (u : Operand) (d : Nat) (s q : Value) (ho : o.op = .call { callee := .builtin .len, args := #[u], argTypes := #[t] }) (hd : o.dst = some d) (hg : o.guard = none) (h1 : Has ops D T a0 o u (Fact.val s)) (hr : ∀ y, (Builtin.len_ #[t] o.type #[s]).run P y = .ok q y) (hT : T d = Fact.val q) : StepAt P ops D T a0 w Q o :=
  sa_of d hd hg fun f a y c => op_val q (by
    have e1 : a.eval u = s := h1.get c
    unfold execOp
    simp only [ho, resolve, invoke, builtin, Sem.run_bind, Sem.run_pure, Result.andThen_ok, List.map_toArray, List.map_cons, List.map_nil, e1, hr]) ⟨_, rfl, Gr.refl _, by rw [hT]; rfl⟩
theorem guard_slotF (k d : Nat) (b : Bool) (hk : o.guard = some (k, false)) (hd : (ops[k]?).bind (·.dst) = some d) (hn : needsB ops o d = true) (hs : d < a0.tmps.size) (hT : T d = Fact.val (.bool b)) {f : Env} {a : Act} {y : World} (c : Ctx ops D T a0 w o f a y) : Region.wanted o (yielded ops a.tmps) = !b := by
  obtain ⟨v, hf, hv⟩ := c.needs d hn
  rw [hT] at hv
  have hv : v = .bool b := hv
  subst hv
  have h1 := c.over.slot d
  rw [if_pos hs, hf] at h1
  have h2 : a.tmps.size = a0.tmps.size := c.over.size
  have h3 : a.tmps[d]? = some (.bool b) := by
    have hl : d < a.tmps.size := by omega
    have e : a.tmps.getD d undef = a.tmps[d] := by simp [hl]
    rw [Array.getElem?_eq_getElem hl, ← e, h1]; rfl
  unfold Region.wanted yielded
  rw [hk]
  simp only [hd, Option.bind_some, h3]
  cases b <;> rfl
theorem sa_guardF (k d : Nat) (hk : o.guard = some (k, false)) (hd : (ops[k]?).bind (·.dst) = some d) (hn : needsB ops o d = true) (hs : d < a0.tmps.size) (hT : T d = Fact.val (.bool false)) (h : StepAt P ops D T a0 w Q { o with guard := none }) : StepAt P ops D T a0 w Q o := fun f a x c => by
  refine .inl ⟨guard_slotF k d false hk hd hn hs hT c, ?_⟩
  rcases h f a x ⟨c.over, c.grown, c.needs, c.out⟩ with ⟨_, hwp⟩ | ⟨hw, _⟩
  · obtain ⟨dst, op, ty, pos, af, gd⟩ := o
    exact hwp
  · rw [wanted_none rfl _] at hw; cases hw
theorem so_guardF (k d : Nat) (hk : o.guard = some (k, false)) (hd : (ops[k]?).bind (·.dst) = some d) (hn : needsB ops o d = true) (hs : d < a0.tmps.size) (hT : T d = Fact.val (.bool true)) (hany : ∀ d, o.dst = some d → T d = Fact.any) : StepAt P ops D T a0 w Q o := fun f a x c =>
  .inr ⟨guard_slotF k d true hk hd hn hs hT c, fun d' hd' => by rw [hany d' hd']; trivial⟩
theorem sa_ix (t : TypeId) (u v : Operand) (d : Nat) (s r q : Value) (ho : o.op = .index t u v) (hd : o.dst = some d) (hg : o.guard = none) (h1 : Has ops D T a0 o u (Fact.val s)) (h2 : Has ops D T a0 o v (Fact.val r)) (hr : ∀ w, (Instr.index t s r).run P w = .ok q w) (hT : T d = Fact.val q) : StepAt P ops D T a0 w Q o :=
  sa_of d hd hg fun f a y c => op_ix t u v s r q ho (h1.get c) (h2.get c) hr ⟨_, rfl, Gr.refl _, by rw [hT]; rfl⟩
theorem sa_bd0 (t : Nat) (d : Nat) (q : Value) (ho : o.op = .build t #[]) (hd : o.dst = some d) (hg : o.guard = none) (hr : ∀ y, (Instr.build t #[]).run P y = .ok q y) (hT : T d = Fact.val q) : StepAt P ops D T a0 w Q o :=
  sa_of d hd hg fun f a y c => by
    refine op_val q (y := y) ?_ ⟨_, rfl, Gr.refl _, by rw [hT]; rfl⟩
    unfold execOp
    simp only [ho, List.map_toArray, List.map_nil, Sem.run_bind, hr, Sem.run_pure, Result.andThen_ok]
/-- A list of one thing, newly made. -/
theorem sa_bs1 (t n : Nat) (u : Operand) (d : Nat) (s : Value) (ho : o.op = .buildSlice t n #[(0, u)]) (hd : o.dst = some d) (hg : o.guard = none) (h1 : Has ops D T a0 o u (Fact.val s))
    (hr : ∀ y, ∃ q z, (Instr.buildSlice t n #[(0, s)]).run P y = .ok q z ∧ Gr y z ∧ (T d).holds q z) : StepAt P ops D T a0 w Q o :=
  sa_of d hd hg fun f a y c => by
    have e1 : a.eval u = s := h1.get c
    obtain ⟨q, z, e3, e4, e5⟩ := hr y
    refine op_val q (y := z) ?_ ⟨_, rfl, e4, e5⟩
    unfold execOp
    simp only [ho, List.map_toArray, List.map_cons, List.map_nil, e1, Sem.run_bind, e3, Sem.run_pure, Result.andThen_ok]
/-- A call of a function value. -/
theorem op_callv (u : Operand) (n : Nat) (cb : Array Value) (args : Array Operand) (tys : Array TypeId) (ho : o.op = .call { callee := .value u, args := args, argTypes := tys }) (hu : a.eval u = .func (.func n) #[] cb) (vs : Array Value) (hv : args.map a.eval = vs)
    (he : ∀ args w, (callFunc n args).run P w = .ok (.enter n args) w) (hc : Calls P n (vs ++ cb) w fun e w' => ∃ v, e = .returned v ∧ K (a.put o.dst v) w') : o.wp P a w K Q := by
  have hrun : (execOp a.eval o).run P w = .ok (.enter n (vs ++ cb)) w := by
    unfold execOp
    rw [ho]
    show (do let d ← resolve a.eval _ o.type; invoke d.target d.args : Sem Next).run P w = _
    have h1 : resolve a.eval { callee := .value u, args := args, argTypes := tys } o.type = pure { target := .fn (.func n) cb, args := #[] ++ vs } := by
      unfold resolve
      rw [← hv]
      show Deferred.ofValue (a.eval u) _ = _
      rw [hu]
      rfl
    rw [h1, Sem.run_bind, Sem.run_pure, Result.andThen_ok]
    show (callFunc n ((#[] ++ vs) ++ cb)).run P w = _
    rw [Array.empty_append]
    exact he (vs ++ cb) w
  unfold Oper.wp
  rw [hrun]
  refine Calls.mono hc fun e w' ⟨v, e1, e2⟩ => ?_
  subst e1
  exact e2
theorem sa_callv2 (n : Nat) (u0 u1 u2 : Operand) (cb : Array Value) (v1 v2 q : Value) (tys : Array TypeId) (d : Nat) (ho : o.op = .call { callee := .value u0, args := #[u1, u2], argTypes := tys }) (hd : o.dst = some d) (hg : o.guard = none) (h0 : Has ops D T a0 o u0 (Fact.val (.func (.func n) #[] cb))) (h1 : Has ops D T a0 o u1 (Fact.val v1)) (h2 : Has ops D T a0 o u2 (Fact.val v2))
    (he : ∀ args w, (callFunc n args).run P w = .ok (.enter n args) w) (hc : ∀ y, Gr w y → Calls P n (#[v1, v2] ++ cb) y fun e z => e = .returned q ∧ Gr y z) (hT : T d = Fact.val q) : StepAt P ops D T a0 w Q o :=
  sa_of d hd hg fun f a y c => op_callv u0 n cb _ tys ho (h0.get c) #[v1, v2] (by rw [show #[v1, v2] = #[a.eval u1, a.eval u2] by rw [show a.eval u1 = v1 from h1.get c, show a.eval u2 = v2 from h2.get c]]; simp) he ((hc y c.grown).mono fun e z ⟨e1, e2⟩ => ⟨q, e1, q, rfl, e2, by rw [hT]; rfl⟩)
theorem sa_call4 (n : Nat) (u1 u2 u3 u4 : Operand) (tys : Array TypeId) (d : Nat) (k1 k2 k3 k4 : Fact) (ho : o.op = .call { callee := .value (.func n), args := #[u1, u2, u3, u4], argTypes := tys }) (hd : o.dst = some d) (hg : o.guard = none) (h1 : Has ops D T a0 o u1 k1) (h2 : Has ops D T a0 o u2 k2) (h3 : Has ops D T a0 o u3 k3) (h4 : Has ops D T a0 o u4 k4)
    (he : ∀ args w, (callFunc n args).run P w = .ok (.enter n args) w) (hc : ∀ v1 v2 v3 v4 y, Gr w y → k1.holds v1 y → k2.holds v2 y → k3.holds v3 y → k4.holds v4 y → Calls P n #[v1, v2, v3, v4] y fun e z => ∃ u, e = .returned u ∧ Gr y z ∧ (T d).holds u z) : StepAt P ops D T a0 w Q o :=
  sa_of d hd hg fun f a y c => op_call n _ tys ho #[a.eval u1, a.eval u2, a.eval u3, a.eval u4] (by simp) he ((hc _ _ _ _ y c.grown (h1.get c) (h2.get c) (h3.get c) (h4.get c)).mono fun e z ⟨u, e1, e2, e3⟩ => ⟨u, e1, u, rfl, e2, e3⟩)
end
/-- A store of one number. -/
theorem op_store1 {o : Oper} {a : Act} {w : World} {K : Act → World → Prop} (t : TypeId) (u v : Operand) (ho : o.op = .store t u v) (b k : Nat) (e1 : a.eval u = .pointer (some ⟨b, k, none⟩)) (x : Value) (e2 : a.eval v = x) (hx : x.cells = #[x]) (hx1 : x.oneCell' = true) (hs : ∀ w, (Go.sizeOf t).run P w = .ok 1 w) {old : Value} (hc : w.cell? ⟨b, k, none⟩ = some old) (hf : w.frozen? ⟨b, k, none⟩ = false) (h : K (a.put o.dst undef) (w.setCell ⟨b, k, none⟩ x)) : o.wp P a w K Q := by
  have hr : (Instr.storeAt t (.pointer (some ⟨b, k, none⟩)) x).run P w = .ok () (w.setCell ⟨b, k, none⟩ x) := by
    simp only [Instr.storeAt, Instr.sureAddr, storeVar, Sem.run_bind, Sem.run_pure, Result.andThen_ok, hs, hx]
    have ha : (⟨b, k, none⟩ : Addr).add 0 = ⟨b, k, none⟩ := by simp [Addr.add]
    simp [storeCells, run_store P w _ x _ hx1, ha, hc, hf]
  unfold Oper.wp execOp
  simp only [ho, e1, e2, Sem.run_bind, hr, Sem.run_pure, Result.andThen_ok]
  exact h
/-- A fact of the slots behind a region. -/
theorem After.get {D : List Nat} {a0 a : Act} (h : After D a0 a) {s : Nat} {v : Value} (e : a0.eval (.tmp s) = v) (hs : D.contains s = false) : a.eval (.tmp s) = v := (h.old s (by intro q; simp [q] at hs)).trans e
theorem After.trans {D E : List Nat} {a b c : Act} (h : After D a b) (k : After E b c) : After (D ++ E) a c := ⟨k.size.trans h.size, k.defers.trans h.defers, fun s hs => (k.old s (fun q => hs (by simp [q]))).trans (h.old s (fun q => hs (by simp [q])))⟩
theorem After.mono {D E : List Nat} {a b : Act} (h : After D a b) (hs : (D.all fun s => E.contains s) = true) : After E a b := ⟨h.size, h.defers, fun s hq => h.old s (fun q => hq (by have := List.all_eq_true.1 hs s q; simpa using this))⟩
/-- A call, its act a letter. -/
theorem calls_by {f : FuncId} {fn : Func} {c : Code} {args : Array Value} {w : World} {R : Ending → World → Prop} (hf : P.funcs[f]? = some fn) (hb : fn.body = some c) (n : Nat) (hn : args.size + (fn.ntmps - args.size) = n)
    (h : ∀ ac : Act, ac.tmps.size = n → ac.defers = [] → (∀ (i : Nat) (v : Value), args[i]? = some v → ac.eval (.tmp i) = v) → c.wp P (bodyPost P fn R) ac w) : Calls P f args w R :=
  calls_of_wp hf hb (h _ (by rw [act_size]; exact hn) rfl (fun i v hv => act_arg _ _ i v hv))
theorem Gr.upd {b : Nat} {x y : World} (h : Gr x y) : Upd b x y := ⟨h.os, h.tape, h.output, h.size, fun k hk _ => h.block k hk⟩
end Go.Proofs.YtogippkapadolaaDoor

/- More steps for the engine, whatever the program: parts of slices, lengths of which alone is told, guards passed over; what stays of a row while the world grows. -/
namespace Go.Proofs.YtogippkapadolaaDoor
open Go.RowKit
variable {P : Program} {ops : Array Oper} {Q : Exit → Act → World → Prop}
theorem range_of {w : World} {b : Nat} {l : List Value} {t : TypeId} (h : Holds w b l t) : w.rangeAt b 0 l := h.range 0 l (fun j v hv => by rw [Nat.zero_add]; exact hv)
theorem After.keep {D : List Nat} {a0 a : Act} (h : After D a0 a) {L : Nat} (hD : (D.all fun s => decide (L ≤ s)) = true) {s : Nat} (hs : s < L) {v : Value} (e : a0.eval (.tmp s) = v) : a.eval (.tmp s) = v :=
  (h.old s (fun q => by have := List.all_eq_true.1 hD s q; simp at this; omega)).trans e
theorem owns_gr {w w' : World} {base : Nat} {e : TypeId} {size : Nat} {v : Value} {n : Nat} {xs : List Value} (h : w.ownsRow base e size v n xs) (hg : Gr w w') : w'.ownsRow base e size v n xs := by
  obtain ⟨h1, h2 | ⟨g, cap, cur, rfl, hb, hgg, r⟩⟩ := h
  · exact ⟨h1, .inl h2⟩
  · exact ⟨h1, .inr ⟨g, cap, cur, rfl, hb, (hg.block g (Array.getElem?_eq_some_iff.1 hgg).1).trans hgg, r⟩⟩
theorem grown_below {w w' : World} {B : Nat} {ob : Option Nat} (h : w.grownBy w' ob) (hB : B ≤ w.heap.size) (hb : ∀ j, ob = some j → B ≤ j) : Below B w w' := (Below.refl B w).grown h hB hb
theorem cell_below {B : Nat} {x y : World} (h : Below B x y) {g k : Nat} (hg : g < B) {v : Value} (hc : x.cell? ⟨g, k, none⟩ = some v) : y.cell? ⟨g, k, none⟩ = some v := by
  rw [← hc]
  simp only [World.cell?, h.block g hg]
section
variable {D : List Nat} {T : Nat → Fact} {a0 : Act} {w : World} {o : Oper}
theorem sa_to (t : TypeId) (u v : Operand) (d : Nat) (s r q : Value) (ho : o.op = .slice t u none (some v) none) (hd : o.dst = some d) (hg : o.guard = none) (h1 : Has ops D T a0 o u (Fact.val s)) (h2 : Has ops D T a0 o v (Fact.val r)) (hr : ∀ w, (Instr.sliceAt t s none (some r) none).run P w = .ok q w) (hT : T d = Fact.val q) : StepAt P ops D T a0 w Q o :=
  sa_of d hd hg fun f a y c => by
    have e1 : a.eval u = s := h1.get c
    have e2 : a.eval v = r := h2.get c
    refine op_val q (y := y) ?_ ⟨_, rfl, Gr.refl _, by rw [hT]; rfl⟩
    unfold execOp
    simp only [ho, Option.map_none, Option.map_some, e1, e2, Sem.run_bind, hr, Sem.run_pure, Result.andThen_ok]
theorem sa_from (t : TypeId) (u v : Operand) (d : Nat) (s r q : Value) (ho : o.op = .slice t u (some v) none none) (hd : o.dst = some d) (hg : o.guard = none) (h1 : Has ops D T a0 o u (Fact.val s)) (h2 : Has ops D T a0 o v (Fact.val r)) (hr : ∀ w, (Instr.sliceAt t s (some r) none none).run P w = .ok q w) (hT : T d = Fact.val q) : StepAt P ops D T a0 w Q o :=
  sa_of d hd hg fun f a y c => by
    have e1 : a.eval u = s := h1.get c
    have e2 : a.eval v = r := h2.get c
    refine op_val q (y := y) ?_ ⟨_, rfl, Gr.refl _, by rw [hT]; rfl⟩
    unfold execOp
    simp only [ho, Option.map_none, Option.map_some, e1, e2, Sem.run_bind, hr, Sem.run_pure, Result.andThen_ok]
theorem sa_mid (t : TypeId) (u v z : Operand) (d : Nat) (s r p q : Value) (ho : o.op = .slice t u (some v) (some z) none) (hd : o.dst = some d) (hg : o.guard = none) (h1 : Has ops D T a0 o u (Fact.val s)) (h2 : Has ops D T a0 o v (Fact.val r)) (h3 : Has ops D T a0 o z (Fact.val p)) (hr : ∀ w, (Instr.sliceAt t s (some r) (some p) none).run P w = .ok q w) (hT : T d = Fact.val q) : StepAt P ops D T a0 w Q o :=
  sa_of d hd hg fun f a y c => by
    have e1 : a.eval u = s := h1.get c
    have e2 : a.eval v = r := h2.get c
    have e3 : a.eval z = p := h3.get c
    refine op_val q (y := y) ?_ ⟨_, rfl, Gr.refl _, by rw [hT]; rfl⟩
    unfold execOp
    simp only [ho, Option.map_none, Option.map_some, e1, e2, e3, Sem.run_bind, hr, Sem.run_pure, Result.andThen_ok]
/-- A guard's slot that was passed over: passed over, too. -/
theorem so_guardU (k d : Nat) (b : Bool) (hk : o.guard = some (k, b)) (hd : (ops[k]?).bind (·.dst) = some d) (hn : needsB ops o d = true) (hs : d < a0.tmps.size) (hT : T d = Fact.val undef) (hany : ∀ d, o.dst = some d → T d = Fact.val undef) : StepAt P ops D T a0 w Q o := fun f a x c => by
  refine .inr ⟨?_, fun d' hd' => by rw [hany d' hd']; rfl⟩
  obtain ⟨v, hf, hv⟩ := c.needs d hn
  rw [hT] at hv
  have hv : v = undef := hv
  subst hv
  have h1 := c.over.slot d
  rw [if_pos hs, hf] at h1
  have h2 : a.tmps.size = a0.tmps.size := c.over.size
  have h3 : a.tmps[d]? = some undef := by
    have hl : d < a.tmps.size := by omega
    have e : a.tmps.getD d undef = a.tmps[d] := by simp [hl]
    rw [Array.getElem?_eq_getElem hl, ← e, h1]; rfl
  unfold Region.wanted yielded
  rw [hk]
  simp only [hd, Option.bind_some, h3]
  rfl
end
end Go.Proofs.YtogippkapadolaaDoor

/- Values of JSON, and what the parser of the program does with a text, in plain words. -/
namespace Go.Proofs.YtogippkapadolaaDoor
inductive J where
  | mk (kind : Int) (b : Bool) (n : Int) (s : List UInt8) (l : List J) (names : List (List UInt8))
def J.kind : J → Int | .mk k _ _ _ _ _ => k
def J.l : J → List J | .mk _ _ _ _ l _ => l
def J.names : J → List (List UInt8) | .mk _ _ _ _ _ n => n
def jnull : J := .mk 0 false 0 [] [] []
/-- What a piece of the parser comes to: a value and where it stands then, or where and why it gives up. -/
inductive Res (α : Type) where
  | ok (v : α) (p : Nat)
  | bad (p : Nat) (e : Int)
def Res.bind {α β : Type} (r : Res α) (f : α → Nat → Res β) : Res β := match r with
  | .ok v p => f v p
  | .bad p e => .bad p e
/-- The byte at a place; 0 at the end. -/
def hereP (L : List UInt8) (p : Nat) : UInt8 := (L[p]?).getD 0
def blankB (c : UInt8) : Bool := c == 32 || c == 9 || c == 10 || c == 13
def skipP (L : List UInt8) : Nat → Nat → Nat
  | 0, p => p
  | f + 1, p => if blankB (hereP L p) then skipP L f (p + 1) else p
def nextP (L : List UInt8) (p : Nat) : Nat := skipP L (L.length - p) p
def passP (L : List UInt8) : List UInt8 → Nat → Res Unit
  | [], p => .ok () p
  | c :: cs, p => if hereP L p = c then passP L cs (p + 1) else .bad p 60
def digitB (c : UInt8) : Bool := decide (48 ≤ c) && decide (c ≤ 57)
/-- A hexadecimal digit's number. -/
def hexD (c : UInt8) : Option UInt8 := if digitB c then some (c - 48) else if decide (97 ≤ c) && decide (c ≤ 102) then some (c - 87) else if decide (65 ≤ c) && decide (c ≤ 70) then some (c - 55) else none
def digP (L : List UInt8) (p : Nat) : Res UInt8 := match hexD (hereP L p) with
  | some d => .ok d (p + 1)
  | none => .bad p 60
/-- What an escape by one byte says. -/
def escB (c : UInt8) : Option UInt8 := if c = 34 ∨ c = 92 ∨ c = 47 then some c else if c = 98 then some 8 else if c = 102 then some 12 else if c = 110 then some 10 else if c = 114 then some 13 else if c = 116 then some 9 else none
def escP (L : List UInt8) (p : Nat) : Res UInt8 := match escB (hereP L p) with
  | some d => .ok d (p + 1)
  | none => if hereP L p = 117 then (passP L [117, 48, 48] p).bind fun _ q => (digP L q).bind fun h q' => (digP L q').bind fun l q'' => .ok ((h <<< 4) ||| l) q'' else .bad p 60
def quoL (L : List UInt8) : Nat → Nat → List UInt8 → Res (List UInt8)
  | 0, p, _ => .bad p 60
  | f + 1, p, acc =>
    if hereP L p = 34 then .ok acc (p + 1)
    else if hereP L p < 32 then .bad p 60
    else if hereP L p = 92 then (escP L (p + 1)).bind fun d q => quoL L f q (acc ++ [d])
    else quoL L f (p + 1) (acc ++ [hereP L p])
def quoP (L : List UInt8) (p : Nat) : Res (List UInt8) := (passP L [34] p).bind fun _ q => quoL L (L.length + 1 - q) q []
def digsP (L : List UInt8) : Nat → Nat → Nat
  | 0, p => p
  | f + 1, p => if digitB (hereP L p) then digsP L f (p + 1) else p
def minusP (L : List UInt8) (p : Nat) : Nat := if hereP L p = 45 then p + 1 else p
def numEnd (L : List UInt8) (p : Nat) : Nat := if hereP L (minusP L p) = 48 then minusP L p + 1 else digsP L (L.length - minusP L p) (minusP L p)
def numP (L : List UInt8) (p : Nat) : Res Int :=
  if digitB (hereP L (minusP L p)) then match Lib.parseIntB 64 ((L.take (numEnd L p)).drop p) with
    | .ok v => .ok v (numEnd L p)
    | _ => .bad p 60
  else .bad (minusP L p) 60
def strL (l : List UInt8) : ByteArray := ⟨l.toArray⟩
def nameP (L : List UInt8) (names : List (List UInt8)) (p : Nat) : Res (List UInt8) :=
  (quoP L (nextP L p)).bind fun l q => if l ∈ names then .bad (nextP L p) 60 else (passP L [58] (nextP L q)).bind fun _ q' => .ok l q'
/-- What stands in brackets, with commas between: from behind the first thing on. -/
def eachL {σ : Type} (L : List UInt8) (step : σ → Nat → Res σ) : Nat → σ → Nat → Res σ
  | 0, x, p => .ok x (nextP L p)
  | f + 1, x, p => if hereP L (nextP L p) = 44 then (step x (nextP L p + 1)).bind fun y q => eachL L step f y q else .ok x (nextP L p)
def eachP {σ : Type} (L : List UInt8) (close : UInt8) (step : σ → Nat → Res σ) (x : σ) (p : Nat) : Res σ :=
  (if hereP L (nextP L (p + 1)) = close then .ok x (nextP L (p + 1)) else (step x (nextP L (p + 1))).bind fun y q => eachL L step (L.length + 1 - q) y q).bind fun y q => (passP L [close] q).bind fun _ q' => .ok y q'
def stepL (f : Nat → Res J) (l : List J) (p : Nat) : Res (List J) := (f p).bind fun v q => .ok (l ++ [v]) q
def stepO (L : List UInt8) (f : Nat → Res J) (x : List (List UInt8) × List J) (p : Nat) : Res (List (List UInt8) × List J) :=
  (nameP L x.1 p).bind fun nm q => (f q).bind fun v q' => .ok (x.1 ++ [nm], x.2 ++ [v]) q'
def listP (L : List UInt8) (inner : Option (Nat → Res J)) (p : Nat) : Res J := match inner with
  | none => .bad p 61
  | some f => (eachP L 93 (stepL f) [] p).bind fun l q => .ok (.mk 4 false 0 [] l []) q
def objP (L : List UInt8) (inner : Option (Nat → Res J)) (p : Nat) : Res J := match inner with
  | none => .bad p 61
  | some f => (eachP L 125 (stepO L f) ([], []) p).bind fun x q => .ok (.mk 5 false 0 [] x.2 x.1) q
def val2 (L : List UInt8) (inner : Option (Nat → Res J)) (p : Nat) : Res J :=
  if hereP L p = 110 then (passP L [110, 117, 108, 108] p).bind fun _ q => .ok jnull q
  else if hereP L p = 116 then (passP L [116, 114, 117, 101] p).bind fun _ q => .ok (.mk 1 true 0 [] [] []) q
  else if hereP L p = 102 then (passP L [102, 97, 108, 115, 101] p).bind fun _ q => .ok (.mk 1 false 0 [] [] []) q
  else if hereP L p = 34 then (quoP L p).bind fun l q => .ok (.mk 3 false 0 l [] []) q
  else if hereP L p = 91 then listP L inner p
  else if hereP L p = 123 then objP L inner p
  else (numP L p).bind fun v q => .ok (.mk 2 false v [] [] []) q
def valP (L : List UInt8) : Nat → Nat → Res J
  | 0, p => val2 L none (nextP L p)
  | d + 1, p => val2 L (some (valP L d)) (nextP L p)
def wholeP (L : List UInt8) : Res J := (valP L 16 0).bind fun v p => if nextP L p = L.length then .ok v (nextP L p) else .bad (nextP L p) 60
end Go.Proofs.YtogippkapadolaaDoor

/- The parser's small calls: here, giveUp, insist, isDigit, next. -/
namespace Go.Proofs.YtogippkapadolaaDoor
open Go.RowKit

/-- The parser at block b. -/
abbrev PAt (w : World) (b : Nat) (s : ByteArray) (p k : Nat) : Prop := Holds w b [.string s, .int .i64 (p : Int), .int .i64 (k : Int)] 47
def faultV (p : Nat) (e : Int) : List PanicEntry := [{ v := .iface 49 (.agg #[.int .i64 (p : Int), .int .i64 e]), recovered := false }]
theorem here_at {s : ByteArray} {p : Nat} (h : p < s.size) : hereP s.data.toList p = s[p]'h := by
  unfold hereP
  rw [List.getElem?_eq_getElem (by exact h)]; rfl
theorem here_end {s : ByteArray} {p : Nat} (h : s.size ≤ p) : hereP s.data.toList p = 0 := by
  unfold hereP
  rw [List.getElem?_eq_none (by exact h)]; rfl
theorem gr_upd {b : Nat} {x y : World} (h : Gr x y) : Upd b x y := Upd.ofBelow h
theorem gr_drew {x y : World} (h : Gr x y) : Gr x y.drew := h.trans (Gr.drew y)
theorem Holds.gr {x y : World} {b : Nat} {l : List Value} {t : TypeId} (h : Holds x b l t) (g : Gr x y) : Holds y b l t := h.below g h.lt

set_option maxRecDepth 100000 in
theorem here_any (b : Nat) (s : ByteArray) (p k : Nat) (hp : p ≤ s.size) (w : World) (h : PAt w b s p k) :
    Calls Tryd.prog 60 #[.pointer (some ⟨b, 0, none⟩)] w fun e w' => e = .returned (.int .u8 ((hereP s.data.toList p).toNat : Int)) ∧ Gr w w' := by
  have c0 : w.cell? ⟨b, 0, none⟩ = some (.string s) := h.at 0 _ rfl
  have c1 : w.cell? ⟨b, 1, none⟩ = some (.int .i64 (p : Int)) := h.at 1 _ rfl
  rcases Nat.lt_or_ge p s.size with hlt | hge
  · rw [here_at hlt]
    have g1 : (0 : Int) ≤ (p : Int) := by omega
    have g2 : (p : Int) < (s.size : Int) := by omega
    have g3 : ((p : Int) == (s.size : Int)) = false := by simp; omega
    clear h
    go_enter Tryd.func60, Tryd.ntmps60
    go_wp2
    go_region
    go_wp2
    go_region
    go_wp2
    go_ret
    exact ⟨rfl, gr_drew (gr_drew (Gr.refl w))⟩
  · have e : s.size = p := by omega
    rw [here_end hge]
    have g3 : ((p : Int) == (s.size : Int)) = true := by simp; omega
    clear h
    go_enter Tryd.func60, Tryd.ntmps60
    go_wp2
    go_region
    go_wp2
    go_ret
    exact ⟨rfl, gr_drew (Gr.refl w)⟩

set_option maxRecDepth 100000 in
theorem giveUp_any (p : Nat) (e0 : Int) (w : World) : Calls Tryd.prog 61 #[.int .i64 (p : Int), .int .i64 e0] w fun e w' => e = .panicked (faultV p e0) ∧ w' = w := by
  go_enter Tryd.func61, Tryd.ntmps61
  go_wp2
  exact ⟨rfl, rfl, rfl⟩
set_option maxRecDepth 100000 in
theorem insist_true (a : Value) (w : World) : Calls Tryd.prog 37 #[a, .bool true] w fun e w' => e = .returned (.tuple #[]) ∧ w' = w := by
  go_enter Tryd.func37, Tryd.ntmps37
  go_wp2
  exact bodyPost_end (results_none (by kernel_rfl) _ _ _) rfl ⟨rfl, rfl⟩
set_option maxRecDepth 100000 in
theorem insist_false (b : Nat) (s : ByteArray) (p k : Nat) (w : World) (h : PAt w b s p k) : Calls Tryd.prog 37 #[.pointer (some ⟨b, 0, none⟩), .bool false] w fun e w' => e = .panicked (faultV p 60) ∧ w' = w := by
  have c1 : w.cell? ⟨b, 1, none⟩ = some (.int .i64 (p : Int)) := h.at 1 _ rfl
  clear h
  have hg := giveUp_any p 60 w
  go_enter Tryd.func37, Tryd.ntmps37
  go_wp2_with (go_at_call 61; refine hg.mono ?_; rintro e w' ⟨rfl, rfl⟩)
  exact ⟨rfl, rfl, rfl⟩
set_option maxRecDepth 100000 in
theorem isDigit_any (c : UInt8) (w : World) : Calls Tryd.prog 73 #[.int .u8 (c.toNat : Int)] w fun e w' => e = .returned (.bool (digitB c)) ∧ w' = w := by
  by_cases h1 : 48 ≤ c.toNat
  · by_cases h2 : c.toNat ≤ 57
    · have e : digitB c = true := by simp [digitB, UInt8.le_iff_toNat_le]; omega
      rw [e]
      have g1 : (c.toNat : Int) ≥ 48 := by omega
      have g2 : (c.toNat : Int) ≤ 57 := by omega
      go_enter Tryd.func73, Tryd.ntmps73
      go_wp2
      go_ret
      exact ⟨rfl, rfl⟩
    · have e : digitB c = false := by simp [digitB, UInt8.le_iff_toNat_le]; omega
      rw [e]
      have g1 : (c.toNat : Int) ≥ 48 := by omega
      have g2 : ¬ (c.toNat : Int) ≤ 57 := by omega
      go_enter Tryd.func73, Tryd.ntmps73
      go_wp2
      go_ret
      exact ⟨rfl, rfl⟩
  · have e : digitB c = false := by simp [digitB, UInt8.le_iff_toNat_le]; omega
    rw [e]
    have g1 : ¬ (c.toNat : Int) ≥ 48 := by omega
    go_enter Tryd.func73, Tryd.ntmps73
    go_wp2
    go_ret
    exact ⟨rfl, rfl⟩
end Go.Proofs.YtogippkapadolaaDoor

/- The parser goes over blanks, and over words. -/
namespace Go.Proofs.YtogippkapadolaaDoor
open Go.RowKit

theorem here_len {L : List UInt8} {p : Nat} (h : L.length ≤ p) : hereP L p = 0 := by
  unfold hereP
  rw [List.getElem?_eq_none h]; rfl
theorem here_lt {L : List UInt8} {p : Nat} (h : hereP L p ≠ 0) : p < L.length := by
  rcases Nat.lt_or_ge p L.length with q | q
  · exact q
  · exact absurd (here_len q) h
theorem blank_lt {L : List UInt8} {p : Nat} (h : blankB (hereP L p) = true) : p < L.length := here_lt (fun e => by rw [e] at h; cases h)
theorem next_blank {L : List UInt8} {p : Nat} (h : blankB (hereP L p) = true) : nextP L p = nextP L (p + 1) := by
  have hl := blank_lt h
  unfold nextP
  obtain ⟨f, hf⟩ : ∃ f, L.length - p = f + 1 := ⟨L.length - p - 1, by omega⟩
  rw [hf, show L.length - (p + 1) = f by omega, skipP, if_pos h]
theorem next_stay {L : List UInt8} {p : Nat} (h : blankB (hereP L p) = false) : nextP L p = p := by
  unfold nextP
  cases L.length - p with
  | zero => rfl
  | succ f => rw [skipP, if_neg (by rw [h]; decide)]
theorem next_spec (L : List UInt8) : ∀ (n p : Nat), L.length - p ≤ n → p ≤ L.length → p ≤ nextP L p ∧ nextP L p ≤ L.length ∧ blankB (hereP L (nextP L p)) = false
  | 0, p, h1, h2 => by
    have e : L.length = p := by omega
    have hb : blankB (hereP L p) = false := by rw [here_len (by omega)]; rfl
    rw [next_stay hb]
    exact ⟨Nat.le_refl _, h2, hb⟩
  | n + 1, p, h1, h2 => by
    cases hb : blankB (hereP L p) with
    | false => rw [next_stay hb]; exact ⟨Nat.le_refl _, h2, hb⟩
    | true =>
      have hl := blank_lt hb
      rw [next_blank hb]
      have := next_spec L n (p + 1) (by omega) (by omega)
      exact ⟨by omega, this.2⟩
theorem next_ge {L : List UInt8} {p : Nat} (h : p ≤ L.length) : p ≤ nextP L p := (next_spec L _ p (Nat.le_refl _) h).1
theorem next_le {L : List UInt8} {p : Nat} (h : p ≤ L.length) : nextP L p ≤ L.length := (next_spec L _ p (Nat.le_refl _) h).2.1
theorem u8_int (c : UInt8) (n : Nat) (h : n < 256) : ((c.toNat : Int) == (n : Int)) = (c == UInt8.ofNat n) := by
  rw [Bool.eq_iff_iff, beq_iff_eq, beq_iff_eq]
  constructor
  · intro e
    apply UInt8.toNat.inj
    rw [UInt8.toNat_ofNat', Nat.mod_eq_of_lt h]; omega
  · intro e
    rw [e, UInt8.toNat_ofNat', Nat.mod_eq_of_lt h]
theorem blank_cases {c : UInt8} (h : blankB c = true) : c = 32 ∨ c = 9 ∨ c = 10 ∨ c = 13 := by
  simp only [blankB, Bool.or_eq_true, beq_iff_eq] at h
  rcases h with ((h | h) | h) | h
  · exact .inl h
  · exact .inr (.inl h)
  · exact .inr (.inr (.inl h))
  · exact .inr (.inr (.inr h))
theorem blank_not {c : UInt8} (h : blankB c = false) : ((c.toNat : Int) == 32) = false ∧ ((c.toNat : Int) == 9) = false ∧ ((c.toNat : Int) == 10) = false ∧ ((c.toNat : Int) == 13) = false := by
  simp only [blankB, Bool.or_eq_false_iff] at h
  exact ⟨(u8_int c 32 (by decide)).trans h.1.1.1, (u8_int c 9 (by decide)).trans h.1.1.2, (u8_int c 10 (by decide)).trans h.1.2, (u8_int c 13 (by decide)).trans h.2⟩
/-- Where the parser at block b stands. -/
def atOf (w : World) (b : Nat) : Nat := (intOf ((w.cell? ⟨b, 1, none⟩).getD undef)).toNat
theorem atOf_eq {w : World} {b : Nat} {s : ByteArray} {p k : Nat} (h : PAt w b s p k) : atOf w b = p := by
  unfold atOf
  rw [h.at 1 _ rfl]; simp [intOf]
theorem pat_step {w : World} {b : Nat} {s : ByteArray} {p k : Nat} (h : PAt w b s p k) : PAt (w.setCell ⟨b, 1, none⟩ (.int .i64 ((p : Int) + 1))) b s (p + 1) k := h.set 1 _

set_option maxHeartbeats 1000000 in
set_option maxRecDepth 100000 in
theorem next_any (b : Nat) (s : ByteArray) (p k : Nat) (hp : p ≤ s.size) (hs : s.size < 9223372036854775807) (w : World) (h : PAt w b s p k) :
    Calls Tryd.prog 36 #[.pointer (some ⟨b, 0, none⟩)] w fun e w' => e = .returned (.int .u8 ((hereP s.data.toList (nextP s.data.toList p)).toNat : Int)) ∧ PAt w' b s (nextP s.data.toList p) k ∧ Upd b w w' := by
  have hl : s.data.toList.length = s.size := rfl
  obtain ⟨m, hm⟩ : ∃ m, nextP s.data.toList p = m := ⟨_, rfl⟩
  rw [hm]
  go_enter Tryd.func36, Tryd.ntmps36
  go_wp2_with fail
  go_loopw [3] (fun _ wr => ∃ q, q ≤ s.size ∧ nextP s.data.toList q = m ∧ PAt wr b s q k ∧ Upd b w wr) (fun _ wr => s.size - atOf wr b)
  case atStart => exact ⟨p, hp, hm, h, Upd.refl b w⟩
  case round =>
    obtain ⟨q, hq, hqm, hP, hU⟩ := hrel
    have hh := here_any b s q k hq wr hP
    cases hb : blankB (hereP s.data.toList q) with
    | false =>
      rw [next_stay hb] at hqm
      subst hqm
      obtain ⟨g1, g2, g3, g4⟩ := blank_not hb
      clear hm hb
      obtain ⟨c, hc⟩ : ∃ c, hereP s.data.toList q = c := ⟨_, rfl⟩
      rw [hc] at hh g1 g2 g3 g4
      go_wp2_with (go_at_call 60; refine hh.mono ?_; rintro e w1 ⟨rfl, hg⟩)
      go_ret
      exact ⟨by rw [hc]; rfl, hP.gr hg, hU.trans (gr_upd hg)⟩
    | true =>
      have hlt : q < s.size := blank_lt hb
      rw [next_blank hb] at hqm
      have fin : ∀ wz, Gr wr wz → (q + 1 ≤ s.size ∧ nextP s.data.toList (q + 1) = m ∧ PAt (wz.setCell ⟨b, 1, none⟩ (.int .i64 ((q : Int) + 1))) b s (q + 1) k ∧ Upd b w (wz.setCell ⟨b, 1, none⟩ (.int .i64 ((q : Int) + 1)))) ∧ s.size - atOf (wz.setCell ⟨b, 1, none⟩ (.int .i64 ((q : Int) + 1))) b < s.size - atOf wr b := fun wz hg => by
        have hz := pat_step (hP.gr hg)
        refine ⟨⟨hlt, hqm, hz, (hU.trans (gr_upd hg)).setCell 1 _⟩, ?_⟩
        rw [atOf_eq hz, atOf_eq hP]; omega
      have c1 : ∀ wz, Gr wr wz → wz.cell? ⟨b, 1, none⟩ = some (.int .i64 (q : Int)) := fun wz hg => (hP.gr hg).at 1 _ rfl
      have f1 : ∀ wz, Gr wr wz → wz.frozen? ⟨b, 1, none⟩ = false := fun wz hg => (hP.gr hg).frozen 1
      rcases blank_cases hb with e | e | e | e
      all_goals
        rw [e] at hh
        clear e hb hqm hm hU hP
        go_wp2_with (go_at_call 60; refine hh.mono ?_; rintro e w1 ⟨rfl, hg⟩; have c1 := c1 w1 hg; have f1 := f1 w1 hg; have fin := fin w1 hg)
        exact ⟨⟨q + 1, fin.1⟩, fin.2⟩
end Go.Proofs.YtogippkapadolaaDoor
