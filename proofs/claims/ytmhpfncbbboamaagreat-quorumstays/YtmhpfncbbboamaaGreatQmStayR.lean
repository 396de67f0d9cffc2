/- The drawn region of QuorumStays' inner loop (5, region 18). -/
import Derived.Test.YtmhpfncbbboamaaGreatQmStayM
namespace Go.Proofs.YtmhpfncbbboamaaGreat
open Go.RowKit Go.Sort
section
variable {P : Program} {ops : Array Oper} {Q : Exit → Act → World → Prop} {D : List Nat} {T : Nat → Fact} {a0 : Act} {w : World} {o : Oper}
theorem drawn_lastR {id : Nat} {a0 : Act} {w : World} (hm : P.follows .mixedOrders = true) (hlex : lexOk ops = true) (m : Nat) (hsz : ops.size = m + 1) (hcov : coverB ops m = true) (st : Oper) (hst : ops[m]? = some st) (D : List Nat) (T : Nat → Fact)
    (hD : ((ops.toList.take m).all fun o => match o.dst with | some d => D.contains d | none => true) = true)
    (hstep : ∀ o ∈ ops.toList.take m, StepAt P ops D T a0 w Q o)
    (hend : ∀ (a : Act) (x : World), After D a0 a → Gr w x → (∀ s, dstsB ops m s = true → s < a0.tmps.size → (T s).holds (a.eval (.tmp s)) x) → Region.wanted st (yielded ops a.tmps) = true ∧ st.wp P a x (fun a' y => Q .normal a' y) Q) :
    (Code.region id ops true).wp P Q a0 w := by
  refine wp_region_any hm ?_
  have key : ∀ (fuel : Nat) (listed : Array Bool) (f : Env) (a : Act) (x : World), listed.size = ops.size → (unlisted ops listed).length ≤ fuel → listed.getD m true = false → MidL ops D T a0 w f listed a x → wpAny P .any ops Q fuel listed a x := by
    intro fuel
    induction fuel with
    | zero =>
      intro listed f a x hz hu hl h
      have : m ∈ unlisted ops listed := List.mem_filter.2 ⟨List.mem_range.2 (by omega), by rw [hl]; rfl⟩
      have hnil : unlisted ops listed = [] := List.eq_nil_of_length_eq_zero (by omega)
      rw [hnil] at this; cases this
    | succ fuel ih =>
      intro listed f a x hz hu hlm h
      refine ⟨fun hr => ?_, fun i hi => ?_⟩
      · have := all_listed hlex hz hr m (by omega)
        rw [hlm] at this; cases this
      · obtain ⟨h0, o, ho, haf⟩ := mem_ready.1 hi
        have hil := (Array.getElem?_eq_some_iff.1 ho).1
        by_cases him : i = m
        · subst him
          have hall : ∀ n j, i ≤ j + n → j < i → listed.getD j false = true := by
            intro n
            induction n with
            | zero => intro j h1 h2; omega
            | succ n ihn =>
              intro j h1 h2
              obtain ⟨k, ok, e, hjk, hk, hok, he, hb, hon⟩ := cover_spec hcov h2
              by_cases hki : k = i
              · subst hki
                rw [ho] at hok
                cases hok
                have := haf e he hb
                rw [hon] at this; exact this
              · have := h.closed k ok hok (ihn k (by omega) (by omega)) e he hb
                rw [hon] at this; exact this
          have hall : ∀ j, j < i → listed.getD j false = true := fun j hj => hall i j (by omega) hj
          rw [hst] at ho
          cases ho
          obtain ⟨hw, hwp⟩ := hend a x (h.over.after h.out) h.grown (fun s hs hsz' => by
            obtain ⟨oj, hoj, hd⟩ := List.any_eq_true.1 hs
            have hd := of_decide_eq_true hd
            obtain ⟨j, hj⟩ := List.mem_iff_getElem?.1 hoj
            have hjk : j < i := by
              have := (List.getElem?_eq_some_iff.1 hj).1
              simp at this; omega
            rw [List.getElem?_take_of_lt hjk] at hj
            obtain ⟨v, hv⟩ := Option.isSome_iff_exists.1 (h.done j oj s (by simpa using hj) (hall j hjk) hd)
            rw [h.over.get hsz' hv]
            exact h.fact s v hv)
          unfold wpOp
          simp only [hst, hw, if_true]
          refine .inl (Oper.wp_mono (fun a' y hQ => ?_) hwp)
          have hnone : Region.ready .any ops (listed.setIfInBounds i true) = [] := by
            cases hr : Region.ready .any ops (listed.setIfInBounds i true) with
            | nil => rfl
            | cons j l =>
              exfalso
              have hj : j ∈ Region.ready .any ops (listed.setIfInBounds i true) := by rw [hr]; simp
              obtain ⟨g0, oj, hoj, _⟩ := mem_ready.1 hj
              have hjl := (Array.getElem?_eq_some_iff.1 hoj).1
              by_cases e : i = j
              · subst e
                have : i < listed.size := by omega
                simp [this] at g0
              · rw [getD_set_ne true e] at g0
                have := hall j (by omega)
                have hs : j < listed.size := by omega
                simp [hs] at g0 this
                rw [g0] at this; cases this
          cases fuel with
          | zero => exact ⟨hnone, hQ⟩
          | succ fuel => exact ⟨fun _ => hQ, by rw [hnone]; simp⟩
        · have hmem : o ∈ ops.toList.take m := by
            rw [List.mem_iff_getElem?]
            exact ⟨i, by rw [List.getElem?_take_of_lt (by omega)]; simpa using ho⟩
          have hc : Ctx ops D T a0 w o f a x := ⟨h.over, h.grown, fun s hs => by
            obtain ⟨e, he, hb⟩ := List.any_eq_true.1 hs
            rw [Bool.and_eq_true] at hb
            have b2 := of_decide_eq_true hb.2
            cases hoj : ops[e.on]? with
            | none => rw [hoj] at b2; cases b2
            | some oj =>
              rw [hoj] at b2
              obtain ⟨v, hv⟩ := Option.isSome_iff_exists.1 (h.done e.on oj s hoj (haf e (by simpa using he) hb.1) b2)
              exact ⟨v, hv, h.fact s v hv⟩, h.out⟩
          have hDo : ∀ d, o.dst = some d → d ∈ D := fun d hd => by
            have := List.all_eq_true.1 hD o hmem
            rw [hd] at this
            simpa using this
          have hun : i ∈ unlisted ops listed := List.mem_filter.2 ⟨List.mem_range.2 hil, by rw [h0]; rfl⟩
          have hlt : (unlisted ops (listed.setIfInBounds i true)).length < (unlisted ops listed).length := by
            have hsub : unlisted ops (listed.setIfInBounds i true) = (unlisted ops listed).filter fun j => decide (j ≠ i) := by
              unfold unlisted
              rw [List.filter_filter]
              apply List.filter_congr
              intro j hj
              by_cases e : i = j
              · subst e
                have : i < listed.size := by omega
                simp [this]
              · rw [getD_set_ne true e]
                have e' : ¬ j = i := fun q => e q.symm
                simp [e']
            rw [hsub]
            exact List.length_filter_lt_length_iff_exists.2 ⟨i, hun, by simp⟩
          have next : ∀ (v : Value) (y : World), Gr x y → (∀ d, o.dst = some d → (T d).holds v y) → wpAny P .any ops Q fuel (listed.setIfInBounds i true) (a.put o.dst v) y := fun v y r1 f1 => by
            refine ih (listed.setIfInBounds i true) (putE f o.dst v) _ y (by simp [hz]) (by omega) (by rw [getD_set_ne true him]; exact hlm) ⟨h.over.put o.dst v, h.grown.trans r1, fun s u hs => ?_, fun j oj d hoj hl hd => ?_, fun s hs => ?_, fun j oj hoj hl e he hb => ?_⟩
            · unfold putE at hs
              by_cases e : o.dst = some s
              · rw [if_pos e] at hs
                cases hs
                exact f1 s e
              · rw [if_neg e] at hs
                exact (T s).mono (h.fact s u hs) r1
            · unfold putE
              by_cases e : o.dst = some d
              · rw [if_pos e]; rfl
              · rw [if_neg e]
                by_cases hji : i = j
                · subst hji
                  rw [ho] at hoj
                  cases hoj
                  exact absurd hd e
                · rw [getD_set_ne false hji] at hl
                  exact h.done j oj d hoj hl hd
            · unfold putE
              by_cases e : o.dst = some s
              · exact absurd (hDo s e) hs
              · rw [if_neg e]; exact h.out s hs
            · have hle : listed.getD e.on false = true := by
                by_cases hji : i = j
                · subst hji
                  rw [ho] at hoj
                  cases hoj
                  exact haf e he hb
                · rw [getD_set_ne false hji] at hl
                  exact h.closed j oj hoj hl e he hb
              by_cases q : i = e.on
              · have : i < listed.size := by omega
                rw [← q]; simp [this]
              · rw [getD_set_ne false q]; exact hle
          unfold wpOp
          rcases hstep o hmem f a x hc with ⟨hw, hwp⟩ | ⟨hw, hv⟩
          · simp only [ho, hw, if_true]
            refine .inl (Oper.wp_mono (fun a' y ⟨v, e1, r1, f1⟩ => ?_) hwp)
            subst e1
            exact next v y r1 f1
          · simp only [ho, hw]
            exact next undef x (Gr.refl _) hv
  refine key ops.size (Array.replicate ops.size false) (fun _ => none) a0 _ (by simp) ?_ (by simp [hsz]) ⟨Over.start a0, Gr.drew w, (fun s v h => nomatch h), fun j o d _ hl _ => ?_, fun _ _ => rfl, fun j o _ hl _ _ _ => ?_⟩
  · exact Nat.le_trans (List.length_filter_le _ _) (by simp)
  all_goals
    exfalso
    have : (Array.replicate ops.size false).getD j false = false := by
      by_cases hj : j < ops.size <;> simp [hj]
    rw [this] at hl; cases hl
theorem guard_slotF (k d : Nat) (b : Bool) (hk : o.guard = some (k, false)) (hd : (ops[k]?).bind (·.dst) = some d) (hn : needsB ops o d = true) (hs : d < a0.tmps.size) (hT : T d = Fact.val (.bool b)) {f : Env} {a : Act} {y : World} (c : Ctx ops D T a0 w o f a y) : Region.wanted o (yielded ops a.tmps) = !b := by
  obtain ⟨v, hf, hv⟩ := c.needs d hn
  rw [hT] at hv
  have hv : v = .bool b := hv
  subst hv
  have h1 := c.over.slot d
  rw [if_pos hs, hf] at h1
  have h2 : a.tmps.size = a0.tmps.size := c.over.size
  have h3 : a.tmps[d]? = some (.bool b) := by
    have hl : d < a.tmps.size := by omega
    have e : a.tmps.getD d undef = a.tmps[d] := by simp [hl]
    rw [Array.getElem?_eq_getElem hl, ← e, h1]; rfl
  unfold Region.wanted yielded
  rw [hk]
  simp only [hd, Option.bind_some, h3]
  cases b <;> rfl
theorem sa_guardF (k d : Nat) (hk : o.guard = some (k, false)) (hd : (ops[k]?).bind (·.dst) = some d) (hn : needsB ops o d = true) (hs : d < a0.tmps.size) (hT : T d = Fact.val (.bool false)) (h : StepAt P ops D T a0 w Q { o with guard := none }) : StepAt P ops D T a0 w Q o := fun f a x c => by
  refine .inl ⟨guard_slotF k d false hk hd hn hs hT c, ?_⟩
  rcases h f a x ⟨c.over, c.grown, c.needs, c.out⟩ with ⟨_, hwp⟩ | ⟨hw, _⟩
  · obtain ⟨dst, op, ty, pos, af, gd⟩ := o
    exact hwp
  · rw [wanted_none rfl _] at hw; cases hw
theorem so_guardF (k d : Nat) (hk : o.guard = some (k, false)) (hd : (ops[k]?).bind (·.dst) = some d) (hn : needsB ops o d = true) (hs : d < a0.tmps.size) (hT : T d = Fact.val (.bool true)) (hany : ∀ d, o.dst = some d → T d = Fact.any) : StepAt P ops D T a0 w Q o := fun f a x c =>
  .inr ⟨guard_slotF k d true hk hd hn hs hT c, fun d' hd' => by rw [hany d' hd']; trivial⟩
end
theorem run_ix58 (g n cap i : Nat) (hi : i < n) (w : World) : (Instr.indexAt 58 (.slice (some ⟨g, 0, none⟩) n cap) (.int .i64 (i : Int))).run Tryz.prog w = .ok (.pointer (some ⟨g, i * 6, none⟩)) w := by
  simp [Instr.indexAt, run_underlying und58, go_sem, hi]

def q5_18 : Array Oper := #[{ dst := some 64, op := Op.move (Operand.tmp 14), type := 4, pos := "law.go:124", after := #[], guard := none }, { dst := some 65, op := Op.move (Operand.tmp 64), type := 4, pos := "law.go:124", after := #[{ on := 0, ground := Ground.data }], guard := none }, { dst := some 66, op := Op.move (Operand.tmp 11), type := 58, pos := "law.go:124", after := #[{ on := 1, ground := Ground.guard }], guard := some (1, false) }, { dst := some 67, op := Op.move (Operand.tmp 15), type := 3, pos := "law.go:124", after := #[{ on := 1, ground := Ground.guard }], guard := some (1, false) }, { dst := some 68, op := Op.indexAddr 58 (Operand.tmp 66) (Operand.tmp 67), type := 0, pos := "law.go:124", after := #[{ on := 2, ground := Ground.data }, { on := 3, ground := Ground.data }, { on := 1, ground := Ground.guard }], guard := some (1, false) }, { dst := some 69, op := Op.fieldAddr 60 (Operand.tmp 68) 1, type := 0, pos := "law.go:124", after := #[{ on := 4, ground := Ground.data }, { on := 1, ground := Ground.guard }], guard := some (1, false) }, { dst := some 70, op := Op.load 3 (Operand.tmp 69), type := 3, pos := "law.go:124", after := #[{ on := 5, ground := Ground.data }, { on := 1, ground := Ground.guard }], guard := some (1, false) }, { dst := some 71, op := Op.fieldAddr 60 (Operand.tmp 13) 1, type := 0, pos := "law.go:124", after := #[{ on := 1, ground := Ground.guard }], guard := some (1, false) }, { dst := some 72, op := Op.load 3 (Operand.tmp 71), type := 3, pos := "law.go:124", after := #[{ on := 7, ground := Ground.data }, { on := 1, ground := Ground.guard }], guard := some (1, false) }, { dst := some 73, op := Op.binOp BinOp.eql 3 (Operand.tmp 70) (Operand.tmp 72) 3, type := 4, pos := "law.go:124", after := #[{ on := 6, ground := Ground.data }, { on := 8, ground := Ground.data }, { on := 1, ground := Ground.guard }], guard := some (1, false) }, { dst := some 74, op := Op.pick (Operand.tmp 65) (Operand.const (Value.bool true)) (Operand.tmp 73), type := 4, pos := "law.go:124", after := #[{ on := 1, ground := Ground.data }, { on := 9, ground := Ground.data }], guard := none }, { dst := some 14, op := Op.assign (Operand.tmp 74), type := 4, pos := "law.go:124", after := #[{ on := 10, ground := Ground.data }, { on := 1, ground := Ground.chain }, { on := 0, ground := Ground.phase }, { on := 1, ground := Ground.phase }, { on := 2, ground := Ground.phase }, { on := 3, ground := Ground.phase }, { on := 4, ground := Ground.phase }, { on := 5, ground := Ground.phase }, { on := 6, ground := Ground.phase }, { on := 7, ground := Ground.phase }, { on := 8, ground := Ground.phase }, { on := 9, ground := Ground.phase }, { on := 10, ground := Ground.phase }], guard := none }]
set_option maxRecDepth 100000 in
theorem r18_no {Q : Exit → Act → World → Prop} {a0 : Act} {w : World} (hz : a0.tmps.size = 143) (fg f cx k X : Nat) (hk : k < f) (x y : Int) (hy : ∀ z, Gr w z → z.cell? ⟨fg, k * 6 + 1, none⟩ = some (.int .i64 y)) (hx : ∀ z, Gr w z → z.cell? ⟨X, 1, none⟩ = some (.int .i64 x))
    (e14 : a0.eval (.tmp 14) = .bool false) (e11 : a0.eval (.tmp 11) = .slice (some ⟨fg, 0, none⟩) f cx) (e15 : a0.eval (.tmp 15) = .int .i64 (k : Int)) (e13 : a0.eval (.tmp 13) = .pointer (some ⟨X, 0, none⟩))
    (hend : ∀ zz, Gr w zz → Q .normal ((putsL a0 [(64, .bool false), (65, .bool false), (66, .slice (some ⟨fg, 0, none⟩) f cx), (67, .int .i64 (k : Int)), (68, .pointer (some ⟨fg, k * 6, none⟩)), (69, .pointer (some ⟨fg, k * 6 + 1, none⟩)), (70, .int .i64 y), (71, .pointer (some ⟨X, 1, none⟩)), (72, .int .i64 x), (73, .bool (y == x)), (74, .bool (y == x))]).put (some 14) (.bool (y == x))) zz) : (Code.region 18 q5_18 true).wp Tryz.prog Q a0 w := by
  refine drawn_lastR (by kernel_rfl) (by kernel_rfl) 11 (by kernel_rfl) (by kernel_rfl) _ rfl [64, 65, 66, 67, 68, 69, 70, 71, 72, 73, 74] (fun | 64 => .val (.bool false) | 65 => .val (.bool false) | 66 => .val (.slice (some ⟨fg, 0, none⟩) f cx) | 67 => .val (.int .i64 (k : Int)) | 68 => .val (.pointer (some ⟨fg, k * 6, none⟩)) | 69 => .val (.pointer (some ⟨fg, k * 6 + 1, none⟩)) | 70 => .val (.int .i64 y) | 71 => .val (.pointer (some ⟨X, 1, none⟩)) | 72 => .val (.int .i64 x) | 73 => .val (.bool (y == x)) | 74 => .val (.bool (y == x)) | _ => .any) (by kernel_rfl) (List.forall_mem_cons.2 ⟨?s0, List.forall_mem_cons.2 ⟨?s1, List.forall_mem_cons.2 ⟨?s2, List.forall_mem_cons.2 ⟨?s3, List.forall_mem_cons.2 ⟨?s4, List.forall_mem_cons.2 ⟨?s5, List.forall_mem_cons.2 ⟨?s6, List.forall_mem_cons.2 ⟨?s7, List.forall_mem_cons.2 ⟨?s8, List.forall_mem_cons.2 ⟨?s9, List.forall_mem_cons.2 ⟨?s10, fun o ho => nomatch ho⟩⟩⟩⟩⟩⟩⟩⟩⟩⟩⟩) ?e
  case s0 => exact sa_move (.tmp 14) 64 (.val (.bool false)) (.inl rfl) rfl rfl (.old 14 _ (by decide) e14) rfl
  case s1 => exact sa_move (.tmp 64) 65 (.val (.bool false)) (.inl rfl) rfl rfl (.new 64 (by kernel_rfl) (by rw [hz]; decide)) rfl
  case s2 => exact sa_guardF 1 65 rfl rfl (by kernel_rfl) (by rw [hz]; decide) rfl (sa_move (.tmp 11) 66 (.val (.slice (some ⟨fg, 0, none⟩) f cx)) (.inl rfl) rfl rfl (.old 11 _ (by decide) e11) rfl)
  case s3 => exact sa_guardF 1 65 rfl rfl (by kernel_rfl) (by rw [hz]; decide) rfl (sa_move (.tmp 15) 67 (.val (.int .i64 (k : Int))) (.inl rfl) rfl rfl (.old 15 _ (by decide) e15) rfl)
  case s4 => exact sa_guardF 1 65 rfl rfl (by kernel_rfl) (by rw [hz]; decide) rfl (sa_ixa 58 (.tmp 66) (.tmp 67) 68 (.slice (some ⟨fg, 0, none⟩) f cx) (.int .i64 (k : Int)) (.pointer (some ⟨fg, k * 6, none⟩)) rfl rfl rfl (.new 66 (by kernel_rfl) (by rw [hz]; decide)) (.new 67 (by kernel_rfl) (by rw [hz]; decide)) (run_ix58 fg f cx k hk) rfl)
  case s5 => exact sa_guardF 1 65 rfl rfl (by kernel_rfl) (by rw [hz]; decide) rfl (sa_fa 60 (.tmp 68) 1 69 (.pointer (some ⟨fg, k * 6, none⟩)) (.pointer (some ⟨fg, k * 6 + 1, none⟩)) rfl rfl rfl (.new 68 (by kernel_rfl) (by rw [hz]; decide)) (by intro w; kernel_rfl) rfl)
  case s6 => exact sa_guardF 1 65 rfl rfl (by kernel_rfl) (by rw [hz]; decide) rfl (sa_loadc 3 (.tmp 69) 70 fg (k * 6 + 1) (.int .i64 y) rfl rfl rfl (by intro w; kernel_rfl) (.new 69 (by kernel_rfl) (by rw [hz]; decide)) hy rfl)
  case s7 => exact sa_guardF 1 65 rfl rfl (by kernel_rfl) (by rw [hz]; decide) rfl (sa_fa 60 (.tmp 13) 1 71 (.pointer (some ⟨X, 0, none⟩)) (.pointer (some ⟨X, 1, none⟩)) rfl rfl rfl (.old 13 _ (by decide) e13) (by intro w; kernel_rfl) rfl)
  case s8 => exact sa_guardF 1 65 rfl rfl (by kernel_rfl) (by rw [hz]; decide) rfl (sa_loadc 3 (.tmp 71) 72 X 1 (.int .i64 x) rfl rfl rfl (by intro w; kernel_rfl) (.new 71 (by kernel_rfl) (by rw [hz]; decide)) hx rfl)
  case s9 => exact sa_guardF 1 65 rfl rfl (by kernel_rfl) (by rw [hz]; decide) rfl (sa_bin .eql 3 (.tmp 70) (.tmp 72) 3 73 (.int .i64 y) (.int .i64 x) (.bool (y == x)) rfl rfl rfl (.new 70 (by kernel_rfl) (by rw [hz]; decide)) (.new 72 (by kernel_rfl) (by rw [hz]; decide)) (by intro w; rfl) (by intro w; rfl) rfl)
  case s10 => exact sa_pickF (.tmp 65) (.const _) (.tmp 73) 74 (.val (.bool (y == x))) rfl rfl rfl (.new 65 (by kernel_rfl) (by rw [hz]; decide)) (.new 73 (by kernel_rfl) (by rw [hz]; decide)) rfl
  case e =>
  intro a z hA hgr hv
  have ha : a = putsL a0 [(64, .bool false), (65, .bool false), (66, .slice (some ⟨fg, 0, none⟩) f cx), (67, .int .i64 (k : Int)), (68, .pointer (some ⟨fg, k * 6, none⟩)), (69, .pointer (some ⟨fg, k * 6 + 1, none⟩)), (70, .int .i64 y), (71, .pointer (some ⟨X, 1, none⟩)), (72, .int .i64 x), (73, .bool (y == x)), (74, .bool (y == x))] := hA.puts _ rfl (by intro p hp hl; simp only [List.mem_cons, List.not_mem_nil, or_false] at hp; rcases hp with rfl | rfl | rfl | rfl | rfl | rfl | rfl | rfl | rfl | rfl | rfl <;> exact hv _ (by kernel_rfl) hl)
  refine ⟨wanted_none rfl _, ?_⟩
  have o74 : a.eval (.tmp 74) = .bool (y == x) := hv 74 (by kernel_rfl) (by rw [hz]; decide)
  refine op_move (.tmp 74) (.inr rfl) ?_
  show Q .normal (a.put (some 14) (a.eval (.tmp 74))) z
  rw [o74, ha]
  exact hend z hgr
set_option maxRecDepth 100000 in
theorem r18_yes {Q : Exit → Act → World → Prop} {a0 : Act} {w : World} (hz : a0.tmps.size = 143) (e14 : a0.eval (.tmp 14) = .bool true)
    (hend : ∀ zz u66 u67 u68 u69 u70 u71 u72 u73, Gr w zz → Q .normal ((putsL a0 [(64, .bool true), (65, .bool true), (66, u66), (67, u67), (68, u68), (69, u69), (70, u70), (71, u71), (72, u72), (73, u73), (74, .bool true)]).put (some 14) (.bool true)) zz) : (Code.region 18 q5_18 true).wp Tryz.prog Q a0 w := by
  refine drawn_lastR (by kernel_rfl) (by kernel_rfl) 11 (by kernel_rfl) (by kernel_rfl) _ rfl [64, 65, 66, 67, 68, 69, 70, 71, 72, 73, 74] (fun | 64 => .val (.bool true) | 65 => .val (.bool true) | 74 => .val (.bool true) | _ => .any) (by kernel_rfl) (List.forall_mem_cons.2 ⟨?s0, List.forall_mem_cons.2 ⟨?s1, List.forall_mem_cons.2 ⟨?s2, List.forall_mem_cons.2 ⟨?s3, List.forall_mem_cons.2 ⟨?s4, List.forall_mem_cons.2 ⟨?s5, List.forall_mem_cons.2 ⟨?s6, List.forall_mem_cons.2 ⟨?s7, List.forall_mem_cons.2 ⟨?s8, List.forall_mem_cons.2 ⟨?s9, List.forall_mem_cons.2 ⟨?s10, fun o ho => nomatch ho⟩⟩⟩⟩⟩⟩⟩⟩⟩⟩⟩) ?e
  case s0 => exact sa_move (.tmp 14) 64 (.val (.bool true)) (.inl rfl) rfl rfl (.old 14 _ (by decide) e14) rfl
  case s1 => exact sa_move (.tmp 64) 65 (.val (.bool true)) (.inl rfl) rfl rfl (.new 64 (by kernel_rfl) (by rw [hz]; decide)) rfl
  case s2 => exact so_guardF 1 65 rfl rfl (by kernel_rfl) (by rw [hz]; decide) rfl (fun d hd => by cases hd; rfl)
  case s3 => exact so_guardF 1 65 rfl rfl (by kernel_rfl) (by rw [hz]; decide) rfl (fun d hd => by cases hd; rfl)
  case s4 => exact so_guardF 1 65 rfl rfl (by kernel_rfl) (by rw [hz]; decide) rfl (fun d hd => by cases hd; rfl)
  case s5 => exact so_guardF 1 65 rfl rfl (by kernel_rfl) (by rw [hz]; decide) rfl (fun d hd => by cases hd; rfl)
  case s6 => exact so_guardF 1 65 rfl rfl (by kernel_rfl) (by rw [hz]; decide) rfl (fun d hd => by cases hd; rfl)
  case s7 => exact so_guardF 1 65 rfl rfl (by kernel_rfl) (by rw [hz]; decide) rfl (fun d hd => by cases hd; rfl)
  case s8 => exact so_guardF 1 65 rfl rfl (by kernel_rfl) (by rw [hz]; decide) rfl (fun d hd => by cases hd; rfl)
  case s9 => exact so_guardF 1 65 rfl rfl (by kernel_rfl) (by rw [hz]; decide) rfl (fun d hd => by cases hd; rfl)
  case s10 => exact sa_pick (.tmp 65) (.const _) (.tmp 73) 74 (.val (.bool true)) rfl rfl rfl (.new 65 (by kernel_rfl) (by rw [hz]; decide)) (.const _) rfl
  case e =>
  intro a z hA hgr hv
  have ha : a = putsL a0 [(64, .bool true), (65, .bool true), (66, a.eval (.tmp 66)), (67, a.eval (.tmp 67)), (68, a.eval (.tmp 68)), (69, a.eval (.tmp 69)), (70, a.eval (.tmp 70)), (71, a.eval (.tmp 71)), (72, a.eval (.tmp 72)), (73, a.eval (.tmp 73)), (74, .bool true)] := hA.puts _ rfl (by intro p hp hl; simp only [List.mem_cons, List.not_mem_nil, or_false] at hp; rcases hp with rfl | rfl | rfl | rfl | rfl | rfl | rfl | rfl | rfl | rfl | rfl <;> first | rfl | exact hv _ (by kernel_rfl) hl)
  refine ⟨wanted_none rfl _, ?_⟩
  have o74 : a.eval (.tmp 74) = .bool true := hv 74 (by kernel_rfl) (by rw [hz]; decide)
  refine op_move (.tmp 74) (.inr rfl) ?_
  show Q .normal (a.put (some 14) (a.eval (.tmp 74))) z
  rw [o74, ha]
  exact hend z _ _ _ _ _ _ _ _ hgr
end Go.Proofs.YtmhpfncbbboamaaGreat
