/- What the document's own functions of the ring want besides: appends of lists, slices of slices, lengths. -/
import Derived.Test.YtlliijodilnlgaaRgRcO
import Derived.Test.YtlliijodilnlgaaEngT
namespace Go.Proofs.Ytlliijodilnlgaa
open Go.RowKit
variable {ops : Array Oper} {Q : Exit → Act → World → Prop}
/-- A list of integers is appended to a row of one's own. -/
theorem wpl_app {rest : List Oper} {o : Oper} {a : Act} {w : World} (hgd : o.guard = none) (s x : Operand) (ho : o.op = .call { callee := .builtin .append, args := #[s, x], argTypes := #[24, 24] }) (M : Nat) (v : Value) (L R : List Int) (hown : w.ownsRow M 3 1 v L.length (intV L)) (hs : a.eval s = v) (B : Nat) (vx : Value) (hx : a.eval x = vx) (hR : Ints B w vx R) (hb : L.length + R.length ≤ 17592186043904) (hM : M ≤ w.heap.size)
    (h : ∀ v' w', w'.ownsRow M 3 1 v' (L ++ R).length (intV (L ++ R)) → Below M w w' → wpList Try.prog ops Q rest (a.put o.dst v') w') : wpList Try.prog ops Q (o :: rest) a w := by
  obtain ⟨i3, f3, hz3, hs3, hb3⟩ := inf3
  obtain ⟨ad, cap, rfl, hcap, hc⟩ := hR
  refine wpList_append_src hgd s x 24 ho M 3 i3 _ 1 8 und24 f3 hz3 hs3 hb3 (by rfl) (by omega) v L.length (intV L) hown hs (intV R) ad R.length cap hx (by rw [intV_len, Nat.mul_one]) (fun h0 => ?_) (intV_one R) (by unfold maxLen; omega) (by omega) hM ?_
  · rcases hc with h1 | ⟨g, of, rfl, hg, hcell⟩
    · omega
    · refine ⟨_, rfl, fun j u hu => ?_⟩
      have hj : j < R.length := by
        have := (List.getElem?_eq_some_iff.1 hu).1
        rwa [intV_len] at this
      rw [intV_at R j hj] at hu
      cases hu
      rw [Addr.add_mid]
      exact hcell j hj
  · intro v' w' own gr _
    rw [← intV_append] at own
    refine h v' w' ?_ (grown_below gr hM (fun j e => own3_base hown j e))
    rw [List.length_append]
    exact own
/-- What lies below is appended, and what was made ahead. -/
theorem oneF_ints {x : Int} {v : Value} {y : World} (h : (oneF x).holds v y) : Ints y.heap.size y v [x] := by
  obtain ⟨g, rfl, hh⟩ := h
  refine ⟨_, _, rfl, Nat.le_refl _, Or.inr ⟨g, 0, rfl, hh.lt, fun j hj => ?_⟩⟩
  obtain rfl : j = 0 := by simp at hj; omega
  exact hh.at 0 _ rfl
section
variable {P : Program} {D : List Nat} {T : Nat → Fact} {a0 : Act} {w : World} {o : Oper}
theorem sa_to (t : TypeId) (u v : Operand) (d : Nat) (s r q : Value) (ho : o.op = .slice t u none (some v) none) (hd : o.dst = some d) (hg : o.guard = none) (h1 : Has ops D T a0 o u (Fact.val s)) (h2 : Has ops D T a0 o v (Fact.val r)) (hr : ∀ w, (Instr.sliceAt t s none (some r) none).run P w = .ok q w) (hT : T d = Fact.val q) : StepAt P ops D T a0 w Q o :=
  sa_of d hd hg fun f a y c => by
    have e1 : a.eval u = s := h1.get c
    have e2 : a.eval v = r := h2.get c
    refine op_val q (y := y) ?_ ⟨_, rfl, Gr.refl _, by rw [hT]; rfl⟩
    unfold execOp
    simp only [ho, Option.map_none, Option.map_some, e1, e2, Sem.run_bind, hr, Sem.run_pure, Result.andThen_ok]
theorem sa_from (t : TypeId) (u v : Operand) (d : Nat) (s r q : Value) (ho : o.op = .slice t u (some v) none none) (hd : o.dst = some d) (hg : o.guard = none) (h1 : Has ops D T a0 o u (Fact.val s)) (h2 : Has ops D T a0 o v (Fact.val r)) (hr : ∀ w, (Instr.sliceAt t s (some r) none none).run P w = .ok q w) (hT : T d = Fact.val q) : StepAt P ops D T a0 w Q o :=
  sa_of d hd hg fun f a y c => by
    have e1 : a.eval u = s := h1.get c
    have e2 : a.eval v = r := h2.get c
    refine op_val q (y := y) ?_ ⟨_, rfl, Gr.refl _, by rw [hT]; rfl⟩
    unfold execOp
    simp only [ho, Option.map_none, Option.map_some, e1, e2, Sem.run_bind, hr, Sem.run_pure, Result.andThen_ok]
/-- The length of a list of which the length alone is told. -/
def lenF (n : Nat) : Fact := ⟨fun v _ => ∃ a c, v = .slice a n c, fun h _ => h⟩
theorem sa_lenF (t : TypeId) (u : Operand) (d n : Nat) (ho : o.op = .call { callee := .builtin .len, args := #[u], argTypes := #[t] }) (hd : o.dst = some d) (hg : o.guard = none) (h1 : Has ops D T a0 o u (lenF n)) (hr : ∀ a c y, (Builtin.len_ #[t] o.type #[.slice a n c]).run P y = .ok (.int .i64 (n : Int)) y) (hT : T d = Fact.val (.int .i64 (n : Int))) : StepAt P ops D T a0 w Q o :=
  sa_of d hd hg fun f a y c => by
    obtain ⟨ad, cp, e⟩ := h1.get c
    refine op_val (.int .i64 (n : Int)) ?_ ⟨_, rfl, Gr.refl _, by rw [hT]; rfl⟩
    unfold execOp
    simp only [ho, resolve, invoke, builtin, Sem.run_bind, Sem.run_pure, Result.andThen_ok, List.map_toArray, List.map_cons, List.map_nil, e, hr]
/-- A guard's slot that was passed over: passed over, too. -/
theorem so_guardU (k d : Nat) (b : Bool) (hk : o.guard = some (k, b)) (hd : (ops[k]?).bind (·.dst) = some d) (hn : needsB ops o d = true) (hs : d < a0.tmps.size) (hT : T d = Fact.val undef) (hany : ∀ d, o.dst = some d → T d = Fact.val undef) : StepAt P ops D T a0 w Q o := fun f a x c => by
  refine .inr ⟨?_, fun d' hd' => by rw [hany d' hd']; rfl⟩
  obtain ⟨v, hf, hv⟩ := c.needs d hn
  rw [hT] at hv
  have hv : v = undef := hv
  subst hv
  have h1 := c.over.slot d
  rw [if_pos hs, hf] at h1
  have h2 : a.tmps.size = a0.tmps.size := c.over.size
  have h3 : a.tmps[d]? = some undef := by
    have hl : d < a.tmps.size := by omega
    have e : a.tmps.getD d undef = a.tmps[d] := by simp [hl]
    rw [Array.getElem?_eq_getElem hl, ← e, h1]; rfl
  unfold Region.wanted yielded
  rw [hk]
  simp only [hd, Option.bind_some, h3]
  rfl
theorem so_guardN (k d : Nat) (hk : o.guard = some (k, true)) (hd : (ops[k]?).bind (·.dst) = some d) (hn : needsB ops o d = true) (hs : d < a0.tmps.size) (hT : T d = Fact.val (.bool false)) (hany : ∀ d, o.dst = some d → T d = Fact.val undef) : StepAt P ops D T a0 w Q o := fun f a x c =>
  .inr ⟨guard_slot k d false hk hd hn hs hT c, fun d' hd' => by rw [hany d' hd']; rfl⟩
theorem so_guardFN (k d : Nat) (hk : o.guard = some (k, false)) (hd : (ops[k]?).bind (·.dst) = some d) (hn : needsB ops o d = true) (hs : d < a0.tmps.size) (hT : T d = Fact.val (.bool true)) (hany : ∀ d, o.dst = some d → T d = Fact.val undef) : StepAt P ops D T a0 w Q o := fun f a x c =>
  .inr ⟨guard_slotF k d true hk hd hn hs hT c, fun d' hd' => by rw [hany d' hd']; rfl⟩
theorem sa_callF2 (n : Nat) (u1 u2 : Operand) (tys : Array TypeId) (d : Nat) (v1 v2 : Value) (kf : Fact) (ho : o.op = .call { callee := .value (.func n), args := #[u1, u2], argTypes := tys }) (hd : o.dst = some d) (hg : o.guard = none) (h1 : Has ops D T a0 o u1 (Fact.val v1)) (h2 : Has ops D T a0 o u2 (Fact.val v2))
    (he : ∀ args w, (callFunc n args).run P w = .ok (.enter n args) w) (hc : ∀ y, Gr w y → Calls P n #[v1, v2] y fun e z => ∃ u, e = .returned u ∧ Gr y z ∧ kf.holds u z) (hT : T d = kf) : StepAt P ops D T a0 w Q o :=
  sa_call2 n u1 u2 tys d _ _ ho hd hg h1 h2 he (fun x1 x2 y hy q1 q2 => by rw [show x1 = v1 from q1, show x2 = v2 from q2, hT]; exact hc y hy)
end
theorem slice_to (a : Option Addr) (ln cap m : Nat) (hm : m ≤ cap) (w : World) : (Instr.sliceAt 24 (.slice a ln cap) none (some (.int .i64 (m : Int))) none).run Try.prog w = .ok (.slice a m cap) w := by
  have h : (Instr.sliceAt 24 (.slice a ln cap) none (some (.int .i64 (m : Int))) none).run Try.prog w = (Instr.slice 24 (.slice a ln cap) none (some (.int .i64 (m : Int))) none).run Try.prog w := by simp [Instr.sliceAt, run_underlying und24]
  rw [h]; exact run_slice_to w a ln cap m hm
theorem slice_from (a : Option Addr) (ln cap m : Nat) (hm : m ≤ ln) (w : World) : (Instr.sliceAt 24 (.slice a ln cap) (some (.int .i64 (m : Int))) none none).run Try.prog w = .ok (.slice (if cap = m then a else a.map (·.add m)) (ln - m) (cap - m)) w := by
  have h : (Instr.sliceAt 24 (.slice a ln cap) (some (.int .i64 (m : Int))) none none).run Try.prog w = (Instr.slice 24 (.slice a ln cap) (some (.int .i64 (m : Int))) none none).run Try.prog w := by simp [Instr.sliceAt, run_underlying und24]
  rw [h]; exact run_slice_from w a ln cap m hm
/-- Both parts of a list. -/
theorem Ints.parts {B : Nat} {w : World} {a : Option Addr} {cap : Nat} {L : List Int} (h : Ints B w (.slice a L.length cap) L) (m : Nat) (hm : m ≤ L.length) : L.length ≤ cap ∧ Ints B w (.slice a m cap) (L.take m) ∧ Ints B w (.slice (if cap = m then a else a.map (·.add m)) (L.length - m) (cap - m)) (L.drop m) := by
  obtain ⟨a', cap', e, hcap, hc⟩ := h
  cases e
  refine ⟨hcap, ?_, ?_⟩
  · refine ⟨a, cap, by rw [List.length_take, Nat.min_eq_left hm], by rw [List.length_take]; omega, ?_⟩
    rw [List.length_take, Nat.min_eq_left hm]
    rcases hc with h0 | ⟨g, o, e1, h1, h2⟩
    · exact Or.inl (by omega)
    · refine Or.inr ⟨g, o, e1, h1, fun j hj => ?_⟩
      rw [h2 j (by omega)]
      simp [List.getD_eq_getElem?_getD, hj]
  · refine ⟨_, _, by rw [List.length_drop], by rw [List.length_drop]; omega, ?_⟩
    rw [List.length_drop]
    rcases hc with h0 | ⟨g, o, e1, h1, h2⟩
    · exact Or.inl (by omega)
    · by_cases hcm : cap = m
      · exact Or.inl (by omega)
      · rw [if_neg hcm, e1]
        refine Or.inr ⟨g, o + m, by rw [Option.map_some, Addr.add_mid], h1, fun j hj => ?_⟩
        rw [show o + m + j = o + (m + j) by omega, h2 (m + j) (by omega)]
        simp [List.getD_eq_getElem?_getD, List.getElem?_drop]
end Go.Proofs.Ytlliijodilnlgaa
