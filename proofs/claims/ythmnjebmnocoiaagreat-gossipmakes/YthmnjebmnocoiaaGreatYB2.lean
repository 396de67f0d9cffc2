/- GsInv, GsBytR, GsBytA. -/
import Derived.Test.YthmnjebmnocoiaaGreatYA8
import Derived.Test.YthmnjebmnocoiaaGreatYGsAw
import Derived.Test.YthmnjebmnocoiaaGreatYGsSame
import Derived.Test.YthmnjebmnocoiaaGreatYP3
/- Regions, drawn or in order, by whatever holds from operation to operation. -/
namespace Go.Proofs.YthmnjebmnocoiaaGreat
open Go.RowKit
variable {P : Program} {ops : Array Oper} {Q : Exit → Act → World → Prop}

def onceB (ops : Array Oper) : Bool := (List.range ops.size).all fun i => (List.range ops.size).all fun j => decide (i = j) || !decide ((ops[i]?).bind (·.dst) = (ops[j]?).bind (·.dst)) || decide ((ops[i]?).bind (·.dst) = none)
theorem once_spec (h : onceB ops = true) {i j : Nat} {o p : Oper} {d : Nat} (hi : ops[i]? = some o) (hj : ops[j]? = some p) (ho : o.dst = some d) (hp : p.dst = some d) : i = j := by
  have h1 := List.all_eq_true.1 h i (List.mem_range.2 (Array.getElem?_eq_some_iff.1 hi).1)
  have h2 := List.all_eq_true.1 h1 j (List.mem_range.2 (Array.getElem?_eq_some_iff.1 hj).1)
  rw [hi, hj] at h2
  simpa [ho, hp] using h2
def Put (I : Env → World → Prop) (f : Env) (o : Oper) (v : Value) (y : World) : Prop := (∀ d, o.dst = some d → I (putE f (some d) v) y) ∧ (o.dst = none → I f y)
theorem put_of {I : Env → World → Prop} {f : Env} {o : Oper} {v : Value} {y : World} (d : Nat) (hd : o.dst = some d) (h : I (putE f (some d) v) y) : Put I f o v y :=
  ⟨fun d' hd' => by rw [hd] at hd'; cases hd'; exact h, fun q => by rw [hd] at q; cases q⟩
theorem Put.get {I : Env → World → Prop} {f : Env} {o : Oper} {v : Value} {y : World} (h : Put I f o v y) : I (putE f o.dst v) y := by
  cases hd : o.dst with
  | none =>
    have : putE f none v = f := by funext s; simp [putE]
    rw [this]; exact h.2 hd
  | some d => exact h.1 d hd
structure MidI (ops : Array Oper) (I : Env → World → Prop) (a0 : Act) (f : Env) (listed : Array Bool) (a : Act) (w : World) : Prop where
  over : Over a0 f a
  inv : I f w
  done : ∀ (j : Nat) (o : Oper) (d : Nat), ops[j]? = some o → listed.getD j false = true → o.dst = some d → (f d).isSome = true
  from_ : ∀ (d : Nat), (f d).isSome = true → ∃ (j : Nat) (o : Oper), ops[j]? = some o ∧ listed.getD j false = true ∧ o.dst = some d
theorem region_inv {id : Nat} {a0 : Act} {w : World} (hm : P.follows .mixedOrders = true) (hlex : lexOk ops = true) (hon : onceB ops = true) (I : Env → World → Prop)
    (h0 : I (fun _ => none) { w with drawn := w.drawn + 1 })
    (hstep : ∀ (i : Nat) (o : Oper), ops[i]? = some o → ∀ (f : Env) (a : Act) (x : World), Over a0 f a → I f x →
      (∀ s, needsB ops o s = true → (f s).isSome = true) → (∀ d, o.dst = some d → f d = none) →
      Region.wanted o (yielded ops a.tmps) = true ∧ o.wp P a x (fun a' y => ∃ v, a' = a.put o.dst v ∧ Put I f o v y) Q)
    (hend : ∀ (f : Env) (a : Act) (x : World), Over a0 f a → I f x → (∀ (j : Nat) (o : Oper) (d : Nat), ops[j]? = some o → o.dst = some d → (f d).isSome = true) → Q .normal a x) :
    (Code.region id ops true).wp P Q a0 w := by
  refine wp_region_any hm ?_
  have key : ∀ (fuel : Nat) (listed : Array Bool) (f : Env) (a : Act) (x : World), listed.size = ops.size → (unlisted ops listed).length ≤ fuel → MidI ops I a0 f listed a x → wpAny P .any ops Q fuel listed a x := by
    intro fuel
    induction fuel with
    | zero =>
      intro listed f a x hz hu h
      have hnil : unlisted ops listed = [] := List.eq_nil_of_length_eq_zero (by omega)
      have hall : ∀ j, j < ops.size → listed.getD j true = true := fun j hj => by
        cases hl : listed.getD j true with
        | true => rfl
        | false =>
          have : j ∈ unlisted ops listed := List.mem_filter.2 ⟨List.mem_range.2 hj, by rw [hl]; rfl⟩
          rw [hnil] at this; cases this
      refine ⟨?_, hend f a x h.over h.inv (fun j o d ho hd => ?_)⟩
      · cases hr : Region.ready .any ops listed with
        | nil => rfl
        | cons j l =>
          have hj : j ∈ Region.ready .any ops listed := by rw [hr]; simp
          obtain ⟨h0, o, ho, _⟩ := mem_ready.1 hj
          have := hall j (Array.getElem?_eq_some_iff.1 ho).1
          rw [this] at h0; cases h0
      · have hj := (Array.getElem?_eq_some_iff.1 ho).1
        have h1 : listed.getD j false = true := by
          have := hall j hj
          have hs : j < listed.size := by omega
          simpa [hs] using this
        exact h.done j o d ho h1 hd
    | succ fuel ih =>
      intro listed f a x hz hu h
      refine ⟨fun hr => ?_, fun i hi => ?_⟩
      · have hall := all_listed hlex hz hr
        refine hend f a x h.over h.inv (fun j o d ho hd => ?_)
        have hj := (Array.getElem?_eq_some_iff.1 ho).1
        have h1 : listed.getD j false = true := by
          have := hall j hj
          have hs : j < listed.size := by omega
          simpa [hs] using this
        exact h.done j o d ho h1 hd
      · obtain ⟨h0, o, ho, haf⟩ := mem_ready.1 hi
        have hil := (Array.getElem?_eq_some_iff.1 ho).1
        have hif : listed.getD i false = false := by
          have hs : i < listed.size := by omega
          simpa [hs] using h0
        obtain ⟨hw, hwp⟩ := hstep i o ho f a x h.over h.inv (fun s hs => by
          obtain ⟨e, he, hb⟩ := List.any_eq_true.1 hs
          rw [Bool.and_eq_true] at hb
          have b2 := of_decide_eq_true hb.2
          cases hoj : ops[e.on]? with
          | none => rw [hoj] at b2; cases b2
          | some oj => rw [hoj] at b2; exact h.done e.on oj s hoj (haf e (by simpa using he) hb.1) b2) (fun d hd => by
          cases hf : f d with
          | none => rfl
          | some v =>
            obtain ⟨j, p, hj, hl, hp⟩ := h.from_ d (by rw [hf]; rfl)
            obtain rfl := once_spec hon ho hj hd hp
            rw [hif] at hl; cases hl)
        unfold wpOp
        simp only [ho, hw, if_true]
        refine .inl (Oper.wp_mono (fun a' y ⟨v, e1, f1⟩ => ?_) hwp)
        subst e1
        have hmem : i ∈ unlisted ops listed := List.mem_filter.2 ⟨List.mem_range.2 hil, by rw [h0]; rfl⟩
        refine ih (listed.setIfInBounds i true) (putE f o.dst v) _ y (by simp [hz]) ?_ ⟨h.over.put o.dst v, f1.get, fun j oj d hoj hl hd => ?_, fun d hd => ?_⟩
        · have hlt : (unlisted ops (listed.setIfInBounds i true)).length < (unlisted ops listed).length := by
            have hsub : unlisted ops (listed.setIfInBounds i true) = (unlisted ops listed).filter fun j => decide (j ≠ i) := by
              unfold unlisted
              rw [List.filter_filter]
              apply List.filter_congr
              intro j hj
              by_cases e : i = j
              · subst e
                have : i < listed.size := by omega
                simp [this]
              · rw [getD_set_ne true e]
                have e' : ¬ j = i := fun q => e q.symm
                simp [e']
            rw [hsub]
            exact List.length_filter_lt_length_iff_exists.2 ⟨i, hmem, by simp⟩
          omega
        · unfold putE
          by_cases e : o.dst = some d
          · rw [if_pos e]; rfl
          · rw [if_neg e]
            by_cases hji : i = j
            · subst hji
              rw [ho] at hoj
              cases hoj
              exact absurd hd e
            · rw [getD_set_ne false hji] at hl
              exact h.done j oj d hoj hl hd
        · unfold putE at hd
          by_cases e : o.dst = some d
          · refine ⟨i, o, ho, ?_, e⟩
            have hs : i < listed.size := by omega
            simp [hs]
          · rw [if_neg e] at hd
            obtain ⟨j, p, hj, hl, hp⟩ := h.from_ d hd
            refine ⟨j, p, hj, ?_, hp⟩
            by_cases hji : i = j
            · subst hji
              rw [hif] at hl; cases hl
            · rw [getD_set_ne false hji]; exact hl
  refine key ops.size (Array.replicate ops.size false) (fun _ => none) a0 _ (by simp) ?_ ⟨Over.start a0, h0, fun j o d _ hl _ => ?_, fun d hd => by cases hd⟩
  · exact Nat.le_trans (List.length_filter_le _ _) (by simp)
  · exfalso
    have : (Array.replicate ops.size false).getD j false = false := by
      simp only [Array.getD_eq_getD_getElem?, Array.getElem?_replicate]
      split <;> rfl
    rw [this] at hl; cases hl
end Go.Proofs.YthmnjebmnocoiaaGreat

/- gossip's Bytes: its drawn regions. -/
namespace Go.Proofs.YthmnjebmnocoiaaGreat
open Go.RowKit
structure After (D : List Nat) (a0 a : Act) : Prop where
  size : a.tmps.size = a0.tmps.size
  defers : a.defers = a0.defers
  old : ∀ s, s ∉ D → a.eval (.tmp s) = a0.eval (.tmp s)
theorem Over.after {D : List Nat} {a0 a : Act} {f : Env} (h : Over a0 f a) (ho : ∀ s, s ∉ D → f s = none) : After D a0 a := ⟨h.size, h.defers, fun s hs => h.old (ho s hs)⟩
theorem op_val {o : Oper} {a : Act} {x : World} {K : Act → World → Prop} {Q : Exit → Act → World → Prop} (v : Value) (h : (execOp a.eval o).run Tryz.prog x = .ok (.value v) x) (hK : K (a.put o.dst v) x) : o.wp Tryz.prog a x K Q := by
  unfold Oper.wp
  rw [h]
  exact hK
theorem und101 : Tryz.prog.underlying 101 = some (.slice 23) := by kernel_rfl
theorem und104 : Tryz.prog.underlying 104 = some (.slice 2) := by kernel_rfl
theorem bnf23 : ∃ i, Tryz.prog.info? 23 = some i ∧ i.zero = some (.int .u64 0) ∧ i.size = 1 := by
  have h1 : (Tryz.prog.info? 23).map (fun i => (i.zero, i.size)) = some (some (.int .u64 0), 1) := by kernel_rfl
  cases h : Tryz.prog.info? 23 with
  | none => simp [h] at h1
  | some i =>
    simp only [h, Option.map_some, Option.some.injEq, Prod.mk.injEq] at h1
    exact ⟨i, rfl, h1.1, h1.2⟩
theorem bnf2 : ∃ i, Tryz.prog.info? 2 = some i ∧ i.zero = some (.int .i64 0) ∧ i.size = 1 := by
  have h1 : (Tryz.prog.info? 2).map (fun i => (i.zero, i.size)) = some (some (.int .i64 0), 1) := by kernel_rfl
  cases h : Tryz.prog.info? 2 with
  | none => simp [h] at h1
  | some i =>
    simp only [h, Option.map_some, Option.some.injEq, Prod.mk.injEq] at h1
    exact ⟨i, rfl, h1.1, h1.2⟩
section
variable {o : Oper} {a : Act} {w : World} {K : Act → World → Prop} {Q : Exit → Act → World → Prop}
theorem op_nums1 (x : Operand) (n : Int) (ho : o.op = .buildSlice 101 1 #[(0, x)]) (e : a.eval x = .int .u64 n) (h : K (a.put o.dst (.slice (some ⟨w.heap.size, 0, none⟩) 1 1)) (w.alloc (.cells #[.int .u64 n] 23))) : o.wp Tryz.prog a w K Q := by
  obtain ⟨i, hi, hz, hs⟩ := bnf23
  refine wp_buildSlice 101 23 1 _ ho #[.int .u64 n] i _ und101 hi hz (by rw [hs]; decide) (by rw [hs]; decide) ?_ h
  rw [hs]
  simp [Instr.fill, e, Value.cells]
  apply Array.ext
  · simp
  · intro j h1 h2
    have : j = 0 := by simp at h2; omega
    subst this
    simp
theorem op_ints1 (x : Operand) (n : Int) (ho : o.op = .buildSlice 104 1 #[(0, x)]) (e : a.eval x = .int .i64 n) (h : K (a.put o.dst (.slice (some ⟨w.heap.size, 0, none⟩) 1 1)) (w.alloc (.cells #[.int .i64 n] 2))) : o.wp Tryz.prog a w K Q := by
  obtain ⟨i, hi, hz, hs⟩ := bnf2
  refine wp_buildSlice 104 2 1 _ ho #[.int .i64 n] i _ und104 hi hz (by rw [hs]; decide) (by rw [hs]; decide) ?_ h
  rw [hs]
  simp [Instr.fill, e, Value.cells]
  apply Array.ext
  · simp
  · intro j h1 h2
    have : j = 0 := by simp at h2; omega
    subst this
    simp
theorem op_ints2 (x y : Operand) (n m : Int) (ho : o.op = .buildSlice 104 2 #[(0, x), (1, y)]) (e : a.eval x = .int .i64 n) (e' : a.eval y = .int .i64 m) (h : K (a.put o.dst (.slice (some ⟨w.heap.size, 0, none⟩) 2 2)) (w.alloc (.cells #[.int .i64 n, .int .i64 m] 2))) : o.wp Tryz.prog a w K Q := by
  obtain ⟨i, hi, hz, hs⟩ := bnf2
  refine wp_buildSlice 104 2 2 _ ho #[.int .i64 n, .int .i64 m] i _ und104 hi hz (by rw [hs]; decide) (by rw [hs]; decide) ?_ h
  rw [hs]
  simp [Instr.fill, e, e', Value.cells]
  apply Array.ext
  · simp
  · intro j h1 h2
    have : j = 0 ∨ j = 1 := by simp at h2; omega
    rcases this with rfl | rfl <;> simp
theorem op_fa (ty : TypeId) (x : Operand) (k g : Nat) (ho : o.op = .fieldAddr ty x k) (e : a.eval x = .pointer (some ⟨g, 0, none⟩)) (hr : ∀ w, (Instr.fieldAt ty (.pointer (some ⟨g, 0, none⟩)) k).run Tryz.prog w = .ok (.pointer (some ⟨g, k, none⟩)) w) (h : K (a.put o.dst (.pointer (some ⟨g, k, none⟩))) w) : o.wp Tryz.prog a w K Q := by
  refine op_val _ ?_ h
  unfold execOp
  simp only [ho, e, Sem.run_bind, hr, Sem.run_pure, Result.andThen_ok]
theorem op_loadc (t : TypeId) (x : Operand) (ho : o.op = .load t x) (ht : ∀ w, (isAgg t).run Tryz.prog w = .ok false w) (g k : Nat) (e : a.eval x = .pointer (some ⟨g, k, none⟩)) (v : Value) (hc : w.cell? ⟨g, k, none⟩ = some v) (h : K (a.put o.dst v) w) : o.wp Tryz.prog a w K Q := by
  refine op_val v ?_ h
  unfold execOp
  simp only [ho, e, Instr.loadAt, Instr.sureAddr, Sem.run_bind, Sem.run_pure, Result.andThen_ok, loadVar, ht]
  simp [hc]
end
theorem noagg3 (w : World) : (isAgg 3).run Tryz.prog w = .ok false w := by kernel_rfl
theorem noagg23 (w : World) : (isAgg 23).run Tryz.prog w = .ok false w := by kernel_rfl

theorem zig_len (n : Int) (h : I64 n) : (Pk.numL (Pk.zig n)).length ≤ 10 := Pk.numL_len10 _ (Pk.zig_lt n ⟨h.1, by have := h.2; omega⟩)
theorem ints_len1 (n : Int) (h : I64 n) : ([n].flatMap fun x => Pk.numL (Pk.zig x)).length ≤ 10 := by simpa using zig_len n h
theorem ints_len2 (n m : Int) (h : I64 n) (h' : I64 m) : ([n, m].flatMap fun x => Pk.numL (Pk.zig x)).length ≤ 20 := by
  have a := zig_len n h
  have b := zig_len m h'
  simp; omega
def b7 : Array Oper := #[⟨some 24, .fieldAddr 53 (.tmp 5) 0, 0, "bytes.go:17", #[], none⟩, ⟨some 25, .load 3 (.tmp 24), 3, "bytes.go:17", #[⟨0, .data⟩], none⟩, ⟨some 26, .fieldAddr 53 (.tmp 5) 1, 0, "bytes.go:17", #[], none⟩, ⟨some 27, .load 3 (.tmp 26), 3, "bytes.go:17", #[⟨2, .data⟩], none⟩, ⟨some 28, .buildSlice 104 2 #[(0, .tmp 25), (1, .tmp 27)], 104, "bytes.go:17", #[⟨1, .data⟩, ⟨3, .data⟩], none⟩, ⟨some 29, .call ⟨.value (.func 49), #[.tmp 3, .tmp 28], #[72, 104]⟩, 73, "bytes.go:17", #[⟨4, .data⟩], none⟩, ⟨some 30, .fieldAddr 53 (.tmp 5) 2, 0, "bytes.go:17", #[], none⟩, ⟨some 31, .load 23 (.tmp 30), 23, "bytes.go:17", #[⟨6, .data⟩], none⟩, ⟨some 32, .buildSlice 101 1 #[(0, .tmp 31)], 101, "bytes.go:17", #[⟨7, .data⟩], none⟩, ⟨some 33, .call ⟨.value (.func 48), #[.tmp 29, .tmp 32], #[73, 101]⟩, 73, "bytes.go:17", #[⟨5, .data⟩, ⟨8, .data⟩, ⟨5, .chain⟩], none⟩]
theorem brun7_24 (g : Nat) (w : World) : (Instr.fieldAt 53 (.pointer (some ⟨g, 0, none⟩)) 0).run Tryz.prog w = .ok (.pointer (some ⟨g, 0, none⟩)) w := by kernel_rfl
theorem brun7_26 (g : Nat) (w : World) : (Instr.fieldAt 53 (.pointer (some ⟨g, 0, none⟩)) 1).run Tryz.prog w = .ok (.pointer (some ⟨g, 1, none⟩)) w := by kernel_rfl
theorem brun7_30 (g : Nat) (w : World) : (Instr.fieldAt 53 (.pointer (some ⟨g, 0, none⟩)) 2).run Tryz.prog w = .ok (.pointer (some ⟨g, 2, none⟩)) w := by kernel_rfl
def bF7 (g B : Nat) (m : Mb) (s : Nat) (v : Value) (x : World) : Prop := match s with | 24 => v = .pointer (some ⟨g, 0, none⟩) | 25 => v = .int .i64 m.1 | 26 => v = .pointer (some ⟨g, 1, none⟩) | 27 => v = .int .i64 m.2.1 | 28 => ∃ q, v = .slice (some ⟨q, 0, none⟩) 2 2 ∧ q ≠ B ∧ Holds x q [.int .i64 m.1, .int .i64 m.2.1] 2 | 29 => v = .pointer (some ⟨B, 0, none⟩) | 30 => v = .pointer (some ⟨g, 2, none⟩) | 31 => v = .int .u64 (m.2.2 : Int) | 32 => ∃ q, v = .slice (some ⟨q, 0, none⟩) 1 1 ∧ q ≠ B ∧ Holds x q [.int .u64 (m.2.2 : Int)] 23 | 33 => v = .pointer (some ⟨B, 0, none⟩) | _ => True
theorem bF7_up {g B : Nat} {m : Mb} {s : Nat} {v : Value} {x y : World} (h : bF7 g B m s v x) (hu : Pk.WUpd B x y) : bF7 g B m s v y := by
  unfold bF7 at h ⊢
  split at h <;> first | exact h | (obtain ⟨q, e, hne, H⟩ := h; exact ⟨q, e, hne, H.wupd hu hne (by decide)⟩)
def bJ7 (m : Mb) (f : Env) : List UInt8 := (if (f 29).isSome then ([m.1, m.2.1].flatMap fun x => Pk.numL (Pk.zig x)) else []) ++ (if (f 33).isSome then ([m.2.2].flatMap Pk.numL) else [])
structure bI7 (g B : Nat) (m : Mb) (bs : List UInt8) (w : World) (f : Env) (x : World) : Prop where
  out : ∀ s, s ∉ [24, 25, 26, 27, 28, 29, 30, 31, 32, 33] → f s = none
  fact : ∀ s v, f s = some v → bF7 g B m s v x
  wr : Pk.Wr x B (bs ++ bJ7 m f)
  chain : (f 33).isSome = true → (f 29).isSome = true
  upd : Pk.WUpd B w x
theorem bI7.put {g B : Nat} {m : Mb} {bs : List UInt8} {w : World} {f : Env} {x y : World} (h : bI7 g B m bs w f x) {d : Nat} (hd : d ∈ [24, 25, 26, 27, 28, 29, 30, 31, 32, 33]) (h1 : d ≠ 29) (h2 : d ≠ 33) {v : Value} (hxy : Below x.heap.size x y) (hv : bF7 g B m d v y) : bI7 g B m bs w (putE f (some d) v) y := by
  have hB := h.wr.lt
  have hu : Pk.WUpd B x y := Pk.WUpd.ofBelow (by omega) hxy
  have e1 : putE f (some d) v 29 = f 29 := by unfold putE; rw [if_neg (fun q => h1 (Option.some.inj q))]
  have e2 : putE f (some d) v 33 = f 33 := by unfold putE; rw [if_neg (fun q => h2 (Option.some.inj q))]
  refine ⟨fun s hs => ?_, fun s u hs => ?_, ?_, ?_, h.upd.trans hu⟩
  · unfold putE
    rw [if_neg (fun q => hs (by rw [← Option.some.inj q]; exact hd))]
    exact h.out s hs
  · unfold putE at hs
    by_cases e : some d = some s
    · rw [if_pos e] at hs
      cases hs
      cases e
      exact hv
    · rw [if_neg e] at hs
      exact bF7_up (h.fact s u hs) hu
  · have : bJ7 m (putE f (some d) v) = bJ7 m f := by unfold bJ7; rw [e1, e2]
    rw [this]
    exact h.wr.below hxy
  · rw [e1, e2]; exact h.chain
set_option maxRecDepth 100000 in
set_option maxHeartbeats 4000000 in
theorem br7 {Q : Exit → Act → World → Prop} {a0 : Act} {w : World} (hz : a0.tmps.size = 50) (g B : Nat) (m : Mb) (bs : List UInt8) (eb : a0.eval (.tmp 5) = .pointer (some ⟨g, 0, none⟩)) (e3 : a0.eval (.tmp 3) = .pointer (some ⟨B, 0, none⟩)) (hg : Holds w g (mbV m) 53) (hne : g ≠ B) (hW : Pk.Wr w B bs) (hf : I64 m.1 ∧ I64 m.2.1 ∧ m.2.2 < 18446744073709551616) (hl : bs.length + 100 ≤ 140737488355328)
    (hend : ∀ a x, After [24, 25, 26, 27, 28, 29, 30, 31, 32, 33] a0 a → Pk.Wr x B (bs ++ (([m.1, m.2.1].flatMap fun x => Pk.numL (Pk.zig x)) ++ ([m.2.2].flatMap Pk.numL))) → Pk.WUpd B w x → Q .normal a x) : (Code.region 7 b7 true).wp Tryz.prog Q a0 w := by
  refine region_inv (by kernel_rfl) (by kernel_rfl) (by kernel_rfl) (bI7 g B m bs w) ?_ ?_ ?_
  · refine ⟨fun _ _ => rfl, (fun _ _ h => nomatch h), ?_, (fun h => nomatch h), ?_⟩
    · show Pk.Wr _ B (bs ++ [])
      rw [List.append_nil]
      exact hW.below (Gr.drew w)
    · exact Pk.WUpd.ofBelow (Nat.le_of_lt hW.lt) (Gr.drew w)
  · intro i o ho f a x hov hI hdep hnone
    have hcell : ∀ j v, (mbV m)[j]? = some v → x.cell? ⟨g, j, none⟩ = some v := fun j v hv => (hg.wupd hI.upd hne (by decide)).at j v hv
    have old : ∀ s, s ∉ [24, 25, 26, 27, 28, 29, 30, 31, 32, 33] → a.eval (.tmp s) = a0.eval (.tmp s) := fun s hs => hov.old (hI.out s hs)
    have got : ∀ s, s < 50 → (f s).isSome = true → bF7 g B m s (a.eval (.tmp s)) x := fun s hs h => by
      obtain ⟨v, hv⟩ := Option.isSome_iff_exists.1 h
      rw [hov.get (by rw [hz]; exact hs) hv]
      exact hI.fact s v hv
    have hi : i < 10 := (Array.getElem?_eq_some_iff.1 ho).1
    match i, hi, ho with
    | 0, _, ho =>
      cases ho
      exact ⟨wanted_none rfl _, op_fa 53 (.tmp 5) 0 g rfl ((old 5 (by decide)).trans eb) (brun7_24 g) ⟨_, rfl, put_of 24 rfl (hI.put (by decide) (by decide) (by decide) (Below.refl _ _) rfl)⟩⟩
    | 1, _, ho =>
      cases ho
      have e1 : a.eval (.tmp 24) = .pointer (some ⟨g, 0, none⟩) := got 24 (by decide) (hdep 24 (by kernel_rfl))
      exact ⟨wanted_none rfl _, op_loadc 3 (.tmp 24) rfl noagg3 g 0 e1 _ (hcell 0 _ rfl) ⟨_, rfl, put_of 25 rfl (hI.put (by decide) (by decide) (by decide) (Below.refl _ _) rfl)⟩⟩
    | 2, _, ho =>
      cases ho
      exact ⟨wanted_none rfl _, op_fa 53 (.tmp 5) 1 g rfl ((old 5 (by decide)).trans eb) (brun7_26 g) ⟨_, rfl, put_of 26 rfl (hI.put (by decide) (by decide) (by decide) (Below.refl _ _) rfl)⟩⟩
    | 3, _, ho =>
      cases ho
      have e1 : a.eval (.tmp 26) = .pointer (some ⟨g, 1, none⟩) := got 26 (by decide) (hdep 26 (by kernel_rfl))
      exact ⟨wanted_none rfl _, op_loadc 3 (.tmp 26) rfl noagg3 g 1 e1 _ (hcell 1 _ rfl) ⟨_, rfl, put_of 27 rfl (hI.put (by decide) (by decide) (by decide) (Below.refl _ _) rfl)⟩⟩
    | 4, _, ho =>
      cases ho
      have e0 : a.eval (.tmp 25) = .int .i64 m.1 := got 25 (by decide) (hdep 25 (by kernel_rfl))
      have e1 : a.eval (.tmp 27) = .int .i64 m.2.1 := got 27 (by decide) (hdep 27 (by kernel_rfl))
      refine ⟨wanted_none rfl _, op_ints2 (.tmp 25) (.tmp 27) _ _ rfl e0 e1 ⟨_, rfl, put_of 28 rfl (hI.put (by decide) (by decide) (by decide) ((Below.refl _ _).alloc (Nat.le_refl _) _) ⟨x.heap.size, rfl, ?_, holds_new x [.int .i64 m.1, .int .i64 m.2.1] 2⟩)⟩⟩
      have := hI.wr.lt; omega
    | 5, _, ho =>
      cases ho
      obtain ⟨q, eq, hqB, Hq⟩ : ∃ q, a.eval (.tmp 28) = .slice (some ⟨q, 0, none⟩) 2 2 ∧ q ≠ B ∧ Holds x q [.int .i64 m.1, .int .i64 m.2.1] 2 := got 28 (by decide) (hdep 28 (by kernel_rfl))
      have n1 : f 29 = none := hnone 29 rfl
      have n2 : f 33 = none := by
        cases hq : f 33 with
        | none => rfl
        | some v => have := hI.chain (by rw [hq]; rfl); rw [n1] at this; cases this
      have ew : a.eval (.tmp 3) = .pointer (some ⟨B, 0, none⟩) := (old 3 (by decide)).trans e3
      have hJ : bJ7 m f = [] := by unfold bJ7; rw [n1, n2]; rfl
      have hWx : Pk.Wr x B bs := by have := hI.wr; rw [hJ, List.append_nil] at this; exact this
      have hc := Pk.wints_any B bs [m.1, m.2.1] (fun x hx => by simp at hx; rcases hx with rfl | rfl; exact ⟨hf.1.1, by have := hf.1.2; omega⟩; exact ⟨hf.2.1.1, by have := hf.2.1.2; omega⟩) q 0 2 x hWx ⟨Hq.lt, .inr ⟨hqB, Hq.notByte (by decide)⟩⟩ (fun i x hx => by match i, hx with | 0, hx => (cases hx; exact Hq.at 0 _ rfl) | 1, hx => (cases hx; exact Hq.at 1 _ rfl) | i + 2, hx => simp at hx) (by have := ints_len2 m.1 m.2.1 hf.1 hf.2.1; omega) (by simp)
      refine ⟨wanted_none rfl _, op_call 49 _ _ rfl #[.pointer (some ⟨B, 0, none⟩), .slice (some ⟨q, 0, none⟩) 2 2] (by simp [ew, eq]) (enters_of Tryz.func49 (by kernel_rfl) rfl) (hc.mono fun e y ⟨h1, h2, h3⟩ => ⟨_, h1, _, rfl, put_of 29 rfl ?_⟩)⟩
      have p1 : putE f (some 29) (.pointer (some ⟨B, 0, none⟩)) 29 = some (.pointer (some ⟨B, 0, none⟩)) := rfl
      have p2 : putE f (some 29) (.pointer (some ⟨B, 0, none⟩)) 33 = none := n2
      refine ⟨fun s hs => ?_, fun s u hs => ?_, ?_, fun h => ?_, hI.upd.trans h3⟩
      · unfold putE; rw [if_neg (fun q => hs (by rw [← Option.some.inj q]; decide))]; exact hI.out s hs
      · unfold putE at hs; split at hs
        · rename_i e; cases e; cases hs; rfl
        · exact bF7_up (hI.fact s u hs) h3
      · unfold bJ7
        rw [p1, p2]
        have := h2
        simpa using this
      · rw [p1]; rfl
    | 6, _, ho =>
      cases ho
      exact ⟨wanted_none rfl _, op_fa 53 (.tmp 5) 2 g rfl ((old 5 (by decide)).trans eb) (brun7_30 g) ⟨_, rfl, put_of 30 rfl (hI.put (by decide) (by decide) (by decide) (Below.refl _ _) rfl)⟩⟩
    | 7, _, ho =>
      cases ho
      have e1 : a.eval (.tmp 30) = .pointer (some ⟨g, 2, none⟩) := got 30 (by decide) (hdep 30 (by kernel_rfl))
      exact ⟨wanted_none rfl _, op_loadc 23 (.tmp 30) rfl noagg23 g 2 e1 _ (hcell 2 _ rfl) ⟨_, rfl, put_of 31 rfl (hI.put (by decide) (by decide) (by decide) (Below.refl _ _) rfl)⟩⟩
    | 8, _, ho =>
      cases ho
      have e0 : a.eval (.tmp 31) = .int .u64 (m.2.2 : Int) := got 31 (by decide) (hdep 31 (by kernel_rfl))
      refine ⟨wanted_none rfl _, op_nums1 (.tmp 31) _ rfl e0 ⟨_, rfl, put_of 32 rfl (hI.put (by decide) (by decide) (by decide) ((Below.refl _ _).alloc (Nat.le_refl _) _) ⟨x.heap.size, rfl, ?_, holds_new x [.int .u64 (m.2.2 : Int)] 23⟩)⟩⟩
      have := hI.wr.lt; omega
    | 9, _, ho =>
      cases ho
      obtain ⟨q, eq, hqB, Hq⟩ : ∃ q, a.eval (.tmp 32) = .slice (some ⟨q, 0, none⟩) 1 1 ∧ q ≠ B ∧ Holds x q [.int .u64 (m.2.2 : Int)] 23 := got 32 (by decide) (hdep 32 (by kernel_rfl))
      have n2 : f 33 = none := hnone 33 rfl
      have n1 : (f 29).isSome = true := hdep 29 (by kernel_rfl)
      have ew : a.eval (.tmp 29) = .pointer (some ⟨B, 0, none⟩) := got 29 (by decide) n1
      have hJ : bJ7 m f = ([m.1, m.2.1].flatMap fun x => Pk.numL (Pk.zig x)) := by unfold bJ7; rw [n1, n2]; simp
      have hWx : Pk.Wr x B (bs ++ ([m.1, m.2.1].flatMap fun x => Pk.numL (Pk.zig x))) := by have := hI.wr; rw [hJ] at this; exact this
      have hc := Pk.wnums_any B (bs ++ ([m.1, m.2.1].flatMap fun x => Pk.numL (Pk.zig x))) [m.2.2] (fun x hx => by simp at hx; subst hx; exact hf.2.2) q 0 1 x hWx ⟨Hq.lt, .inr ⟨hqB, Hq.notByte (by decide)⟩⟩ (fun i x hx => by match i, hx with | 0, hx => (cases hx; exact Hq.at 0 _ rfl) | i + 1, hx => simp at hx) (by have := And.intro (ints_len2 m.1 m.2.1 hf.1 hf.2.1) (show ([m.2.2].flatMap Pk.numL).length ≤ 10 by simpa using Pk.numL_len10 _ hf.2.2); rw [List.length_append]; omega) (by simp)
      refine ⟨wanted_none rfl _, op_call 48 _ _ rfl #[.pointer (some ⟨B, 0, none⟩), .slice (some ⟨q, 0, none⟩) 1 1] (by simp [ew, eq]) (enters_of Tryz.func48 (by kernel_rfl) rfl) (hc.mono fun e y ⟨h1, h2, h3⟩ => ⟨_, h1, _, rfl, put_of 33 rfl ?_⟩)⟩
      have p1 : (putE f (some 33) (.pointer (some ⟨B, 0, none⟩)) 29).isSome = true := n1
      have p2 : putE f (some 33) (.pointer (some ⟨B, 0, none⟩)) 33 = some (.pointer (some ⟨B, 0, none⟩)) := rfl
      refine ⟨fun s hs => ?_, fun s u hs => ?_, ?_, fun _ => p1, hI.upd.trans h3⟩
      · unfold putE; rw [if_neg (fun q => hs (by rw [← Option.some.inj q]; decide))]; exact hI.out s hs
      · unfold putE at hs; split at hs
        · rename_i e; cases e; cases hs; rfl
        · exact bF7_up (hI.fact s u hs) h3
      · unfold bJ7
        rw [p1, p2]
        have := h2
        simpa using this
  · intro f a x hov hI hall
    have n1 := hall 5 _ 29 rfl rfl
    have n2 := hall 9 _ 33 rfl rfl
    have hW' := hI.wr
    unfold bJ7 at hW'
    rw [n1, n2] at hW'
    exact hend a x (hov.after hI.out) (by simpa using hW') hI.upd
def b12 : Array Oper := #[⟨some 40, .fieldAddr 25 (.tmp 7) 0, 0, "bytes.go:20", #[], none⟩, ⟨some 41, .load 3 (.tmp 40), 3, "bytes.go:20", #[⟨0, .data⟩], none⟩, ⟨some 42, .buildSlice 104 1 #[(0, .tmp 41)], 104, "bytes.go:20", #[⟨1, .data⟩], none⟩, ⟨some 43, .call ⟨.value (.func 49), #[.tmp 3, .tmp 42], #[72, 104]⟩, 73, "bytes.go:20", #[⟨2, .data⟩], none⟩, ⟨some 44, .fieldAddr 25 (.tmp 7) 1, 0, "bytes.go:20", #[], none⟩, ⟨some 45, .load 23 (.tmp 44), 23, "bytes.go:20", #[⟨4, .data⟩], none⟩, ⟨some 46, .buildSlice 101 1 #[(0, .tmp 45)], 101, "bytes.go:20", #[⟨5, .data⟩], none⟩, ⟨some 47, .call ⟨.value (.func 48), #[.tmp 43, .tmp 46], #[73, 101]⟩, 73, "bytes.go:20", #[⟨3, .data⟩, ⟨6, .data⟩, ⟨3, .chain⟩], none⟩]
theorem brun12_40 (g : Nat) (w : World) : (Instr.fieldAt 25 (.pointer (some ⟨g, 0, none⟩)) 0).run Tryz.prog w = .ok (.pointer (some ⟨g, 0, none⟩)) w := by kernel_rfl
theorem brun12_44 (g : Nat) (w : World) : (Instr.fieldAt 25 (.pointer (some ⟨g, 0, none⟩)) 1).run Tryz.prog w = .ok (.pointer (some ⟨g, 1, none⟩)) w := by kernel_rfl
def bF12 (g B : Nat) (m : Ow) (s : Nat) (v : Value) (x : World) : Prop := match s with | 40 => v = .pointer (some ⟨g, 0, none⟩) | 41 => v = .int .i64 m.1 | 42 => ∃ q, v = .slice (some ⟨q, 0, none⟩) 1 1 ∧ q ≠ B ∧ Holds x q [.int .i64 m.1] 2 | 43 => v = .pointer (some ⟨B, 0, none⟩) | 44 => v = .pointer (some ⟨g, 1, none⟩) | 45 => v = .int .u64 (m.2 : Int) | 46 => ∃ q, v = .slice (some ⟨q, 0, none⟩) 1 1 ∧ q ≠ B ∧ Holds x q [.int .u64 (m.2 : Int)] 23 | 47 => v = .pointer (some ⟨B, 0, none⟩) | _ => True
theorem bF12_up {g B : Nat} {m : Ow} {s : Nat} {v : Value} {x y : World} (h : bF12 g B m s v x) (hu : Pk.WUpd B x y) : bF12 g B m s v y := by
  unfold bF12 at h ⊢
  split at h <;> first | exact h | (obtain ⟨q, e, hne, H⟩ := h; exact ⟨q, e, hne, H.wupd hu hne (by decide)⟩)
def bJ12 (m : Ow) (f : Env) : List UInt8 := (if (f 43).isSome then ([m.1].flatMap fun x => Pk.numL (Pk.zig x)) else []) ++ (if (f 47).isSome then ([m.2].flatMap Pk.numL) else [])
structure bI12 (g B : Nat) (m : Ow) (bs : List UInt8) (w : World) (f : Env) (x : World) : Prop where
  out : ∀ s, s ∉ [40, 41, 42, 43, 44, 45, 46, 47] → f s = none
  fact : ∀ s v, f s = some v → bF12 g B m s v x
  wr : Pk.Wr x B (bs ++ bJ12 m f)
  chain : (f 47).isSome = true → (f 43).isSome = true
  upd : Pk.WUpd B w x
theorem bI12.put {g B : Nat} {m : Ow} {bs : List UInt8} {w : World} {f : Env} {x y : World} (h : bI12 g B m bs w f x) {d : Nat} (hd : d ∈ [40, 41, 42, 43, 44, 45, 46, 47]) (h1 : d ≠ 43) (h2 : d ≠ 47) {v : Value} (hxy : Below x.heap.size x y) (hv : bF12 g B m d v y) : bI12 g B m bs w (putE f (some d) v) y := by
  have hB := h.wr.lt
  have hu : Pk.WUpd B x y := Pk.WUpd.ofBelow (by omega) hxy
  have e1 : putE f (some d) v 43 = f 43 := by unfold putE; rw [if_neg (fun q => h1 (Option.some.inj q))]
  have e2 : putE f (some d) v 47 = f 47 := by unfold putE; rw [if_neg (fun q => h2 (Option.some.inj q))]
  refine ⟨fun s hs => ?_, fun s u hs => ?_, ?_, ?_, h.upd.trans hu⟩
  · unfold putE
    rw [if_neg (fun q => hs (by rw [← Option.some.inj q]; exact hd))]
    exact h.out s hs
  · unfold putE at hs
    by_cases e : some d = some s
    · rw [if_pos e] at hs
      cases hs
      cases e
      exact hv
    · rw [if_neg e] at hs
      exact bF12_up (h.fact s u hs) hu
  · have : bJ12 m (putE f (some d) v) = bJ12 m f := by unfold bJ12; rw [e1, e2]
    rw [this]
    exact h.wr.below hxy
  · rw [e1, e2]; exact h.chain
set_option maxRecDepth 100000 in
set_option maxHeartbeats 4000000 in
theorem br12 {Q : Exit → Act → World → Prop} {a0 : Act} {w : World} (hz : a0.tmps.size = 50) (g B : Nat) (m : Ow) (bs : List UInt8) (eb : a0.eval (.tmp 7) = .pointer (some ⟨g, 0, none⟩)) (e3 : a0.eval (.tmp 3) = .pointer (some ⟨B, 0, none⟩)) (hg : Holds w g (owV m) 25) (hne : g ≠ B) (hW : Pk.Wr w B bs) (hf : I64 m.1 ∧ m.2 < 18446744073709551616) (hl : bs.length + 100 ≤ 140737488355328)
    (hend : ∀ a x, After [40, 41, 42, 43, 44, 45, 46, 47] a0 a → Pk.Wr x B (bs ++ (([m.1].flatMap fun x => Pk.numL (Pk.zig x)) ++ ([m.2].flatMap Pk.numL))) → Pk.WUpd B w x → Q .normal a x) : (Code.region 12 b12 true).wp Tryz.prog Q a0 w := by
  refine region_inv (by kernel_rfl) (by kernel_rfl) (by kernel_rfl) (bI12 g B m bs w) ?_ ?_ ?_
  · refine ⟨fun _ _ => rfl, (fun _ _ h => nomatch h), ?_, (fun h => nomatch h), ?_⟩
    · show Pk.Wr _ B (bs ++ [])
      rw [List.append_nil]
      exact hW.below (Gr.drew w)
    · exact Pk.WUpd.ofBelow (Nat.le_of_lt hW.lt) (Gr.drew w)
  · intro i o ho f a x hov hI hdep hnone
    have hcell : ∀ j v, (owV m)[j]? = some v → x.cell? ⟨g, j, none⟩ = some v := fun j v hv => (hg.wupd hI.upd hne (by decide)).at j v hv
    have old : ∀ s, s ∉ [40, 41, 42, 43, 44, 45, 46, 47] → a.eval (.tmp s) = a0.eval (.tmp s) := fun s hs => hov.old (hI.out s hs)
    have got : ∀ s, s < 50 → (f s).isSome = true → bF12 g B m s (a.eval (.tmp s)) x := fun s hs h => by
      obtain ⟨v, hv⟩ := Option.isSome_iff_exists.1 h
      rw [hov.get (by rw [hz]; exact hs) hv]
      exact hI.fact s v hv
    have hi : i < 8 := (Array.getElem?_eq_some_iff.1 ho).1
    match i, hi, ho with
    | 0, _, ho =>
      cases ho
      exact ⟨wanted_none rfl _, op_fa 25 (.tmp 7) 0 g rfl ((old 7 (by decide)).trans eb) (brun12_40 g) ⟨_, rfl, put_of 40 rfl (hI.put (by decide) (by decide) (by decide) (Below.refl _ _) rfl)⟩⟩
    | 1, _, ho =>
      cases ho
      have e1 : a.eval (.tmp 40) = .pointer (some ⟨g, 0, none⟩) := got 40 (by decide) (hdep 40 (by kernel_rfl))
      exact ⟨wanted_none rfl _, op_loadc 3 (.tmp 40) rfl noagg3 g 0 e1 _ (hcell 0 _ rfl) ⟨_, rfl, put_of 41 rfl (hI.put (by decide) (by decide) (by decide) (Below.refl _ _) rfl)⟩⟩
    | 2, _, ho =>
      cases ho
      have e0 : a.eval (.tmp 41) = .int .i64 m.1 := got 41 (by decide) (hdep 41 (by kernel_rfl))
      refine ⟨wanted_none rfl _, op_ints1 (.tmp 41) _ rfl e0 ⟨_, rfl, put_of 42 rfl (hI.put (by decide) (by decide) (by decide) ((Below.refl _ _).alloc (Nat.le_refl _) _) ⟨x.heap.size, rfl, ?_, holds_new x [.int .i64 m.1] 2⟩)⟩⟩
      have := hI.wr.lt; omega
    | 3, _, ho =>
      cases ho
      obtain ⟨q, eq, hqB, Hq⟩ : ∃ q, a.eval (.tmp 42) = .slice (some ⟨q, 0, none⟩) 1 1 ∧ q ≠ B ∧ Holds x q [.int .i64 m.1] 2 := got 42 (by decide) (hdep 42 (by kernel_rfl))
      have n1 : f 43 = none := hnone 43 rfl
      have n2 : f 47 = none := by
        cases hq : f 47 with
        | none => rfl
        | some v => have := hI.chain (by rw [hq]; rfl); rw [n1] at this; cases this
      have ew : a.eval (.tmp 3) = .pointer (some ⟨B, 0, none⟩) := (old 3 (by decide)).trans e3
      have hJ : bJ12 m f = [] := by unfold bJ12; rw [n1, n2]; rfl
      have hWx : Pk.Wr x B bs := by have := hI.wr; rw [hJ, List.append_nil] at this; exact this
      have hc := Pk.wints_any B bs [m.1] (fun x hx => by simp at hx; subst hx; exact ⟨hf.1.1, by have := hf.1.2; omega⟩) q 0 1 x hWx ⟨Hq.lt, .inr ⟨hqB, Hq.notByte (by decide)⟩⟩ (fun i x hx => by match i, hx with | 0, hx => (cases hx; exact Hq.at 0 _ rfl) | i + 1, hx => simp at hx) (by have := ints_len1 m.1 hf.1; omega) (by simp)
      refine ⟨wanted_none rfl _, op_call 49 _ _ rfl #[.pointer (some ⟨B, 0, none⟩), .slice (some ⟨q, 0, none⟩) 1 1] (by simp [ew, eq]) (enters_of Tryz.func49 (by kernel_rfl) rfl) (hc.mono fun e y ⟨h1, h2, h3⟩ => ⟨_, h1, _, rfl, put_of 43 rfl ?_⟩)⟩
      have p1 : putE f (some 43) (.pointer (some ⟨B, 0, none⟩)) 43 = some (.pointer (some ⟨B, 0, none⟩)) := rfl
      have p2 : putE f (some 43) (.pointer (some ⟨B, 0, none⟩)) 47 = none := n2
      refine ⟨fun s hs => ?_, fun s u hs => ?_, ?_, fun h => ?_, hI.upd.trans h3⟩
      · unfold putE; rw [if_neg (fun q => hs (by rw [← Option.some.inj q]; decide))]; exact hI.out s hs
      · unfold putE at hs; split at hs
        · rename_i e; cases e; cases hs; rfl
        · exact bF12_up (hI.fact s u hs) h3
      · unfold bJ12
        rw [p1, p2]
        have := h2
        simpa using this
      · rw [p1]; rfl
    | 4, _, ho =>
      cases ho
      exact ⟨wanted_none rfl _, op_fa 25 (.tmp 7) 1 g rfl ((old 7 (by decide)).trans eb) (brun12_44 g) ⟨_, rfl, put_of 44 rfl (hI.put (by decide) (by decide) (by decide) (Below.refl _ _) rfl)⟩⟩
    | 5, _, ho =>
      cases ho
      have e1 : a.eval (.tmp 44) = .pointer (some ⟨g, 1, none⟩) := got 44 (by decide) (hdep 44 (by kernel_rfl))
      exact ⟨wanted_none rfl _, op_loadc 23 (.tmp 44) rfl noagg23 g 1 e1 _ (hcell 1 _ rfl) ⟨_, rfl, put_of 45 rfl (hI.put (by decide) (by decide) (by decide) (Below.refl _ _) rfl)⟩⟩
    | 6, _, ho =>
      cases ho
      have e0 : a.eval (.tmp 45) = .int .u64 (m.2 : Int) := got 45 (by decide) (hdep 45 (by kernel_rfl))
      refine ⟨wanted_none rfl _, op_nums1 (.tmp 45) _ rfl e0 ⟨_, rfl, put_of 46 rfl (hI.put (by decide) (by decide) (by decide) ((Below.refl _ _).alloc (Nat.le_refl _) _) ⟨x.heap.size, rfl, ?_, holds_new x [.int .u64 (m.2 : Int)] 23⟩)⟩⟩
      have := hI.wr.lt; omega
    | 7, _, ho =>
      cases ho
      obtain ⟨q, eq, hqB, Hq⟩ : ∃ q, a.eval (.tmp 46) = .slice (some ⟨q, 0, none⟩) 1 1 ∧ q ≠ B ∧ Holds x q [.int .u64 (m.2 : Int)] 23 := got 46 (by decide) (hdep 46 (by kernel_rfl))
      have n2 : f 47 = none := hnone 47 rfl
      have n1 : (f 43).isSome = true := hdep 43 (by kernel_rfl)
      have ew : a.eval (.tmp 43) = .pointer (some ⟨B, 0, none⟩) := got 43 (by decide) n1
      have hJ : bJ12 m f = ([m.1].flatMap fun x => Pk.numL (Pk.zig x)) := by unfold bJ12; rw [n1, n2]; simp
      have hWx : Pk.Wr x B (bs ++ ([m.1].flatMap fun x => Pk.numL (Pk.zig x))) := by have := hI.wr; rw [hJ] at this; exact this
      have hc := Pk.wnums_any B (bs ++ ([m.1].flatMap fun x => Pk.numL (Pk.zig x))) [m.2] (fun x hx => by simp at hx; subst hx; exact hf.2) q 0 1 x hWx ⟨Hq.lt, .inr ⟨hqB, Hq.notByte (by decide)⟩⟩ (fun i x hx => by match i, hx with | 0, hx => (cases hx; exact Hq.at 0 _ rfl) | i + 1, hx => simp at hx) (by have := And.intro (ints_len1 m.1 hf.1) (show ([m.2].flatMap Pk.numL).length ≤ 10 by simpa using Pk.numL_len10 _ hf.2); rw [List.length_append]; omega) (by simp)
      refine ⟨wanted_none rfl _, op_call 48 _ _ rfl #[.pointer (some ⟨B, 0, none⟩), .slice (some ⟨q, 0, none⟩) 1 1] (by simp [ew, eq]) (enters_of Tryz.func48 (by kernel_rfl) rfl) (hc.mono fun e y ⟨h1, h2, h3⟩ => ⟨_, h1, _, rfl, put_of 47 rfl ?_⟩)⟩
      have p1 : (putE f (some 47) (.pointer (some ⟨B, 0, none⟩)) 43).isSome = true := n1
      have p2 : putE f (some 47) (.pointer (some ⟨B, 0, none⟩)) 47 = some (.pointer (some ⟨B, 0, none⟩)) := rfl
      refine ⟨fun s hs => ?_, fun s u hs => ?_, ?_, fun _ => p1, hI.upd.trans h3⟩
      · unfold putE; rw [if_neg (fun q => hs (by rw [← Option.some.inj q]; decide))]; exact hI.out s hs
      · unfold putE at hs; split at hs
        · rename_i e; cases e; cases hs; rfl
        · exact bF12_up (hI.fact s u hs) h3
      · unfold bJ12
        rw [p1, p2]
        have := h2
        simpa using this
  · intro f a x hov hI hall
    have n1 := hall 3 _ 43 rfl rfl
    have n2 := hall 7 _ 47 rfl rfl
    have hW' := hI.wr
    unfold bJ12 at hW'
    rw [n1, n2] at hW'
    exact hend a x (hov.after hI.out) (by simpa using hW') hI.upd
end Go.Proofs.YthmnjebmnocoiaaGreat

/- gossip's Bytes (29). -/
namespace Go.Proofs.YthmnjebmnocoiaaGreat
open Go.RowKit
attribute [local go_sem ↓] rule28
def memA (m : Mb) : List UInt8 := ([m.1, m.2.1].flatMap fun x => Pk.numL (Pk.zig x)) ++ ([m.2.2].flatMap Pk.numL)
def ownA (m : Ow) : List UInt8 := ([m.1].flatMap fun x => Pk.numL (Pk.zig x)) ++ ([m.2].flatMap Pk.numL)
def bytesG (r : Rg) : List UInt8 := (Pk.numL r.1.length ++ r.1.flatMap memA) ++ r.2.flatMap ownA
theorem memA_len {m : Mb} (h : I64 m.1 ∧ I64 m.2.1 ∧ m.2.2 < 18446744073709551616) : (memA m).length ≤ 30 := by
  have a := ints_len2 m.1 m.2.1 h.1 h.2.1
  have b : ([m.2.2].flatMap Pk.numL).length ≤ 10 := by simpa using Pk.numL_len10 _ h.2.2
  unfold memA
  rw [List.length_append]; omega
theorem ownA_len {m : Ow} (h : I64 m.1 ∧ m.2 < 18446744073709551616) : (ownA m).length ≤ 20 := by
  have a := ints_len1 m.1 h.1
  have b : ([m.2].flatMap Pk.numL).length ≤ 10 := by simpa using Pk.numL_len10 _ h.2
  unfold ownA
  rw [List.length_append]; omega
theorem flatA_len {α : Type} (f : α → List UInt8) (B : Nat) : ∀ l : List α, (∀ x ∈ l, (f x).length ≤ B) → (l.flatMap f).length ≤ l.length * B
  | [], _ => by simp
  | x :: l, h => by
    have a := h x (by simp)
    have b := flatA_len f B l (fun y hy => h y (by simp [hy]))
    simp only [List.flatMap_cons, List.length_append, List.length_cons]
    rw [Nat.add_mul]; omega
theorem zero72 (w : World) : (zeroValue 72).run Tryz.prog w = .ok (.agg [Value.slice none 0 0].toArray) w := by kernel_rfl
theorem build72 (w : World) : (Instr.build 72 #[]).run Tryz.prog w = .ok (.agg #[Value.slice none 0 0]) w := by kernel_rfl
theorem siz72 : (Tryz.prog.info? 72).map (·.size) = some 1 := by kernel_rfl
theorem num_one (W : World) (B : Nat) (bs : List UInt8) (n : Nat) (hn : n < 18446744073709551616) (hl : bs.length + 30 ≤ 140737488355328) (hw : Pk.Wr W B bs) :
    Calls Tryz.prog 48 #[.pointer (some ⟨B, 0, none⟩), .slice (some ⟨W.heap.size, 0, none⟩) 1 1] (W.alloc (.cells #[.int .u64 (n : Int)] 23)) fun e w' =>
      e = .returned (.pointer (some ⟨B, 0, none⟩)) ∧ Pk.Wr w' B (bs ++ Pk.numL n) ∧ Pk.WUpd B W w' := by
  have h1 := Pk.numL_len10 n hn
  have hk := Pk.keep_new W [.int .u64 (n : Int)] 23 (by decide) B hw.lt
  have c0 := (holds_new W [.int .u64 (n : Int)] 23).at 0 _ rfl
  have := Pk.wnums_any B bs [n] (by simpa using hn) W.heap.size 0 1 _ (hw.alloc (.cells #[.int .u64 (n : Int)] 23)) hk (fun i y hy => by
    match i, hy with
    | 0, hy => cases hy; exact c0
    | i + 1, hy => simp at hy) (by simp; omega) (by simp)
  have t2 : Calls Tryz.prog 48 #[.pointer (some ⟨B, 0, none⟩), .slice (some ⟨W.heap.size, 0, none⟩) 1 1] (W.alloc (.cells #[.int .u64 (n : Int)] 23)) fun e w' => e = .returned (.pointer (some ⟨B, 0, none⟩)) ∧ Pk.Wr w' B (bs ++ Pk.numL n) ∧ Pk.WUpd B (W.alloc (.cells #[.int .u64 (n : Int)] 23)) w' := by simpa using this
  exact t2.mono fun e z ⟨q1, q2, q3⟩ => ⟨q1, q2, (Pk.WUpd.ofBelow (Nat.le_of_lt hw.lt) ((Below.refl _ _).alloc (Nat.le_refl _) _)).trans q3⟩
structure Wt (N B : Nat) (w : World) (ds : List Value) (u : Value) (nr : Rg) (bs : List UInt8) (x : World) : Prop where
  low : Below N w x
  box : Holds x N ds 28
  wr : Pk.Wr x B bs
  mem : Mems B x u nr.1
  lt : N < B
theorem Wt.up {N B : Nat} {w : World} {ds : List Value} {u : Value} {nr : Rg} {bs bs' : List UInt8} {x y : World} (h : Wt N B w ds u nr bs x) (hu : Pk.WUpd B x y) (hw : Pk.Wr y B bs') : Wt N B w ds u nr bs' y :=
  ⟨h.low.trans (hu.below (Nat.le_of_lt h.lt)), h.box.wupd hu (Nat.ne_of_lt h.lt) (by decide), hw, h.mem.keep (fun g hg => hu.low g hg), h.lt⟩
theorem Wt.grow {N B : Nat} {w : World} {ds : List Value} {u : Value} {nr : Rg} {bs : List UInt8} {x y : World} (h : Wt N B w ds u nr bs x) (hb : Below x.heap.size x y) : Wt N B w ds u nr bs y :=
  h.up (Pk.WUpd.ofBelow (Nat.le_of_lt h.wr.lt) hb) (h.wr.below hb)

def b0 : Array Oper := #[⟨some 1, .box 28 (.tmp 0), 0, "bytes.go:12", #[], none⟩, ⟨some 2, .assign (.const (.string { data := #[] })), 9, "bytes.go:12", #[], none⟩]
def b1 : Array Oper := #[⟨some 8, .load 28 (.tmp 1), 28, "bytes.go:13", #[], none⟩, ⟨some 9, .call ⟨.value (.func 8), #[.tmp 8], #[28]⟩, 28, "bytes.go:13", #[⟨0, .data⟩], none⟩, ⟨none, .store 28 (.tmp 1) (.tmp 9), 0, "bytes.go:13", #[⟨1, .data⟩, ⟨1, .chain⟩, ⟨0, .phase⟩, ⟨1, .phase⟩], none⟩]
def b2 : Array Oper := #[⟨some 10, .build 72 #[], 72, "bytes.go:14", #[], none⟩, ⟨some 3, .alloc 72, 0, "bytes.go:14", #[], none⟩, ⟨none, .store 72 (.tmp 3) (.tmp 10), 0, "bytes.go:14", #[⟨1, .data⟩, ⟨0, .data⟩, ⟨0, .phase⟩, ⟨1, .phase⟩], none⟩]
def b3 : Array Oper := #[⟨some 11, .fieldAddr 28 (.tmp 1) 0, 0, "bytes.go:15", #[], none⟩, ⟨some 12, .load 22 (.tmp 11), 22, "bytes.go:15", #[⟨0, .data⟩], none⟩, ⟨some 13, .call ⟨.builtin .len, #[.tmp 12], #[22]⟩, 3, "bytes.go:15", #[⟨1, .data⟩], none⟩, ⟨some 14, .convert 3 23 (.tmp 13), 23, "bytes.go:15", #[⟨2, .data⟩], none⟩, ⟨some 15, .buildSlice 101 1 #[(0, .tmp 14)], 101, "bytes.go:15", #[⟨3, .data⟩], none⟩, ⟨some 16, .call ⟨.value (.func 48), #[.tmp 3, .tmp 15], #[72, 101]⟩, 73, "bytes.go:15", #[⟨4, .data⟩], none⟩]
def b4 : Array Oper := #[⟨some 17, .fieldAddr 28 (.tmp 1) 0, 0, "bytes.go:16", #[], none⟩, ⟨some 18, .load 22 (.tmp 17), 22, "bytes.go:16", #[⟨0, .data⟩], none⟩, ⟨some 19, .call ⟨.builtin .len, #[.tmp 18], #[22]⟩, 3, "bytes.go:16", #[⟨1, .data⟩], none⟩, ⟨some 20, .move (.const (.int .i64 0)), 3, "bytes.go:16", #[], none⟩]
def b5 : Array Oper := #[⟨some 21, .binOp .lss 3 (.tmp 20) (.tmp 19) 3, 0, "bytes.go:16", #[], none⟩]
def b6 : Array Oper := #[⟨some 22, .indexAddr 22 (.tmp 18) (.tmp 20), 0, "bytes.go:16", #[], none⟩, ⟨some 23, .load 53 (.tmp 22), 53, "bytes.go:16", #[⟨0, .data⟩], none⟩, ⟨some 5, .alloc 53, 0, "bytes.go:16", #[], none⟩, ⟨none, .store 53 (.tmp 5) (.tmp 23), 0, "bytes.go:16", #[⟨2, .data⟩, ⟨1, .data⟩, ⟨0, .phase⟩, ⟨1, .phase⟩, ⟨2, .phase⟩], none⟩]
def b8 : Array Oper := #[⟨some 34, .binOp .add 3 (.tmp 20) (.const (.int .i64 1)) 3, 3, "bytes.go:16", #[], none⟩, ⟨some 20, .move (.tmp 34), 3, "bytes.go:16", #[⟨0, .data⟩], none⟩]
def b9 : Array Oper := #[⟨some 35, .fieldAddr 28 (.tmp 1) 1, 0, "bytes.go:19", #[], none⟩, ⟨some 36, .load 26 (.tmp 35), 26, "bytes.go:19", #[⟨0, .data⟩], none⟩, ⟨some 37, .move (.const (.int .i64 0)), 3, "bytes.go:19", #[], none⟩]
def b10 : Array Oper := #[⟨some 38, .binOp .lss 3 (.tmp 37) (.const (.int .i64 8)) 3, 0, "bytes.go:19", #[], none⟩]
def b11 : Array Oper := #[⟨some 39, .index 26 (.tmp 36) (.tmp 37), 25, "bytes.go:19", #[], none⟩, ⟨some 7, .alloc 25, 0, "bytes.go:19", #[], none⟩, ⟨none, .store 25 (.tmp 7) (.tmp 39), 0, "bytes.go:19", #[⟨1, .data⟩, ⟨0, .data⟩, ⟨0, .phase⟩, ⟨1, .phase⟩], none⟩]
def b13 : Array Oper := #[⟨some 48, .binOp .add 3 (.tmp 37) (.const (.int .i64 1)) 3, 3, "bytes.go:19", #[], none⟩, ⟨some 37, .move (.tmp 48), 3, "bytes.go:19", #[⟨0, .data⟩], none⟩]
def b14 : Array Oper := #[⟨some 49, .call ⟨.value (.func 50), #[.tmp 3], #[72]⟩, 9, "bytes.go:22", #[], none⟩, ⟨some 2, .assign (.tmp 49), 9, "bytes.go:22", #[⟨0, .data⟩, ⟨0, .chain⟩, ⟨0, .phase⟩], none⟩]

theorem put_size {a : Act} {d : Option Nat} {v : Value} : (a.put d v).tmps.size = a.tmps.size := by
  cases d with
  | none => rfl
  | some d => show (a.tmps.setIfInBounds d v).size = _; rw [Array.size_setIfInBounds]
theorem put_none {a : Act} {v : Value} : a.put none v = a := rfl
theorem put_defers {a : Act} {d : Option Nat} {v : Value} : (a.put d v).defers = a.defers := by cases d <;> rfl
theorem ev_put {a : Act} {d s : Nat} {v : Value} (h : d < a.tmps.size) : (a.put (some d) v).eval (.tmp s) = if d = s then v else a.eval (.tmp s) := by
  show (a.tmps.setIfInBounds d v).getD s undef = if d = s then v else a.tmps.getD s undef
  by_cases e : d = s
  · subst e; simp [h]
  · simp [e]
section
variable {ops : Array Oper} {Q : Exit → Act → World → Prop} {o : Oper} {rest : List Oper} {a : Act} {w : World}
theorem wl_val (v : Value) (hg : o.guard = none) (h : (execOp a.eval o).run Tryz.prog w = .ok (.value v) w) (hK : wpList Tryz.prog ops Q rest (a.put o.dst v) w) : wpList Tryz.prog ops Q (o :: rest) a w := by
  unfold wpList
  rw [if_pos (wanted_none hg _)]
  exact .inl (op_val v h hK)
theorem wl_of (hg : o.guard = none) (h : o.wp Tryz.prog a w (wpList Tryz.prog ops Q rest) Q) : wpList Tryz.prog ops Q (o :: rest) a w := by
  unfold wpList
  rw [if_pos (wanted_none hg _)]
  exact .inl h
theorem op_lss (x y : Operand) (rt : TypeId) (s t : Int) {K : Act → World → Prop} (ho : o.op = .binOp .lss 3 x y rt) (e1 : a.eval x = .int .i64 s) (e2 : a.eval y = .int .i64 t) (h : K (a.put o.dst (.bool (decide (s < t)))) w) : o.wp Tryz.prog a w K Q := by
  have hr : ∀ w, (binOp .lss 3 (.int .i64 s) (.int .i64 t)).run Tryz.prog w = .ok (.bool (decide (s < t))) w := fun w => by kernel_rfl
  refine op_val _ ?_ h
  unfold execOp
  simp only [ho, e1, e2, Sem.run_bind, hr, Sem.run_pure]
  rfl
theorem op_inc (x : Operand) (rt : TypeId) (s : Int) {K : Act → World → Prop} (ho : o.op = .binOp .add 3 x (.const (.int .i64 1)) rt) (e1 : a.eval x = .int .i64 s) (hs : 0 ≤ s ∧ s < 1000) (h : K (a.put o.dst (.int .i64 (s + 1))) w) : o.wp Tryz.prog a w K Q := by
  have hr : ∀ w, (binOp .add 3 (.int .i64 s) (.int .i64 1)).run Tryz.prog w = .ok (.int .i64 (IntKind.i64.wrap (s + 1))) w := fun w => by kernel_rfl
  have e2 : a.eval (.const (.int .i64 1)) = .int .i64 1 := rfl
  have hw : IntKind.i64.wrap (s + 1) = s + 1 := by rw [IntKind.wrap_i64]; omega
  refine op_val _ ?_ h
  unfold execOp
  simp only [ho, e1, e2, Sem.run_bind, hr, Sem.run_pure, hw]
  rfl
theorem op_row (ty : TypeId) (x : Operand) (n : Nat) (d : TypeDesc) (cs : List Value) {K : Act → World → Prop} (ho : o.op = .load ty x) (b k : Nat) (e : a.eval x = .pointer (some ⟨b, k, none⟩)) (hu : Tryz.prog.underlying ty = some d) (hd : d.isRow = true) (hi : (Tryz.prog.info? ty).map (·.size) = some n) (hn : cs.length = n) (hr : w.rangeAt b k cs) (h : K (a.put o.dst (.agg cs.toArray)) w) : o.wp Tryz.prog a w K Q := by
  refine op_val _ ?_ h
  unfold execOp
  simp only [ho, e, Sem.run_bind, run_loadAt_mid w b k ty cs d hr hu hd (by rw [hn]; exact hi), Sem.run_pure, Result.andThen_ok]
end
theorem noagg22 (w : World) : (isAgg 22).run Tryz.prog w = .ok false w := by kernel_rfl
theorem brun28_0 (g : Nat) (w : World) : (Instr.fieldAt 28 (.pointer (some ⟨g, 0, none⟩)) 0).run Tryz.prog w = .ok (.pointer (some ⟨g, 0, none⟩)) w := by kernel_rfl
theorem brun28_1 (g : Nat) (w : World) : (Instr.fieldAt 28 (.pointer (some ⟨g, 0, none⟩)) 1).run Tryz.prog w = .ok (.pointer (some ⟨g, 1, none⟩)) w := by kernel_rfl
theorem blen22 (ρ : Operand → Value) (x : Operand) (dst : Option Nat) (pos : String) (af : Array Edge) (gd : Option (Nat × Bool)) (b : Option Addr) (n cap : Nat) (w : World) (h : ρ x = .slice b n cap) : (execOp ρ ⟨dst, .call { callee := .builtin .len, args := #[x], argTypes := #[22] }, 3, pos, af, gd⟩).run Tryz.prog w = .ok (.value (.int .i64 (n : Int))) w := by
  have hr : #[x].map ρ = #[.slice b n cap] := by simp [h]
  show (do let d ← resolve ρ { callee := .builtin .len, args := #[x], argTypes := #[22] } 3; invoke d.target d.args : Sem Next).run Tryz.prog w = _
  unfold resolve
  simp only [hr]
  kernel_rfl
theorem bconv (n : Nat) (w : World) : (convert 3 23 (.int .i64 (n : Int))).run Tryz.prog w = .ok (.int .u64 (IntKind.u64.wrap (n : Int))) w := by kernel_rfl
theorem bwrap {n : Nat} (h : n ≤ 7) : IntKind.u64.wrap (n : Int) = (n : Int) := by rw [IntWalk.u64_in]; omega
theorem op_conv {o : Oper} {a : Act} {w : World} {K : Act → World → Prop} {Q : Exit → Act → World → Prop} (x : Operand) (n : Nat) (ho : o.op = .convert 3 23 x) (e : a.eval x = .int .i64 (n : Int)) (hn : n ≤ 7) (h : K (a.put o.dst (.int .u64 (n : Int))) w) : o.wp Tryz.prog a w K Q := by
  refine op_val _ ?_ h
  unfold execOp
  simp only [ho, e, Sem.run_bind, bconv, bwrap hn, Sem.run_pure, Result.andThen_ok]
theorem elem22 : Tryz.prog.elem 22 = 53 := by kernel_rfl
theorem bund22 : Tryz.prog.underlying 22 = some (.slice (Tryz.prog.elem 22)) := by kernel_rfl
theorem brun_ix22 (g of n cap i : Nat) (hi : i < n) (w : World) : (Instr.indexAt 22 (.slice (some ⟨g, of, none⟩) n cap) (.int .i64 (i : Int))).run Tryz.prog w = .ok (.pointer (some ⟨g, of + i * 3, none⟩)) w := by
  have h1 : (0 : Int) ≤ (i : Int) ∧ (i : Int) < (n : Int) := by omega
  have hs : (sizeOf 53).run Tryz.prog w = .ok 3 w := by kernel_rfl
  rw [run_indexAt_slice w 22 _ n cap .i64 i bund22, if_pos h1, elem22, hs]
  simp [Addr.add]

theorem op_ix22 {o : Oper} {a : Act} {w : World} {K : Act → World → Prop} {Q : Exit → Act → World → Prop} (x y : Operand) (g of n cap i : Nat) (hi : i < n) (ho : o.op = .indexAddr 22 x y) (e1 : a.eval x = .slice (some ⟨g, of, none⟩) n cap) (e2 : a.eval y = .int .i64 (i : Int)) (h : K (a.put o.dst (.pointer (some ⟨g, of + i * 3, none⟩))) w) : o.wp Tryz.prog a w K Q := by
  refine op_val _ ?_ h
  unfold execOp
  simp only [ho, e1, e2, Sem.run_bind, brun_ix22 g of n cap i hi, Sem.run_pure, Result.andThen_ok]
theorem op_ix26 {o : Oper} {a : Act} {w : World} {K : Act → World → Prop} {Q : Exit → Act → World → Prop} (x y : Operand) (l : List Ow) (hl : l.length = 8) (i : Nat) (hi : i < 8) (ho : o.op = .index 26 x y) (e1 : a.eval x = .agg (ownV l).toArray) (e2 : a.eval y = .int .i64 (i : Int)) (h : K (a.put o.dst (.agg (owV (l.getD i noO)).toArray)) w) : o.wp Tryz.prog a w K Q := by
  refine op_val _ ?_ h
  unfold execOp
  simp only [ho, e1, e2, Sem.run_bind, run_index26 l hl i hi, Sem.run_pure, Result.andThen_ok]
end Go.Proofs.YthmnjebmnocoiaaGreat
