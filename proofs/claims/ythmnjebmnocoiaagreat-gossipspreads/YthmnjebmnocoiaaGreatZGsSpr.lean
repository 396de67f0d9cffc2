/- GossipSpreads: the engine, the law's regions, the law. -/
import Derived.Test.YthmnjebmnocoiaaGreatZGsBytB
namespace Go.Proofs.YthmnjebmnocoiaaGreat
open Go.RowKit

def dstsB (ops : Array Oper) (m s : Nat) : Bool := (ops.toList.take m).any fun o => decide (o.dst = some s)

/-- An operation that is passed over. -/
def StepOff (ops : Array Oper) (D : List Nat) (T : Nat → Fk) (a0 : Act) (w : World) (o : Oper) : Prop :=
  ∀ f a x, Ctx ops D T a0 w o f a x → Region.wanted o (yielded ops a.tmps) = false ∧ ∀ d, o.dst = some d → (T d).holds undef x

theorem seq_by {ops : Array Oper} {Q : Exit → Act → World → Prop} {id : Nat} {a0 : Act} {w : World} (hlex : lexOk ops = true) (m : Nat) (hm : m ≤ ops.size) (D : List Nat) (T : Nat → Fk)
    (hD : ((ops.toList.take m).all fun o => match o.dst with | some d => D.contains d | none => true) = true)
    (hstep : ∀ o ∈ ops.toList.take m, StepAt ops D T a0 w Q o ∨ StepOff ops D T a0 w o)
    (hend : ∀ (a : Act) (x : World), After D a0 a → Gr w x → (∀ s, dstsB ops m s = true → s < a0.tmps.size → (T s).holds (a.eval (.tmp s)) x) → wpList Tryz.prog ops Q (ops.toList.drop m) a x) :
    (Code.region id ops false).wp Tryz.prog Q a0 w := by
  refine wp_region_list ?_
  have key : ∀ (n k : Nat), k + n = m → ∀ (f : Env) (a : Act) (x : World), Over a0 f a → Gr w x → (∀ s v, f s = some v → (T s).holds v x) → (∀ (j : Nat) (o : Oper) (d : Nat), j < k → ops[j]? = some o → o.dst = some d → (f d).isSome = true) → (∀ s, s ∉ D → f s = none) → wpList Tryz.prog ops Q (ops.toList.drop k) a x := by
    intro n
    induction n with
    | zero =>
      intro k hk f a x hov hgr hf hdone hout
      obtain rfl : k = m := by omega
      refine hend a x (hov.after hout) hgr (fun s hs hsz => ?_)
      obtain ⟨o, ho, hd⟩ := List.any_eq_true.1 hs
      have hd := of_decide_eq_true hd
      obtain ⟨j, hj⟩ := List.mem_iff_getElem?.1 ho
      have hjk : j < k := by
        have := (List.getElem?_eq_some_iff.1 hj).1
        simp at this; omega
      rw [List.getElem?_take_of_lt hjk] at hj
      obtain ⟨v, hv⟩ := Option.isSome_iff_exists.1 (hdone j o s hjk (by simpa using hj) hd)
      rw [hov.get hsz hv]
      exact hf s v hv
    | succ n ih =>
      intro k hk f a x hov hgr hf hdone hout
      have hks : k < ops.size := by omega
      obtain ⟨o, ho⟩ : ∃ o, ops[k]? = some o := ⟨_, Array.getElem?_eq_getElem hks⟩
      have hl : ops.toList[k]? = some o := by simpa using ho
      have hdrop : ops.toList.drop k = o :: ops.toList.drop (k + 1) := by
        rw [List.drop_eq_getElem_cons (by simpa using hks)]
        congr 1
        exact (List.getElem?_eq_some_iff.1 hl).2
      have hmem : o ∈ ops.toList.take m := List.mem_iff_getElem?.2 ⟨k, by rw [List.getElem?_take_of_lt (by omega)]; exact hl⟩
      have hc : Ctx ops D T a0 w o f a x := ⟨hov, hgr, fun s hs => by
        obtain ⟨e, he, hb⟩ := List.any_eq_true.1 hs
        rw [Bool.and_eq_true] at hb
        have b2 := of_decide_eq_true hb.2
        have hlt := lexOk_spec hlex ho e (by simpa using he) hb.1
        cases hoj : ops[e.on]? with
        | none => rw [hoj] at b2; cases b2
        | some oj =>
          rw [hoj] at b2
          obtain ⟨v, hv⟩ := Option.isSome_iff_exists.1 (hdone e.on oj s hlt hoj b2)
          exact ⟨v, hv, hf s v hv⟩, hout⟩
      have hDo : ∀ d, o.dst = some d → d ∈ D := fun d hd => by
        have := List.all_eq_true.1 hD o hmem
        rw [hd] at this
        simpa using this
      have next : ∀ (v : Value) (y : World), Gr x y → (∀ d, o.dst = some d → (T d).holds v y) → wpList Tryz.prog ops Q (ops.toList.drop (k + 1)) (a.put o.dst v) y := fun v y hxy hv => by
        refine ih (k + 1) (by omega) (putE f o.dst v) _ y (hov.put o.dst v) (hgr.trans hxy) (fun s u hs => ?_) (fun j oj d hj hoj hd => ?_) (fun s hs => ?_)
        · unfold putE at hs
          split at hs
          · rename_i e
            cases hs
            exact hv s e
          · exact Fk.mono (hf s u hs) hxy
        · unfold putE
          split
          · rfl
          · rename_i e
            rcases Nat.lt_or_ge j k with q | q
            · exact hdone j oj d q hoj hd
            · obtain rfl : j = k := by omega
              rw [ho] at hoj
              cases hoj
              exact absurd hd e
        · unfold putE
          split
          · rename_i e
            exact absurd (hDo s e) hs
          · exact hout s hs
      rw [hdrop]
      unfold wpList
      rcases hstep o hmem with h | h
      · obtain ⟨hw, hwp⟩ := h f a x hc
        rw [if_pos hw]
        refine .inl (Oper.wp_mono (fun a' y ⟨v, e1, r1, f1⟩ => ?_) hwp)
        subst e1
        exact next v y r1 f1
      · obtain ⟨hw, hv⟩ := h f a x hc
        rw [if_neg (by rw [hw]; decide)]
        exact next undef x (Gr.refl _) hv
  exact key m 0 (by omega) (fun _ => none) a0 w (Over.start a0) (Gr.refl w) (fun s v h => by cases h) (fun j o d hj => absurd hj (Nat.not_lt_zero _)) (fun s _ => rfl)

theorem drawn_by {ops : Array Oper} {Q : Exit → Act → World → Prop} {id : Nat} {a0 : Act} {w : World} (hm : Tryz.prog.follows .mixedOrders = true) (hlex : lexOk ops = true) (D : List Nat) (T : Nat → Fk)
    (hD : (ops.toList.all fun o => match o.dst with | some d => D.contains d | none => true) = true)
    (hstep : ∀ o ∈ ops.toList, StepAt ops D T a0 w Q o)
    (hend : ∀ (a : Act) (x : World), After D a0 a → Gr w x → (∀ s, dstsB ops ops.size s = true → s < a0.tmps.size → (T s).holds (a.eval (.tmp s)) x) → Q .normal a x) :
    (Code.region id ops true).wp Tryz.prog Q a0 w := by
  refine region_by hm hlex D T hD hstep (fun f a x hov hgr hfa hno => hend a x (hov.after hno) hgr (fun s hs hsz => ?_))
  obtain ⟨o, ho, hd⟩ := List.any_eq_true.1 hs
  have hd := of_decide_eq_true hd
  have ho' : o ∈ ops.toList := List.mem_of_mem_take ho
  have hsD : s ∈ D := by
    have := List.all_eq_true.1 hD o ho'
    rw [hd] at this
    simpa using this
  obtain ⟨v, fv, hv⟩ := hfa s hsD ⟨o, ho', hd⟩
  rw [hov.get hsz fv]
  exact hv

section
variable {ops : Array Oper} {D : List Nat} {T : Nat → Fk} {a0 : Act} {w : World} {Q : Exit → Act → World → Prop} {o : Oper}

theorem sa_call0 (n : Nat) (d : Nat) (ho : o.op = .call { callee := .value (.func n), args := #[], argTypes := #[] }) (hd : o.dst = some d) (hg : o.guard = none)
    (he : ∀ args w, (callFunc n args).run Tryz.prog w = .ok (.enter n args) w) (hc : ∀ y, Calls Tryz.prog n #[] y fun e z => ∃ u, e = .returned u ∧ Gr y z ∧ (T d).holds u z) : StepAt ops D T a0 w Q o := fun f a y c => by
  refine ⟨wanted_none hg _, op_call n _ #[] ho #[] (by simp) he ((hc y).mono fun e z ⟨u, e1, e2, e3⟩ => ⟨u, e1, u, rfl, e2, fun d' hd' => ?_⟩)⟩
  rw [hd] at hd'
  cases hd'
  exact e3

end

def BoxIn (w : World) (g : Nat) (r : Rg) : Prop := ∃ u, Holds w g (ringC u r) 28 ∧ RingAt w.heap.size w u r
theorem BoxIn.gr {w w' : World} {g : Nat} {r : Rg} (h : BoxIn w g r) (hb : Gr w w') : BoxIn w' g r := by
  obtain ⟨u, H, R⟩ := h
  exact ⟨u, H.below hb H.lt, R.gr hb⟩
theorem c_awake (y : World) : Calls Tryz.prog 6 #[] y fun e z => ∃ u, e = .returned u ∧ Gr y z ∧ (Fk.val (.bool true)).holds u z :=
  (k_awake y).mono fun _ _ ⟨e1, e2⟩ => ⟨_, e1, e2, rfl⟩
theorem c_gbytes (r : Rg) (hF : RFit r) (v : Value) (y : World) (h : (Fk.ring r).holds v y) : Calls Tryz.prog 29 #[v] y fun e z => ∃ u, e = .returned u ∧ Gr y z ∧ (Fk.val (.string (Pk.strL (bytesG (normL r))))).holds u z := by
  obtain ⟨u, rfl, R1⟩ := h
  exact (gbytes_any u r hF y R1).mono fun e z ⟨e1, e2⟩ => ⟨_, e1, e2, rfl⟩
theorem tail_box28 {ops : Array Oper} {Q : Exit → Act → World → Prop} {a : Act} {w : World} {al st : Oper} (d sy : Nat) (hne : d ≠ sy) (hz : d < a.tmps.size) (ha : al.op = .alloc 28) (had : al.dst = some d) (hag : al.guard = none) (hg : st.guard = none) (hd : st.dst = none) (ho : st.op = .store 28 (.tmp d) (.tmp sy)) (r : Rg) (hy : (Fk.ring r).holds (a.eval (.tmp sy)) w)
    (h : ∀ g w', BoxIn w' g r → Gr w w' → Q .normal (a.put (some d) (.pointer (some ⟨g, 0, none⟩))) w') : wpList Tryz.prog ops Q [al, st] a w := by
  obtain ⟨u, e, R⟩ := hy
  refine wpList_alloc_new d had hag 28 ha w.heap.size rfl _ zero28 (fun y hy => ?_)
  refine wpList_store_all hg 28 (.tmp d) (.tmp sy) ho w.heap.size ((ev_put hz).trans (if_pos rfl)) (ringC u r) (((ev_put hz).trans (if_neg hne)).trans e) 28 _ hy.holds (by rw [siz28, ringC_len R]) (by rw [ringC_len R]; rfl) (ringC_one R) (fun z hz => ?_)
  rw [hd]
  have hb : Gr w z := hy.below.trans (hz.below (Nat.le_refl _))
  exact h _ z ⟨u, hz.holds, R.gr hb⟩ hb
theorem spread_eq (a b : Rg) : mergeL [a, mergeL [b, a]] = mergeL [b, a] := merge_ext (fun n => by
    show joM (bestL a.1 n) (joinK [mergeL [b, a]] n) = joM (bestL b.1 n) (joinK [a] n)
    rw [jK_one, best_merge]
    show joM (bestL a.1 n) (joM (bestL b.1 n) (joinK [a] n)) = joM (bestL b.1 n) (joinK [a] n)
    rw [jK_one, ← joM_assoc, joM_comm (bestL_right a.1 n) (bestL_right b.1 n), joM_assoc, joM_idem]) (fun j hj => by
    show joO (okO (a.2.getD j noO)) (joinO [mergeL [b, a]] j) = joO (okO (b.2.getD j noO)) (joinO [a] j)
    rw [jO_one, own_merge _ j hj]
    show joO (okO (a.2.getD j noO)) (joO (okO (b.2.getD j noO)) (joinO [a] j)) = joO (okO (b.2.getD j noO)) (joinO [a] j)
    rw [jO_one, ← joO_assoc, joO_comm (okO (a.2.getD j noO)), joO_assoc, joO_idem])

def s0 : Array Oper := #[{ dst := some 2, op := Op.box 28 (Operand.tmp 0), type := 0, pos := "law.go:144", after := #[], guard := none }, { dst := some 3, op := Op.box 28 (Operand.tmp 1), type := 0, pos := "law.go:144", after := #[], guard := none }, { dst := some 4, op := Op.assign (Operand.const (Value.bool false)), type := 4, pos := "law.go:144", after := #[], guard := none }]
def s1 : Array Oper := #[{ dst := some 8, op := Op.call { callee := Callee.value (Operand.func 6), args := #[], argTypes := #[] }, type := 4, pos := "law.go:145", after := #[], guard := none }, { dst := some 5, op := Op.assign (Operand.tmp 8), type := 4, pos := "law.go:145", after := #[{ on := 0, ground := Ground.data }, { on := 0, ground := Ground.chain }, { on := 0, ground := Ground.phase }], guard := none }]
def s2 : Array Oper := #[{ dst := some 9, op := Op.load 28 (Operand.tmp 3), type := 28, pos := "law.go:146", after := #[], guard := none }, { dst := some 10, op := Op.load 28 (Operand.tmp 2), type := 28, pos := "law.go:146", after := #[], guard := none }, { dst := some 11, op := Op.buildSlice 36 2 #[(0, Operand.tmp 9), (1, Operand.tmp 10)], type := 36, pos := "law.go:146", after := #[{ on := 0, ground := Ground.data }, { on := 1, ground := Ground.data }], guard := none }, { dst := some 12, op := Op.call { callee := Callee.value (Operand.func 10), args := #[Operand.tmp 11], argTypes := #[36] }, type := 28, pos := "law.go:146", after := #[{ on := 2, ground := Ground.data }], guard := none }, { dst := some 6, op := Op.alloc 28, type := 0, pos := "law.go:146", after := #[], guard := none }, { dst := none, op := Op.store 28 (Operand.tmp 6) (Operand.tmp 12), type := 0, pos := "law.go:146", after := #[{ on := 4, ground := Ground.data }, { on := 3, ground := Ground.data }, { on := 3, ground := Ground.chain }, { on := 0, ground := Ground.phase }, { on := 1, ground := Ground.phase }, { on := 2, ground := Ground.phase }, { on := 3, ground := Ground.phase }, { on := 4, ground := Ground.phase }], guard := none }]
def s3 : Array Oper := #[{ dst := some 13, op := Op.load 28 (Operand.tmp 2), type := 28, pos := "law.go:147", after := #[], guard := none }, { dst := some 14, op := Op.load 28 (Operand.tmp 6), type := 28, pos := "law.go:147", after := #[], guard := none }, { dst := some 15, op := Op.buildSlice 36 2 #[(0, Operand.tmp 13), (1, Operand.tmp 14)], type := 36, pos := "law.go:147", after := #[{ on := 0, ground := Ground.data }, { on := 1, ground := Ground.data }], guard := none }, { dst := some 16, op := Op.call { callee := Callee.value (Operand.func 10), args := #[Operand.tmp 15], argTypes := #[36] }, type := 28, pos := "law.go:147", after := #[{ on := 2, ground := Ground.data }], guard := none }, { dst := some 7, op := Op.alloc 28, type := 0, pos := "law.go:147", after := #[], guard := none }, { dst := none, op := Op.store 28 (Operand.tmp 7) (Operand.tmp 16), type := 0, pos := "law.go:147", after := #[{ on := 4, ground := Ground.data }, { on := 3, ground := Ground.data }, { on := 3, ground := Ground.chain }, { on := 0, ground := Ground.phase }, { on := 1, ground := Ground.phase }, { on := 2, ground := Ground.phase }, { on := 3, ground := Ground.phase }, { on := 4, ground := Ground.phase }], guard := none }]
def s4 : Array Oper := #[{ dst := some 17, op := Op.move (Operand.tmp 5), type := 4, pos := "law.go:148", after := #[], guard := none }, { dst := some 18, op := Op.move (Operand.tmp 17), type := 4, pos := "law.go:148", after := #[{ on := 0, ground := Ground.data }], guard := none }, { dst := some 19, op := Op.load 28 (Operand.tmp 6), type := 28, pos := "law.go:148", after := #[{ on := 1, ground := Ground.guard }], guard := some (1, true) }, { dst := some 20, op := Op.load 28 (Operand.tmp 7), type := 28, pos := "law.go:148", after := #[{ on := 1, ground := Ground.guard }], guard := some (1, true) }, { dst := some 21, op := Op.call { callee := Callee.value (Operand.func 28), args := #[Operand.tmp 19, Operand.tmp 20], argTypes := #[28, 28] }, type := 4, pos := "law.go:148", after := #[{ on := 2, ground := Ground.data }, { on := 3, ground := Ground.data }, { on := 1, ground := Ground.chain }, { on := 1, ground := Ground.guard }], guard := some (1, true) }, { dst := some 22, op := Op.pick (Operand.tmp 18) (Operand.tmp 21) (Operand.const (Value.bool false)), type := 4, pos := "law.go:148", after := #[{ on := 1, ground := Ground.data }, { on := 4, ground := Ground.data }], guard := none }, { dst := some 23, op := Op.move (Operand.tmp 22), type := 4, pos := "law.go:148", after := #[{ on := 5, ground := Ground.data }, { on := 4, ground := Ground.chain }], guard := none }, { dst := some 24, op := Op.load 28 (Operand.tmp 6), type := 28, pos := "law.go:148", after := #[{ on := 6, ground := Ground.guard }], guard := some (6, true) }, { dst := some 25, op := Op.load 28 (Operand.tmp 7), type := 28, pos := "law.go:148", after := #[{ on := 6, ground := Ground.guard }], guard := some (6, true) }, { dst := some 26, op := Op.call { callee := Callee.value (Operand.func 7), args := #[Operand.tmp 24, Operand.tmp 25], argTypes := #[28, 28] }, type := 4, pos := "law.go:148", after := #[{ on := 7, ground := Ground.data }, { on := 8, ground := Ground.data }, { on := 6, ground := Ground.chain }, { on := 6, ground := Ground.guard }], guard := some (6, true) }, { dst := some 27, op := Op.pick (Operand.tmp 23) (Operand.tmp 26) (Operand.const (Value.bool false)), type := 4, pos := "law.go:148", after := #[{ on := 6, ground := Ground.data }, { on := 9, ground := Ground.data }], guard := none }, { dst := some 28, op := Op.move (Operand.tmp 27), type := 4, pos := "law.go:148", after := #[{ on := 10, ground := Ground.data }, { on := 9, ground := Ground.chain }], guard := none }, { dst := some 29, op := Op.load 28 (Operand.tmp 6), type := 28, pos := "law.go:148", after := #[{ on := 11, ground := Ground.guard }], guard := some (11, true) }, { dst := some 30, op := Op.call { callee := Callee.value (Operand.func 29), args := #[Operand.tmp 29], argTypes := #[28] }, type := 9, pos := "law.go:148", after := #[{ on := 12, ground := Ground.data }, { on := 11, ground := Ground.chain }, { on := 11, ground := Ground.guard }], guard := some (11, true) }, { dst := some 31, op := Op.load 28 (Operand.tmp 7), type := 28, pos := "law.go:148", after := #[{ on := 11, ground := Ground.guard }], guard := some (11, true) }, { dst := some 32, op := Op.call { callee := Callee.value (Operand.func 29), args := #[Operand.tmp 31], argTypes := #[28] }, type := 9, pos := "law.go:148", after := #[{ on := 14, ground := Ground.data }, { on := 13, ground := Ground.chain }, { on := 11, ground := Ground.guard }], guard := some (11, true) }, { dst := some 33, op := Op.binOp BinOp.eql 9 (Operand.tmp 30) (Operand.tmp 32) 9, type := 4, pos := "law.go:148", after := #[{ on := 13, ground := Ground.data }, { on := 15, ground := Ground.data }, { on := 11, ground := Ground.guard }], guard := some (11, true) }, { dst := some 34, op := Op.pick (Operand.tmp 28) (Operand.tmp 33) (Operand.const (Value.bool false)), type := 4, pos := "law.go:148", after := #[{ on := 11, ground := Ground.data }, { on := 16, ground := Ground.data }], guard := none }, { dst := some 4, op := Op.assign (Operand.tmp 34), type := 4, pos := "law.go:148", after := #[{ on := 17, ground := Ground.data }, { on := 15, ground := Ground.chain }, { on := 0, ground := Ground.phase }, { on := 1, ground := Ground.phase }, { on := 2, ground := Ground.phase }, { on := 3, ground := Ground.phase }, { on := 4, ground := Ground.phase }, { on := 5, ground := Ground.phase }, { on := 6, ground := Ground.phase }, { on := 7, ground := Ground.phase }, { on := 8, ground := Ground.phase }, { on := 9, ground := Ground.phase }, { on := 10, ground := Ground.phase }, { on := 11, ground := Ground.phase }, { on := 12, ground := Ground.phase }, { on := 13, ground := Ground.phase }, { on := 14, ground := Ground.phase }, { on := 15, ground := Ground.phase }, { on := 16, ground := Ground.phase }, { on := 17, ground := Ground.phase }], guard := none }]
set_option maxRecDepth 100000
set_option maxHeartbeats 2000000
theorem sq1 {Q : Exit → Act → World → Prop} {a0 : Act} {w : World} (hz : a0.tmps.size = 35) (hend : ∀ a x, After [8, 5] a0 a → a.eval (.tmp 5) = .bool true → Gr w x → Q .normal a x) : (Code.region 1 s1 false).wp Tryz.prog Q a0 w := by
  refine seq_by (by kernel_rfl) 2 (by decide) [8, 5] (fun | 8 => .val (.bool true) | 5 => .val (.bool true) | _ => .any) (by kernel_rfl) (List.forall_mem_cons.2 ⟨?s0, List.forall_mem_cons.2 ⟨?s1, fun o ho => nomatch ho⟩⟩) ?e
  case s0 => exact Or.inl (sa_call0 6 8 rfl rfl rfl (enters_of Tryz.func6 (by kernel_rfl) rfl) (fun y => c_awake y))
  case s1 => exact Or.inl (sa_move (.tmp 8) 5 (.val (.bool true)) (.inr rfl) rfl rfl (.new 8 (by kernel_rfl) (by rw [hz]; decide)) rfl)
  case e =>
  intro a x hA hgr hv
  exact hend a x hA (hv 5 (by kernel_rfl) (by rw [hz]; decide)) hgr
theorem sq2 {Q : Exit → Act → World → Prop} {a0 : Act} {w : World} (hz : a0.tmps.size = 35) (rb ra : Rg) (g3 g2 : Nat) (e3 : a0.eval (.tmp 3) = .pointer (some ⟨g3, 0, none⟩)) (e2 : a0.eval (.tmp 2) = .pointer (some ⟨g2, 0, none⟩)) (B3 : BoxIn w g3 rb) (B2 : BoxIn w g2 ra) (hend : ∀ a x g, After [6, 9, 10, 11, 12] a0 a → a.eval (.tmp 6) = .pointer (some ⟨g, 0, none⟩) → BoxIn x g (mergeL [rb, ra]) → Gr w x → Q .normal a x) : (Code.region 2 s2 false).wp Tryz.prog Q a0 w := by
  obtain ⟨u3, H3, R3⟩ := B3
  obtain ⟨u2, H2, R2⟩ := B2
  refine seq_by (by kernel_rfl) 4 (by decide) [9, 10, 11, 12] (fun | 9 => .ring rb | 10 => .ring ra | 11 => .row [rb, ra] | 12 => .ring (mergeL [rb, ra]) | _ => .any) (by kernel_rfl) (List.forall_mem_cons.2 ⟨?s0, List.forall_mem_cons.2 ⟨?s1, List.forall_mem_cons.2 ⟨?s2, List.forall_mem_cons.2 ⟨?s3, fun o ho => nomatch ho⟩⟩⟩⟩) ?e
  case s0 => exact Or.inl (sa_load28 3 9 rfl rfl rfl (by decide) g3 e3 _ rb H3 R3 rfl)
  case s1 => exact Or.inl (sa_load28 2 10 rfl rfl rfl (by decide) g2 e2 _ ra H2 R2 rfl)
  case s2 => exact Or.inl (sa_rings2 (.tmp 9) (.tmp 10) 11 rb ra rfl rfl rfl (.new 9 (by kernel_rfl) (by rw [hz]; decide)) (.new 10 (by kernel_rfl) (by rw [hz]; decide)) rfl)
  case s3 => exact Or.inl (sa_call1 10 (.tmp 11) _ 12 (.row [rb, ra]) rfl rfl rfl (.new 11 (by kernel_rfl) (by rw [hz]; decide)) (enters_of Tryz.func10 (by kernel_rfl) rfl) (fun v y q => c_merge [rb, ra] (by simp) v y q))
  case e =>
  intro a x hA hgr hv
  have om : (Fk.ring (mergeL [rb, ra])).holds (a.eval (.tmp 12)) x := hv 12 (by kernel_rfl) (by rw [hz]; decide)
  show wpList Tryz.prog _ Q [_, _] a x
  refine tail_box28 6 12 (by decide) (by rw [hA.size, hz]; decide) rfl rfl rfl rfl rfl rfl _ om (fun g w' h1 h2 => ?_)
  exact hend _ w' g (hA.put 6 _) ((ev_put (by rw [hA.size, hz]; decide)).trans (if_pos rfl)) h1 (hgr.trans h2)
theorem sq3 {Q : Exit → Act → World → Prop} {a0 : Act} {w : World} (hz : a0.tmps.size = 35) (ra rx : Rg) (g2 g6 : Nat) (e2 : a0.eval (.tmp 2) = .pointer (some ⟨g2, 0, none⟩)) (e6 : a0.eval (.tmp 6) = .pointer (some ⟨g6, 0, none⟩)) (B2 : BoxIn w g2 ra) (B6 : BoxIn w g6 rx) (hend : ∀ a x g, After [7, 13, 14, 15, 16] a0 a → a.eval (.tmp 7) = .pointer (some ⟨g, 0, none⟩) → BoxIn x g (mergeL [ra, rx]) → Gr w x → Q .normal a x) : (Code.region 3 s3 false).wp Tryz.prog Q a0 w := by
  obtain ⟨u2, H2, R2⟩ := B2
  obtain ⟨u6, H6, R6⟩ := B6
  refine seq_by (by kernel_rfl) 4 (by decide) [13, 14, 15, 16] (fun | 13 => .ring ra | 14 => .ring rx | 15 => .row [ra, rx] | 16 => .ring (mergeL [ra, rx]) | _ => .any) (by kernel_rfl) (List.forall_mem_cons.2 ⟨?s0, List.forall_mem_cons.2 ⟨?s1, List.forall_mem_cons.2 ⟨?s2, List.forall_mem_cons.2 ⟨?s3, fun o ho => nomatch ho⟩⟩⟩⟩) ?e
  case s0 => exact Or.inl (sa_load28 2 13 rfl rfl rfl (by decide) g2 e2 _ ra H2 R2 rfl)
  case s1 => exact Or.inl (sa_load28 6 14 rfl rfl rfl (by decide) g6 e6 _ rx H6 R6 rfl)
  case s2 => exact Or.inl (sa_rings2 (.tmp 13) (.tmp 14) 15 ra rx rfl rfl rfl (.new 13 (by kernel_rfl) (by rw [hz]; decide)) (.new 14 (by kernel_rfl) (by rw [hz]; decide)) rfl)
  case s3 => exact Or.inl (sa_call1 10 (.tmp 15) _ 16 (.row [ra, rx]) rfl rfl rfl (.new 15 (by kernel_rfl) (by rw [hz]; decide)) (enters_of Tryz.func10 (by kernel_rfl) rfl) (fun v y q => c_merge [ra, rx] (by simp) v y q))
  case e =>
  intro a x hA hgr hv
  have om : (Fk.ring (mergeL [ra, rx])).holds (a.eval (.tmp 16)) x := hv 16 (by kernel_rfl) (by rw [hz]; decide)
  show wpList Tryz.prog _ Q [_, _] a x
  refine tail_box28 7 16 (by decide) (by rw [hA.size, hz]; decide) rfl rfl rfl rfl rfl rfl _ om (fun g w' h1 h2 => ?_)
  exact hend _ w' g (hA.put 7 _) ((ev_put (by rw [hA.size, hz]; decide)).trans (if_pos rfl)) h1 (hgr.trans h2)
theorem sa_eq9 {ops : Array Oper} {D : List Nat} {T : Nat → Fk} {a0 : Act} {w : World} {Q : Exit → Act → World → Prop} {o : Oper} (x1 x2 : Operand) (rt : TypeId) (d : Nat) (s t : ByteArray) (ho : o.op = .binOp .eql 9 x1 x2 rt) (hd : o.dst = some d) (hg : o.guard = none) (h1 : Has ops D T a0 o x1 (.val (.string s))) (h2 : Has ops D T a0 o x2 (.val (.string t))) (hst : s = t) (hT : T d = .val (.bool true)) : StepAt ops D T a0 w Q o := by
  subst hst
  refine sa_eql9 x1 x2 rt d s s ho hd hg h1 h2 ?_
  rw [hT]; simp
theorem sq4 {Q : Exit → Act → World → Prop} {a0 : Act} {w : World} (hz : a0.tmps.size = 35) (rx ry : Rg) (g6 g7 : Nat) (e5 : a0.eval (.tmp 5) = .bool true) (e6 : a0.eval (.tmp 6) = .pointer (some ⟨g6, 0, none⟩)) (e7 : a0.eval (.tmp 7) = .pointer (some ⟨g7, 0, none⟩)) (B6 : BoxIn w g6 rx) (B7 : BoxIn w g7 ry) (fx : RFit rx) (fy : RFit ry) (hn : normL rx = normL ry) (hend : ∀ a x, After [17, 18, 19, 20, 21, 22, 23, 24, 25, 26, 27, 28, 29, 30, 31, 32, 33, 34, 4] a0 a → a.eval (.tmp 4) = .bool true → Gr w x → Q .normal a x) : (Code.region 4 s4 true).wp Tryz.prog Q a0 w := by
  obtain ⟨u6, H6, R6⟩ := B6
  obtain ⟨u7, H7, R7⟩ := B7
  refine drawn_by (by kernel_rfl) (by kernel_rfl) [17, 18, 19, 20, 21, 22, 23, 24, 25, 26, 27, 28, 29, 30, 31, 32, 33, 34, 4] (fun | 17 => .val (.bool true) | 18 => .val (.bool true) | 19 => .ring rx | 20 => .ring ry | 21 => .val (.bool true) | 22 => .val (.bool true) | 23 => .val (.bool true) | 24 => .ring rx | 25 => .ring ry | 26 => .val (.bool true) | 27 => .val (.bool true) | 28 => .val (.bool true) | 29 => .ring rx | 30 => .val (.string (Pk.strL (bytesG (normL rx)))) | 31 => .ring ry | 32 => .val (.string (Pk.strL (bytesG (normL ry)))) | 33 => .val (.bool true) | 34 => .val (.bool true) | 4 => .val (.bool true) | _ => .any) (by kernel_rfl) (List.forall_mem_cons.2 ⟨?s0, List.forall_mem_cons.2 ⟨?s1, List.forall_mem_cons.2 ⟨?s2, List.forall_mem_cons.2 ⟨?s3, List.forall_mem_cons.2 ⟨?s4, List.forall_mem_cons.2 ⟨?s5, List.forall_mem_cons.2 ⟨?s6, List.forall_mem_cons.2 ⟨?s7, List.forall_mem_cons.2 ⟨?s8, List.forall_mem_cons.2 ⟨?s9, List.forall_mem_cons.2 ⟨?s10, List.forall_mem_cons.2 ⟨?s11, List.forall_mem_cons.2 ⟨?s12, List.forall_mem_cons.2 ⟨?s13, List.forall_mem_cons.2 ⟨?s14, List.forall_mem_cons.2 ⟨?s15, List.forall_mem_cons.2 ⟨?s16, List.forall_mem_cons.2 ⟨?s17, List.forall_mem_cons.2 ⟨?s18, fun o ho => nomatch ho⟩⟩⟩⟩⟩⟩⟩⟩⟩⟩⟩⟩⟩⟩⟩⟩⟩⟩⟩) ?e
  case s0 => exact sa_move (.tmp 5) 17 (.val (.bool true)) (.inl rfl) rfl rfl (.old 5 _ (by decide) e5) rfl
  case s1 => exact sa_move (.tmp 17) 18 (.val (.bool true)) (.inl rfl) rfl rfl (.new 17 (by kernel_rfl) (by rw [hz]; decide)) rfl
  case s2 => exact sa_guard 1 18 rfl rfl (by kernel_rfl) (by rw [hz]; decide) rfl (sa_load28 6 19 rfl rfl rfl (by decide) g6 e6 _ rx H6 R6 rfl)
  case s3 => exact sa_guard 1 18 rfl rfl (by kernel_rfl) (by rw [hz]; decide) rfl (sa_load28 7 20 rfl rfl rfl (by decide) g7 e7 _ ry H7 R7 rfl)
  case s4 => exact sa_guard 1 18 rfl rfl (by kernel_rfl) (by rw [hz]; decide) rfl (sa_call2 28 (.tmp 19) (.tmp 20) _ 21 (.ring rx) (.ring ry) rfl rfl rfl (.new 19 (by kernel_rfl) (by rw [hz]; decide)) (.new 20 (by kernel_rfl) (by rw [hz]; decide)) (enters_of Tryz.func28 (by kernel_rfl) rfl) (fun v s y q1 q2 => c_same rx ry hn v s y q1 q2))
  case s5 => exact sa_pick (.tmp 18) (.tmp 21) (.const _) 22 (.val (.bool true)) rfl rfl rfl (.new 18 (by kernel_rfl) (by rw [hz]; decide)) (.new 21 (by kernel_rfl) (by rw [hz]; decide)) rfl
  case s6 => exact sa_move (.tmp 22) 23 (.val (.bool true)) (.inl rfl) rfl rfl (.new 22 (by kernel_rfl) (by rw [hz]; decide)) rfl
  case s7 => exact sa_guard 6 23 rfl rfl (by kernel_rfl) (by rw [hz]; decide) rfl (sa_load28 6 24 rfl rfl rfl (by decide) g6 e6 _ rx H6 R6 rfl)
  case s8 => exact sa_guard 6 23 rfl rfl (by kernel_rfl) (by rw [hz]; decide) rfl (sa_load28 7 25 rfl rfl rfl (by decide) g7 e7 _ ry H7 R7 rfl)
  case s9 => exact sa_guard 6 23 rfl rfl (by kernel_rfl) (by rw [hz]; decide) rfl (sa_call2 7 (.tmp 24) (.tmp 25) _ 26 (.ring rx) (.ring ry) rfl rfl rfl (.new 24 (by kernel_rfl) (by rw [hz]; decide)) (.new 25 (by kernel_rfl) (by rw [hz]; decide)) (enters_of Tryz.func7 (by kernel_rfl) rfl) (fun v s y q1 q2 => c_lawsame rx ry fx fy hn v s y q1 q2))
  case s10 => exact sa_pick (.tmp 23) (.tmp 26) (.const _) 27 (.val (.bool true)) rfl rfl rfl (.new 23 (by kernel_rfl) (by rw [hz]; decide)) (.new 26 (by kernel_rfl) (by rw [hz]; decide)) rfl
  case s11 => exact sa_move (.tmp 27) 28 (.val (.bool true)) (.inl rfl) rfl rfl (.new 27 (by kernel_rfl) (by rw [hz]; decide)) rfl
  case s12 => exact sa_guard 11 28 rfl rfl (by kernel_rfl) (by rw [hz]; decide) rfl (sa_load28 6 29 rfl rfl rfl (by decide) g6 e6 _ rx H6 R6 rfl)
  case s13 => exact sa_guard 11 28 rfl rfl (by kernel_rfl) (by rw [hz]; decide) rfl (sa_call1 29 (.tmp 29) _ 30 (.ring rx) rfl rfl rfl (.new 29 (by kernel_rfl) (by rw [hz]; decide)) (enters_of Tryz.func29 (by kernel_rfl) rfl) (fun v y q => c_gbytes rx fx v y q))
  case s14 => exact sa_guard 11 28 rfl rfl (by kernel_rfl) (by rw [hz]; decide) rfl (sa_load28 7 31 rfl rfl rfl (by decide) g7 e7 _ ry H7 R7 rfl)
  case s15 => exact sa_guard 11 28 rfl rfl (by kernel_rfl) (by rw [hz]; decide) rfl (sa_call1 29 (.tmp 31) _ 32 (.ring ry) rfl rfl rfl (.new 31 (by kernel_rfl) (by rw [hz]; decide)) (enters_of Tryz.func29 (by kernel_rfl) rfl) (fun v y q => c_gbytes ry fy v y q))
  case s16 => exact sa_guard 11 28 rfl rfl (by kernel_rfl) (by rw [hz]; decide) rfl (sa_eq9 (.tmp 30) (.tmp 32) _ 33 _ _ rfl rfl rfl (.new 30 (by kernel_rfl) (by rw [hz]; decide)) (.new 32 (by kernel_rfl) (by rw [hz]; decide)) (by rw [hn]) rfl)
  case s17 => exact sa_pick (.tmp 28) (.tmp 33) (.const _) 34 (.val (.bool true)) rfl rfl rfl (.new 28 (by kernel_rfl) (by rw [hz]; decide)) (.new 33 (by kernel_rfl) (by rw [hz]; decide)) rfl
  case s18 => exact sa_move (.tmp 34) 4 (.val (.bool true)) (.inr rfl) rfl rfl (.new 34 (by kernel_rfl) (by rw [hz]; decide)) rfl
  case e =>
  intro a x hA hgr hv
  exact hend a x hA (hv 4 (by kernel_rfl) (by rw [hz]; decide)) hgr
def sLaw : Code := (Code.region 0 s0 false).seq ((Code.region 1 s1 false).seq ((Code.region 2 s2 false).seq ((Code.region 3 s3 false).seq ((Code.region 4 s4 true).seq Code.ret))))
theorem sact_first (u v : Value) (k : Nat) : (Act.mk (#[u, v] ++ Array.replicate k undef) []).eval (.tmp 0) = u := by
  show (#[u, v] ++ Array.replicate k undef).getD 0 undef = u
  rw [Array.getD_eq_getD_getElem?, Array.getElem?_append_left (by simp)]
  rfl
theorem sact_second (u v : Value) (k : Nat) : (Act.mk (#[u, v] ++ Array.replicate k undef) []).eval (.tmp 1) = v := by
  show (#[u, v] ++ Array.replicate k undef).getD 1 undef = v
  rw [Array.getD_eq_getD_getElem?, Array.getElem?_append_left (by simp)]
  rfl
theorem spreads_walk (ra rb : Rg) (fa : RFit ra) (fb : RFit rb) (ua ub : Value) (w : World) (RA : RingAt w.heap.size w ua ra) (RB : RingAt w.heap.size w ub rb) :
    Calls Tryz.prog 5 #[ringV ua ra, ringV ub rb] w fun e z => e = .returned (.bool true) ∧ Gr w z := by
  refine calls_of_wp (c := sLaw) Tryz.func5 (by kernel_rfl) ?_
  generalize ha : (Act.mk (#[ringV ua ra, ringV ub rb] ++ Array.replicate (Tryz.f5.ntmps - (#[ringV ua ra, ringV ub rb] : Array Value).size) undef) []) = a
  have hz : a.tmps.size = 35 := by rw [← ha]; simp [Tryz.ntmps5]
  have df : a.defers = [] := by rw [← ha]
  have e0 : a.eval (.tmp 0) = .agg (ringC ua ra).toArray := by rw [← ha]; exact sact_first _ _ _
  have e1 : a.eval (.tmp 1) = .agg (ringC ub rb).toArray := by rw [← ha]; exact sact_second _ _ _
  clear ha
  unfold sLaw
  refine wp_seq (wp_region_list ?_)
  refine wpList_box_new 2 rfl rfl 28 (.tmp 0) rfl w.heap.size rfl (ringC ua ra) e0 (fun w1 h1 => ?_)
  refine wpList_box_new 3 rfl rfl 28 (.tmp 1) rfl w1.heap.size rfl (ringC ub rb) (by simp [ev_put, hz, e1]) (fun w2 h2 => ?_)
  refine wl_of rfl (op_move _ (.inr rfl) ?_)
  have G1 : Gr w w1 := h1.below
  have G2 : Gr w1 w2 := h2.below
  have B2 : BoxIn w2 w.heap.size ra := ⟨ua, h1.holds.below h2.below (by have := h1.size; omega), RA.gr (G1.trans G2)⟩
  have B3 : BoxIn w2 w1.heap.size rb := ⟨ub, h2.holds, RB.gr (G1.trans G2)⟩
  have A0 : After [4, 3, 2] a (((a.put (some 2) (.pointer (some ⟨w.heap.size, 0, none⟩))).put (some 3) (.pointer (some ⟨w1.heap.size, 0, none⟩))).put (some 4) (.bool false)) := (((After.self a).put 2 _).put 3 _).put 4 _
  obtain ⟨a1, ha1⟩ : ∃ a1, (((a.put (some 2) (.pointer (some ⟨w.heap.size, 0, none⟩))).put (some 3) (.pointer (some ⟨w1.heap.size, 0, none⟩))).put (some 4) (.bool false)) = a1 := ⟨_, rfl⟩
  have f2 : a1.eval (.tmp 2) = .pointer (some ⟨w.heap.size, 0, none⟩) := by rw [← ha1]; simp [ev_put, put_size, hz]
  have f3 : a1.eval (.tmp 3) = .pointer (some ⟨w1.heap.size, 0, none⟩) := by rw [← ha1]; simp [ev_put, put_size, hz]
  rw [ha1] at A0
  show Code.wp Tryz.prog _ _ (((a.put (some 2) (.pointer (some ⟨w.heap.size, 0, none⟩))).put (some 3) (.pointer (some ⟨w1.heap.size, 0, none⟩))).put (some 4) (.bool false)) w2
  rw [ha1]
  clear ha1
  have z1 := A0.size.trans hz
  have d1 := A0.defers.trans df
  refine wp_seq (sq1 z1 (fun a2 x2 A2 e5 G3 => ?_))
  show Code.wp Tryz.prog _ _ a2 x2
  refine wp_seq (sq2 (A2.size.trans z1) rb ra w1.heap.size w.heap.size ((A2.old 3 (by decide)).trans f3) ((A2.old 2 (by decide)).trans f2) (B3.gr G3) (B2.gr G3) (fun a3 x3 g6 A3 e6 B6 G4 => ?_))
  show Code.wp Tryz.prog _ _ a3 x3
  refine wp_seq (sq3 (A3.size.trans (A2.size.trans z1)) ra (mergeL [rb, ra]) w.heap.size g6 ((A3.old 2 (by decide)).trans ((A2.old 2 (by decide)).trans f2)) e6 (B2.gr (G3.trans G4)) B6 (fun a4 x4 g7 A4 e7 B7 G5 => ?_))
  show Code.wp Tryz.prog _ _ a4 x4
  have fx : RFit (mergeL [rb, ra]) := merge_fit (by intro r hr; simp at hr; rcases hr with rfl | rfl; exact fb; exact fa)
  rw [spread_eq] at B7
  refine wp_seq (sq4 (A4.size.trans (A3.size.trans (A2.size.trans z1))) (mergeL [rb, ra]) (mergeL [rb, ra]) g6 g7 ((A4.old 5 (by decide)).trans ((A3.old 5 (by decide)).trans e5)) ((A4.old 6 (by decide)).trans e6) e7 (B6.gr G5) B7 fx fx rfl (fun a5 x5 A5 e4 G6 => ?_))
  refine wp_ret (bodyPost_ret (results_tmp rfl _ _ _) (A5.defers.trans (A4.defers.trans (A3.defers.trans (A2.defers.trans d1)))) ⟨congrArg Ending.returned e4, ?_⟩)
  exact G1.trans (G2.trans (G3.trans (G4.trans (G5.trans G6))))
end Go.Proofs.YthmnjebmnocoiaaGreat
