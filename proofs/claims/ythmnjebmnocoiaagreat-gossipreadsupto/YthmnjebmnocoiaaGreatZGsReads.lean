/- GossipReads: the law. By tools/gen_greads.py. -/
import Derived.Test.YthmnjebmnocoiaaGreatZGsRdE
namespace Go.Proofs.YthmnjebmnocoiaaGreat.En
open Go.RowKit
theorem own_small (r : Rg) (h : RFit r) : (Pk.strL (bytesG (normL r))).size ≤ 1000000000 := by
  have hw := Rd.norm_wfit h
  obtain ⟨k, hr, e1, hl, hso⟩ := merge_normed [r]
  have hn : (normL r).1.length ≤ 7 := by
    show (risL (mergeK [r])).length ≤ 7
    unfold risL
    refine Nat.le_trans (List.length_filter_le _ _) ?_
    simp [seven]
  have h1 := flatA_len memA 30 (normL r).1 (fun m hm => memA_len (hw.mem m hm))
  have h2 := flatA_len ownA 20 (normL r).2 (fun m hm => ownA_len (hw.own m hm))
  have h3 := Pk.numL_len10 (normL r).1.length (by omega)
  have h4 := hw.len
  show (bytesG (normL r)).length ≤ _
  unfold bytesG
  rw [List.length_append, List.length_append]
  omega
def q4_0 : Array Oper := #[{ dst := some 2, op := Op.box 28 (Operand.tmp 0), type := 0, pos := "law.go:51", after := #[], guard := none }, { dst := some 4, op := Op.assign (Operand.const (Value.bool false)), type := 4, pos := "law.go:51", after := #[], guard := none }]
def q4_1 : Array Oper := #[{ dst := some 14, op := Op.call { callee := Callee.value (Operand.func 6), args := #[], argTypes := #[] }, type := 4, pos := "law.go:52", after := #[], guard := none }, { dst := some 5, op := Op.assign (Operand.tmp 14), type := 4, pos := "law.go:52", after := #[{ on := 0, ground := Ground.data }, { on := 0, ground := Ground.chain }, { on := 0, ground := Ground.phase }], guard := none }]
def q4_2 : Array Oper := #[{ dst := some 16, op := Op.load 28 (Operand.tmp 2), type := 28, pos := "law.go:53", after := #[], guard := none }, { dst := some 17, op := Op.call { callee := Callee.value (Operand.func 29), args := #[Operand.tmp 16], argTypes := #[28] }, type := 9, pos := "law.go:53", after := #[{ on := 0, ground := Ground.data }], guard := none }, { dst := some 18, op := Op.call { callee := Callee.value (Operand.func 31), args := #[Operand.tmp 17], argTypes := #[9] }, type := 49, pos := "law.go:53", after := #[{ on := 1, ground := Ground.data }, { on := 1, ground := Ground.chain }], guard := none }, { dst := some 15, op := Op.move (Operand.tmp 18), type := 49, pos := "law.go:53", after := #[{ on := 2, ground := Ground.data }], guard := none }, { dst := some 19, op := Op.extract (Operand.tmp 15) 0, type := 28, pos := "law.go:53", after := #[{ on := 3, ground := Ground.data }], guard := none }, { dst := some 20, op := Op.extract (Operand.tmp 15) 1, type := 48, pos := "law.go:53", after := #[{ on := 3, ground := Ground.data }, { on := 7, ground := Ground.gcOnly Departure.lateStores }], guard := none }, { dst := some 6, op := Op.alloc 28, type := 0, pos := "law.go:53", after := #[], guard := none }, { dst := none, op := Op.store 28 (Operand.tmp 6) (Operand.tmp 19), type := 0, pos := "law.go:53", after := #[{ on := 6, ground := Ground.data }, { on := 4, ground := Ground.data }, { on := 2, ground := Ground.chain }, { on := 0, ground := Ground.phase }, { on := 1, ground := Ground.phase }, { on := 2, ground := Ground.phase }, { on := 3, ground := Ground.phase }, { on := 4, ground := Ground.phase }, { on := 5, ground := Ground.textOnly Departure.lateStores }, { on := 6, ground := Ground.phase }], guard := none }, { dst := some 7, op := Op.assign (Operand.tmp 20), type := 48, pos := "law.go:53", after := #[{ on := 5, ground := Ground.data }, { on := 7, ground := Ground.chain }, { on := 0, ground := Ground.phase }, { on := 1, ground := Ground.phase }, { on := 2, ground := Ground.phase }, { on := 3, ground := Ground.phase }, { on := 4, ground := Ground.phase }, { on := 5, ground := Ground.phase }, { on := 6, ground := Ground.phase }, { on := 7, ground := Ground.phase }], guard := none }]
def q4_3 : Array Oper := #[{ dst := some 22, op := Op.move (Operand.tmp 1), type := 9, pos := "law.go:54", after := #[], guard := none }, { dst := some 23, op := Op.call { callee := Callee.value (Operand.func 31), args := #[Operand.tmp 22], argTypes := #[9] }, type := 49, pos := "law.go:54", after := #[{ on := 0, ground := Ground.data }], guard := none }, { dst := some 21, op := Op.move (Operand.tmp 23), type := 49, pos := "law.go:54", after := #[{ on := 1, ground := Ground.data }], guard := none }, { dst := some 24, op := Op.extract (Operand.tmp 21) 0, type := 28, pos := "law.go:54", after := #[{ on := 2, ground := Ground.data }], guard := none }, { dst := some 25, op := Op.extract (Operand.tmp 21) 1, type := 48, pos := "law.go:54", after := #[{ on := 2, ground := Ground.data }, { on := 6, ground := Ground.gcOnly Departure.lateStores }], guard := none }, { dst := some 8, op := Op.alloc 28, type := 0, pos := "law.go:54", after := #[], guard := none }, { dst := none, op := Op.store 28 (Operand.tmp 8) (Operand.tmp 24), type := 0, pos := "law.go:54", after := #[{ on := 5, ground := Ground.data }, { on := 3, ground := Ground.data }, { on := 1, ground := Ground.chain }, { on := 0, ground := Ground.phase }, { on := 1, ground := Ground.phase }, { on := 2, ground := Ground.phase }, { on := 3, ground := Ground.phase }, { on := 4, ground := Ground.textOnly Departure.lateStores }, { on := 5, ground := Ground.phase }], guard := none }, { dst := some 9, op := Op.assign (Operand.tmp 25), type := 48, pos := "law.go:54", after := #[{ on := 4, ground := Ground.data }, { on := 6, ground := Ground.chain }, { on := 0, ground := Ground.phase }, { on := 1, ground := Ground.phase }, { on := 2, ground := Ground.phase }, { on := 3, ground := Ground.phase }, { on := 4, ground := Ground.phase }, { on := 5, ground := Ground.phase }, { on := 6, ground := Ground.phase }], guard := none }]
def q4_4 : Array Oper := #[{ dst := some 27, op := Op.move (Operand.tmp 1), type := 9, pos := "law.go:55", after := #[], guard := none }, { dst := some 28, op := Op.call { callee := Callee.value (Operand.func 32), args := #[Operand.tmp 27], argTypes := #[9] }, type := 49, pos := "law.go:55", after := #[{ on := 0, ground := Ground.data }], guard := none }, { dst := some 26, op := Op.move (Operand.tmp 28), type := 49, pos := "law.go:55", after := #[{ on := 1, ground := Ground.data }], guard := none }, { dst := some 29, op := Op.extract (Operand.tmp 26) 0, type := 28, pos := "law.go:55", after := #[{ on := 2, ground := Ground.data }], guard := none }, { dst := some 30, op := Op.extract (Operand.tmp 26) 1, type := 48, pos := "law.go:55", after := #[{ on := 2, ground := Ground.data }, { on := 6, ground := Ground.gcOnly Departure.lateStores }], guard := none }, { dst := some 10, op := Op.alloc 28, type := 0, pos := "law.go:55", after := #[], guard := none }, { dst := none, op := Op.store 28 (Operand.tmp 10) (Operand.tmp 29), type := 0, pos := "law.go:55", after := #[{ on := 5, ground := Ground.data }, { on := 3, ground := Ground.data }, { on := 1, ground := Ground.chain }, { on := 0, ground := Ground.phase }, { on := 1, ground := Ground.phase }, { on := 2, ground := Ground.phase }, { on := 3, ground := Ground.phase }, { on := 4, ground := Ground.textOnly Departure.lateStores }, { on := 5, ground := Ground.phase }], guard := none }, { dst := some 11, op := Op.assign (Operand.tmp 30), type := 48, pos := "law.go:55", after := #[{ on := 4, ground := Ground.data }, { on := 6, ground := Ground.chain }, { on := 0, ground := Ground.phase }, { on := 1, ground := Ground.phase }, { on := 2, ground := Ground.phase }, { on := 3, ground := Ground.phase }, { on := 4, ground := Ground.phase }, { on := 5, ground := Ground.phase }, { on := 6, ground := Ground.phase }], guard := none }]
def q4_5 : Array Oper := #[{ dst := some 31, op := Op.load 28 (Operand.tmp 6), type := 28, pos := "law.go:56", after := #[], guard := none }, { dst := some 32, op := Op.load 28 (Operand.tmp 2), type := 28, pos := "law.go:56", after := #[], guard := none }, { dst := some 33, op := Op.call { callee := Callee.value (Operand.func 7), args := #[Operand.tmp 31, Operand.tmp 32], argTypes := #[28, 28] }, type := 4, pos := "law.go:56", after := #[{ on := 0, ground := Ground.data }, { on := 1, ground := Ground.data }], guard := none }, { dst := some 12, op := Op.assign (Operand.tmp 33), type := 4, pos := "law.go:56", after := #[{ on := 2, ground := Ground.data }, { on := 2, ground := Ground.chain }, { on := 0, ground := Ground.phase }, { on := 1, ground := Ground.phase }, { on := 2, ground := Ground.phase }], guard := none }]
def q4_6 : Array Oper := #[{ dst := some 34, op := Op.load 28 (Operand.tmp 8), type := 28, pos := "law.go:57", after := #[], guard := none }, { dst := some 35, op := Op.load 28 (Operand.tmp 10), type := 28, pos := "law.go:57", after := #[], guard := none }, { dst := some 36, op := Op.call { callee := Callee.value (Operand.func 7), args := #[Operand.tmp 34, Operand.tmp 35], argTypes := #[28, 28] }, type := 4, pos := "law.go:57", after := #[{ on := 0, ground := Ground.data }, { on := 1, ground := Ground.data }], guard := none }, { dst := some 13, op := Op.assign (Operand.tmp 36), type := 4, pos := "law.go:57", after := #[{ on := 2, ground := Ground.data }, { on := 2, ground := Ground.chain }, { on := 0, ground := Ground.phase }, { on := 1, ground := Ground.phase }, { on := 2, ground := Ground.phase }], guard := none }]
def q4_7 : Array Oper := #[{ dst := some 37, op := Op.move (Operand.tmp 5), type := 4, pos := "law.go:58", after := #[], guard := none }, { dst := some 38, op := Op.move (Operand.tmp 37), type := 4, pos := "law.go:58", after := #[{ on := 0, ground := Ground.data }], guard := none }, { dst := some 39, op := Op.move (Operand.tmp 7), type := 48, pos := "law.go:58", after := #[{ on := 1, ground := Ground.guard }], guard := some (1, true) }, { dst := some 40, op := Op.binOp BinOp.eql 48 (Operand.tmp 39) (Operand.const (Value.int IntKind.i64 0)) 48, type := 4, pos := "law.go:58", after := #[{ on := 2, ground := Ground.data }, { on := 1, ground := Ground.guard }], guard := some (1, true) }, { dst := some 41, op := Op.pick (Operand.tmp 38) (Operand.tmp 40) (Operand.const (Value.bool false)), type := 4, pos := "law.go:58", after := #[{ on := 1, ground := Ground.data }, { on := 3, ground := Ground.data }], guard := none }, { dst := some 42, op := Op.move (Operand.tmp 41), type := 4, pos := "law.go:58", after := #[{ on := 4, ground := Ground.data }, { on := 1, ground := Ground.chain }], guard := none }, { dst := some 43, op := Op.move (Operand.tmp 12), type := 4, pos := "law.go:58", after := #[{ on := 5, ground := Ground.guard }], guard := some (5, true) }, { dst := some 44, op := Op.pick (Operand.tmp 42) (Operand.tmp 43) (Operand.const (Value.bool false)), type := 4, pos := "law.go:58", after := #[{ on := 5, ground := Ground.data }, { on := 6, ground := Ground.data }], guard := none }, { dst := some 45, op := Op.move (Operand.tmp 44), type := 4, pos := "law.go:58", after := #[{ on := 7, ground := Ground.data }, { on := 5, ground := Ground.chain }], guard := none }, { dst := some 46, op := Op.move (Operand.tmp 9), type := 48, pos := "law.go:58", after := #[{ on := 8, ground := Ground.guard }], guard := some (8, true) }, { dst := some 47, op := Op.move (Operand.tmp 11), type := 48, pos := "law.go:58", after := #[{ on := 8, ground := Ground.guard }], guard := some (8, true) }, { dst := some 48, op := Op.binOp BinOp.eql 48 (Operand.tmp 46) (Operand.tmp 47) 48, type := 4, pos := "law.go:58", after := #[{ on := 9, ground := Ground.data }, { on := 10, ground := Ground.data }, { on := 8, ground := Ground.guard }], guard := some (8, true) }, { dst := some 49, op := Op.pick (Operand.tmp 45) (Operand.tmp 48) (Operand.const (Value.bool false)), type := 4, pos := "law.go:58", after := #[{ on := 8, ground := Ground.data }, { on := 11, ground := Ground.data }], guard := none }, { dst := some 50, op := Op.move (Operand.tmp 49), type := 4, pos := "law.go:58", after := #[{ on := 12, ground := Ground.data }, { on := 8, ground := Ground.chain }], guard := none }, { dst := some 51, op := Op.move (Operand.tmp 13), type := 4, pos := "law.go:58", after := #[{ on := 13, ground := Ground.guard }], guard := some (13, true) }, { dst := some 52, op := Op.pick (Operand.tmp 50) (Operand.tmp 51) (Operand.const (Value.bool false)), type := 4, pos := "law.go:58", after := #[{ on := 13, ground := Ground.data }, { on := 14, ground := Ground.data }], guard := none }, { dst := some 53, op := Op.move (Operand.tmp 52), type := 4, pos := "law.go:58", after := #[{ on := 15, ground := Ground.data }, { on := 13, ground := Ground.chain }], guard := none }, { dst := some 54, op := Op.move (Operand.tmp 9), type := 48, pos := "law.go:58", after := #[{ on := 16, ground := Ground.guard }], guard := some (16, true) }, { dst := some 55, op := Op.binOp BinOp.neq 48 (Operand.tmp 54) (Operand.const (Value.int IntKind.i64 0)) 48, type := 4, pos := "law.go:58", after := #[{ on := 17, ground := Ground.data }, { on := 16, ground := Ground.guard }], guard := some (16, true) }, { dst := some 56, op := Op.move (Operand.tmp 55), type := 4, pos := "law.go:58", after := #[{ on := 18, ground := Ground.data }, { on := 16, ground := Ground.chain }, { on := 16, ground := Ground.guard }], guard := some (16, true) }, { dst := some 57, op := Op.load 28 (Operand.tmp 8), type := 28, pos := "law.go:58", after := #[{ on := 19, ground := Ground.guard }], guard := some (19, false) }, { dst := some 58, op := Op.call { callee := Callee.value (Operand.func 29), args := #[Operand.tmp 57], argTypes := #[28] }, type := 9, pos := "law.go:58", after := #[{ on := 20, ground := Ground.data }, { on := 19, ground := Ground.chain }, { on := 19, ground := Ground.guard }], guard := some (19, false) }, { dst := some 59, op := Op.move (Operand.tmp 1), type := 9, pos := "law.go:58", after := #[{ on := 19, ground := Ground.guard }], guard := some (19, false) }, { dst := some 60, op := Op.binOp BinOp.eql 9 (Operand.tmp 58) (Operand.tmp 59) 9, type := 4, pos := "law.go:58", after := #[{ on := 21, ground := Ground.data }, { on := 22, ground := Ground.data }, { on := 19, ground := Ground.guard }], guard := some (19, false) }, { dst := some 61, op := Op.pick (Operand.tmp 56) (Operand.const (Value.bool true)) (Operand.tmp 60), type := 4, pos := "law.go:58", after := #[{ on := 19, ground := Ground.data }, { on := 23, ground := Ground.data }, { on := 16, ground := Ground.guard }], guard := some (16, true) }, { dst := some 62, op := Op.pick (Operand.tmp 53) (Operand.tmp 61) (Operand.const (Value.bool false)), type := 4, pos := "law.go:58", after := #[{ on := 16, ground := Ground.data }, { on := 24, ground := Ground.data }], guard := none }, { dst := some 4, op := Op.assign (Operand.tmp 62), type := 4, pos := "law.go:58", after := #[{ on := 25, ground := Ground.data }, { on := 21, ground := Ground.chain }, { on := 0, ground := Ground.phase }, { on := 1, ground := Ground.phase }, { on := 2, ground := Ground.phase }, { on := 3, ground := Ground.phase }, { on := 4, ground := Ground.phase }, { on := 5, ground := Ground.phase }, { on := 6, ground := Ground.phase }, { on := 7, ground := Ground.phase }, { on := 8, ground := Ground.phase }, { on := 9, ground := Ground.phase }, { on := 10, ground := Ground.phase }, { on := 11, ground := Ground.phase }, { on := 12, ground := Ground.phase }, { on := 13, ground := Ground.phase }, { on := 14, ground := Ground.phase }, { on := 15, ground := Ground.phase }, { on := 16, ground := Ground.phase }, { on := 17, ground := Ground.phase }, { on := 18, ground := Ground.phase }, { on := 19, ground := Ground.phase }, { on := 20, ground := Ground.phase }, { on := 21, ground := Ground.phase }, { on := 22, ground := Ground.phase }, { on := 23, ground := Ground.phase }, { on := 24, ground := Ground.phase }, { on := 25, ground := Ground.phase }], guard := none }]
/-- A ring in a box. -/
def Bx (w : World) (g : Nat) (r : Rg) : Prop := ∃ u, Holds w g (ringC u r) 28 ∧ RingAt w.heap.size w u r
theorem Bx.gr {w w' : World} {g : Nat} {r : Rg} (h : Bx w g r) (hb : Gr w w') : Bx w' g r := by
  obtain ⟨u, H, R⟩ := h
  exact ⟨u, H.below hb H.lt, (R.below hb).mono hb.size⟩
theorem op_extract {P : Program} {Q : Exit → Act → World → Prop} {o : Oper} {a : Act} {w : World} {K : Act → World → Prop} (u : Operand) (k : Nat) (s q : Value) (ho : o.op = .extract u k) (e : a.eval u = s) (hr : ∀ y, (Instr.extract s k).run P y = .ok q y) (h : K (a.put o.dst q) w) : o.wp P a w K Q := by
  refine op_val q (y := w) ?_ h
  unfold execOp
  simp only [ho, e, Sem.run_bind, hr, Sem.run_pure, Result.andThen_ok]
theorem ext_0 (u v : Value) (y : World) : (Instr.extract (.tuple #[u, v]) 0).run Tryz.prog y = .ok u y := by kernel_rfl
theorem ext_1 (u v : Value) (y : World) : (Instr.extract (.tuple #[u, v]) 1).run Tryz.prog y = .ok v y := by kernel_rfl
set_option maxRecDepth 100000 in
theorem r4_0 {Q : Exit → Act → World → Prop} {a0 : Act} {w : World} (hz : a0.tmps.size = 63) (u : Value) (r : Rg) (hR : RingAt w.heap.size w u r) (e0 : a0.eval (.tmp 0) = ringV u r) (hend : ∀ ac y g, After [4, 2] a0 ac → ac.eval (.tmp 2) = .pointer (some ⟨g, 0, none⟩) → Bx y g r → Gr w y → Q .normal ac y) : (Code.region 0 q4_0 false).wp Tryz.prog Q a0 w := by
  refine wp_region_list ?_
  refine wpList_box_new 2 rfl rfl 28 (.tmp 0) rfl w.heap.size rfl (ringC u r) e0 ?_
  intro y h
  refine wl_of rfl (op_mv (.const (.bool false)) (.bool false) (.inr rfl) rfl 4 rfl (wl_end (hend _ y w.heap.size (((After.self a0).put 2 _).put 4 _) ?_ ⟨u, h.holds, (hR.below h.below).mono (by have := h.size; omega)⟩ h.below)))
  simp [ev_put, put_size, hz]
set_option maxRecDepth 100000 in
theorem r4_1 {Q : Exit → Act → World → Prop} {a0 : Act} {w : World} (hz : a0.tmps.size = 63) (hend : ∀ ac y, After [5, 14] a0 ac → ac.eval (.tmp 5) = .bool true → Gr w y → Q .normal ac y) : (Code.region 1 q4_1 false).wp Tryz.prog Q a0 w := by
  refine wp_region_list ?_
  refine wl_of rfl (op_call 6 #[] #[] rfl #[] (by simp) (enters_of Tryz.func6 (by kernel_rfl) rfl) ((k_awake w).mono ?_))
  rintro e y ⟨rfl, q2⟩
  refine ⟨_, rfl, ?_⟩
  show wpList Tryz.prog _ Q _ (a0.put (some 14) _) y
  refine wl_of rfl (op_mv (.tmp 14) (.bool true) (.inr rfl) (by simp [ev_put, hz]) 5 rfl (wl_end (hend _ y (((After.self a0).put 14 _).put 5 _) ?_ q2)))
  simp [ev_put, put_size, hz]
/-- The end of a Read in the law: its ring is boxed, its error is kept. -/
theorem rd_tail {Q : Exit → Act → World → Prop} {a : Act} {w x : World} {ops : Array Oper} {o1 o2 o3 o4 o5 o6 : Oper} (c t d1 d2 b f : Nat) (hz : a.tmps.size = 63) (u : Value) (r : Rg) (F : Int) (hb : Below w.heap.size w x) (hR : RingAt x.heap.size x u r) (ec : a.eval (.tmp c) = .tuple #[ringV u r, .int .i64 F])
    (h1 : o1.op = .move (.tmp c) ∧ o1.dst = some t ∧ o1.guard = none) (h2 : o2.op = .extract (.tmp t) 0 ∧ o2.dst = some d1 ∧ o2.guard = none) (h3 : o3.op = .extract (.tmp t) 1 ∧ o3.dst = some d2 ∧ o3.guard = none)
    (h4 : o4.op = .alloc 28 ∧ o4.dst = some b ∧ o4.guard = none) (h5 : o5.op = .store 28 (.tmp b) (.tmp d1) ∧ o5.dst = none ∧ o5.guard = none) (h6 : o6.op = .assign (.tmp d2) ∧ o6.dst = some f ∧ o6.guard = none)
    (hl : t < 63 ∧ d1 < 63 ∧ d2 < 63 ∧ b < 63 ∧ f < 63) (hn : t ≠ d1 ∧ t ≠ d2 ∧ d1 ≠ d2 ∧ b ≠ d1 ∧ b ≠ d2 ∧ f ≠ b ∧ f ≠ d1 ∧ f ≠ d2)
    (hend : ∀ ac y g, After [f, b, d2, d1, t] a ac → ac.eval (.tmp b) = .pointer (some ⟨g, 0, none⟩) → ac.eval (.tmp f) = .int .i64 F → Bx y g r → Below w.heap.size w y → Q .normal ac y) : wpList Tryz.prog ops Q [o1, o2, o3, o4, o5, o6] a x := by
  obtain ⟨l1, l2, l3, l4, l5⟩ := hl
  obtain ⟨n1, n2, n3, n4, n5, n6, n7, n8⟩ := hn
  refine wl_of h1.2.2 (op_mv (.tmp c) _ (.inl h1.1) ec t h1.2.1 ?_)
  refine wl_of h2.2.2 (op_extract (.tmp t) 0 _ (ringV u r) h2.1 (by simp [ev_put, hz, l1]; rfl) (fun y => ext_0 _ _ y) ?_)
  rw [h2.2.1]
  refine wl_of h3.2.2 (op_extract (.tmp t) 1 (.tuple #[ringV u r, .int .i64 F]) (.int .i64 F) h3.1 (by simp [ev_put, put_size, hz, l1, l2, Ne.symm n1]) (fun y => ext_1 _ _ y) ?_)
  rw [h3.2.1]
  refine wpList_alloc_new b h4.2.1 h4.2.2 28 h4.1 x.heap.size rfl _ zero28 (fun y hy => ?_)
  refine wpList_store_all h5.2.2 28 (.tmp b) (.tmp d1) h5.1 x.heap.size (by simp [ev_put, put_size, hz, l4]) (ringC u r) (by simp [ev_put, put_size, hz, l2, l3, l4, n4, Ne.symm n3]; rfl) 28 _ hy.holds (siz28.trans (by rw [ringC_len hR])) (noC_len.trans (ringC_len hR).symm) (ringC_one hR) (fun z hz' => ?_)
  rw [h5.2.1]
  have hg : Gr x z := hy.below.trans (hz'.below (Nat.le_refl _))
  refine wl_of h6.2.2 (op_mv (.tmp d2) (.int .i64 F) (.inr h6.1) (by simp [put_none, ev_put, put_size, hz, l3, l4, n5]) f h6.2.1 (wl_end (hend _ z x.heap.size ((((((After.self a).put t _).put d1 _).put d2 _).put b _).put f _) ?_ ?_ ⟨u, hz'.holds, (hR.below hg).mono hg.size⟩ (hb.trans (hg.mono hb.size)))))
  · simp [put_none, ev_put, put_size, hz, l4, l5, n6]
  · simp [put_none, ev_put, put_size, hz, l5]
set_option maxRecDepth 100000 in
theorem r4_2 {Q : Exit → Act → World → Prop} {a0 : Act} {w : World} (hz : a0.tmps.size = 63) (g : Nat) (r : Rg) (hf : RFit r) (hB : Bx w g r) (e2 : a0.eval (.tmp 2) = .pointer (some ⟨g, 0, none⟩)) (hend : ∀ ac y g, After [7, 6, 20, 19, 15, 18, 17, 16] a0 ac → ac.eval (.tmp 6) = .pointer (some ⟨g, 0, none⟩) → ac.eval (.tmp 7) = .int .i64 0 → Bx y g (normL r) → Gr w y → Q .normal ac y) : (Code.region 2 q4_2 false).wp Tryz.prog Q a0 w := by
  obtain ⟨u, H, R⟩ := hB
  refine wp_region_list ?_
  refine wl_of rfl (op_row 28 (.tmp 2) 17 _ (ringC u r) rfl g 0 e2 Tryz.underlying28 rfl siz28 (ringC_len R) (range_of H) ?_)
  show wpList Tryz.prog _ Q _ (a0.put (some 16) _) w
  refine wl_of rfl (op_call 29 #[.tmp 16] #[28] rfl #[ringV u r] (by simp [ev_put, hz]; rfl) (enters_of Tryz.func29 (by kernel_rfl) rfl) ((gbytes_any u r hf w R).mono ?_))
  rintro e x ⟨rfl, hb⟩
  refine ⟨_, rfl, ?_⟩
  show wpList Tryz.prog _ Q _ ((a0.put (some 16) _).put (some 17) _) x
  refine wl_of rfl (op_call 31 #[.tmp 17] #[9] rfl #[.string (Pk.strL (bytesG (normL r)))] (by simp [ev_put, put_size, hz]) (enters_of Tryz.func31 (by kernel_rfl) rfl) ((read31_any _ (own_small r hf) x).mono ?_))
  rw [readG_own r hf]
  rintro e x2 ⟨u2, rfl, R2, B2⟩
  refine ⟨_, rfl, ?_⟩
  show wpList Tryz.prog _ Q [_, _, _, _, _, _] (((a0.put (some 16) _).put (some 17) _).put (some 18) _) x2
  have hA : After [18, 17, 16] a0 (((a0.put (some 16) (.agg (ringC u r).toArray)).put (some 17) (.string (Pk.strL (bytesG (normL r))))).put (some 18) (.tuple #[ringV u2 (normL r), .int .i64 0])) := (((After.self a0).put 16 _).put 17 _).put 18 _
  refine rd_tail 18 15 19 20 6 7 (by simp [put_size, hz]) u2 (normL r) 0 (hb.trans (B2.mono hb.size)) R2 (by simp [ev_put, put_size, hz]) ⟨rfl, rfl, rfl⟩ ⟨rfl, rfl, rfl⟩ ⟨rfl, rfl, rfl⟩ ⟨rfl, rfl, rfl⟩ ⟨rfl, rfl, rfl⟩ ⟨rfl, rfl, rfl⟩ (by decide) (by decide) (fun ac y g' A6 p6 p7 hx hB2 => ?_)
  exact hend ac y g' ((hA.trans A6).mono (by decide)) p6 p7 hx hB2
set_option maxRecDepth 100000 in
theorem r4_3 {Q : Exit → Act → World → Prop} {a0 : Act} {w : World} (hz : a0.tmps.size = 63) (s : ByteArray) (hs : s.size ≤ 1000000000) (e1 : a0.eval (.tmp 1) = .string s) (hend : ∀ ac y g, After [9, 8, 25, 24, 21, 23, 22] a0 ac → ac.eval (.tmp 8) = .pointer (some ⟨g, 0, none⟩) → ac.eval (.tmp 9) = .int .i64 (readG s).2 → Bx y g (readG s).1 → Gr w y → Q .normal ac y) : (Code.region 3 q4_3 false).wp Tryz.prog Q a0 w := by
  refine wp_region_list ?_
  refine wl_of rfl (op_mv (.tmp 1) (.string s) (.inl rfl) e1 22 rfl ?_)
  refine wl_of rfl (op_call 31 #[.tmp 22] #[9] rfl #[.string s] (by simp [ev_put, hz]) (enters_of Tryz.func31 (by kernel_rfl) rfl) ((read31_any s hs w).mono ?_))
  rintro e x2 ⟨u2, rfl, R2, B2⟩
  refine ⟨_, rfl, ?_⟩
  generalize readG s = rg at *
  show wpList Tryz.prog _ Q [_, _, _, _, _, _] ((a0.put (some 22) _).put (some 23) _) x2
  have hA : After [23, 22] a0 ((a0.put (some 22) (.string s)).put (some 23) (.tuple #[ringV u2 rg.1, .int .i64 rg.2])) := ((After.self a0).put 22 _).put 23 _
  refine rd_tail 23 21 24 25 8 9 (by simp [put_size, hz]) u2 rg.1 rg.2 B2 R2 (by simp [ev_put, put_size, hz]) ⟨rfl, rfl, rfl⟩ ⟨rfl, rfl, rfl⟩ ⟨rfl, rfl, rfl⟩ ⟨rfl, rfl, rfl⟩ ⟨rfl, rfl, rfl⟩ ⟨rfl, rfl, rfl⟩ (by decide) (by decide) (fun ac y g' A6 p6 p7 hx hB2 => ?_)
  exact hend ac y g' ((hA.trans A6).mono (by decide)) p6 p7 hx hB2
set_option maxRecDepth 100000 in
theorem r4_4 {Q : Exit → Act → World → Prop} {a0 : Act} {w : World} (hz : a0.tmps.size = 63) (s : ByteArray) (hs : s.size ≤ 1000000000) (e1 : a0.eval (.tmp 1) = .string s) (hend : ∀ ac y g, After [11, 10, 30, 29, 26, 28, 27] a0 ac → ac.eval (.tmp 10) = .pointer (some ⟨g, 0, none⟩) → ac.eval (.tmp 11) = .int .i64 (readQ s).2 → Bx y g (readQ s).1 → Gr w y → Q .normal ac y) : (Code.region 4 q4_4 false).wp Tryz.prog Q a0 w := by
  refine wp_region_list ?_
  refine wl_of rfl (op_mv (.tmp 1) (.string s) (.inl rfl) e1 27 rfl ?_)
  refine wl_of rfl (op_call 32 #[.tmp 27] #[9] rfl #[.string s] (by simp [ev_put, hz]) (enters_of Tryz.func32 (by kernel_rfl) rfl) ((read32_any s hs w).mono ?_))
  rintro e x2 ⟨u2, rfl, R2, B2⟩
  refine ⟨_, rfl, ?_⟩
  generalize readQ s = rg at *
  show wpList Tryz.prog _ Q [_, _, _, _, _, _] ((a0.put (some 27) _).put (some 28) _) x2
  have hA : After [28, 27] a0 ((a0.put (some 27) (.string s)).put (some 28) (.tuple #[ringV u2 rg.1, .int .i64 rg.2])) := ((After.self a0).put 27 _).put 28 _
  refine rd_tail 28 26 29 30 10 11 (by simp [put_size, hz]) u2 rg.1 rg.2 B2 R2 (by simp [ev_put, put_size, hz]) ⟨rfl, rfl, rfl⟩ ⟨rfl, rfl, rfl⟩ ⟨rfl, rfl, rfl⟩ ⟨rfl, rfl, rfl⟩ ⟨rfl, rfl, rfl⟩ ⟨rfl, rfl, rfl⟩ (by decide) (by decide) (fun ac y g' A6 p6 p7 hx hB2 => ?_)
  exact hend ac y g' ((hA.trans A6).mono (by decide)) p6 p7 hx hB2
set_option maxRecDepth 100000 in
theorem r4_5 {Q : Exit → Act → World → Prop} {a0 : Act} {w : World} (hz : a0.tmps.size = 63) (ga gb : Nat) (ra rb : Rg) (ha : RFit ra) (hb : RFit rb) (hn : normL ra = normL rb) (hA : Bx w ga ra) (hB : Bx w gb rb) (e6 : a0.eval (.tmp 6) = .pointer (some ⟨ga, 0, none⟩)) (e2 : a0.eval (.tmp 2) = .pointer (some ⟨gb, 0, none⟩)) (hend : ∀ ac y, After [12, 33, 32, 31] a0 ac → ac.eval (.tmp 12) = .bool true → Gr w y → Q .normal ac y) : (Code.region 5 q4_5 false).wp Tryz.prog Q a0 w := by
  obtain ⟨ua, H1, R1⟩ := hA
  obtain ⟨ub, H2, R2⟩ := hB
  refine wp_region_list ?_
  refine wl_of rfl (op_row 28 (.tmp 6) 17 _ (ringC ua ra) rfl ga 0 e6 Tryz.underlying28 rfl siz28 (ringC_len R1) (range_of H1) ?_)
  show wpList Tryz.prog _ Q _ (a0.put (some 31) _) w
  refine wl_of rfl (op_row 28 (.tmp 2) 17 _ (ringC ub rb) rfl gb 0 (by simp [ev_put, hz, e2]) Tryz.underlying28 rfl siz28 (ringC_len R2) (range_of H2) ?_)
  show wpList Tryz.prog _ Q _ ((a0.put (some 31) _).put (some 32) _) w
  refine wl_of rfl (op_call 7 #[.tmp 31, .tmp 32] #[28, 28] rfl #[ringV ua ra, ringV ub rb] (by simp [ev_put, put_size, hz]; exact ⟨rfl, rfl⟩) (enters_of Tryz.func7 (by kernel_rfl) rfl) ((lawSame_any ua ub ra rb ha hb w R1 R2).mono ?_))
  rw [same_if hn]
  rintro e y ⟨rfl, hg⟩
  refine ⟨_, rfl, ?_⟩
  show wpList Tryz.prog _ Q _ (((a0.put (some 31) _).put (some 32) _).put (some 33) _) y
  refine wl_of rfl (op_mv (.tmp 33) (.bool true) (.inr rfl) (by simp [ev_put, put_size, hz]) 12 rfl (wl_end (hend _ y (((((After.self a0).put 31 _).put 32 _).put 33 _).put 12 _) ?_ hg)))
  simp [ev_put, put_size, hz]
set_option maxRecDepth 100000 in
theorem r4_6 {Q : Exit → Act → World → Prop} {a0 : Act} {w : World} (hz : a0.tmps.size = 63) (ga gb : Nat) (ra rb : Rg) (ha : RFit ra) (hb : RFit rb) (hn : normL ra = normL rb) (hA : Bx w ga ra) (hB : Bx w gb rb) (e8 : a0.eval (.tmp 8) = .pointer (some ⟨ga, 0, none⟩)) (e10 : a0.eval (.tmp 10) = .pointer (some ⟨gb, 0, none⟩)) (hend : ∀ ac y, After [13, 36, 35, 34] a0 ac → ac.eval (.tmp 13) = .bool true → Gr w y → Q .normal ac y) : (Code.region 6 q4_6 false).wp Tryz.prog Q a0 w := by
  obtain ⟨ua, H1, R1⟩ := hA
  obtain ⟨ub, H2, R2⟩ := hB
  refine wp_region_list ?_
  refine wl_of rfl (op_row 28 (.tmp 8) 17 _ (ringC ua ra) rfl ga 0 e8 Tryz.underlying28 rfl siz28 (ringC_len R1) (range_of H1) ?_)
  show wpList Tryz.prog _ Q _ (a0.put (some 34) _) w
  refine wl_of rfl (op_row 28 (.tmp 10) 17 _ (ringC ub rb) rfl gb 0 (by simp [ev_put, hz, e10]) Tryz.underlying28 rfl siz28 (ringC_len R2) (range_of H2) ?_)
  show wpList Tryz.prog _ Q _ ((a0.put (some 34) _).put (some 35) _) w
  refine wl_of rfl (op_call 7 #[.tmp 34, .tmp 35] #[28, 28] rfl #[ringV ua ra, ringV ub rb] (by simp [ev_put, put_size, hz]; exact ⟨rfl, rfl⟩) (enters_of Tryz.func7 (by kernel_rfl) rfl) ((lawSame_any ua ub ra rb ha hb w R1 R2).mono ?_))
  rw [same_if hn]
  rintro e y ⟨rfl, hg⟩
  refine ⟨_, rfl, ?_⟩
  show wpList Tryz.prog _ Q _ (((a0.put (some 34) _).put (some 35) _).put (some 36) _) y
  refine wl_of rfl (op_mv (.tmp 36) (.bool true) (.inr rfl) (by simp [ev_put, put_size, hz]) 13 rfl (wl_end (hend _ y (((((After.self a0).put 34 _).put 35 _).put 36 _).put 13 _) ?_ hg)))
  simp [ev_put, put_size, hz]
theorem eql9 (s t : ByteArray) (w : World) : (binOp .eql 9 (.string s) (.string t)).run Tryz.prog w = .ok (.bool (s.toList == t.toList)) w := by kernel_rfl
theorem guard9e (s t : ByteArray) (u v : Operand) (w : World) : (eqGuard .eql 9 u v (.string s) (.string t)).run Tryz.prog w = .ok () w := by kernel_rfl
set_option maxRecDepth 100000 in
theorem r4_7t {Q : Exit → Act → World → Prop} {a0 : Act} {w : World} (hz : a0.tmps.size = 63) (F : Int) (hF : F = 0) (c : Nat) (v : Value) (r : Rg) (s : ByteArray) (hrl : (ringC v r).length = 17) (hc : Holds w c (ringC v r) 28) (hBy : ∀ y, Gr w y → Calls Tryz.prog 29 #[.agg (ringC v r).toArray] y fun e z => e = .returned (.string s) ∧ Gr y z) (e5 : a0.eval (.tmp 5) = .bool true) (e7 : a0.eval (.tmp 7) = .int .i64 (0 : Int)) (e12 : a0.eval (.tmp 12) = .bool true) (e13 : a0.eval (.tmp 13) = .bool true) (e9 : a0.eval (.tmp 9) = .int .i64 F) (e11 : a0.eval (.tmp 11) = .int .i64 F) (e8 : a0.eval (.tmp 8) = .pointer (some ⟨c, 0, none⟩)) (e1 : a0.eval (.tmp 1) = .string s) (hend : ∀ ac wz, After [37, 38, 39, 40, 41, 42, 43, 44, 45, 46, 47, 48, 49, 50, 51, 52, 53, 54, 55, 56, 57, 58, 59, 60, 61, 62, 4] a0 ac → ac.eval (.tmp 4) = .bool true → Gr w wz → Q .normal ac wz) : (Code.region 7 q4_7 false).wp Tryz.prog Q a0 w := by
  refine seq_by (by kernel_rfl) 27 (by decide) [37, 38, 39, 40, 41, 42, 43, 44, 45, 46, 47, 48, 49, 50, 51, 52, 53, 54, 55, 56, 57, 58, 59, 60, 61, 62, 4] (fun | 37 => .val (.bool true) | 38 => .val (.bool true) | 39 => .val (.int .i64 (0 : Int)) | 40 => .val (.bool true) | 41 => .val (.bool true) | 42 => .val (.bool true) | 43 => .val (.bool true) | 44 => .val (.bool true) | 45 => .val (.bool true) | 46 => .val (.int .i64 F) | 47 => .val (.int .i64 F) | 48 => .val (.bool true) | 49 => .val (.bool true) | 50 => .val (.bool true) | 51 => .val (.bool true) | 52 => .val (.bool true) | 53 => .val (.bool true) | 54 => .val (.int .i64 F) | 55 => .val (.bool false) | 56 => .val (.bool false) | 57 => .val (.agg (ringC v r).toArray) | 58 => .val (.string s) | 59 => .val (.string s) | 60 => .val (.bool true) | 61 => .val (.bool true) | 62 => .val (.bool true) | 4 => .val (.bool true) | _ => .any) (by kernel_rfl) (List.forall_mem_cons.2 ⟨?s0, List.forall_mem_cons.2 ⟨?s1, List.forall_mem_cons.2 ⟨?s2, List.forall_mem_cons.2 ⟨?s3, List.forall_mem_cons.2 ⟨?s4, List.forall_mem_cons.2 ⟨?s5, List.forall_mem_cons.2 ⟨?s6, List.forall_mem_cons.2 ⟨?s7, List.forall_mem_cons.2 ⟨?s8, List.forall_mem_cons.2 ⟨?s9, List.forall_mem_cons.2 ⟨?s10, List.forall_mem_cons.2 ⟨?s11, List.forall_mem_cons.2 ⟨?s12, List.forall_mem_cons.2 ⟨?s13, List.forall_mem_cons.2 ⟨?s14, List.forall_mem_cons.2 ⟨?s15, List.forall_mem_cons.2 ⟨?s16, List.forall_mem_cons.2 ⟨?s17, List.forall_mem_cons.2 ⟨?s18, List.forall_mem_cons.2 ⟨?s19, List.forall_mem_cons.2 ⟨?s20, List.forall_mem_cons.2 ⟨?s21, List.forall_mem_cons.2 ⟨?s22, List.forall_mem_cons.2 ⟨?s23, List.forall_mem_cons.2 ⟨?s24, List.forall_mem_cons.2 ⟨?s25, List.forall_mem_cons.2 ⟨?s26, fun o ho => nomatch ho⟩⟩⟩⟩⟩⟩⟩⟩⟩⟩⟩⟩⟩⟩⟩⟩⟩⟩⟩⟩⟩⟩⟩⟩⟩⟩⟩) ?e
  case s0 => exact sa_move (.tmp 5) 37 (.val (.bool true)) (.inl rfl) rfl rfl (.old 5 _ (by decide) e5) rfl
  case s1 => exact sa_move (.tmp 37) 38 (.val (.bool true)) (.inl rfl) rfl rfl (.new 37 (by kernel_rfl) (by rw [hz]; decide)) rfl
  case s2 => exact sa_guard 1 38 rfl rfl (by kernel_rfl) (by rw [hz]; decide) rfl (sa_move (.tmp 7) 39 (.val (.int .i64 (0 : Int))) (.inl rfl) rfl rfl (.old 7 _ (by decide) e7) rfl)
  case s3 => exact sa_guard 1 38 rfl rfl (by kernel_rfl) (by rw [hz]; decide) rfl (sa_bin .eql 48 (.tmp 39) (.const _) 48 40 (.int .i64 (0 : Int)) (.int .i64 0) (.bool true) rfl rfl rfl (.new 39 (by kernel_rfl) (by rw [hz]; decide)) (.const _) guard_int (bin_eql (decide_eq_true (by omega))) rfl)
  case s4 => exact sa_pick (.tmp 38) (.tmp 40) (.const _) 41 (.val (.bool true)) rfl rfl rfl (.new 38 (by kernel_rfl) (by rw [hz]; decide)) (.new 40 (by kernel_rfl) (by rw [hz]; decide)) rfl
  case s5 => exact sa_move (.tmp 41) 42 (.val (.bool true)) (.inl rfl) rfl rfl (.new 41 (by kernel_rfl) (by rw [hz]; decide)) rfl
  case s6 => exact sa_guard 5 42 rfl rfl (by kernel_rfl) (by rw [hz]; decide) rfl (sa_move (.tmp 12) 43 (.val (.bool true)) (.inl rfl) rfl rfl (.old 12 _ (by decide) e12) rfl)
  case s7 => exact sa_pick (.tmp 42) (.tmp 43) (.const _) 44 (.val (.bool true)) rfl rfl rfl (.new 42 (by kernel_rfl) (by rw [hz]; decide)) (.new 43 (by kernel_rfl) (by rw [hz]; decide)) rfl
  case s8 => exact sa_move (.tmp 44) 45 (.val (.bool true)) (.inl rfl) rfl rfl (.new 44 (by kernel_rfl) (by rw [hz]; decide)) rfl
  case s9 => exact sa_guard 8 45 rfl rfl (by kernel_rfl) (by rw [hz]; decide) rfl (sa_move (.tmp 9) 46 (.val (.int .i64 F)) (.inl rfl) rfl rfl (.old 9 _ (by decide) e9) rfl)
  case s10 => exact sa_guard 8 45 rfl rfl (by kernel_rfl) (by rw [hz]; decide) rfl (sa_move (.tmp 11) 47 (.val (.int .i64 F)) (.inl rfl) rfl rfl (.old 11 _ (by decide) e11) rfl)
  case s11 => exact sa_guard 8 45 rfl rfl (by kernel_rfl) (by rw [hz]; decide) rfl (sa_bin .eql 48 (.tmp 46) (.tmp 47) 48 48 (.int .i64 F) (.int .i64 F) (.bool true) rfl rfl rfl (.new 46 (by kernel_rfl) (by rw [hz]; decide)) (.new 47 (by kernel_rfl) (by rw [hz]; decide)) guard_int (bin_eql (decide_eq_true (by omega))) rfl)
  case s12 => exact sa_pick (.tmp 45) (.tmp 48) (.const _) 49 (.val (.bool true)) rfl rfl rfl (.new 45 (by kernel_rfl) (by rw [hz]; decide)) (.new 48 (by kernel_rfl) (by rw [hz]; decide)) rfl
  case s13 => exact sa_move (.tmp 49) 50 (.val (.bool true)) (.inl rfl) rfl rfl (.new 49 (by kernel_rfl) (by rw [hz]; decide)) rfl
  case s14 => exact sa_guard 13 50 rfl rfl (by kernel_rfl) (by rw [hz]; decide) rfl (sa_move (.tmp 13) 51 (.val (.bool true)) (.inl rfl) rfl rfl (.old 13 _ (by decide) e13) rfl)
  case s15 => exact sa_pick (.tmp 50) (.tmp 51) (.const _) 52 (.val (.bool true)) rfl rfl rfl (.new 50 (by kernel_rfl) (by rw [hz]; decide)) (.new 51 (by kernel_rfl) (by rw [hz]; decide)) rfl
  case s16 => exact sa_move (.tmp 52) 53 (.val (.bool true)) (.inl rfl) rfl rfl (.new 52 (by kernel_rfl) (by rw [hz]; decide)) rfl
  case s17 => exact sa_guard 16 53 rfl rfl (by kernel_rfl) (by rw [hz]; decide) rfl (sa_move (.tmp 9) 54 (.val (.int .i64 F)) (.inl rfl) rfl rfl (.old 9 _ (by decide) e9) rfl)
  case s18 => exact sa_guard 16 53 rfl rfl (by kernel_rfl) (by rw [hz]; decide) rfl (sa_bin .neq 48 (.tmp 54) (.const _) 48 55 (.int .i64 F) (.int .i64 0) (.bool false) rfl rfl rfl (.new 54 (by kernel_rfl) (by rw [hz]; decide)) (.const _) guard_int (bin_neq (decide_eq_false (by omega))) rfl)
  case s19 => exact sa_guard 16 53 rfl rfl (by kernel_rfl) (by rw [hz]; decide) rfl (sa_move (.tmp 55) 56 (.val (.bool false)) (.inl rfl) rfl rfl (.new 55 (by kernel_rfl) (by rw [hz]; decide)) rfl)
  case s20 => exact sa_guardF 19 56 rfl rfl (by kernel_rfl) (by rw [hz]; decide) rfl (sa_row 28 (.tmp 8) 57 c (0) 17 _ (ringC v r) rfl rfl rfl Tryz.underlying28 rfl siz28 hrl (.old 8 _ (by decide) e8) (fun y hy => range_of (hc.below hy hc.lt)) rfl)
  case s21 => exact sa_guardF 19 56 rfl rfl (by kernel_rfl) (by rw [hz]; decide) rfl (sa_call1 29 (.tmp 57) _ 58 (.val (.agg (ringC v r).toArray)) rfl rfl rfl (.new 57 (by kernel_rfl) (by rw [hz]; decide)) (enters_of Tryz.func29 (by kernel_rfl) rfl) (fun v0 y hgy q0 => by rw [show v0 = _ from q0]; exact (hBy y hgy).mono fun e z ⟨e1, e2⟩ => ⟨_, e1, e2, rfl⟩))
  case s22 => exact sa_guardF 19 56 rfl rfl (by kernel_rfl) (by rw [hz]; decide) rfl (sa_move (.tmp 1) 59 (.val (.string s)) (.inl rfl) rfl rfl (.old 1 _ (by decide) e1) rfl)
  case s23 => exact sa_guardF 19 56 rfl rfl (by kernel_rfl) (by rw [hz]; decide) rfl (sa_bin .eql 9 (.tmp 58) (.tmp 59) 9 60 (.string s) (.string s) (.bool true) rfl rfl rfl (.new 58 (by kernel_rfl) (by rw [hz]; decide)) (.new 59 (by kernel_rfl) (by rw [hz]; decide)) (fun w => guard9e _ _ _ _ w) (fun w => (eql9 _ _ w).trans (by simp)) rfl)
  case s24 => exact sa_guard 16 53 rfl rfl (by kernel_rfl) (by rw [hz]; decide) rfl (sa_pickF (.tmp 56) (.const _) (.tmp 60) 61 (.val (.bool true)) rfl rfl rfl (.new 56 (by kernel_rfl) (by rw [hz]; decide)) (.new 60 (by kernel_rfl) (by rw [hz]; decide)) rfl)
  case s25 => exact sa_pick (.tmp 53) (.tmp 61) (.const _) 62 (.val (.bool true)) rfl rfl rfl (.new 53 (by kernel_rfl) (by rw [hz]; decide)) (.new 61 (by kernel_rfl) (by rw [hz]; decide)) rfl
  case s26 => exact sa_move (.tmp 62) 4 (.val (.bool true)) (.inr rfl) rfl rfl (.new 62 (by kernel_rfl) (by rw [hz]; decide)) rfl
  case e =>
  intro ac wz hA hgr hv
  exact wl_end (hend ac wz hA (hv 4 (by kernel_rfl) (by rw [hz]; decide)) hgr)
set_option maxRecDepth 100000 in
theorem r4_7f {Q : Exit → Act → World → Prop} {a0 : Act} {w : World} (hz : a0.tmps.size = 63) (F : Int) (hF : ¬ F = 0) (e5 : a0.eval (.tmp 5) = .bool true) (e7 : a0.eval (.tmp 7) = .int .i64 (0 : Int)) (e12 : a0.eval (.tmp 12) = .bool true) (e13 : a0.eval (.tmp 13) = .bool true) (e9 : a0.eval (.tmp 9) = .int .i64 F) (e11 : a0.eval (.tmp 11) = .int .i64 F) (hend : ∀ ac wz, After [37, 38, 39, 40, 41, 42, 43, 44, 45, 46, 47, 48, 49, 50, 51, 52, 53, 54, 55, 56, 57, 58, 59, 60, 61, 62, 4] a0 ac → ac.eval (.tmp 4) = .bool true → Gr w wz → Q .normal ac wz) : (Code.region 7 q4_7 false).wp Tryz.prog Q a0 w := by
  refine seq_by (by kernel_rfl) 27 (by decide) [37, 38, 39, 40, 41, 42, 43, 44, 45, 46, 47, 48, 49, 50, 51, 52, 53, 54, 55, 56, 57, 58, 59, 60, 61, 62, 4] (fun | 37 => .val (.bool true) | 38 => .val (.bool true) | 39 => .val (.int .i64 (0 : Int)) | 40 => .val (.bool true) | 41 => .val (.bool true) | 42 => .val (.bool true) | 43 => .val (.bool true) | 44 => .val (.bool true) | 45 => .val (.bool true) | 46 => .val (.int .i64 F) | 47 => .val (.int .i64 F) | 48 => .val (.bool true) | 49 => .val (.bool true) | 50 => .val (.bool true) | 51 => .val (.bool true) | 52 => .val (.bool true) | 53 => .val (.bool true) | 54 => .val (.int .i64 F) | 55 => .val (.bool true) | 56 => .val (.bool true) | 61 => .val (.bool true) | 62 => .val (.bool true) | 4 => .val (.bool true) | _ => .any) (by kernel_rfl) (List.forall_mem_cons.2 ⟨?s0, List.forall_mem_cons.2 ⟨?s1, List.forall_mem_cons.2 ⟨?s2, List.forall_mem_cons.2 ⟨?s3, List.forall_mem_cons.2 ⟨?s4, List.forall_mem_cons.2 ⟨?s5, List.forall_mem_cons.2 ⟨?s6, List.forall_mem_cons.2 ⟨?s7, List.forall_mem_cons.2 ⟨?s8, List.forall_mem_cons.2 ⟨?s9, List.forall_mem_cons.2 ⟨?s10, List.forall_mem_cons.2 ⟨?s11, List.forall_mem_cons.2 ⟨?s12, List.forall_mem_cons.2 ⟨?s13, List.forall_mem_cons.2 ⟨?s14, List.forall_mem_cons.2 ⟨?s15, List.forall_mem_cons.2 ⟨?s16, List.forall_mem_cons.2 ⟨?s17, List.forall_mem_cons.2 ⟨?s18, List.forall_mem_cons.2 ⟨?s19, List.forall_mem_cons.2 ⟨?s20, List.forall_mem_cons.2 ⟨?s21, List.forall_mem_cons.2 ⟨?s22, List.forall_mem_cons.2 ⟨?s23, List.forall_mem_cons.2 ⟨?s24, List.forall_mem_cons.2 ⟨?s25, List.forall_mem_cons.2 ⟨?s26, fun o ho => nomatch ho⟩⟩⟩⟩⟩⟩⟩⟩⟩⟩⟩⟩⟩⟩⟩⟩⟩⟩⟩⟩⟩⟩⟩⟩⟩⟩⟩) ?e
  case s0 => exact sa_move (.tmp 5) 37 (.val (.bool true)) (.inl rfl) rfl rfl (.old 5 _ (by decide) e5) rfl
  case s1 => exact sa_move (.tmp 37) 38 (.val (.bool true)) (.inl rfl) rfl rfl (.new 37 (by kernel_rfl) (by rw [hz]; decide)) rfl
  case s2 => exact sa_guard 1 38 rfl rfl (by kernel_rfl) (by rw [hz]; decide) rfl (sa_move (.tmp 7) 39 (.val (.int .i64 (0 : Int))) (.inl rfl) rfl rfl (.old 7 _ (by decide) e7) rfl)
  case s3 => exact sa_guard 1 38 rfl rfl (by kernel_rfl) (by rw [hz]; decide) rfl (sa_bin .eql 48 (.tmp 39) (.const _) 48 40 (.int .i64 (0 : Int)) (.int .i64 0) (.bool true) rfl rfl rfl (.new 39 (by kernel_rfl) (by rw [hz]; decide)) (.const _) guard_int (bin_eql (decide_eq_true (by omega))) rfl)
  case s4 => exact sa_pick (.tmp 38) (.tmp 40) (.const _) 41 (.val (.bool true)) rfl rfl rfl (.new 38 (by kernel_rfl) (by rw [hz]; decide)) (.new 40 (by kernel_rfl) (by rw [hz]; decide)) rfl
  case s5 => exact sa_move (.tmp 41) 42 (.val (.bool true)) (.inl rfl) rfl rfl (.new 41 (by kernel_rfl) (by rw [hz]; decide)) rfl
  case s6 => exact sa_guard 5 42 rfl rfl (by kernel_rfl) (by rw [hz]; decide) rfl (sa_move (.tmp 12) 43 (.val (.bool true)) (.inl rfl) rfl rfl (.old 12 _ (by decide) e12) rfl)
  case s7 => exact sa_pick (.tmp 42) (.tmp 43) (.const _) 44 (.val (.bool true)) rfl rfl rfl (.new 42 (by kernel_rfl) (by rw [hz]; decide)) (.new 43 (by kernel_rfl) (by rw [hz]; decide)) rfl
  case s8 => exact sa_move (.tmp 44) 45 (.val (.bool true)) (.inl rfl) rfl rfl (.new 44 (by kernel_rfl) (by rw [hz]; decide)) rfl
  case s9 => exact sa_guard 8 45 rfl rfl (by kernel_rfl) (by rw [hz]; decide) rfl (sa_move (.tmp 9) 46 (.val (.int .i64 F)) (.inl rfl) rfl rfl (.old 9 _ (by decide) e9) rfl)
  case s10 => exact sa_guard 8 45 rfl rfl (by kernel_rfl) (by rw [hz]; decide) rfl (sa_move (.tmp 11) 47 (.val (.int .i64 F)) (.inl rfl) rfl rfl (.old 11 _ (by decide) e11) rfl)
  case s11 => exact sa_guard 8 45 rfl rfl (by kernel_rfl) (by rw [hz]; decide) rfl (sa_bin .eql 48 (.tmp 46) (.tmp 47) 48 48 (.int .i64 F) (.int .i64 F) (.bool true) rfl rfl rfl (.new 46 (by kernel_rfl) (by rw [hz]; decide)) (.new 47 (by kernel_rfl) (by rw [hz]; decide)) guard_int (bin_eql (decide_eq_true (by omega))) rfl)
  case s12 => exact sa_pick (.tmp 45) (.tmp 48) (.const _) 49 (.val (.bool true)) rfl rfl rfl (.new 45 (by kernel_rfl) (by rw [hz]; decide)) (.new 48 (by kernel_rfl) (by rw [hz]; decide)) rfl
  case s13 => exact sa_move (.tmp 49) 50 (.val (.bool true)) (.inl rfl) rfl rfl (.new 49 (by kernel_rfl) (by rw [hz]; decide)) rfl
  case s14 => exact sa_guard 13 50 rfl rfl (by kernel_rfl) (by rw [hz]; decide) rfl (sa_move (.tmp 13) 51 (.val (.bool true)) (.inl rfl) rfl rfl (.old 13 _ (by decide) e13) rfl)
  case s15 => exact sa_pick (.tmp 50) (.tmp 51) (.const _) 52 (.val (.bool true)) rfl rfl rfl (.new 50 (by kernel_rfl) (by rw [hz]; decide)) (.new 51 (by kernel_rfl) (by rw [hz]; decide)) rfl
  case s16 => exact sa_move (.tmp 52) 53 (.val (.bool true)) (.inl rfl) rfl rfl (.new 52 (by kernel_rfl) (by rw [hz]; decide)) rfl
  case s17 => exact sa_guard 16 53 rfl rfl (by kernel_rfl) (by rw [hz]; decide) rfl (sa_move (.tmp 9) 54 (.val (.int .i64 F)) (.inl rfl) rfl rfl (.old 9 _ (by decide) e9) rfl)
  case s18 => exact sa_guard 16 53 rfl rfl (by kernel_rfl) (by rw [hz]; decide) rfl (sa_bin .neq 48 (.tmp 54) (.const _) 48 55 (.int .i64 F) (.int .i64 0) (.bool true) rfl rfl rfl (.new 54 (by kernel_rfl) (by rw [hz]; decide)) (.const _) guard_int (bin_neq (decide_eq_true (by omega))) rfl)
  case s19 => exact sa_guard 16 53 rfl rfl (by kernel_rfl) (by rw [hz]; decide) rfl (sa_move (.tmp 55) 56 (.val (.bool true)) (.inl rfl) rfl rfl (.new 55 (by kernel_rfl) (by rw [hz]; decide)) rfl)
  case s20 => exact so_guardF 19 56 rfl rfl (by kernel_rfl) (by rw [hz]; decide) rfl (fun d hd => by cases hd; rfl)
  case s21 => exact so_guardF 19 56 rfl rfl (by kernel_rfl) (by rw [hz]; decide) rfl (fun d hd => by cases hd; rfl)
  case s22 => exact so_guardF 19 56 rfl rfl (by kernel_rfl) (by rw [hz]; decide) rfl (fun d hd => by cases hd; rfl)
  case s23 => exact so_guardF 19 56 rfl rfl (by kernel_rfl) (by rw [hz]; decide) rfl (fun d hd => by cases hd; rfl)
  case s24 => exact sa_guard 16 53 rfl rfl (by kernel_rfl) (by rw [hz]; decide) rfl (sa_pick (.tmp 56) (.const _) (.tmp 60) 61 (.val (.bool true)) rfl rfl rfl (.new 56 (by kernel_rfl) (by rw [hz]; decide)) (.const _) rfl)
  case s25 => exact sa_pick (.tmp 53) (.tmp 61) (.const _) 62 (.val (.bool true)) rfl rfl rfl (.new 53 (by kernel_rfl) (by rw [hz]; decide)) (.new 61 (by kernel_rfl) (by rw [hz]; decide)) rfl
  case s26 => exact sa_move (.tmp 62) 4 (.val (.bool true)) (.inr rfl) rfl rfl (.new 62 (by kernel_rfl) (by rw [hz]; decide)) rfl
  case e =>
  intro ac wz hA hgr hv
  exact wl_end (hend ac wz hA (hv 4 (by kernel_rfl) (by rw [hz]; decide)) hgr)
def c4 : Code := ((Code.region 0 q4_0 false).seq ((Code.region 1 q4_1 false).seq ((Code.region 2 q4_2 false).seq ((Code.region 3 q4_3 false).seq ((Code.region 4 q4_4 false).seq ((Code.region 5 q4_5 false).seq ((Code.region 6 q4_6 false).seq ((Code.region 7 q4_7 false).seq Code.ret))))))))
theorem strL_self (s : ByteArray) (l : List UInt8) (h : l = s.data.toList) : Pk.strL l = s := (of_bytes h).symm
set_option maxHeartbeats 1000000 in
theorem reads_any (u : Value) (r : Rg) (s : ByteArray) (hf : RFit r) (hs : s.size ≤ 1000000000) (w : World) (hR : RingAt w.heap.size w u r) : Calls Tryz.prog 4 #[ringV u r, .string s] w fun e z => e = .returned (.bool true) ∧ Gr w z := by
  refine calls_by (c := c4) Tryz.func4 (by kernel_rfl) 63 (by rw [Tryz.ntmps4]; rfl) (fun ac z df hv => ?_)
  have e0 := hv 0 _ rfl
  have e1 := hv 1 _ rfl
  clear hv
  unfold c4
  refine wp_seq (r4_0 z u r hR e0 (fun a1 x1 g1 A1 o2 B1 G1 => ?_))
  show Code.wp Tryz.prog (Code.seq _ _) _ a1 x1
  refine wp_seq (r4_1 (A1.size.trans z) (fun a2 x2 A2 o5 G2 => ?_))
  have z2 := A2.size.trans (A1.size.trans z)
  show Code.wp Tryz.prog (Code.seq _ _) _ a2 x2
  have p2 := A2.get o2 (by decide)
  refine wp_seq (r4_2 z2 g1 r hf (B1.gr G2) p2 (fun a3 x3 g6 A3 o6 o7 B6 G3 => ?_))
  have z3 := A3.size.trans z2
  show Code.wp Tryz.prog (Code.seq _ _) _ a3 x3
  refine wp_seq (r4_3 z3 s hs (A3.get (A2.get (A1.get e1 (by decide)) (by decide)) (by decide)) (fun a4 x4 g8 A4 o8 o9 B8 G4 => ?_))
  have z4 := A4.size.trans z3
  show Code.wp Tryz.prog (Code.seq _ _) _ a4 x4
  have f1 : a4.eval (.tmp 1) = .string s := A4.get (A3.get (A2.get (A1.get e1 (by decide)) (by decide)) (by decide)) (by decide)
  refine wp_seq (r4_4 z4 s hs f1 (fun a5 x5 g10 A5 o10 o11 B10 G5 => ?_))
  rw [read_same] at o11 B10
  have z5 := A5.size.trans z4
  show Code.wp Tryz.prog (Code.seq _ _) _ a5 x5
  refine wp_seq (r4_5 z5 g6 g1 (normL r) r (norm_fit hf) hf (norm_idem r) (B6.gr (G4.trans G5)) ((B1.gr G2).gr (G3.trans (G4.trans G5))) (A5.get (A4.get o6 (by decide)) (by decide)) (A5.get (A4.get (A3.get p2 (by decide)) (by decide)) (by decide)) (fun a6 x6 A6 o12 G6 => ?_))
  have z6 := A6.size.trans z5
  show Code.wp Tryz.prog (Code.seq _ _) _ a6 x6
  have q8 : a6.eval (.tmp 8) = .pointer (some ⟨g8, 0, none⟩) := A6.get (A5.get o8 (by decide)) (by decide)
  have q9 := A6.get (A5.get o9 (by decide)) (by decide)
  refine wp_seq (r4_6 z6 g8 g10 _ _ (readG_fit s) (readG_fit s) rfl (B8.gr (G5.trans G6)) (B10.gr G6) q8 (A6.get o10 (by decide)) (fun a7 x7 A7 o13 G7 => ?_))
  have z7 := A7.size.trans z6
  have t5 : a7.eval (.tmp 5) = .bool true := A7.get (A6.get (A5.get (A4.get (A3.get o5 (by decide)) (by decide)) (by decide)) (by decide)) (by decide)
  have t7 : a7.eval (.tmp 7) = .int .i64 (0 : Int) := A7.get (A6.get (A5.get (A4.get o7 (by decide)) (by decide)) (by decide)) (by decide)
  have t9 := A7.get q9 (by decide)
  have t11 := A7.get (A6.get o11 (by decide)) (by decide)
  have t12 := A7.get o12 (by decide)
  have t1 : a7.eval (.tmp 1) = .string s := A7.get (A6.get (A5.get f1 (by decide)) (by decide)) (by decide)
  have t8 := A7.get q8 (by decide)
  have df7 : a7.defers = [] := A7.defers.trans (A6.defers.trans (A5.defers.trans (A4.defers.trans (A3.defers.trans (A2.defers.trans (A1.defers.trans df))))))
  have G17 : Gr w x7 := G1.trans (G2.trans (G3.trans (G4.trans (G5.trans (G6.trans G7)))))
  have B8' := B8.gr (G5.trans (G6.trans G7))
  have hfit := readG_fit s
  have hok := readG_ok s
  generalize readG s = rg at *
  obtain ⟨v, Hc, RC⟩ := B8'
  show Code.wp Tryz.prog (Code.seq _ _) _ a7 x7
  have fin : ∀ a8 x8 D, After D a7 a8 → a8.eval (.tmp 4) = .bool true → Gr x7 x8 → Code.ret.wp Tryz.prog (bodyPost Tryz.prog Tryz.f4 fun e z => e = .returned (.bool true) ∧ Gr w z) a8 x8 := fun a8 x8 D A8 o4 G8 =>
    wp_ret (bodyPost_ret (results_tmp rfl _ _ _) (A8.defers.trans df7) ⟨by rw [← o4]; rfl, G17.trans G8⟩)
  rcases hok with ⟨h0, hb⟩ | h11
  · refine wp_seq (r4_7t z7 rg.2 h0 g8 v rg.1 s (ringC_len RC) Hc (fun y hy => (gbytes_any v rg.1 hfit y ((RC.below hy).mono hy.size)).mono fun e z ⟨q1, q2⟩ => ⟨by rw [q1, strL_self s _ hb], q2⟩) t5 t7 t12 o13 t9 t11 t8 t1 (fun a8 x8 A8 o4 G8 => fin a8 x8 _ A8 o4 G8))
  · refine wp_seq (r4_7f z7 rg.2 (by omega) t5 t7 t12 o13 t9 t11 (fun a8 x8 A8 o4 G8 => fin a8 x8 _ A8 o4 G8))
end Go.Proofs.YthmnjebmnocoiaaGreat.En
