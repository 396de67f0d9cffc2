/- The document's own Transfers (9), and the law RingClaims (3): regions and code by tools/gen_rtrans.py. -/
import Derived.Test.YtlliijodilnlgaaRgRcB
namespace Go.Proofs.Ytlliijodilnlgaa
open Go.RowKit
theorem siz29 : (Try.prog.info? 29).map (·.size) = some 3 := by kernel_rfl
def tripF (i x y : Int) : Fact := ⟨fun v z => ∃ g, v = .slice (some ⟨g, 0, none⟩) 1 1 ∧ Holds z g [.int .i64 i, .int .i64 x, .int .i64 y] 29, fun ⟨g, h1, h2⟩ k => ⟨g, h1, h2.below k h2.lt⟩⟩
theorem bs26 (i x y : Int) (z : World) : ∃ q u, (Instr.buildSlice 26 1 #[(0, .agg #[.int .i64 i, .int .i64 x, .int .i64 y])]).run Try.prog z = .ok q u ∧ Gr z u ∧ (tripF i x y).holds q u :=
  ⟨.slice (some ⟨z.heap.size, 0, none⟩) 1 1, z.alloc (.cells #[.int .i64 i, .int .i64 x, .int .i64 y] 29), by kernel_rfl, Gr.alloc _ _, z.heap.size, rfl, heap_alloc_new _ _⟩
def movF (B n : Nat) (cs : List Value) : Fact := ⟨fun v y => y.ownsRow B 29 3 v n cs, fun h g => owns_gr h g⟩
theorem bool_eql (b : Bool) : ∀ w, (binOp .eql 4 (.bool b) (.bool b)).run Try.prog w = .ok (.bool true) w := by
  intro w; cases b <;> kernel_rfl
theorem bool_grd (b : Bool) (u v : Operand) : ∀ w, (eqGuard .eql 4 u v (.bool b) (.bool b)).run Try.prog w = .ok () w := by
  intro w; cases b <;> rfl
section
variable {P : Program} {ops : Array Oper} {Q : Exit → Act → World → Prop} {D : List Nat} {T : Nat → Fact} {a0 : Act} {w : World} {o : Oper}
theorem sa_bd3 (t i j k : Nat) (u v x : Operand) (d : Nat) (s r p q : Value) (ho : o.op = .build t #[(i, u), (j, v), (k, x)]) (hd : o.dst = some d) (hg : o.guard = none) (h1 : Has ops D T a0 o u (Fact.val s)) (h2 : Has ops D T a0 o v (Fact.val r)) (h3 : Has ops D T a0 o x (Fact.val p))
    (hr : ∀ y, (Instr.build t #[(i, s), (j, r), (k, p)]).run P y = .ok q y) (hT : T d = Fact.val q) : StepAt P ops D T a0 w Q o :=
  sa_of d hd hg fun f a y c => by
    have e1 : a.eval u = s := h1.get c
    have e2 : a.eval v = r := h2.get c
    have e3 : a.eval x = p := h3.get c
    refine op_val q (y := y) ?_ ⟨_, rfl, Gr.refl _, by rw [hT]; rfl⟩
    unfold execOp
    simp only [ho, List.map_toArray, List.map_cons, List.map_nil, e1, e2, e3, Sem.run_bind, hr, Sem.run_pure, Result.andThen_ok]
end
def q9_0 : Array Oper := #[{ dst := some 2, op := Op.box 23 (Operand.tmp 0), type := 0, pos := "ref.go:181", after := #[], guard := none }, { dst := some 3, op := Op.box 23 (Operand.tmp 1), type := 0, pos := "ref.go:181", after := #[], guard := none }, { dst := some 4, op := Op.assign (Operand.const (Value.slice none 0 0)), type := 26, pos := "ref.go:181", after := #[], guard := none }]
def q9_1 : Array Oper := #[{ dst := some 5, op := Op.assign (Operand.const (Value.slice none 0 0)), type := 26, pos := "ref.go:182", after := #[], guard := none }]
def q9_2 : Array Oper := #[{ dst := some 6, op := Op.assign (Operand.const (Value.int IntKind.i64 0)), type := 3, pos := "ref.go:183", after := #[], guard := none }]
def q9_3 : Array Oper := #[{ dst := some 7, op := Op.move (Operand.tmp 6), type := 3, pos := "ref.go:183", after := #[], guard := none }, { dst := some 8, op := Op.binOp BinOp.lss 3 (Operand.tmp 7) (Operand.const (Value.int IntKind.i64 8)) 3, type := 4, pos := "ref.go:183", after := #[{ on := 0, ground := Ground.data }], guard := none }]
def q9_4 : Array Oper := #[{ dst := some 9, op := Op.move (Operand.tmp 6), type := 3, pos := "ref.go:183", after := #[], guard := none }, { dst := some 10, op := Op.binOp BinOp.add 3 (Operand.tmp 9) (Operand.const (Value.int IntKind.i64 1)) 3, type := 3, pos := "ref.go:183", after := #[{ on := 0, ground := Ground.data }], guard := none }, { dst := some 6, op := Op.assign (Operand.tmp 10), type := 3, pos := "ref.go:183", after := #[{ on := 1, ground := Ground.data }, { on := 0, ground := Ground.phase }, { on := 1, ground := Ground.phase }], guard := none }]
def q9_5 : Array Oper := #[{ dst := some 11, op := Op.move (Operand.tmp 6), type := 3, pos := "ref.go:184", after := #[], guard := none }, { dst := some 12, op := Op.indexAddr 23 (Operand.tmp 2) (Operand.tmp 11), type := 0, pos := "ref.go:184", after := #[{ on := 0, ground := Ground.data }], guard := none }, { dst := some 13, op := Op.load 3 (Operand.tmp 12), type := 3, pos := "ref.go:184", after := #[{ on := 1, ground := Ground.data }], guard := none }, { dst := some 14, op := Op.move (Operand.tmp 6), type := 3, pos := "ref.go:184", after := #[], guard := none }, { dst := some 15, op := Op.indexAddr 23 (Operand.tmp 3) (Operand.tmp 14), type := 0, pos := "ref.go:184", after := #[{ on := 3, ground := Ground.data }], guard := none }, { dst := some 16, op := Op.load 3 (Operand.tmp 15), type := 3, pos := "ref.go:184", after := #[{ on := 4, ground := Ground.data }], guard := none }, { dst := some 17, op := Op.binOp BinOp.neq 3 (Operand.tmp 13) (Operand.tmp 16) 3, type := 4, pos := "ref.go:184", after := #[{ on := 2, ground := Ground.data }, { on := 5, ground := Ground.data }], guard := none }, { dst := some 18, op := Op.move (Operand.tmp 17), type := 4, pos := "ref.go:184", after := #[{ on := 6, ground := Ground.data }], guard := none }, { dst := some 19, op := Op.move (Operand.tmp 6), type := 3, pos := "ref.go:184", after := #[{ on := 7, ground := Ground.guard }], guard := some (7, true) }, { dst := some 20, op := Op.indexAddr 23 (Operand.tmp 2) (Operand.tmp 19), type := 0, pos := "ref.go:184", after := #[{ on := 8, ground := Ground.data }, { on := 7, ground := Ground.guard }], guard := some (7, true) }, { dst := some 21, op := Op.load 3 (Operand.tmp 20), type := 3, pos := "ref.go:184", after := #[{ on := 9, ground := Ground.data }, { on := 7, ground := Ground.guard }], guard := some (7, true) }, { dst := some 22, op := Op.binOp BinOp.gtr 3 (Operand.tmp 21) (Operand.const (Value.int IntKind.i64 0)) 3, type := 4, pos := "ref.go:184", after := #[{ on := 10, ground := Ground.data }, { on := 7, ground := Ground.guard }], guard := some (7, true) }, { dst := some 23, op := Op.pick (Operand.tmp 18) (Operand.tmp 22) (Operand.const (Value.bool false)), type := 4, pos := "ref.go:184", after := #[{ on := 7, ground := Ground.data }, { on := 11, ground := Ground.data }], guard := none }, { dst := some 24, op := Op.move (Operand.tmp 23), type := 4, pos := "ref.go:184", after := #[{ on := 12, ground := Ground.data }, { on := 7, ground := Ground.chain }], guard := none }, { dst := some 25, op := Op.move (Operand.tmp 6), type := 3, pos := "ref.go:184", after := #[{ on := 13, ground := Ground.guard }], guard := some (13, true) }, { dst := some 26, op := Op.indexAddr 23 (Operand.tmp 3) (Operand.tmp 25), type := 0, pos := "ref.go:184", after := #[{ on := 14, ground := Ground.data }, { on := 13, ground := Ground.guard }], guard := some (13, true) }, { dst := some 27, op := Op.load 3 (Operand.tmp 26), type := 3, pos := "ref.go:184", after := #[{ on := 15, ground := Ground.data }, { on := 13, ground := Ground.guard }], guard := some (13, true) }, { dst := some 28, op := Op.binOp BinOp.gtr 3 (Operand.tmp 27) (Operand.const (Value.int IntKind.i64 0)) 3, type := 4, pos := "ref.go:184", after := #[{ on := 16, ground := Ground.data }, { on := 13, ground := Ground.guard }], guard := some (13, true) }, { dst := some 29, op := Op.pick (Operand.tmp 24) (Operand.tmp 28) (Operand.const (Value.bool false)), type := 4, pos := "ref.go:184", after := #[{ on := 13, ground := Ground.data }, { on := 17, ground := Ground.data }], guard := none }]
def q9_6 : Array Oper := #[{ dst := some 30, op := Op.move (Operand.tmp 5), type := 26, pos := "ref.go:185", after := #[], guard := none }, { dst := some 31, op := Op.move (Operand.tmp 6), type := 3, pos := "ref.go:185", after := #[], guard := none }, { dst := some 32, op := Op.move (Operand.tmp 6), type := 3, pos := "ref.go:185", after := #[], guard := none }, { dst := some 33, op := Op.indexAddr 23 (Operand.tmp 2) (Operand.tmp 32), type := 0, pos := "ref.go:185", after := #[{ on := 2, ground := Ground.data }], guard := none }, { dst := some 34, op := Op.load 3 (Operand.tmp 33), type := 3, pos := "ref.go:185", after := #[{ on := 3, ground := Ground.data }], guard := none }, { dst := some 35, op := Op.move (Operand.tmp 6), type := 3, pos := "ref.go:185", after := #[], guard := none }, { dst := some 36, op := Op.indexAddr 23 (Operand.tmp 3) (Operand.tmp 35), type := 0, pos := "ref.go:185", after := #[{ on := 5, ground := Ground.data }], guard := none }, { dst := some 37, op := Op.load 3 (Operand.tmp 36), type := 3, pos := "ref.go:185", after := #[{ on := 6, ground := Ground.data }], guard := none }, { dst := some 38, op := Op.build 29 #[(0, Operand.tmp 31), (1, Operand.tmp 34), (2, Operand.tmp 37)], type := 29, pos := "ref.go:185", after := #[{ on := 1, ground := Ground.data }, { on := 4, ground := Ground.data }, { on := 7, ground := Ground.data }], guard := none }, { dst := some 39, op := Op.buildSlice 26 1 #[(0, Operand.tmp 38)], type := 26, pos := "ref.go:185", after := #[{ on := 8, ground := Ground.data }], guard := none }, { dst := some 40, op := Op.call { callee := Callee.builtin Builtin.append, args := #[Operand.tmp 30, Operand.tmp 39], argTypes := #[26, 26] }, type := 26, pos := "ref.go:185", after := #[{ on := 0, ground := Ground.data }, { on := 9, ground := Ground.data }], guard := none }, { dst := some 5, op := Op.assign (Operand.tmp 40), type := 26, pos := "ref.go:185", after := #[{ on := 10, ground := Ground.data }, { on := 10, ground := Ground.chain }, { on := 0, ground := Ground.phase }, { on := 1, ground := Ground.phase }, { on := 2, ground := Ground.phase }, { on := 3, ground := Ground.phase }, { on := 4, ground := Ground.phase }, { on := 5, ground := Ground.phase }, { on := 6, ground := Ground.phase }, { on := 7, ground := Ground.phase }, { on := 8, ground := Ground.phase }, { on := 9, ground := Ground.phase }, { on := 10, ground := Ground.phase }], guard := none }]
def q9_7 : Array Oper := #[{ dst := some 41, op := Op.move (Operand.tmp 5), type := 26, pos := "ref.go:188", after := #[], guard := none }, { dst := some 4, op := Op.assign (Operand.tmp 41), type := 26, pos := "ref.go:188", after := #[{ on := 0, ground := Ground.data }, { on := 0, ground := Ground.phase }], guard := none }]
theorem r9_0 {Q : Exit → Act → World → Prop} {a0 : Act} {w : World} (hz : a0.tmps.size = 42) (b : Nat) (hb : w.heap.size = b) (al bl : List Int) (e0 : a0.eval (.tmp 0) = .agg (intV al).toArray) (e1 : a0.eval (.tmp 1) = .agg (intV bl).toArray) (hend : ∀ ac w1 wz, After [4, 3, 2] a0 ac → ac.eval (.tmp 2) = .pointer (some ⟨b, 0, none⟩) → ac.eval (.tmp 3) = .pointer (some ⟨b + 1, 0, none⟩) → Anew b w w1 (intV al) 23 → Anew (b + 1) w1 wz (intV bl) 23 → Q .normal ac wz) : (Code.region 0 q9_0 false).wp Try.prog Q a0 w := by
  refine wp_region_list ?_
  refine wpList_box_new 2 rfl rfl 23 (.tmp 0) rfl b hb _ e0 ?_
  intro w1 h1
  refine wpList_box_new 3 rfl rfl 23 (.tmp 1) rfl (b + 1) h1.size _ ((ev_put (by rw [hz]; decide)).trans ((if_neg (by decide)).trans e1)) ?_
  intro w2 h2
  refine wl_of rfl (op_move (.const _) (.inr rfl) (wl_end ?_))
  refine hend _ w1 w2 ((((After.self a0).put 2 _).put 3 _).put 4 _) ?_ ?_ h1 h2
  · exact (ev_put (by rw [put_size, put_size, hz]; decide)).trans ((if_neg (by decide)).trans ((ev_put (by rw [put_size, hz]; decide)).trans ((if_neg (by decide)).trans ((ev_put (by rw [hz]; decide)).trans (if_pos rfl)))))
  · exact (ev_put (by rw [put_size, put_size, hz]; decide)).trans ((if_neg (by decide)).trans ((ev_put (by rw [put_size, hz]; decide)).trans (if_pos rfl)))
set_option maxRecDepth 100000 in
theorem r9_1 {Q : Exit → Act → World → Prop} {a0 : Act} {w : World} (hz : a0.tmps.size = 42)   (hend : ∀ ac wz, After [5] a0 ac → ac.eval (.tmp 5) = .slice none 0 0 → Gr w wz → Q .normal ac wz) : (Code.region 1 q9_1 false).wp Try.prog Q a0 w := by
  refine seq_by (by kernel_rfl) 1 (by decide) [5] (fun | 5 => .val (.slice none 0 0) | _ => .any) (by kernel_rfl) (List.forall_mem_cons.2 ⟨?s0, fun o ho => nomatch ho⟩) ?e
  case s0 => exact sa_move (.const _) 5 (.val (.slice none 0 0)) (.inr rfl) rfl rfl (.const _) rfl
  case e =>
  intro ac wz hA hgr hv
  exact wl_end (hend ac wz hA (hv 5 (by kernel_rfl) (by rw [hz]; decide)) hgr)
set_option maxRecDepth 100000 in
theorem r9_2 {Q : Exit → Act → World → Prop} {a0 : Act} {w : World} (hz : a0.tmps.size = 42)   (hend : ∀ ac wz, After [6] a0 ac → ac.eval (.tmp 6) = .int .i64 0 → Gr w wz → Q .normal ac wz) : (Code.region 2 q9_2 false).wp Try.prog Q a0 w := by
  refine seq_by (by kernel_rfl) 1 (by decide) [6] (fun | 6 => .val (.int .i64 0) | _ => .any) (by kernel_rfl) (List.forall_mem_cons.2 ⟨?s0, fun o ho => nomatch ho⟩) ?e
  case s0 => exact sa_move (.const _) 6 (.val (.int .i64 0)) (.inr rfl) rfl rfl (.const _) rfl
  case e =>
  intro ac wz hA hgr hv
  exact wl_end (hend ac wz hA (hv 6 (by kernel_rfl) (by rw [hz]; decide)) hgr)
set_option maxRecDepth 100000 in
theorem r9_3 {Q : Exit → Act → World → Prop} {a0 : Act} {w : World} (hz : a0.tmps.size = 42) (k : Nat) (e6 : a0.eval (.tmp 6) = .int .i64 (k : Int)) (hend : ∀ ac wz, After [7, 8] a0 ac → ac.eval (.tmp 8) = .bool (decide ((k : Int) < 8)) → Gr w wz → Q .normal ac wz) : (Code.region 3 q9_3 false).wp Try.prog Q a0 w := by
  refine seq_by (by kernel_rfl) 2 (by decide) [7, 8] (fun | 7 => .val (.int .i64 (k : Int)) | 8 => .val (.bool (decide ((k : Int) < 8))) | _ => .any) (by kernel_rfl) (List.forall_mem_cons.2 ⟨?s0, List.forall_mem_cons.2 ⟨?s1, fun o ho => nomatch ho⟩⟩) ?e
  case s0 => exact sa_move (.tmp 6) 7 (.val (.int .i64 (k : Int))) (.inl rfl) rfl rfl (.old 6 _ (by decide) e6) rfl
  case s1 => exact sa_bin .lss 3 (.tmp 7) (.const _) 3 8 (.int .i64 (k : Int)) (.int .i64 8) (.bool (decide ((k : Int) < 8))) rfl rfl rfl (.new 7 (by kernel_rfl) (by rw [hz]; decide)) (.const _) guard_int (bin_lss rfl) rfl
  case e =>
  intro ac wz hA hgr hv
  exact wl_end (hend ac wz hA (hv 8 (by kernel_rfl) (by rw [hz]; decide)) hgr)
set_option maxRecDepth 100000 in
theorem r9_4 {Q : Exit → Act → World → Prop} {a0 : Act} {w : World} (hz : a0.tmps.size = 42) (k : Nat) (hk : k ≤ 8) (e6 : a0.eval (.tmp 6) = .int .i64 (k : Int)) (hend : ∀ ac wz, After [6, 9, 10] a0 ac → ac.eval (.tmp 6) = .int .i64 ((k + 1 : Nat) : Int) → Gr w wz → Q .normal ac wz) : (Code.region 4 q9_4 false).wp Try.prog Q a0 w := by
  refine seq_by (by kernel_rfl) 2 (by decide) [9, 10] (fun | 9 => .val (.int .i64 (k : Int)) | 10 => .val (.int .i64 ((k + 1 : Nat) : Int)) | _ => .any) (by kernel_rfl) (List.forall_mem_cons.2 ⟨?s0, List.forall_mem_cons.2 ⟨?s1, fun o ho => nomatch ho⟩⟩) ?e
  case s0 => exact sa_move (.tmp 6) 9 (.val (.int .i64 (k : Int))) (.inl rfl) rfl rfl (.old 6 _ (by decide) e6) rfl
  case s1 => exact sa_bin .add 3 (.tmp 9) (.const _) 3 10 (.int .i64 (k : Int)) (.int .i64 1) (.int .i64 ((k + 1 : Nat) : Int)) rfl rfl rfl (.new 9 (by kernel_rfl) (by rw [hz]; decide)) (.const _) guard_int (bin_add (by omega) (by omega) (by omega)) rfl
  case e =>
  intro ac wz hA hgr hv
  have o10 : ac.eval (.tmp 10) = .int .i64 ((k + 1 : Nat) : Int) := hv 10 (by kernel_rfl) (by rw [hz]; decide)
  refine wl_of rfl (op_move (.tmp 10) (.inr rfl) (wl_end ?_))
  exact hend _ wz (hA.put 6 _)  ((ev_put (by rw [hA.size, hz]; decide)).trans ((if_pos rfl).trans o10)) hgr
set_option maxRecDepth 100000 in
theorem r9_5e {Q : Exit → Act → World → Prop} {a0 : Act} {w : World} (hz : a0.tmps.size = 42) (b2 b3 i : Nat) (x y : Int) (hi : i < 8) (hX : ∀ z, Gr w z → z.cell? ⟨b2, i, none⟩ = some (.int .i64 x)) (hY : ∀ z, Gr w z → z.cell? ⟨b3, i, none⟩ = some (.int .i64 y)) (h1 : x = y) (e6 : a0.eval (.tmp 6) = .int .i64 (i : Int)) (e2 : a0.eval (.tmp 2) = .pointer (some ⟨b2, 0, none⟩)) (e3 : a0.eval (.tmp 3) = .pointer (some ⟨b3, 0, none⟩)) (hend : ∀ ac wz, After [11, 12, 13, 14, 15, 16, 17, 18, 19, 20, 21, 22, 23, 24, 25, 26, 27, 28, 29] a0 ac → ac.eval (.tmp 29) = .bool false → Gr w wz → Q .normal ac wz) : (Code.region 5 q9_5 true).wp Try.prog Q a0 w := by
  refine drawn_by (by kernel_rfl) (by kernel_rfl) (by kernel_rfl) [11, 12, 13, 14, 15, 16, 17, 18, 19, 20, 21, 22, 23, 24, 25, 26, 27, 28, 29] (fun | 11 => .val (.int .i64 (i : Int)) | 12 => .val (.pointer (some ⟨b2, i, none⟩)) | 13 => .val (.int .i64 x) | 14 => .val (.int .i64 (i : Int)) | 15 => .val (.pointer (some ⟨b3, i, none⟩)) | 16 => .val (.int .i64 y) | 17 => .val (.bool false) | 18 => .val (.bool false) | 19 => .val (undef) | 20 => .val (undef) | 21 => .val (undef) | 22 => .val (undef) | 23 => .val (.bool false) | 24 => .val (.bool false) | 25 => .val (undef) | 26 => .val (undef) | 27 => .val (undef) | 28 => .val (undef) | 29 => .val (.bool false) | _ => .any) (by kernel_rfl) (List.forall_mem_cons.2 ⟨?s0, List.forall_mem_cons.2 ⟨?s1, List.forall_mem_cons.2 ⟨?s2, List.forall_mem_cons.2 ⟨?s3, List.forall_mem_cons.2 ⟨?s4, List.forall_mem_cons.2 ⟨?s5, List.forall_mem_cons.2 ⟨?s6, List.forall_mem_cons.2 ⟨?s7, List.forall_mem_cons.2 ⟨?s8, List.forall_mem_cons.2 ⟨?s9, List.forall_mem_cons.2 ⟨?s10, List.forall_mem_cons.2 ⟨?s11, List.forall_mem_cons.2 ⟨?s12, List.forall_mem_cons.2 ⟨?s13, List.forall_mem_cons.2 ⟨?s14, List.forall_mem_cons.2 ⟨?s15, List.forall_mem_cons.2 ⟨?s16, List.forall_mem_cons.2 ⟨?s17, List.forall_mem_cons.2 ⟨?s18, fun o ho => nomatch ho⟩⟩⟩⟩⟩⟩⟩⟩⟩⟩⟩⟩⟩⟩⟩⟩⟩⟩⟩) ?e
  case s0 => exact sa_move (.tmp 6) 11 (.val (.int .i64 (i : Int))) (.inl rfl) rfl rfl (.old 6 _ (by decide) e6) rfl
  case s1 => exact sa_ixa 23 (.tmp 2) (.tmp 11) 12 (.pointer (some ⟨b2, 0, none⟩)) (.int .i64 (i : Int)) (.pointer (some ⟨b2, i, none⟩)) rfl rfl rfl (.old 2 _ (by decide) e2) (.new 11 (by kernel_rfl) (by rw [hz]; decide)) (ix_array (sz := 1) und23 (by intro w; kernel_rfl) (by omega) (by omega)) rfl
  case s2 => exact sa_loadc 3 (.tmp 12) 13 (b2) (i) (.int .i64 x) rfl rfl rfl (by intro w; kernel_rfl) (.new 12 (by kernel_rfl) (by rw [hz]; decide)) hX rfl
  case s3 => exact sa_move (.tmp 6) 14 (.val (.int .i64 (i : Int))) (.inl rfl) rfl rfl (.old 6 _ (by decide) e6) rfl
  case s4 => exact sa_ixa 23 (.tmp 3) (.tmp 14) 15 (.pointer (some ⟨b3, 0, none⟩)) (.int .i64 (i : Int)) (.pointer (some ⟨b3, i, none⟩)) rfl rfl rfl (.old 3 _ (by decide) e3) (.new 14 (by kernel_rfl) (by rw [hz]; decide)) (ix_array (sz := 1) und23 (by intro w; kernel_rfl) (by omega) (by omega)) rfl
  case s5 => exact sa_loadc 3 (.tmp 15) 16 (b3) (i) (.int .i64 y) rfl rfl rfl (by intro w; kernel_rfl) (.new 15 (by kernel_rfl) (by rw [hz]; decide)) hY rfl
  case s6 => exact sa_bin .neq 3 (.tmp 13) (.tmp 16) 3 17 (.int .i64 x) (.int .i64 y) (.bool false) rfl rfl rfl (.new 13 (by kernel_rfl) (by rw [hz]; decide)) (.new 16 (by kernel_rfl) (by rw [hz]; decide)) guard_int (bin_neq (decide_eq_false (by omega))) rfl
  case s7 => exact sa_move (.tmp 17) 18 (.val (.bool false)) (.inl rfl) rfl rfl (.new 17 (by kernel_rfl) (by rw [hz]; decide)) rfl
  case s8 => exact so_guardN 7 18 rfl rfl (by kernel_rfl) (by rw [hz]; decide) rfl (fun d hd => by cases hd; rfl)
  case s9 => exact so_guardN 7 18 rfl rfl (by kernel_rfl) (by rw [hz]; decide) rfl (fun d hd => by cases hd; rfl)
  case s10 => exact so_guardN 7 18 rfl rfl (by kernel_rfl) (by rw [hz]; decide) rfl (fun d hd => by cases hd; rfl)
  case s11 => exact so_guardN 7 18 rfl rfl (by kernel_rfl) (by rw [hz]; decide) rfl (fun d hd => by cases hd; rfl)
  case s12 => exact sa_pickF (.tmp 18) (.tmp 22) (.const _) 23 (.val (.bool false)) rfl rfl rfl (.new 18 (by kernel_rfl) (by rw [hz]; decide)) (.const _) rfl
  case s13 => exact sa_move (.tmp 23) 24 (.val (.bool false)) (.inl rfl) rfl rfl (.new 23 (by kernel_rfl) (by rw [hz]; decide)) rfl
  case s14 => exact so_guardN 13 24 rfl rfl (by kernel_rfl) (by rw [hz]; decide) rfl (fun d hd => by cases hd; rfl)
  case s15 => exact so_guardN 13 24 rfl rfl (by kernel_rfl) (by rw [hz]; decide) rfl (fun d hd => by cases hd; rfl)
  case s16 => exact so_guardN 13 24 rfl rfl (by kernel_rfl) (by rw [hz]; decide) rfl (fun d hd => by cases hd; rfl)
  case s17 => exact so_guardN 13 24 rfl rfl (by kernel_rfl) (by rw [hz]; decide) rfl (fun d hd => by cases hd; rfl)
  case s18 => exact sa_pickF (.tmp 24) (.tmp 28) (.const _) 29 (.val (.bool false)) rfl rfl rfl (.new 24 (by kernel_rfl) (by rw [hz]; decide)) (.const _) rfl
  case e =>
  intro ac wz hA hgr hv
  exact hend ac wz hA (hv 29 (by kernel_rfl) (by rw [hz]; decide)) hgr
set_option maxRecDepth 100000 in
theorem r9_5n {Q : Exit → Act → World → Prop} {a0 : Act} {w : World} (hz : a0.tmps.size = 42) (b2 b3 i : Nat) (x y : Int) (hi : i < 8) (hX : ∀ z, Gr w z → z.cell? ⟨b2, i, none⟩ = some (.int .i64 x)) (hY : ∀ z, Gr w z → z.cell? ⟨b3, i, none⟩ = some (.int .i64 y)) (h1 : ¬ x = y) (h2 : ¬ x > 0) (e6 : a0.eval (.tmp 6) = .int .i64 (i : Int)) (e2 : a0.eval (.tmp 2) = .pointer (some ⟨b2, 0, none⟩)) (e3 : a0.eval (.tmp 3) = .pointer (some ⟨b3, 0, none⟩)) (hend : ∀ ac wz, After [11, 12, 13, 14, 15, 16, 17, 18, 19, 20, 21, 22, 23, 24, 25, 26, 27, 28, 29] a0 ac → ac.eval (.tmp 29) = .bool false → Gr w wz → Q .normal ac wz) : (Code.region 5 q9_5 true).wp Try.prog Q a0 w := by
  refine drawn_by (by kernel_rfl) (by kernel_rfl) (by kernel_rfl) [11, 12, 13, 14, 15, 16, 17, 18, 19, 20, 21, 22, 23, 24, 25, 26, 27, 28, 29] (fun | 11 => .val (.int .i64 (i : Int)) | 12 => .val (.pointer (some ⟨b2, i, none⟩)) | 13 => .val (.int .i64 x) | 14 => .val (.int .i64 (i : Int)) | 15 => .val (.pointer (some ⟨b3, i, none⟩)) | 16 => .val (.int .i64 y) | 17 => .val (.bool true) | 18 => .val (.bool true) | 19 => .val (.int .i64 (i : Int)) | 20 => .val (.pointer (some ⟨b2, i, none⟩)) | 21 => .val (.int .i64 x) | 22 => .val (.bool false) | 23 => .val (.bool false) | 24 => .val (.bool false) | 25 => .val (undef) | 26 => .val (undef) | 27 => .val (undef) | 28 => .val (undef) | 29 => .val (.bool false) | _ => .any) (by kernel_rfl) (List.forall_mem_cons.2 ⟨?s0, List.forall_mem_cons.2 ⟨?s1, List.forall_mem_cons.2 ⟨?s2, List.forall_mem_cons.2 ⟨?s3, List.forall_mem_cons.2 ⟨?s4, List.forall_mem_cons.2 ⟨?s5, List.forall_mem_cons.2 ⟨?s6, List.forall_mem_cons.2 ⟨?s7, List.forall_mem_cons.2 ⟨?s8, List.forall_mem_cons.2 ⟨?s9, List.forall_mem_cons.2 ⟨?s10, List.forall_mem_cons.2 ⟨?s11, List.forall_mem_cons.2 ⟨?s12, List.forall_mem_cons.2 ⟨?s13, List.forall_mem_cons.2 ⟨?s14, List.forall_mem_cons.2 ⟨?s15, List.forall_mem_cons.2 ⟨?s16, List.forall_mem_cons.2 ⟨?s17, List.forall_mem_cons.2 ⟨?s18, fun o ho => nomatch ho⟩⟩⟩⟩⟩⟩⟩⟩⟩⟩⟩⟩⟩⟩⟩⟩⟩⟩⟩) ?e
  case s0 => exact sa_move (.tmp 6) 11 (.val (.int .i64 (i : Int))) (.inl rfl) rfl rfl (.old 6 _ (by decide) e6) rfl
  case s1 => exact sa_ixa 23 (.tmp 2) (.tmp 11) 12 (.pointer (some ⟨b2, 0, none⟩)) (.int .i64 (i : Int)) (.pointer (some ⟨b2, i, none⟩)) rfl rfl rfl (.old 2 _ (by decide) e2) (.new 11 (by kernel_rfl) (by rw [hz]; decide)) (ix_array (sz := 1) und23 (by intro w; kernel_rfl) (by omega) (by omega)) rfl
  case s2 => exact sa_loadc 3 (.tmp 12) 13 (b2) (i) (.int .i64 x) rfl rfl rfl (by intro w; kernel_rfl) (.new 12 (by kernel_rfl) (by rw [hz]; decide)) hX rfl
  case s3 => exact sa_move (.tmp 6) 14 (.val (.int .i64 (i : Int))) (.inl rfl) rfl rfl (.old 6 _ (by decide) e6) rfl
  case s4 => exact sa_ixa 23 (.tmp 3) (.tmp 14) 15 (.pointer (some ⟨b3, 0, none⟩)) (.int .i64 (i : Int)) (.pointer (some ⟨b3, i, none⟩)) rfl rfl rfl (.old 3 _ (by decide) e3) (.new 14 (by kernel_rfl) (by rw [hz]; decide)) (ix_array (sz := 1) und23 (by intro w; kernel_rfl) (by omega) (by omega)) rfl
  case s5 => exact sa_loadc 3 (.tmp 15) 16 (b3) (i) (.int .i64 y) rfl rfl rfl (by intro w; kernel_rfl) (.new 15 (by kernel_rfl) (by rw [hz]; decide)) hY rfl
  case s6 => exact sa_bin .neq 3 (.tmp 13) (.tmp 16) 3 17 (.int .i64 x) (.int .i64 y) (.bool true) rfl rfl rfl (.new 13 (by kernel_rfl) (by rw [hz]; decide)) (.new 16 (by kernel_rfl) (by rw [hz]; decide)) guard_int (bin_neq (decide_eq_true (by omega))) rfl
  case s7 => exact sa_move (.tmp 17) 18 (.val (.bool true)) (.inl rfl) rfl rfl (.new 17 (by kernel_rfl) (by rw [hz]; decide)) rfl
  case s8 => exact sa_guard 7 18 rfl rfl (by kernel_rfl) (by rw [hz]; decide) rfl (sa_move (.tmp 6) 19 (.val (.int .i64 (i : Int))) (.inl rfl) rfl rfl (.old 6 _ (by decide) e6) rfl)
  case s9 => exact sa_guard 7 18 rfl rfl (by kernel_rfl) (by rw [hz]; decide) rfl (sa_ixa 23 (.tmp 2) (.tmp 19) 20 (.pointer (some ⟨b2, 0, none⟩)) (.int .i64 (i : Int)) (.pointer (some ⟨b2, i, none⟩)) rfl rfl rfl (.old 2 _ (by decide) e2) (.new 19 (by kernel_rfl) (by rw [hz]; decide)) (ix_array (sz := 1) und23 (by intro w; kernel_rfl) (by omega) (by omega)) rfl)
  case s10 => exact sa_guard 7 18 rfl rfl (by kernel_rfl) (by rw [hz]; decide) rfl (sa_loadc 3 (.tmp 20) 21 (b2) (i) (.int .i64 x) rfl rfl rfl (by intro w; kernel_rfl) (.new 20 (by kernel_rfl) (by rw [hz]; decide)) hX rfl)
  case s11 => exact sa_guard 7 18 rfl rfl (by kernel_rfl) (by rw [hz]; decide) rfl (sa_bin .gtr 3 (.tmp 21) (.const _) 3 22 (.int .i64 x) (.int .i64 0) (.bool false) rfl rfl rfl (.new 21 (by kernel_rfl) (by rw [hz]; decide)) (.const _) guard_int (bin_gtr (decide_eq_false (by omega))) rfl)
  case s12 => exact sa_pick (.tmp 18) (.tmp 22) (.const _) 23 (.val (.bool false)) rfl rfl rfl (.new 18 (by kernel_rfl) (by rw [hz]; decide)) (.new 22 (by kernel_rfl) (by rw [hz]; decide)) rfl
  case s13 => exact sa_move (.tmp 23) 24 (.val (.bool false)) (.inl rfl) rfl rfl (.new 23 (by kernel_rfl) (by rw [hz]; decide)) rfl
  case s14 => exact so_guardN 13 24 rfl rfl (by kernel_rfl) (by rw [hz]; decide) rfl (fun d hd => by cases hd; rfl)
  case s15 => exact so_guardN 13 24 rfl rfl (by kernel_rfl) (by rw [hz]; decide) rfl (fun d hd => by cases hd; rfl)
  case s16 => exact so_guardN 13 24 rfl rfl (by kernel_rfl) (by rw [hz]; decide) rfl (fun d hd => by cases hd; rfl)
  case s17 => exact so_guardN 13 24 rfl rfl (by kernel_rfl) (by rw [hz]; decide) rfl (fun d hd => by cases hd; rfl)
  case s18 => exact sa_pickF (.tmp 24) (.tmp 28) (.const _) 29 (.val (.bool false)) rfl rfl rfl (.new 24 (by kernel_rfl) (by rw [hz]; decide)) (.const _) rfl
  case e =>
  intro ac wz hA hgr hv
  exact hend ac wz hA (hv 29 (by kernel_rfl) (by rw [hz]; decide)) hgr
set_option maxRecDepth 100000 in
theorem r9_5p {Q : Exit → Act → World → Prop} {a0 : Act} {w : World} (hz : a0.tmps.size = 42) (b2 b3 i : Nat) (x y : Int) (hi : i < 8) (hX : ∀ z, Gr w z → z.cell? ⟨b2, i, none⟩ = some (.int .i64 x)) (hY : ∀ z, Gr w z → z.cell? ⟨b3, i, none⟩ = some (.int .i64 y)) (h1 : ¬ x = y) (h2 : x > 0) (e6 : a0.eval (.tmp 6) = .int .i64 (i : Int)) (e2 : a0.eval (.tmp 2) = .pointer (some ⟨b2, 0, none⟩)) (e3 : a0.eval (.tmp 3) = .pointer (some ⟨b3, 0, none⟩)) (hend : ∀ ac wz, After [11, 12, 13, 14, 15, 16, 17, 18, 19, 20, 21, 22, 23, 24, 25, 26, 27, 28, 29] a0 ac → ac.eval (.tmp 29) = .bool (decide (y > 0)) → Gr w wz → Q .normal ac wz) : (Code.region 5 q9_5 true).wp Try.prog Q a0 w := by
  refine drawn_by (by kernel_rfl) (by kernel_rfl) (by kernel_rfl) [11, 12, 13, 14, 15, 16, 17, 18, 19, 20, 21, 22, 23, 24, 25, 26, 27, 28, 29] (fun | 11 => .val (.int .i64 (i : Int)) | 12 => .val (.pointer (some ⟨b2, i, none⟩)) | 13 => .val (.int .i64 x) | 14 => .val (.int .i64 (i : Int)) | 15 => .val (.pointer (some ⟨b3, i, none⟩)) | 16 => .val (.int .i64 y) | 17 => .val (.bool true) | 18 => .val (.bool true) | 19 => .val (.int .i64 (i : Int)) | 20 => .val (.pointer (some ⟨b2, i, none⟩)) | 21 => .val (.int .i64 x) | 22 => .val (.bool true) | 23 => .val (.bool true) | 24 => .val (.bool true) | 25 => .val (.int .i64 (i : Int)) | 26 => .val (.pointer (some ⟨b3, i, none⟩)) | 27 => .val (.int .i64 y) | 28 => .val (.bool (decide (y > 0))) | 29 => .val (.bool (decide (y > 0))) | _ => .any) (by kernel_rfl) (List.forall_mem_cons.2 ⟨?s0, List.forall_mem_cons.2 ⟨?s1, List.forall_mem_cons.2 ⟨?s2, List.forall_mem_cons.2 ⟨?s3, List.forall_mem_cons.2 ⟨?s4, List.forall_mem_cons.2 ⟨?s5, List.forall_mem_cons.2 ⟨?s6, List.forall_mem_cons.2 ⟨?s7, List.forall_mem_cons.2 ⟨?s8, List.forall_mem_cons.2 ⟨?s9, List.forall_mem_cons.2 ⟨?s10, List.forall_mem_cons.2 ⟨?s11, List.forall_mem_cons.2 ⟨?s12, List.forall_mem_cons.2 ⟨?s13, List.forall_mem_cons.2 ⟨?s14, List.forall_mem_cons.2 ⟨?s15, List.forall_mem_cons.2 ⟨?s16, List.forall_mem_cons.2 ⟨?s17, List.forall_mem_cons.2 ⟨?s18, fun o ho => nomatch ho⟩⟩⟩⟩⟩⟩⟩⟩⟩⟩⟩⟩⟩⟩⟩⟩⟩⟩⟩) ?e
  case s0 => exact sa_move (.tmp 6) 11 (.val (.int .i64 (i : Int))) (.inl rfl) rfl rfl (.old 6 _ (by decide) e6) rfl
  case s1 => exact sa_ixa 23 (.tmp 2) (.tmp 11) 12 (.pointer (some ⟨b2, 0, none⟩)) (.int .i64 (i : Int)) (.pointer (some ⟨b2, i, none⟩)) rfl rfl rfl (.old 2 _ (by decide) e2) (.new 11 (by kernel_rfl) (by rw [hz]; decide)) (ix_array (sz := 1) und23 (by intro w; kernel_rfl) (by omega) (by omega)) rfl
  case s2 => exact sa_loadc 3 (.tmp 12) 13 (b2) (i) (.int .i64 x) rfl rfl rfl (by intro w; kernel_rfl) (.new 12 (by kernel_rfl) (by rw [hz]; decide)) hX rfl
  case s3 => exact sa_move (.tmp 6) 14 (.val (.int .i64 (i : Int))) (.inl rfl) rfl rfl (.old 6 _ (by decide) e6) rfl
  case s4 => exact sa_ixa 23 (.tmp 3) (.tmp 14) 15 (.pointer (some ⟨b3, 0, none⟩)) (.int .i64 (i : Int)) (.pointer (some ⟨b3, i, none⟩)) rfl rfl rfl (.old 3 _ (by decide) e3) (.new 14 (by kernel_rfl) (by rw [hz]; decide)) (ix_array (sz := 1) und23 (by intro w; kernel_rfl) (by omega) (by omega)) rfl
  case s5 => exact sa_loadc 3 (.tmp 15) 16 (b3) (i) (.int .i64 y) rfl rfl rfl (by intro w; kernel_rfl) (.new 15 (by kernel_rfl) (by rw [hz]; decide)) hY rfl
  case s6 => exact sa_bin .neq 3 (.tmp 13) (.tmp 16) 3 17 (.int .i64 x) (.int .i64 y) (.bool true) rfl rfl rfl (.new 13 (by kernel_rfl) (by rw [hz]; decide)) (.new 16 (by kernel_rfl) (by rw [hz]; decide)) guard_int (bin_neq (decide_eq_true (by omega))) rfl
  case s7 => exact sa_move (.tmp 17) 18 (.val (.bool true)) (.inl rfl) rfl rfl (.new 17 (by kernel_rfl) (by rw [hz]; decide)) rfl
  case s8 => exact sa_guard 7 18 rfl rfl (by kernel_rfl) (by rw [hz]; decide) rfl (sa_move (.tmp 6) 19 (.val (.int .i64 (i : Int))) (.inl rfl) rfl rfl (.old 6 _ (by decide) e6) rfl)
  case s9 => exact sa_guard 7 18 rfl rfl (by kernel_rfl) (by rw [hz]; decide) rfl (sa_ixa 23 (.tmp 2) (.tmp 19) 20 (.pointer (some ⟨b2, 0, none⟩)) (.int .i64 (i : Int)) (.pointer (some ⟨b2, i, none⟩)) rfl rfl rfl (.old 2 _ (by decide) e2) (.new 19 (by kernel_rfl) (by rw [hz]; decide)) (ix_array (sz := 1) und23 (by intro w; kernel_rfl) (by omega) (by omega)) rfl)
  case s10 => exact sa_guard 7 18 rfl rfl (by kernel_rfl) (by rw [hz]; decide) rfl (sa_loadc 3 (.tmp 20) 21 (b2) (i) (.int .i64 x) rfl rfl rfl (by intro w; kernel_rfl) (.new 20 (by kernel_rfl) (by rw [hz]; decide)) hX rfl)
  case s11 => exact sa_guard 7 18 rfl rfl (by kernel_rfl) (by rw [hz]; decide) rfl (sa_bin .gtr 3 (.tmp 21) (.const _) 3 22 (.int .i64 x) (.int .i64 0) (.bool true) rfl rfl rfl (.new 21 (by kernel_rfl) (by rw [hz]; decide)) (.const _) guard_int (bin_gtr (decide_eq_true (by omega))) rfl)
  case s12 => exact sa_pick (.tmp 18) (.tmp 22) (.const _) 23 (.val (.bool true)) rfl rfl rfl (.new 18 (by kernel_rfl) (by rw [hz]; decide)) (.new 22 (by kernel_rfl) (by rw [hz]; decide)) rfl
  case s13 => exact sa_move (.tmp 23) 24 (.val (.bool true)) (.inl rfl) rfl rfl (.new 23 (by kernel_rfl) (by rw [hz]; decide)) rfl
  case s14 => exact sa_guard 13 24 rfl rfl (by kernel_rfl) (by rw [hz]; decide) rfl (sa_move (.tmp 6) 25 (.val (.int .i64 (i : Int))) (.inl rfl) rfl rfl (.old 6 _ (by decide) e6) rfl)
  case s15 => exact sa_guard 13 24 rfl rfl (by kernel_rfl) (by rw [hz]; decide) rfl (sa_ixa 23 (.tmp 3) (.tmp 25) 26 (.pointer (some ⟨b3, 0, none⟩)) (.int .i64 (i : Int)) (.pointer (some ⟨b3, i, none⟩)) rfl rfl rfl (.old 3 _ (by decide) e3) (.new 25 (by kernel_rfl) (by rw [hz]; decide)) (ix_array (sz := 1) und23 (by intro w; kernel_rfl) (by omega) (by omega)) rfl)
  case s16 => exact sa_guard 13 24 rfl rfl (by kernel_rfl) (by rw [hz]; decide) rfl (sa_loadc 3 (.tmp 26) 27 (b3) (i) (.int .i64 y) rfl rfl rfl (by intro w; kernel_rfl) (.new 26 (by kernel_rfl) (by rw [hz]; decide)) hY rfl)
  case s17 => exact sa_guard 13 24 rfl rfl (by kernel_rfl) (by rw [hz]; decide) rfl (sa_bin .gtr 3 (.tmp 27) (.const _) 3 28 (.int .i64 y) (.int .i64 0) (.bool (decide (y > 0))) rfl rfl rfl (.new 27 (by kernel_rfl) (by rw [hz]; decide)) (.const _) guard_int (bin_gtr rfl) rfl)
  case s18 => exact sa_pick (.tmp 24) (.tmp 28) (.const _) 29 (.val (.bool (decide (y > 0)))) rfl rfl rfl (.new 24 (by kernel_rfl) (by rw [hz]; decide)) (.new 28 (by kernel_rfl) (by rw [hz]; decide)) rfl
  case e =>
  intro ac wz hA hgr hv
  exact hend ac wz hA (hv 29 (by kernel_rfl) (by rw [hz]; decide)) hgr
set_option maxRecDepth 100000 in
theorem r9_6 {Q : Exit → Act → World → Prop} {a0 : Act} {w : World} (hz : a0.tmps.size = 42) (v5 : Value) (b2 b3 i : Nat) (x y : Int) (hi : i < 8) (hX : ∀ z, Gr w z → z.cell? ⟨b2, i, none⟩ = some (.int .i64 x)) (hY : ∀ z, Gr w z → z.cell? ⟨b3, i, none⟩ = some (.int .i64 y)) (m M : Nat) (cs : List Value) (hown : w.ownsRow M 29 3 v5 m cs) (hm : m ≤ 8) (hM : M ≤ w.heap.size) (e5 : a0.eval (.tmp 5) = v5) (e6 : a0.eval (.tmp 6) = .int .i64 (i : Int)) (e2 : a0.eval (.tmp 2) = .pointer (some ⟨b2, 0, none⟩)) (e3 : a0.eval (.tmp 3) = .pointer (some ⟨b3, 0, none⟩)) (hend : ∀ ac wz v, After (5 :: 40 :: [30, 31, 32, 33, 34, 35, 36, 37, 38, 39]) a0 ac → ac.eval (.tmp 5) = v → wz.ownsRow M 29 3 v (m + 1) (cs ++ [.int .i64 (i : Int), .int .i64 x, .int .i64 y]) → Below M w wz → Q .normal ac wz) : (Code.region 6 q9_6 true).wp Try.prog Q a0 w := by
  refine drawn_tail (by kernel_rfl) (by kernel_rfl) 10 (by decide) (by kernel_rfl) (by kernel_rfl) [30, 31, 32, 33, 34, 35, 36, 37, 38, 39] (fun | 30 => .val (v5) | 31 => .val (.int .i64 (i : Int)) | 32 => .val (.int .i64 (i : Int)) | 33 => .val (.pointer (some ⟨b2, i, none⟩)) | 34 => .val (.int .i64 x) | 35 => .val (.int .i64 (i : Int)) | 36 => .val (.pointer (some ⟨b3, i, none⟩)) | 37 => .val (.int .i64 y) | 38 => .val (.agg #[.int .i64 (i : Int), .int .i64 x, .int .i64 y]) | 39 => tripF (i : Int) x y | _ => .any) (by kernel_rfl) (List.forall_mem_cons.2 ⟨?s0, List.forall_mem_cons.2 ⟨?s1, List.forall_mem_cons.2 ⟨?s2, List.forall_mem_cons.2 ⟨?s3, List.forall_mem_cons.2 ⟨?s4, List.forall_mem_cons.2 ⟨?s5, List.forall_mem_cons.2 ⟨?s6, List.forall_mem_cons.2 ⟨?s7, List.forall_mem_cons.2 ⟨?s8, List.forall_mem_cons.2 ⟨?s9, fun o ho => nomatch ho⟩⟩⟩⟩⟩⟩⟩⟩⟩⟩) ?e
  case s0 => exact sa_move (.tmp 5) 30 (.val (v5)) (.inl rfl) rfl rfl (.old 5 _ (by decide) e5) rfl
  case s1 => exact sa_move (.tmp 6) 31 (.val (.int .i64 (i : Int))) (.inl rfl) rfl rfl (.old 6 _ (by decide) e6) rfl
  case s2 => exact sa_move (.tmp 6) 32 (.val (.int .i64 (i : Int))) (.inl rfl) rfl rfl (.old 6 _ (by decide) e6) rfl
  case s3 => exact sa_ixa 23 (.tmp 2) (.tmp 32) 33 (.pointer (some ⟨b2, 0, none⟩)) (.int .i64 (i : Int)) (.pointer (some ⟨b2, i, none⟩)) rfl rfl rfl (.old 2 _ (by decide) e2) (.new 32 (by kernel_rfl) (by rw [hz]; decide)) (ix_array (sz := 1) und23 (by intro w; kernel_rfl) (by omega) (by omega)) rfl
  case s4 => exact sa_loadc 3 (.tmp 33) 34 (b2) (i) (.int .i64 x) rfl rfl rfl (by intro w; kernel_rfl) (.new 33 (by kernel_rfl) (by rw [hz]; decide)) hX rfl
  case s5 => exact sa_move (.tmp 6) 35 (.val (.int .i64 (i : Int))) (.inl rfl) rfl rfl (.old 6 _ (by decide) e6) rfl
  case s6 => exact sa_ixa 23 (.tmp 3) (.tmp 35) 36 (.pointer (some ⟨b3, 0, none⟩)) (.int .i64 (i : Int)) (.pointer (some ⟨b3, i, none⟩)) rfl rfl rfl (.old 3 _ (by decide) e3) (.new 35 (by kernel_rfl) (by rw [hz]; decide)) (ix_array (sz := 1) und23 (by intro w; kernel_rfl) (by omega) (by omega)) rfl
  case s7 => exact sa_loadc 3 (.tmp 36) 37 (b3) (i) (.int .i64 y) rfl rfl rfl (by intro w; kernel_rfl) (.new 36 (by kernel_rfl) (by rw [hz]; decide)) hY rfl
  case s8 => exact sa_bd3 29 0 1 2 (.tmp 31) (.tmp 34) (.tmp 37) 38 (.int .i64 (i : Int)) (.int .i64 x) (.int .i64 y) (.agg #[.int .i64 (i : Int), .int .i64 x, .int .i64 y]) rfl rfl rfl (.new 31 (by kernel_rfl) (by rw [hz]; decide)) (.new 34 (by kernel_rfl) (by rw [hz]; decide)) (.new 37 (by kernel_rfl) (by rw [hz]; decide)) (by intro w; kernel_rfl) rfl
  case s9 => exact sa_bs1 26 1 (.tmp 38) 39 (.agg #[.int .i64 (i : Int), .int .i64 x, .int .i64 y]) rfl rfl rfl (.new 38 (by kernel_rfl) (by rw [hz]; decide)) (bs26 (i : Int) x y)
  case e =>
  intro ac wz hA hgr hv
  have o30 : ac.eval (.tmp 30) = v5 := hv 30 (by kernel_rfl) (by rw [hz]; decide)
  have o39 := hv 39 (by kernel_rfl) (by rw [hz]; decide)
  obtain ⟨g2, hv2, hh2⟩ := o39
  obtain ⟨i29, f29, hz29, hs29, hb29⟩ := inf29
  have hown2 := owns_gr hown hgr
  refine wpList_append_src rfl (.tmp 30) (.tmp 39) 26 rfl M 29 i29 _ 3 24 und26 f29 hz29 hs29 hb29 (by rfl) (by omega) v5 m cs hown2 o30 [.int .i64 (i : Int), .int .i64 x, .int .i64 y] (some ⟨g2, 0, none⟩) 1 1 hv2 rfl (fun _ => ⟨_, rfl, fun j u hu => ?_⟩) (fun u hu => by simp at hu; rcases hu with rfl | rfl | rfl <;> rfl) (by unfold maxLen; omega) (by omega) (Nat.le_trans hM hgr.size) ?_
  · rw [addr_add0, hh2.cell]; exact hu
  intro v3 w3 own3 gr3 _
  refine wl_of rfl (op_move (.tmp 40) (.inr rfl) (wl_end ?_))
  refine hend _ w3 v3 ((hA.put 40 _).put 5 _) ?_ own3 ?_
  · exact (ev_put (by rw [put_size, hA.size, hz]; decide)).trans ((if_pos rfl).trans ((ev_put (by rw [hA.size, hz]; decide)).trans (if_pos rfl)))
  · exact (hgr.mono hM).trans (grown_below gr3 (Nat.le_trans hM hgr.size) (fun j e => own3_base hown2 j e))
set_option maxRecDepth 100000 in
theorem r9_7 {Q : Exit → Act → World → Prop} {a0 : Act} {w : World} (hz : a0.tmps.size = 42) (v5 : Value) (e5 : a0.eval (.tmp 5) = v5) (hend : ∀ ac wz, After [41, 4] a0 ac → ac.eval (.tmp 4) = v5 → Gr w wz → Q .normal ac wz) : (Code.region 7 q9_7 false).wp Try.prog Q a0 w := by
  refine seq_by (by kernel_rfl) 2 (by decide) [41, 4] (fun | 41 => .val (v5) | 4 => .val (v5) | _ => .any) (by kernel_rfl) (List.forall_mem_cons.2 ⟨?s0, List.forall_mem_cons.2 ⟨?s1, fun o ho => nomatch ho⟩⟩) ?e
  case s0 => exact sa_move (.tmp 5) 41 (.val (v5)) (.inl rfl) rfl rfl (.old 5 _ (by decide) e5) rfl
  case s1 => exact sa_move (.tmp 41) 4 (.val (v5)) (.inr rfl) rfl rfl (.new 41 (by kernel_rfl) (by rw [hz]; decide)) rfl
  case e =>
  intro ac wz hA hgr hv
  exact wl_end (hend ac wz hA (hv 4 (by kernel_rfl) (by rw [hz]; decide)) hgr)
def q3_0 : Array Oper := #[{ dst := some 3, op := Op.box 23 (Operand.tmp 0), type := 0, pos := "law.go:57", after := #[], guard := none }, { dst := some 5, op := Op.box 23 (Operand.tmp 2), type := 0, pos := "law.go:57", after := #[], guard := none }, { dst := some 6, op := Op.assign (Operand.const (Value.bool false)), type := 4, pos := "law.go:57", after := #[], guard := none }]
def q3_1 : Array Oper := #[{ dst := some 11, op := Op.call { callee := Callee.value (Operand.func 7), args := #[], argTypes := #[] }, type := 4, pos := "law.go:58", after := #[], guard := none }, { dst := some 7, op := Op.assign (Operand.tmp 11), type := 4, pos := "law.go:58", after := #[{ on := 0, ground := Ground.data }, { on := 0, ground := Ground.chain }, { on := 0, ground := Ground.phase }], guard := none }]
def q3_2 : Array Oper := #[{ dst := some 12, op := Op.load 23 (Operand.tmp 3), type := 23, pos := "law.go:59", after := #[], guard := none }, { dst := some 13, op := Op.load 23 (Operand.tmp 5), type := 23, pos := "law.go:59", after := #[], guard := none }, { dst := some 14, op := Op.call { callee := Callee.value (Operand.func 8), args := #[Operand.tmp 12, Operand.tmp 13], argTypes := #[23, 23] }, type := 26, pos := "law.go:59", after := #[{ on := 0, ground := Ground.data }, { on := 1, ground := Ground.data }], guard := none }, { dst := some 8, op := Op.assign (Operand.tmp 14), type := 26, pos := "law.go:59", after := #[{ on := 2, ground := Ground.data }, { on := 2, ground := Ground.chain }, { on := 0, ground := Ground.phase }, { on := 1, ground := Ground.phase }, { on := 2, ground := Ground.phase }], guard := none }]
def q3_3 : Array Oper := #[{ dst := some 15, op := Op.load 23 (Operand.tmp 3), type := 23, pos := "law.go:60", after := #[], guard := none }, { dst := some 16, op := Op.load 23 (Operand.tmp 5), type := 23, pos := "law.go:60", after := #[], guard := none }, { dst := some 17, op := Op.call { callee := Callee.value (Operand.func 9), args := #[Operand.tmp 15, Operand.tmp 16], argTypes := #[23, 23] }, type := 26, pos := "law.go:60", after := #[{ on := 0, ground := Ground.data }, { on := 1, ground := Ground.data }], guard := none }, { dst := some 9, op := Op.assign (Operand.tmp 17), type := 26, pos := "law.go:60", after := #[{ on := 2, ground := Ground.data }, { on := 2, ground := Ground.chain }, { on := 0, ground := Ground.phase }, { on := 1, ground := Ground.phase }, { on := 2, ground := Ground.phase }], guard := none }]
def q3_4 : Array Oper := #[{ dst := some 18, op := Op.move (Operand.tmp 8), type := 26, pos := "law.go:61", after := #[], guard := none }, { dst := some 19, op := Op.call { callee := Callee.builtin Builtin.len, args := #[Operand.tmp 18], argTypes := #[26] }, type := 3, pos := "law.go:61", after := #[{ on := 0, ground := Ground.data }], guard := none }, { dst := some 20, op := Op.move (Operand.tmp 9), type := 26, pos := "law.go:61", after := #[], guard := none }, { dst := some 21, op := Op.call { callee := Callee.builtin Builtin.len, args := #[Operand.tmp 20], argTypes := #[26] }, type := 3, pos := "law.go:61", after := #[{ on := 2, ground := Ground.data }], guard := none }, { dst := some 22, op := Op.binOp BinOp.neq 3 (Operand.tmp 19) (Operand.tmp 21) 3, type := 4, pos := "law.go:61", after := #[{ on := 1, ground := Ground.data }, { on := 3, ground := Ground.data }], guard := none }]
def q3_5 : Array Oper := #[{ dst := some 6, op := Op.assign (Operand.const (Value.bool false)), type := 4, pos := "law.go:62", after := #[], guard := none }]
def q3_6 : Array Oper := #[{ dst := some 10, op := Op.assign (Operand.const (Value.int IntKind.i64 0)), type := 3, pos := "law.go:64", after := #[], guard := none }]
def q3_7 : Array Oper := #[{ dst := some 23, op := Op.move (Operand.tmp 10), type := 3, pos := "law.go:64", after := #[], guard := none }, { dst := some 24, op := Op.move (Operand.tmp 8), type := 26, pos := "law.go:64", after := #[], guard := none }, { dst := some 25, op := Op.call { callee := Callee.builtin Builtin.len, args := #[Operand.tmp 24], argTypes := #[26] }, type := 3, pos := "law.go:64", after := #[{ on := 1, ground := Ground.data }], guard := none }, { dst := some 26, op := Op.binOp BinOp.lss 3 (Operand.tmp 23) (Operand.tmp 25) 3, type := 4, pos := "law.go:64", after := #[{ on := 0, ground := Ground.data }, { on := 2, ground := Ground.data }], guard := none }]
def q3_8 : Array Oper := #[{ dst := some 27, op := Op.move (Operand.tmp 10), type := 3, pos := "law.go:64", after := #[], guard := none }, { dst := some 28, op := Op.binOp BinOp.add 3 (Operand.tmp 27) (Operand.const (Value.int IntKind.i64 1)) 3, type := 3, pos := "law.go:64", after := #[{ on := 0, ground := Ground.data }], guard := none }, { dst := some 10, op := Op.assign (Operand.tmp 28), type := 3, pos := "law.go:64", after := #[{ on := 1, ground := Ground.data }, { on := 0, ground := Ground.phase }, { on := 1, ground := Ground.phase }], guard := none }]
def q3_9 : Array Oper := #[{ dst := some 29, op := Op.move (Operand.tmp 8), type := 26, pos := "law.go:65", after := #[], guard := none }, { dst := some 30, op := Op.move (Operand.tmp 10), type := 3, pos := "law.go:65", after := #[], guard := none }, { dst := some 31, op := Op.indexAddr 26 (Operand.tmp 29) (Operand.tmp 30), type := 0, pos := "law.go:65", after := #[{ on := 0, ground := Ground.data }, { on := 1, ground := Ground.data }], guard := none }, { dst := some 32, op := Op.load 29 (Operand.tmp 31), type := 29, pos := "law.go:65", after := #[{ on := 2, ground := Ground.data }], guard := none }, { dst := some 33, op := Op.move (Operand.tmp 9), type := 26, pos := "law.go:65", after := #[], guard := none }, { dst := some 34, op := Op.move (Operand.tmp 10), type := 3, pos := "law.go:65", after := #[], guard := none }, { dst := some 35, op := Op.indexAddr 26 (Operand.tmp 33) (Operand.tmp 34), type := 0, pos := "law.go:65", after := #[{ on := 4, ground := Ground.data }, { on := 5, ground := Ground.data }], guard := none }, { dst := some 36, op := Op.load 29 (Operand.tmp 35), type := 29, pos := "law.go:65", after := #[{ on := 6, ground := Ground.data }], guard := none }, { dst := some 37, op := Op.binOp BinOp.neq 29 (Operand.tmp 32) (Operand.tmp 36) 29, type := 4, pos := "law.go:65", after := #[{ on := 3, ground := Ground.data }, { on := 7, ground := Ground.data }], guard := none }]
def q3_10 : Array Oper := #[{ dst := some 6, op := Op.assign (Operand.const (Value.bool false)), type := 4, pos := "law.go:66", after := #[], guard := none }]
def q3_11 : Array Oper := #[{ dst := some 38, op := Op.move (Operand.tmp 7), type := 4, pos := "law.go:69", after := #[], guard := none }, { dst := some 39, op := Op.move (Operand.tmp 38), type := 4, pos := "law.go:69", after := #[{ on := 0, ground := Ground.data }], guard := none }, { dst := some 40, op := Op.load 23 (Operand.tmp 3), type := 23, pos := "law.go:69", after := #[{ on := 1, ground := Ground.guard }], guard := some (1, true) }, { dst := some 41, op := Op.move (Operand.tmp 1), type := 24, pos := "law.go:69", after := #[{ on := 1, ground := Ground.guard }], guard := some (1, true) }, { dst := some 42, op := Op.call { callee := Callee.value (Operand.func 10), args := #[Operand.tmp 40, Operand.tmp 41], argTypes := #[23, 24] }, type := 23, pos := "law.go:69", after := #[{ on := 2, ground := Ground.data }, { on := 3, ground := Ground.data }, { on := 1, ground := Ground.chain }, { on := 1, ground := Ground.guard }], guard := some (1, true) }, { dst := some 43, op := Op.load 23 (Operand.tmp 3), type := 23, pos := "law.go:69", after := #[{ on := 1, ground := Ground.guard }], guard := some (1, true) }, { dst := some 44, op := Op.move (Operand.tmp 1), type := 24, pos := "law.go:69", after := #[{ on := 1, ground := Ground.guard }], guard := some (1, true) }, { dst := some 45, op := Op.call { callee := Callee.value (Operand.func 11), args := #[Operand.tmp 43, Operand.tmp 44], argTypes := #[23, 24] }, type := 23, pos := "law.go:69", after := #[{ on := 5, ground := Ground.data }, { on := 6, ground := Ground.data }, { on := 4, ground := Ground.chain }, { on := 1, ground := Ground.guard }], guard := some (1, true) }, { dst := some 46, op := Op.binOp BinOp.eql 23 (Operand.tmp 42) (Operand.tmp 45) 23, type := 4, pos := "law.go:69", after := #[{ on := 4, ground := Ground.data }, { on := 7, ground := Ground.data }, { on := 1, ground := Ground.guard }], guard := some (1, true) }, { dst := some 47, op := Op.pick (Operand.tmp 39) (Operand.tmp 46) (Operand.const (Value.bool false)), type := 4, pos := "law.go:69", after := #[{ on := 1, ground := Ground.data }, { on := 8, ground := Ground.data }], guard := none }, { dst := some 48, op := Op.move (Operand.tmp 47), type := 4, pos := "law.go:69", after := #[{ on := 9, ground := Ground.data }, { on := 7, ground := Ground.chain }], guard := none }, { dst := some 49, op := Op.load 23 (Operand.tmp 3), type := 23, pos := "law.go:69", after := #[{ on := 10, ground := Ground.guard }], guard := some (10, true) }, { dst := some 50, op := Op.move (Operand.tmp 1), type := 24, pos := "law.go:69", after := #[{ on := 10, ground := Ground.guard }], guard := some (10, true) }, { dst := some 51, op := Op.call { callee := Callee.value (Operand.func 12), args := #[Operand.tmp 49, Operand.tmp 50], argTypes := #[23, 24] }, type := 4, pos := "law.go:69", after := #[{ on := 11, ground := Ground.data }, { on := 12, ground := Ground.data }, { on := 10, ground := Ground.chain }, { on := 10, ground := Ground.guard }], guard := some (10, true) }, { dst := some 52, op := Op.load 23 (Operand.tmp 3), type := 23, pos := "law.go:69", after := #[{ on := 10, ground := Ground.guard }], guard := some (10, true) }, { dst := some 53, op := Op.move (Operand.tmp 1), type := 24, pos := "law.go:69", after := #[{ on := 10, ground := Ground.guard }], guard := some (10, true) }, { dst := some 54, op := Op.call { callee := Callee.value (Operand.func 13), args := #[Operand.tmp 52, Operand.tmp 53], argTypes := #[23, 24] }, type := 4, pos := "law.go:69", after := #[{ on := 14, ground := Ground.data }, { on := 15, ground := Ground.data }, { on := 13, ground := Ground.chain }, { on := 10, ground := Ground.guard }], guard := some (10, true) }, { dst := some 55, op := Op.binOp BinOp.eql 4 (Operand.tmp 51) (Operand.tmp 54) 4, type := 4, pos := "law.go:69", after := #[{ on := 13, ground := Ground.data }, { on := 16, ground := Ground.data }, { on := 10, ground := Ground.guard }], guard := some (10, true) }, { dst := some 56, op := Op.pick (Operand.tmp 48) (Operand.tmp 55) (Operand.const (Value.bool false)), type := 4, pos := "law.go:69", after := #[{ on := 10, ground := Ground.data }, { on := 17, ground := Ground.data }], guard := none }, { dst := some 6, op := Op.assign (Operand.tmp 56), type := 4, pos := "law.go:69", after := #[{ on := 18, ground := Ground.data }, { on := 16, ground := Ground.chain }, { on := 0, ground := Ground.phase }, { on := 1, ground := Ground.phase }, { on := 2, ground := Ground.phase }, { on := 3, ground := Ground.phase }, { on := 4, ground := Ground.phase }, { on := 5, ground := Ground.phase }, { on := 6, ground := Ground.phase }, { on := 7, ground := Ground.phase }, { on := 8, ground := Ground.phase }, { on := 9, ground := Ground.phase }, { on := 10, ground := Ground.phase }, { on := 11, ground := Ground.phase }, { on := 12, ground := Ground.phase }, { on := 13, ground := Ground.phase }, { on := 14, ground := Ground.phase }, { on := 15, ground := Ground.phase }, { on := 16, ground := Ground.phase }, { on := 17, ground := Ground.phase }, { on := 18, ground := Ground.phase }], guard := none }]
theorem r3_0 {Q : Exit → Act → World → Prop} {a0 : Act} {w : World} (hz : a0.tmps.size = 57) (b : Nat) (hb : w.heap.size = b) (al bl : List Int) (e0 : a0.eval (.tmp 0) = .agg (intV al).toArray) (e2 : a0.eval (.tmp 2) = .agg (intV bl).toArray) (hend : ∀ ac w1 wz, After [6, 5, 3] a0 ac → ac.eval (.tmp 3) = .pointer (some ⟨b, 0, none⟩) → ac.eval (.tmp 5) = .pointer (some ⟨b + 1, 0, none⟩) → Anew b w w1 (intV al) 23 → Anew (b + 1) w1 wz (intV bl) 23 → Q .normal ac wz) : (Code.region 0 q3_0 false).wp Try.prog Q a0 w := by
  refine wp_region_list ?_
  refine wpList_box_new 3 rfl rfl 23 (.tmp 0) rfl b hb _ e0 ?_
  intro w1 h1
  refine wpList_box_new 5 rfl rfl 23 (.tmp 2) rfl (b + 1) h1.size _ ((ev_put (by rw [hz]; decide)).trans ((if_neg (by decide)).trans e2)) ?_
  intro w2 h2
  refine wl_of rfl (op_move (.const _) (.inr rfl) (wl_end ?_))
  refine hend _ w1 w2 ((((After.self a0).put 3 _).put 5 _).put 6 _) ?_ ?_ h1 h2
  · exact (ev_put (by rw [put_size, put_size, hz]; decide)).trans ((if_neg (by decide)).trans ((ev_put (by rw [put_size, hz]; decide)).trans ((if_neg (by decide)).trans ((ev_put (by rw [hz]; decide)).trans (if_pos rfl)))))
  · exact (ev_put (by rw [put_size, put_size, hz]; decide)).trans ((if_neg (by decide)).trans ((ev_put (by rw [put_size, hz]; decide)).trans (if_pos rfl)))
set_option maxRecDepth 100000 in
theorem r3_1 {Q : Exit → Act → World → Prop} {a0 : Act} {w : World} (hz : a0.tmps.size = 57) (hC : ∀ y, Calls Try.prog 7 #[] y fun e z => e = .returned (.bool true) ∧ Gr y z)  (hend : ∀ ac wz, After [11, 7] a0 ac → ac.eval (.tmp 7) = .bool true → Gr w wz → Q .normal ac wz) : (Code.region 1 q3_1 false).wp Try.prog Q a0 w := by
  refine seq_by (by kernel_rfl) 2 (by decide) [11, 7] (fun | 11 => .val (.bool true) | 7 => .val (.bool true) | _ => .any) (by kernel_rfl) (List.forall_mem_cons.2 ⟨?s0, List.forall_mem_cons.2 ⟨?s1, fun o ho => nomatch ho⟩⟩) ?e
  case s0 => exact sa_call0 7  _ 11  rfl rfl rfl  (enters_of Try.func7 (by kernel_rfl) rfl) (fun  y hgy  => by  exact (hC y).mono fun e z ⟨e1, e2⟩ => ⟨_, e1, e2, rfl⟩)
  case s1 => exact sa_move (.tmp 11) 7 (.val (.bool true)) (.inr rfl) rfl rfl (.new 11 (by kernel_rfl) (by rw [hz]; decide)) rfl
  case e =>
  intro ac wz hA hgr hv
  exact wl_end (hend ac wz hA (hv 7 (by kernel_rfl) (by rw [hz]; decide)) hgr)
set_option maxRecDepth 100000 in
theorem r3_2 {Q : Exit → Act → World → Prop} {a0 : Act} {w : World} (hz : a0.tmps.size = 57) (b5 b3 : Nat) (al bl : List Int) (nal : (intV al).length = 8) (nbl : (intV bl).length = 8) (ha : Holds w b3 (intV al) 23) (hb : Holds w b5 (intV bl) 23) (n : Nat) (cs : List Value) (hC : ∀ y, Gr w y → Calls Try.prog 8 #[.agg (intV al).toArray, .agg (intV bl).toArray] y fun e z => ∃ u, e = .returned u ∧ Gr y z ∧ (movF w.heap.size n cs).holds u z) (e3 : a0.eval (.tmp 3) = .pointer (some ⟨b3, 0, none⟩)) (e5 : a0.eval (.tmp 5) = .pointer (some ⟨b5, 0, none⟩)) (hend : ∀ ac wz, After [12, 13, 14, 8] a0 ac → (movF w.heap.size n cs).holds (ac.eval (.tmp 8)) wz → Gr w wz → Q .normal ac wz) : (Code.region 2 q3_2 false).wp Try.prog Q a0 w := by
  refine seq_by (by kernel_rfl) 4 (by decide) [12, 13, 14, 8] (fun | 12 => .val (.agg (intV al).toArray) | 13 => .val (.agg (intV bl).toArray) | 14 => movF w.heap.size n cs | 8 => movF w.heap.size n cs | _ => .any) (by kernel_rfl) (List.forall_mem_cons.2 ⟨?s0, List.forall_mem_cons.2 ⟨?s1, List.forall_mem_cons.2 ⟨?s2, List.forall_mem_cons.2 ⟨?s3, fun o ho => nomatch ho⟩⟩⟩⟩) ?e
  case s0 => exact sa_row 23 (.tmp 3) 12 b3 (0) 8 _ (intV al) rfl rfl rfl Try.underlying23 rfl siz23 nal (.old 3 _ (by decide) e3) (fun y hy => range_of (ha.below hy ha.lt)) rfl
  case s1 => exact sa_row 23 (.tmp 5) 13 b5 (0) 8 _ (intV bl) rfl rfl rfl Try.underlying23 rfl siz23 nbl (.old 5 _ (by decide) e5) (fun y hy => range_of (hb.below hy hb.lt)) rfl
  case s2 => exact sa_callF2 8 (.tmp 12) (.tmp 13) _ 14 (.agg (intV al).toArray) (.agg (intV bl).toArray) (movF w.heap.size n cs) rfl rfl rfl (.new 12 (by kernel_rfl) (by rw [hz]; decide)) (.new 13 (by kernel_rfl) (by rw [hz]; decide)) (enters_of Try.func8 (by kernel_rfl) rfl) hC rfl
  case s3 => exact sa_move (.tmp 14) 8 (movF w.heap.size n cs) (.inr rfl) rfl rfl (.new 14 (by kernel_rfl) (by rw [hz]; decide)) rfl
  case e =>
  intro ac wz hA hgr hv
  exact wl_end (hend ac wz hA (hv 8 (by kernel_rfl) (by rw [hz]; decide)) hgr)
set_option maxRecDepth 100000 in
theorem r3_3 {Q : Exit → Act → World → Prop} {a0 : Act} {w : World} (hz : a0.tmps.size = 57) (b5 b3 : Nat) (al bl : List Int) (nal : (intV al).length = 8) (nbl : (intV bl).length = 8) (ha : Holds w b3 (intV al) 23) (hb : Holds w b5 (intV bl) 23) (n : Nat) (cs : List Value) (hC : ∀ y, Gr w y → Calls Try.prog 9 #[.agg (intV al).toArray, .agg (intV bl).toArray] y fun e z => ∃ u, e = .returned u ∧ Gr y z ∧ (movF w.heap.size n cs).holds u z) (e3 : a0.eval (.tmp 3) = .pointer (some ⟨b3, 0, none⟩)) (e5 : a0.eval (.tmp 5) = .pointer (some ⟨b5, 0, none⟩)) (hend : ∀ ac wz, After [15, 16, 17, 9] a0 ac → (movF w.heap.size n cs).holds (ac.eval (.tmp 9)) wz → Gr w wz → Q .normal ac wz) : (Code.region 3 q3_3 false).wp Try.prog Q a0 w := by
  refine seq_by (by kernel_rfl) 4 (by decide) [15, 16, 17, 9] (fun | 15 => .val (.agg (intV al).toArray) | 16 => .val (.agg (intV bl).toArray) | 17 => movF w.heap.size n cs | 9 => movF w.heap.size n cs | _ => .any) (by kernel_rfl) (List.forall_mem_cons.2 ⟨?s0, List.forall_mem_cons.2 ⟨?s1, List.forall_mem_cons.2 ⟨?s2, List.forall_mem_cons.2 ⟨?s3, fun o ho => nomatch ho⟩⟩⟩⟩) ?e
  case s0 => exact sa_row 23 (.tmp 3) 15 b3 (0) 8 _ (intV al) rfl rfl rfl Try.underlying23 rfl siz23 nal (.old 3 _ (by decide) e3) (fun y hy => range_of (ha.below hy ha.lt)) rfl
  case s1 => exact sa_row 23 (.tmp 5) 16 b5 (0) 8 _ (intV bl) rfl rfl rfl Try.underlying23 rfl siz23 nbl (.old 5 _ (by decide) e5) (fun y hy => range_of (hb.below hy hb.lt)) rfl
  case s2 => exact sa_callF2 9 (.tmp 15) (.tmp 16) _ 17 (.agg (intV al).toArray) (.agg (intV bl).toArray) (movF w.heap.size n cs) rfl rfl rfl (.new 15 (by kernel_rfl) (by rw [hz]; decide)) (.new 16 (by kernel_rfl) (by rw [hz]; decide)) (enters_of Try.func9 (by kernel_rfl) rfl) hC rfl
  case s3 => exact sa_move (.tmp 17) 9 (movF w.heap.size n cs) (.inr rfl) rfl rfl (.new 17 (by kernel_rfl) (by rw [hz]; decide)) rfl
  case e =>
  intro ac wz hA hgr hv
  exact wl_end (hend ac wz hA (hv 9 (by kernel_rfl) (by rw [hz]; decide)) hgr)
set_option maxRecDepth 100000 in
theorem r3_4 {Q : Exit → Act → World → Prop} {a0 : Act} {w : World} (hz : a0.tmps.size = 57) (n cap cap2 : Nat) (ad ae : Option Addr) (e8 : a0.eval (.tmp 8) = .slice ad n cap) (e9 : a0.eval (.tmp 9) = .slice ae n cap2) (hend : ∀ ac wz, After [18, 19, 20, 21, 22] a0 ac → ac.eval (.tmp 22) = .bool false → Gr w wz → Q .normal ac wz) : (Code.region 4 q3_4 false).wp Try.prog Q a0 w := by
  refine seq_by (by kernel_rfl) 5 (by decide) [18, 19, 20, 21, 22] (fun | 18 => .val (.slice ad n cap) | 19 => .val (.int .i64 (n : Int)) | 20 => .val (.slice ae n cap2) | 21 => .val (.int .i64 (n : Int)) | 22 => .val (.bool false) | _ => .any) (by kernel_rfl) (List.forall_mem_cons.2 ⟨?s0, List.forall_mem_cons.2 ⟨?s1, List.forall_mem_cons.2 ⟨?s2, List.forall_mem_cons.2 ⟨?s3, List.forall_mem_cons.2 ⟨?s4, fun o ho => nomatch ho⟩⟩⟩⟩⟩) ?e
  case s0 => exact sa_move (.tmp 8) 18 (.val (.slice ad n cap)) (.inl rfl) rfl rfl (.old 8 _ (by decide) e8) rfl
  case s1 => exact sa_len 26 (.tmp 18) 19 (.slice ad n cap) (.int .i64 (n : Int)) rfl rfl rfl (.new 18 (by kernel_rfl) (by rw [hz]; decide)) (by intro w; kernel_rfl) rfl
  case s2 => exact sa_move (.tmp 9) 20 (.val (.slice ae n cap2)) (.inl rfl) rfl rfl (.old 9 _ (by decide) e9) rfl
  case s3 => exact sa_len 26 (.tmp 20) 21 (.slice ae n cap2) (.int .i64 (n : Int)) rfl rfl rfl (.new 20 (by kernel_rfl) (by rw [hz]; decide)) (by intro w; kernel_rfl) rfl
  case s4 => exact sa_bin .neq 3 (.tmp 19) (.tmp 21) 3 22 (.int .i64 (n : Int)) (.int .i64 (n : Int)) (.bool false) rfl rfl rfl (.new 19 (by kernel_rfl) (by rw [hz]; decide)) (.new 21 (by kernel_rfl) (by rw [hz]; decide)) guard_int (bin_neq (decide_eq_false (fun q => q rfl))) rfl
  case e =>
  intro ac wz hA hgr hv
  exact wl_end (hend ac wz hA (hv 22 (by kernel_rfl) (by rw [hz]; decide)) hgr)
set_option maxRecDepth 100000 in
theorem r3_6 {Q : Exit → Act → World → Prop} {a0 : Act} {w : World} (hz : a0.tmps.size = 57)   (hend : ∀ ac wz, After [10] a0 ac → ac.eval (.tmp 10) = .int .i64 0 → Gr w wz → Q .normal ac wz) : (Code.region 6 q3_6 false).wp Try.prog Q a0 w := by
  refine seq_by (by kernel_rfl) 1 (by decide) [10] (fun | 10 => .val (.int .i64 0) | _ => .any) (by kernel_rfl) (List.forall_mem_cons.2 ⟨?s0, fun o ho => nomatch ho⟩) ?e
  case s0 => exact sa_move (.const _) 10 (.val (.int .i64 0)) (.inr rfl) rfl rfl (.const _) rfl
  case e =>
  intro ac wz hA hgr hv
  exact wl_end (hend ac wz hA (hv 10 (by kernel_rfl) (by rw [hz]; decide)) hgr)
set_option maxRecDepth 100000 in
theorem r3_7 {Q : Exit → Act → World → Prop} {a0 : Act} {w : World} (hz : a0.tmps.size = 57) (k n cap : Nat) (ad : Option Addr) (e10 : a0.eval (.tmp 10) = .int .i64 (k : Int)) (e8 : a0.eval (.tmp 8) = .slice ad n cap) (hend : ∀ ac wz, After [23, 24, 25, 26] a0 ac → ac.eval (.tmp 26) = .bool (decide ((k : Int) < (n : Int))) → Gr w wz → Q .normal ac wz) : (Code.region 7 q3_7 false).wp Try.prog Q a0 w := by
  refine seq_by (by kernel_rfl) 4 (by decide) [23, 24, 25, 26] (fun | 23 => .val (.int .i64 (k : Int)) | 24 => .val (.slice ad n cap) | 25 => .val (.int .i64 (n : Int)) | 26 => .val (.bool (decide ((k : Int) < (n : Int)))) | _ => .any) (by kernel_rfl) (List.forall_mem_cons.2 ⟨?s0, List.forall_mem_cons.2 ⟨?s1, List.forall_mem_cons.2 ⟨?s2, List.forall_mem_cons.2 ⟨?s3, fun o ho => nomatch ho⟩⟩⟩⟩) ?e
  case s0 => exact sa_move (.tmp 10) 23 (.val (.int .i64 (k : Int))) (.inl rfl) rfl rfl (.old 10 _ (by decide) e10) rfl
  case s1 => exact sa_move (.tmp 8) 24 (.val (.slice ad n cap)) (.inl rfl) rfl rfl (.old 8 _ (by decide) e8) rfl
  case s2 => exact sa_len 26 (.tmp 24) 25 (.slice ad n cap) (.int .i64 (n : Int)) rfl rfl rfl (.new 24 (by kernel_rfl) (by rw [hz]; decide)) (by intro w; kernel_rfl) rfl
  case s3 => exact sa_bin .lss 3 (.tmp 23) (.tmp 25) 3 26 (.int .i64 (k : Int)) (.int .i64 (n : Int)) (.bool (decide ((k : Int) < (n : Int)))) rfl rfl rfl (.new 23 (by kernel_rfl) (by rw [hz]; decide)) (.new 25 (by kernel_rfl) (by rw [hz]; decide)) guard_int (bin_lss rfl) rfl
  case e =>
  intro ac wz hA hgr hv
  exact wl_end (hend ac wz hA (hv 26 (by kernel_rfl) (by rw [hz]; decide)) hgr)
set_option maxRecDepth 100000 in
theorem r3_8 {Q : Exit → Act → World → Prop} {a0 : Act} {w : World} (hz : a0.tmps.size = 57) (k : Nat) (hk : k ≤ 8) (e10 : a0.eval (.tmp 10) = .int .i64 (k : Int)) (hend : ∀ ac wz, After [10, 27, 28] a0 ac → ac.eval (.tmp 10) = .int .i64 ((k + 1 : Nat) : Int) → Gr w wz → Q .normal ac wz) : (Code.region 8 q3_8 false).wp Try.prog Q a0 w := by
  refine seq_by (by kernel_rfl) 2 (by decide) [27, 28] (fun | 27 => .val (.int .i64 (k : Int)) | 28 => .val (.int .i64 ((k + 1 : Nat) : Int)) | _ => .any) (by kernel_rfl) (List.forall_mem_cons.2 ⟨?s0, List.forall_mem_cons.2 ⟨?s1, fun o ho => nomatch ho⟩⟩) ?e
  case s0 => exact sa_move (.tmp 10) 27 (.val (.int .i64 (k : Int))) (.inl rfl) rfl rfl (.old 10 _ (by decide) e10) rfl
  case s1 => exact sa_bin .add 3 (.tmp 27) (.const _) 3 28 (.int .i64 (k : Int)) (.int .i64 1) (.int .i64 ((k + 1 : Nat) : Int)) rfl rfl rfl (.new 27 (by kernel_rfl) (by rw [hz]; decide)) (.const _) guard_int (bin_add (by omega) (by omega) (by omega)) rfl
  case e =>
  intro ac wz hA hgr hv
  have o28 : ac.eval (.tmp 28) = .int .i64 ((k + 1 : Nat) : Int) := hv 28 (by kernel_rfl) (by rw [hz]; decide)
  refine wl_of rfl (op_move (.tmp 28) (.inr rfl) (wl_end ?_))
  exact hend _ wz (hA.put 10 _)  ((ev_put (by rw [hA.size, hz]; decide)).trans ((if_pos rfl).trans o28)) hgr
set_option maxRecDepth 100000 in
theorem r3_9 {Q : Exit → Act → World → Prop} {a0 : Act} {w : World} (hz : a0.tmps.size = 57) (g h n cap cap2 k : Nat) (l : List Value) (hl : l.length = 3) (hk : k < n) (h1 : ∀ y, Gr w y → y.rangeAt g (k * 3) l) (h2 : ∀ y, Gr w y → y.rangeAt h (k * 3) l) (hq : ∀ y, (binOp .neq 29 (.agg l.toArray) (.agg l.toArray)).run Try.prog y = .ok (.bool false) y) (hgd : ∀ u v y, (eqGuard .neq 29 u v (.agg l.toArray) (.agg l.toArray)).run Try.prog y = .ok () y) (e8 : a0.eval (.tmp 8) = .slice (some ⟨g, 0, none⟩) n cap) (e9 : a0.eval (.tmp 9) = .slice (some ⟨h, 0, none⟩) n cap2) (e10 : a0.eval (.tmp 10) = .int .i64 (k : Int)) (hend : ∀ ac wz, After [29, 30, 31, 32, 33, 34, 35, 36, 37] a0 ac → ac.eval (.tmp 37) = .bool false → Gr w wz → Q .normal ac wz) : (Code.region 9 q3_9 true).wp Try.prog Q a0 w := by
  refine drawn_by (by kernel_rfl) (by kernel_rfl) (by kernel_rfl) [29, 30, 31, 32, 33, 34, 35, 36, 37] (fun | 29 => .val (.slice (some ⟨g, 0, none⟩) n cap) | 30 => .val (.int .i64 (k : Int)) | 31 => .val (.pointer (some ⟨g, k * 3, none⟩)) | 32 => .val (.agg l.toArray) | 33 => .val (.slice (some ⟨h, 0, none⟩) n cap2) | 34 => .val (.int .i64 (k : Int)) | 35 => .val (.pointer (some ⟨h, k * 3, none⟩)) | 36 => .val (.agg l.toArray) | 37 => .val (.bool false) | _ => .any) (by kernel_rfl) (List.forall_mem_cons.2 ⟨?s0, List.forall_mem_cons.2 ⟨?s1, List.forall_mem_cons.2 ⟨?s2, List.forall_mem_cons.2 ⟨?s3, List.forall_mem_cons.2 ⟨?s4, List.forall_mem_cons.2 ⟨?s5, List.forall_mem_cons.2 ⟨?s6, List.forall_mem_cons.2 ⟨?s7, List.forall_mem_cons.2 ⟨?s8, fun o ho => nomatch ho⟩⟩⟩⟩⟩⟩⟩⟩⟩) ?e
  case s0 => exact sa_move (.tmp 8) 29 (.val (.slice (some ⟨g, 0, none⟩) n cap)) (.inl rfl) rfl rfl (.old 8 _ (by decide) e8) rfl
  case s1 => exact sa_move (.tmp 10) 30 (.val (.int .i64 (k : Int))) (.inl rfl) rfl rfl (.old 10 _ (by decide) e10) rfl
  case s2 => exact sa_ixa 26 (.tmp 29) (.tmp 30) 31 (.slice (some ⟨g, 0, none⟩) n cap) (.int .i64 (k : Int)) (.pointer (some ⟨g, k * 3, none⟩)) rfl rfl rfl (.new 29 (by kernel_rfl) (by rw [hz]; decide)) (.new 30 (by kernel_rfl) (by rw [hz]; decide)) (ix_slice (sz := 3) und26 (by intro w; kernel_rfl) (by omega) (by omega)) rfl
  case s3 => exact sa_row 29 (.tmp 31) 32 g (k * 3) 3 _ l rfl rfl rfl Try.underlying29 rfl siz29 hl (.new 31 (by kernel_rfl) (by rw [hz]; decide)) h1 rfl
  case s4 => exact sa_move (.tmp 9) 33 (.val (.slice (some ⟨h, 0, none⟩) n cap2)) (.inl rfl) rfl rfl (.old 9 _ (by decide) e9) rfl
  case s5 => exact sa_move (.tmp 10) 34 (.val (.int .i64 (k : Int))) (.inl rfl) rfl rfl (.old 10 _ (by decide) e10) rfl
  case s6 => exact sa_ixa 26 (.tmp 33) (.tmp 34) 35 (.slice (some ⟨h, 0, none⟩) n cap2) (.int .i64 (k : Int)) (.pointer (some ⟨h, k * 3, none⟩)) rfl rfl rfl (.new 33 (by kernel_rfl) (by rw [hz]; decide)) (.new 34 (by kernel_rfl) (by rw [hz]; decide)) (ix_slice (sz := 3) und26 (by intro w; kernel_rfl) (by omega) (by omega)) rfl
  case s7 => exact sa_row 29 (.tmp 35) 36 h (k * 3) 3 _ l rfl rfl rfl Try.underlying29 rfl siz29 hl (.new 35 (by kernel_rfl) (by rw [hz]; decide)) h2 rfl
  case s8 => exact sa_bin .neq 29 (.tmp 32) (.tmp 36) 29 37 (.agg l.toArray) (.agg l.toArray) (.bool false) rfl rfl rfl (.new 32 (by kernel_rfl) (by rw [hz]; decide)) (.new 36 (by kernel_rfl) (by rw [hz]; decide)) (hgd _ _) hq rfl
  case e =>
  intro ac wz hA hgr hv
  exact hend ac wz hA (hv 37 (by kernel_rfl) (by rw [hz]; decide)) hgr
set_option maxRecDepth 100000 in
theorem r3_11 {Q : Exit → Act → World → Prop} {a0 : Act} {w : World} (hz : a0.tmps.size = 57) (b3 : Nat) (v1 : Value) (al cl : List Int) (bb : Bool) (nal : (intV al).length = 8) (ha : Holds w b3 (intV al) 23) (h10 : ∀ y, Gr w y → Calls Try.prog 10 #[.agg (intV al).toArray, v1] y fun e z => e = .returned (.agg (intV cl).toArray) ∧ Gr y z) (h11 : ∀ y, Gr w y → Calls Try.prog 11 #[.agg (intV al).toArray, v1] y fun e z => e = .returned (.agg (intV cl).toArray) ∧ Gr y z) (h12 : ∀ y, Gr w y → Calls Try.prog 12 #[.agg (intV al).toArray, v1] y fun e z => e = .returned (.bool bb) ∧ Gr y z) (h13 : ∀ y, Gr w y → Calls Try.prog 13 #[.agg (intV al).toArray, v1] y fun e z => e = .returned (.bool bb) ∧ Gr y z) (hq : ∀ y, (binOp .eql 23 (.agg (intV cl).toArray) (.agg (intV cl).toArray)).run Try.prog y = .ok (.bool true) y) (hgd : ∀ u v y, (eqGuard .eql 23 u v (.agg (intV cl).toArray) (.agg (intV cl).toArray)).run Try.prog y = .ok () y) (e7 : a0.eval (.tmp 7) = .bool true) (e3 : a0.eval (.tmp 3) = .pointer (some ⟨b3, 0, none⟩)) (e1 : a0.eval (.tmp 1) = v1) (hend : ∀ ac wz, After [38, 39, 40, 41, 42, 43, 44, 45, 46, 47, 48, 49, 50, 51, 52, 53, 54, 55, 56, 6] a0 ac → ac.eval (.tmp 6) = .bool true → Gr w wz → Q .normal ac wz) : (Code.region 11 q3_11 true).wp Try.prog Q a0 w := by
  refine drawn_by (by kernel_rfl) (by kernel_rfl) (by kernel_rfl) [38, 39, 40, 41, 42, 43, 44, 45, 46, 47, 48, 49, 50, 51, 52, 53, 54, 55, 56, 6] (fun | 38 => .val (.bool true) | 39 => .val (.bool true) | 40 => .val (.agg (intV al).toArray) | 41 => .val (v1) | 42 => .val (.agg (intV cl).toArray) | 43 => .val (.agg (intV al).toArray) | 44 => .val (v1) | 45 => .val (.agg (intV cl).toArray) | 46 => .val (.bool true) | 47 => .val (.bool true) | 48 => .val (.bool true) | 49 => .val (.agg (intV al).toArray) | 50 => .val (v1) | 51 => .val (.bool bb) | 52 => .val (.agg (intV al).toArray) | 53 => .val (v1) | 54 => .val (.bool bb) | 55 => .val (.bool true) | 56 => .val (.bool true) | 6 => .val (.bool true) | _ => .any) (by kernel_rfl) (List.forall_mem_cons.2 ⟨?s0, List.forall_mem_cons.2 ⟨?s1, List.forall_mem_cons.2 ⟨?s2, List.forall_mem_cons.2 ⟨?s3, List.forall_mem_cons.2 ⟨?s4, List.forall_mem_cons.2 ⟨?s5, List.forall_mem_cons.2 ⟨?s6, List.forall_mem_cons.2 ⟨?s7, List.forall_mem_cons.2 ⟨?s8, List.forall_mem_cons.2 ⟨?s9, List.forall_mem_cons.2 ⟨?s10, List.forall_mem_cons.2 ⟨?s11, List.forall_mem_cons.2 ⟨?s12, List.forall_mem_cons.2 ⟨?s13, List.forall_mem_cons.2 ⟨?s14, List.forall_mem_cons.2 ⟨?s15, List.forall_mem_cons.2 ⟨?s16, List.forall_mem_cons.2 ⟨?s17, List.forall_mem_cons.2 ⟨?s18, List.forall_mem_cons.2 ⟨?s19, fun o ho => nomatch ho⟩⟩⟩⟩⟩⟩⟩⟩⟩⟩⟩⟩⟩⟩⟩⟩⟩⟩⟩⟩) ?e
  case s0 => exact sa_move (.tmp 7) 38 (.val (.bool true)) (.inl rfl) rfl rfl (.old 7 _ (by decide) e7) rfl
  case s1 => exact sa_move (.tmp 38) 39 (.val (.bool true)) (.inl rfl) rfl rfl (.new 38 (by kernel_rfl) (by rw [hz]; decide)) rfl
  case s2 => exact sa_guard 1 39 rfl rfl (by kernel_rfl) (by rw [hz]; decide) rfl (sa_row 23 (.tmp 3) 40 b3 (0) 8 _ (intV al) rfl rfl rfl Try.underlying23 rfl siz23 nal (.old 3 _ (by decide) e3) (fun y hy => range_of (ha.below hy ha.lt)) rfl)
  case s3 => exact sa_guard 1 39 rfl rfl (by kernel_rfl) (by rw [hz]; decide) rfl (sa_move (.tmp 1) 41 (.val (v1)) (.inl rfl) rfl rfl (.old 1 _ (by decide) e1) rfl)
  case s4 => exact sa_guard 1 39 rfl rfl (by kernel_rfl) (by rw [hz]; decide) rfl (sa_call2 10 (.tmp 40) (.tmp 41) _ 42 (.val (.agg (intV al).toArray)) (.val (v1)) rfl rfl rfl (.new 40 (by kernel_rfl) (by rw [hz]; decide)) (.new 41 (by kernel_rfl) (by rw [hz]; decide)) (enters_of Try.func10 (by kernel_rfl) rfl) (fun v0 v1 y hgy q0 q1 => by rw [show v0 = _ from q0]; rw [show v1 = _ from q1]; exact (h10 y hgy).mono fun e z ⟨e1, e2⟩ => ⟨_, e1, e2, rfl⟩))
  case s5 => exact sa_guard 1 39 rfl rfl (by kernel_rfl) (by rw [hz]; decide) rfl (sa_row 23 (.tmp 3) 43 b3 (0) 8 _ (intV al) rfl rfl rfl Try.underlying23 rfl siz23 nal (.old 3 _ (by decide) e3) (fun y hy => range_of (ha.below hy ha.lt)) rfl)
  case s6 => exact sa_guard 1 39 rfl rfl (by kernel_rfl) (by rw [hz]; decide) rfl (sa_move (.tmp 1) 44 (.val (v1)) (.inl rfl) rfl rfl (.old 1 _ (by decide) e1) rfl)
  case s7 => exact sa_guard 1 39 rfl rfl (by kernel_rfl) (by rw [hz]; decide) rfl (sa_call2 11 (.tmp 43) (.tmp 44) _ 45 (.val (.agg (intV al).toArray)) (.val (v1)) rfl rfl rfl (.new 43 (by kernel_rfl) (by rw [hz]; decide)) (.new 44 (by kernel_rfl) (by rw [hz]; decide)) (enters_of Try.func11 (by kernel_rfl) rfl) (fun v0 v1 y hgy q0 q1 => by rw [show v0 = _ from q0]; rw [show v1 = _ from q1]; exact (h11 y hgy).mono fun e z ⟨e1, e2⟩ => ⟨_, e1, e2, rfl⟩))
  case s8 => exact sa_guard 1 39 rfl rfl (by kernel_rfl) (by rw [hz]; decide) rfl (sa_bin .eql 23 (.tmp 42) (.tmp 45) 23 46 (.agg (intV cl).toArray) (.agg (intV cl).toArray) (.bool true) rfl rfl rfl (.new 42 (by kernel_rfl) (by rw [hz]; decide)) (.new 45 (by kernel_rfl) (by rw [hz]; decide)) (hgd _ _) hq rfl)
  case s9 => exact sa_pick (.tmp 39) (.tmp 46) (.const _) 47 (.val (.bool true)) rfl rfl rfl (.new 39 (by kernel_rfl) (by rw [hz]; decide)) (.new 46 (by kernel_rfl) (by rw [hz]; decide)) rfl
  case s10 => exact sa_move (.tmp 47) 48 (.val (.bool true)) (.inl rfl) rfl rfl (.new 47 (by kernel_rfl) (by rw [hz]; decide)) rfl
  case s11 => exact sa_guard 10 48 rfl rfl (by kernel_rfl) (by rw [hz]; decide) rfl (sa_row 23 (.tmp 3) 49 b3 (0) 8 _ (intV al) rfl rfl rfl Try.underlying23 rfl siz23 nal (.old 3 _ (by decide) e3) (fun y hy => range_of (ha.below hy ha.lt)) rfl)
  case s12 => exact sa_guard 10 48 rfl rfl (by kernel_rfl) (by rw [hz]; decide) rfl (sa_move (.tmp 1) 50 (.val (v1)) (.inl rfl) rfl rfl (.old 1 _ (by decide) e1) rfl)
  case s13 => exact sa_guard 10 48 rfl rfl (by kernel_rfl) (by rw [hz]; decide) rfl (sa_call2 12 (.tmp 49) (.tmp 50) _ 51 (.val (.agg (intV al).toArray)) (.val (v1)) rfl rfl rfl (.new 49 (by kernel_rfl) (by rw [hz]; decide)) (.new 50 (by kernel_rfl) (by rw [hz]; decide)) (enters_of Try.func12 (by kernel_rfl) rfl) (fun v0 v1 y hgy q0 q1 => by rw [show v0 = _ from q0]; rw [show v1 = _ from q1]; exact (h12 y hgy).mono fun e z ⟨e1, e2⟩ => ⟨_, e1, e2, rfl⟩))
  case s14 => exact sa_guard 10 48 rfl rfl (by kernel_rfl) (by rw [hz]; decide) rfl (sa_row 23 (.tmp 3) 52 b3 (0) 8 _ (intV al) rfl rfl rfl Try.underlying23 rfl siz23 nal (.old 3 _ (by decide) e3) (fun y hy => range_of (ha.below hy ha.lt)) rfl)
  case s15 => exact sa_guard 10 48 rfl rfl (by kernel_rfl) (by rw [hz]; decide) rfl (sa_move (.tmp 1) 53 (.val (v1)) (.inl rfl) rfl rfl (.old 1 _ (by decide) e1) rfl)
  case s16 => exact sa_guard 10 48 rfl rfl (by kernel_rfl) (by rw [hz]; decide) rfl (sa_call2 13 (.tmp 52) (.tmp 53) _ 54 (.val (.agg (intV al).toArray)) (.val (v1)) rfl rfl rfl (.new 52 (by kernel_rfl) (by rw [hz]; decide)) (.new 53 (by kernel_rfl) (by rw [hz]; decide)) (enters_of Try.func13 (by kernel_rfl) rfl) (fun v0 v1 y hgy q0 q1 => by rw [show v0 = _ from q0]; rw [show v1 = _ from q1]; exact (h13 y hgy).mono fun e z ⟨e1, e2⟩ => ⟨_, e1, e2, rfl⟩))
  case s17 => exact sa_guard 10 48 rfl rfl (by kernel_rfl) (by rw [hz]; decide) rfl (sa_bin .eql 4 (.tmp 51) (.tmp 54) 4 55 (.bool bb) (.bool bb) (.bool true) rfl rfl rfl (.new 51 (by kernel_rfl) (by rw [hz]; decide)) (.new 54 (by kernel_rfl) (by rw [hz]; decide)) (bool_grd bb _ _) (bool_eql bb) rfl)
  case s18 => exact sa_pick (.tmp 48) (.tmp 55) (.const _) 56 (.val (.bool true)) rfl rfl rfl (.new 48 (by kernel_rfl) (by rw [hz]; decide)) (.new 55 (by kernel_rfl) (by rw [hz]; decide)) rfl
  case s19 => exact sa_move (.tmp 56) 6 (.val (.bool true)) (.inr rfl) rfl rfl (.new 56 (by kernel_rfl) (by rw [hz]; decide)) rfl
  case e =>
  intro ac wz hA hgr hv
  exact hend ac wz hA (hv 6 (by kernel_rfl) (by rw [hz]; decide)) hgr
def c9_ra : Code := (((Code.region 3 q9_3 false).seq (Code.cond (Operand.tmp 8) Code.skip (Code.exit 0))).seq ((Code.block 1 ((Code.region 5 q9_5 true).seq (Code.cond (Operand.tmp 29) (Code.region 6 q9_6 true) Code.skip))).seq (Code.region 4 q9_4 false)))
def c9_la : Code := (Code.block 0 (c9_ra.loop))
def c9 : Code := ((Code.region 0 q9_0 false).seq ((Code.region 1 q9_1 false).seq (((Code.region 2 q9_2 false).seq c9_la).seq ((Code.region 7 q9_7 false).seq Code.ret))))
def c3_ra : Code := (((Code.region 7 q3_7 false).seq (Code.cond (Operand.tmp 26) Code.skip (Code.exit 0))).seq ((Code.block 1 ((Code.region 9 q3_9 true).seq (Code.cond (Operand.tmp 37) ((Code.region 10 q3_10 false).seq Code.ret) Code.skip))).seq (Code.region 8 q3_8 false)))
def c3_la : Code := (Code.block 0 (c3_ra.loop))
def c3_c4 : Code := ((Code.region 4 q3_4 false).seq (Code.cond (Operand.tmp 22) ((Code.region 5 q3_5 false).seq Code.ret) Code.skip))
def c3_fin : Code := ((Code.region 11 q3_11 true).seq Code.ret)
def c3 : Code := ((Code.region 0 q3_0 false).seq ((Code.region 1 q3_1 false).seq ((Code.region 2 q3_2 false).seq ((Code.region 3 q3_3 false).seq (c3_c4.seq (((Code.region 6 q3_6 false).seq c3_la).seq c3_fin))))))
structure Ts (w : World) (b : Nat) (al bl : List Int) (ac : Act) (x : World) : Prop where
  z : ac.tmps.size = 42
  df : ac.defers = []
  e2 : ac.eval (.tmp 2) = .pointer (some ⟨b, 0, none⟩)
  e3 : ac.eval (.tmp 3) = .pointer (some ⟨b + 1, 0, none⟩)
  bl' : Below b w x
  h2 : Holds x b (intV al) 23
  h3 : Holds x (b + 1) (intV bl) 23
theorem Ts.next {w x y : World} {b M : Nat} {al bl : List Int} {ac ad : Act} {D : List Nat} (h : Ts w b al bl ac x) (hA : After D ac ad) (hD : (D.all fun s => decide (4 ≤ s)) = true) (hb : Below M x y) (hM : b + 1 < M) : Ts w b al bl ad y :=
  ⟨hA.size.trans h.z, hA.defers.trans h.df, hA.keep hD (by omega) h.e2, hA.keep hD (by omega) h.e3, h.bl'.trans (hb.mono (by omega)), h.h2.below hb (by omega), h.h3.below hb hM⟩
theorem Ts.gr {w x y : World} {b : Nat} {al bl : List Int} {ac ad : Act} {D : List Nat} (h : Ts w b al bl ac x) (hA : After D ac ad) (hD : (D.all fun s => decide (4 ≤ s)) = true) (g : Gr x y) : Ts w b al bl ad y := h.next hA hD g h.h3.lt
theorem rtransfers_any (al bl : List Int) (ha : al.length = 8) (hb : bl.length = 8) (w : World) :
    Calls Try.prog 9 #[.agg (intV al).toArray, .agg (intV bl).toArray] w fun e z => ∃ u, e = .returned u ∧ z.ownsRow w.heap.size 29 3 u (movL al bl).length (mvV (movL al bl)) ∧ Gr w z := by
  obtain ⟨b, hwb⟩ : ∃ b, w.heap.size = b := ⟨_, rfl⟩
  rw [hwb]
  refine calls_by (c := c9) Try.func9 (by kernel_rfl) 42 (by rw [Try.ntmps9]; rfl) (fun ac z df hv => ?_)
  have e0 := hv 0 _ rfl
  have e1 := hv 1 _ rfl
  clear hv
  unfold c9
  refine wp_seq (r9_0 z b hwb al bl e0 e1 (fun a1 w1 x1 A1 o2 o3 N1 N2 => ?_))
  have h1 : Ts w b al bl a1 x1 := ⟨A1.size.trans z, A1.defers.trans df, o2, o3, N1.below.trans (N2.below.mono (by omega)), N1.holds.below N2.below (by omega), N2.holds⟩
  show Code.wp Try.prog (Code.seq _ _) _ a1 x1
  refine wp_seq (r9_1 h1.z (fun a2 x2 A2 o5 G2 => ?_))
  have h2 := h1.gr A2 (by decide) G2
  show Code.wp Try.prog (Code.seq (Code.seq _ c9_la) _) _ a2 x2
  refine wp_seq (wp_seq (r9_2 h2.z (fun a3 x3 A3 o6 G3 => ?_)))
  have h3 := h2.gr A3 (by decide) G3
  show Code.wp Try.prog c9_la _ a3 x3
  unfold c9_la
  refine wp_block ?_
  refine wp_loop (fun ad y => ∃ (i : Nat) (v5 : Value), Ts w b al bl ad y ∧ i ≤ 8 ∧ ad.eval (.tmp 6) = .int .i64 (i : Int) ∧ ad.eval (.tmp 5) = v5 ∧ y.ownsRow (b + 2) 29 3 v5 (movTo al bl i).length (mvV (movTo al bl i))) (fun ad _ => 8 - (intOf (ad.eval (.tmp 6))).toNat)
    ⟨0, _, h3, by omega, o6, A3.get o5 (by decide), World.ownsRow_nil _ _ _ _⟩ (fun a4 x4 ⟨i, v5, h4, hi, f6, f5, own4⟩ => ?_)
  unfold c9_ra
  refine wp_seq (wp_seq (r9_3 h4.z i f6 (fun a5 x5 A5 o8 G5 => ?_)))
  have h5 := h4.gr A5 (by decide) G5
  have g5 := A5.get f5 (by decide)
  have g6 := A5.get f6 (by decide)
  have own5 := owns_gr own4 G5
  show Code.wp Try.prog (Code.cond _ _ _) _ a5 x5
  refine wp_cond_split o8 (fun q => ?_) (fun q => ?_)
  · have q : (i : Int) < 8 := of_decide_eq_true q
    have hi8 : i < 8 := by omega
    have hst := movTo_succ al bl i
    have hlen := movTo_len al bl i
    have cA : ∀ {y : World} {ad : Act}, Ts w b al bl ad y → ∀ z, Gr y z → z.cell? ⟨b, i, none⟩ = some (.int .i64 (al.getD i 0)) := fun hq _ hz => (hq.h2.below hz hq.h2.lt).at i _ (intV_at al i (by omega))
    have cB : ∀ {y : World} {ad : Act}, Ts w b al bl ad y → ∀ z, Gr y z → z.cell? ⟨b + 1, i, none⟩ = some (.int .i64 (bl.getD i 0)) := fun hq _ hz => (hq.h3.below hz hq.h3.lt).at i _ (intV_at bl i (by omega))
    generalize al.getD i 0 = xa at cA hst
    generalize bl.getD i 0 = xb at cB hst
    refine wp_skip ?_
    show Code.wp Try.prog (Code.seq _ _) _ a5 x5
    refine wp_seq (wp_block ?_)
    have fin : ∀ a7 x7 v, Ts w b al bl a7 x7 → a7.eval (.tmp 6) = .int .i64 (i : Int) → a7.eval (.tmp 5) = v → x7.ownsRow (b + 2) 29 3 v (movTo al bl (i + 1)).length (mvV (movTo al bl (i + 1))) → (Code.region 4 q9_4 false).wp Try.prog (Exit.then (fun a' w' => (∃ (i : Nat) (v5 : Value), Ts w b al bl a' w' ∧ i ≤ 8 ∧ a'.eval (.tmp 6) = .int .i64 (i : Int) ∧ a'.eval (.tmp 5) = v5 ∧ w'.ownsRow (b + 2) 29 3 v5 (movTo al bl i).length (mvV (movTo al bl i))) ∧ 8 - (intOf (a'.eval (.tmp 6))).toNat < 8 - (intOf (a4.eval (.tmp 6))).toNat) (Exit.inBlock 0 (Exit.then (((Code.region 7 q9_7 false).seq Code.ret).wp Try.prog (bodyPost Try.prog Try.f9 fun e z => ∃ u, e = .returned u ∧ z.ownsRow b 29 3 u (movL al bl).length (mvV (movL al bl)) ∧ Gr w z)) (bodyPost Try.prog Try.f9 fun e z => ∃ u, e = .returned u ∧ z.ownsRow b 29 3 u (movL al bl).length (mvV (movL al bl)) ∧ Gr w z)))) a7 x7 := fun a7 x7 v h7 m6 m5 own7 => by
      refine r9_4 h7.z i (by omega) m6 (fun a8 x8 A8 o8' G8 => ?_)
      refine ⟨⟨i + 1, v, h7.gr A8 (by decide) G8, by omega, o8', A8.get m5 (by decide), owns_gr own7 G8⟩, ?_⟩
      rw [o8', f6]
      simp only [intOf]
      omega
    by_cases c1 : xa = xb
    · rw [if_neg (fun q' => q'.1 c1.symm), List.append_nil] at hst
      refine wp_seq (r9_5e h5.z b (b + 1) i xa xb hi8 (cA h5) (cB h5) c1 g6 h5.e2 h5.e3 (fun a6 x6 A6 o29 G6 => ?_))
      show Code.wp Try.prog (Code.cond _ _ _) _ a6 x6
      refine wp_cond_split o29 (fun q' => by cases q') (fun _ => wp_skip ?_)
      exact fin a6 x6 v5 (h5.gr A6 (by decide) G6) (A6.get g6 (by decide)) (A6.get g5 (by decide)) (by rw [hst]; exact owns_gr own5 G6)
    · by_cases c2 : xa > 0
      · refine wp_seq (r9_5p h5.z b (b + 1) i xa xb hi8 (cA h5) (cB h5) c1 c2 g6 h5.e2 h5.e3 (fun a6 x6 A6 o29 G6 => ?_))
        have h6 := h5.gr A6 (by decide) G6
        show Code.wp Try.prog (Code.cond _ _ _) _ a6 x6
        refine wp_cond_split o29 (fun q' => ?_) (fun q' => ?_)
        · have q' : xb > 0 := of_decide_eq_true q'
          rw [if_pos ⟨fun e => c1 e.symm, c2, q'⟩] at hst
          refine r9_6 h6.z v5 b (b + 1) i xa xb hi8 (cA h6) (cB h6) (movTo al bl i).length (b + 2) (mvV (movTo al bl i)) (owns_gr own5 G6) (by omega) (by have := h6.h3.lt; omega) (A6.get g5 (by decide)) (A6.get g6 (by decide)) h6.e2 h6.e3 (fun a7 x7 v A7 o7 own7 B7 => ?_)
          refine fin a7 x7 v (h6.next A7 (by decide) B7 (by omega)) (A7.get (A6.get g6 (by decide)) (by decide)) o7 ?_
          rw [hst, List.length_append]
          have e : mvV (movTo al bl i ++ [(i, xa, xb)]) = mvV (movTo al bl i) ++ [.int .i64 (i : Int), .int .i64 xa, .int .i64 xb] := by simp [mvV]
          rw [e]
          exact own7
        · have q' : ¬ xb > 0 := of_decide_eq_false q'
          rw [if_neg (fun q2 => q' q2.2.2), List.append_nil] at hst
          refine wp_skip ?_
          exact fin a6 x6 v5 h6 (A6.get g6 (by decide)) (A6.get g5 (by decide)) (by rw [hst]; exact owns_gr own5 G6)
      · rw [if_neg (fun q' => c2 q'.2.1), List.append_nil] at hst
        refine wp_seq (r9_5n h5.z b (b + 1) i xa xb hi8 (cA h5) (cB h5) c1 c2 g6 h5.e2 h5.e3 (fun a6 x6 A6 o29 G6 => ?_))
        show Code.wp Try.prog (Code.cond _ _ _) _ a6 x6
        refine wp_cond_split o29 (fun q' => by cases q') (fun _ => wp_skip ?_)
        exact fin a6 x6 v5 (h5.gr A6 (by decide) G6) (A6.get g6 (by decide)) (A6.get g5 (by decide)) (by rw [hst]; exact owns_gr own5 G6)
  · have q : ¬ (i : Int) < 8 := of_decide_eq_false q
    obtain rfl : i = 8 := by omega
    refine wp_exit ?_
    show Code.wp Try.prog (Code.seq _ Code.ret) _ a5 x5
    refine wp_seq (r9_7 h5.z v5 g5 (fun a6 x6 A6 o4 G6 => ?_))
    have h6 := h5.gr A6 (by decide) G6
    exact wp_ret (bodyPost_ret (results_tmp rfl _ _ _) h6.df ⟨_, congrArg Ending.returned o4, (owns_gr own5 G6).mono (by omega), by unfold Gr; rw [hwb]; exact h6.bl'⟩)
/-! The law. -/
theorem mvV_cells : ∀ (l : List (Nat × Int × Int)) (i : Nat) (e : Nat × Int × Int), l[i]? = some e → ∀ j v, [Value.int .i64 (e.1 : Int), .int .i64 e.2.1, .int .i64 e.2.2][j]? = some v → (mvV l)[i * 3 + j]? = some v
  | [], i, e, h, _, _, _ => by simp at h
  | x :: l, 0, e, h, j, v, hv => by
    simp at h
    subst h
    have hj : j < 3 := by have := (List.getElem?_eq_some_iff.1 hv).1; simpa using this
    show ([Value.int .i64 (x.1 : Int), .int .i64 x.2.1, .int .i64 x.2.2] ++ mvV l)[0 * 3 + j]? = some v
    rw [List.getElem?_append_left (by simp; omega), Nat.zero_mul, Nat.zero_add]
    exact hv
  | x :: l, i + 1, e, h, j, v, hv => by
    have ih := mvV_cells l i e (by simpa using h) j v hv
    show ([Value.int .i64 (x.1 : Int), .int .i64 x.2.1, .int .i64 x.2.2] ++ mvV l)[(i + 1) * 3 + j]? = some v
    rw [List.getElem?_append_right (by simp; omega)]
    have e2 : (i + 1) * 3 + j - [Value.int .i64 (x.1 : Int), .int .i64 x.2.1, .int .i64 x.2.2].length = i * 3 + j := by simp; omega
    rw [e2]; exact ih
theorem owns_range {w : World} {base n : Nat} {v : Value} {l : List (Nat × Int × Int)} (h : w.ownsRow base 29 3 v n (mvV l)) (hn : n = l.length) (h0 : 0 < n) : ∃ g cap, v = .slice (some ⟨g, 0, none⟩) n cap ∧ g < w.heap.size ∧ ∀ i e, l[i]? = some e → w.rangeAt g (i * 3) [.int .i64 (e.1 : Int), .int .i64 e.2.1, .int .i64 e.2.2] := by
  rcases h.2 with ⟨_, h1⟩ | ⟨g, cap, cur, e, hng, hg, hc, _, hs, ht⟩
  · omega
  · refine ⟨g, cap, e, (Array.getElem?_eq_some_iff.1 hg).1, fun i x hx j u hu => ?_⟩
    have hH : Holds w g (mvV l ++ cur.toList.drop (n * 3)) 29 := by
      unfold Holds
      rw [hg]
      congr 2
      rw [← ht, List.take_append_drop, Array.toArray_toList]
    have hc2 := mvV_cells l i x hx j u hu
    rw [hH.cell, List.getElem?_append_left (List.getElem?_eq_some_iff.1 hc2).1]
    exact hc2
theorem trUnd : Try.prog.underlying 29 = some (.struct (Try.prog.fieldsOf 29)) := by kernel_rfl
theorem trHeld : Try.prog.stoodInHeld 29 = false := by kernel_rfl
theorem trTypes : (Try.prog.fieldsOf 29).toList.map (fun f => (f.type, f.offset, decide (f.name = "_"))) = [(3, 0, false), (3, 1, false), (3, 2, false)] := by kernel_rfl
theorem eql_tr (x1 x2 x3 : Int) (w : World) : (Op.equal 29 (.agg #[.int .i64 x1, .int .i64 x2, .int .i64 x3]) (.agg #[.int .i64 x1, .int .i64 x2, .int .i64 x3])).run Try.prog w = .ok true w := by
  show (Op.equalIn 10000 29 _ _).run Try.prog w = _
  rw [run_equalIn_agg w 9999 29 _ _ trUnd trHeld]
  have h := trTypes
  cases hf : (Try.prog.fieldsOf 29).toList with
  | nil => rw [hf] at h; cases h
  | cons f fs =>
    rw [hf] at h
    simp only [List.map_cons, List.cons.injEq, Prod.mk.injEq, decide_eq_false_iff_not] at h
    cases fs with
    | nil => cases h.2
    | cons g fs =>
      simp only [List.map_cons, List.cons.injEq, Prod.mk.injEq, decide_eq_false_iff_not] at h
      cases fs with
      | nil => cases h.2.2
      | cons k fs =>
        simp only [List.map_cons, List.cons.injEq, Prod.mk.injEq, decide_eq_false_iff_not] at h
        obtain ⟨⟨a1, a2, a3⟩, ⟨b1, b2, b3⟩, ⟨c1, c2, c3⟩, h3⟩ := h
        obtain rfl : fs = [] := by cases fs with | nil => rfl | cons a b => cases h3
        simp [Op.eqFields, go_sem, a1, a2, a3, b1, b2, b3, c1, c2, c3, Try.underlying3]
theorem neq_tr (x1 x2 x3 : Int) : ∀ y, (binOp .neq 29 (.agg #[.int .i64 x1, .int .i64 x2, .int .i64 x3]) (.agg #[.int .i64 x1, .int .i64 x2, .int .i64 x3])).run Try.prog y = .ok (.bool false) y := by
  intro y
  show (do pure (.bool (!(← Op.equal 29 (.agg #[.int .i64 x1, .int .i64 x2, .int .i64 x3]) (.agg #[.int .i64 x1, .int .i64 x2, .int .i64 x3])))) : Sem Value).run Try.prog y = _
  rw [Sem.run_bind, eql_tr, Result.andThen_ok]
  rfl
theorem yes8 (l : List Int) (hl : l.length = 8) : ∀ y, (binOp .eql 23 (.agg (intV l).toArray) (.agg (intV l).toArray)).run Try.prog y = .ok (.bool true) y := by
  intro y
  show (do pure (.bool (← Op.equal 23 (.agg (intV l).toArray) (.agg (intV l).toArray))) : Sem Value).run Try.prog y = _
  rw [Sem.run_bind, eql8 l hl, Result.andThen_ok]
  rfl
structure Ls (w : World) (b : Nat) (v1 : Value) (al bl : List Int) (ac : Act) (x : World) : Prop where
  z : ac.tmps.size = 57
  df : ac.defers = []
  e1 : ac.eval (.tmp 1) = v1
  e3 : ac.eval (.tmp 3) = .pointer (some ⟨b, 0, none⟩)
  e5 : ac.eval (.tmp 5) = .pointer (some ⟨b + 1, 0, none⟩)
  bl' : Below b w x
  h3 : Holds x b (intV al) 23
  h5 : Holds x (b + 1) (intV bl) 23
theorem Ls.gr {w x y : World} {b : Nat} {v1 : Value} {al bl : List Int} {ac ad : Act} {D : List Nat} (h : Ls w b v1 al bl ac x) (hA : After D ac ad) (hD : (D.all fun s => decide (6 ≤ s)) = true) (g : Gr x y) : Ls w b v1 al bl ad y :=
  ⟨hA.size.trans h.z, hA.defers.trans h.df, hA.keep hD (by omega) h.e1, hA.keep hD (by omega) h.e3, hA.keep hD (by omega) h.e5, h.bl'.trans (g.mono (Nat.le_of_lt h.h3.lt)), h.h3.below g h.h3.lt, h.h5.below g h.h5.lt⟩
set_option maxRecDepth 100000 in
theorem claims_any (v1 : Value) (o ms bo : List Int) (w : World) (ho : o.length = 8) (hb8 : bo.length = 8) (hm : Ints w.heap.size w v1 ms) (hl : ms.length ≤ 17592186043904) :
    Calls Try.prog 3 #[.agg (intV o).toArray, v1, .agg (intV bo).toArray] w fun e z => e = .returned (.bool true) ∧ Below w.heap.size w z := by
  obtain ⟨b, hwb⟩ : ∃ b, w.heap.size = b := ⟨_, rfl⟩
  rw [hwb] at hm
  have hml : (movL o bo).length ≤ 8 := movTo_len o bo 8
  have hn1 : (intV o).length = 8 := by rw [intV_len, ho]
  have hn2 : (intV bo).length = 8 := by rw [intV_len, hb8]
  refine calls_by (c := c3) Try.func3 (by kernel_rfl) 57 (by rw [Try.ntmps3]; rfl) (fun ac z df hv => ?_)
  have e0 := hv 0 _ rfl
  have e1 := hv 1 _ rfl
  have e2 := hv 2 _ rfl
  clear hv
  unfold c3
  refine wp_seq (r3_0 z b hwb o bo e0 e2 (fun a1 w1 x1 A1 o3 o5 N1 N2 => ?_))
  have h1 : Ls w b v1 o bo a1 x1 := ⟨A1.size.trans z, A1.defers.trans df, A1.get e1 (by decide), o3, o5, N1.below.trans (N2.below.mono (by omega)), N1.holds.below N2.below (by omega), N2.holds⟩
  show Code.wp Try.prog (Code.seq _ _) _ a1 x1
  refine wp_seq (r3_1 h1.z (fun y => (awake_any y).mono fun e z ⟨p1, p2⟩ => ⟨p1, p2⟩) (fun a2 x2 A2 o7 G2 => ?_))
  have h2 := h1.gr A2 (by decide) G2
  show Code.wp Try.prog (Code.seq _ _) _ a2 x2
  refine wp_seq (r3_2 h2.z (b + 1) b o bo hn1 hn2 h2.h3 h2.h5 (movL o bo).length (mvV (movL o bo)) (fun y hy => (transfers_any o bo ho hb8 y).mono fun e z ⟨u, p1, p2, p3⟩ => ⟨u, p1, p3, p2.mono hy.size⟩) h2.e3 h2.e5 (fun a3 x3 A3 own8 G3 => ?_))
  have h3 := h2.gr A3 (by decide) G3
  generalize he8 : a3.eval (.tmp 8) = v8 at own8
  have own8' : x3.ownsRow x2.heap.size 29 3 v8 (movL o bo).length (mvV (movL o bo)) := own8
  show Code.wp Try.prog (Code.seq _ _) _ a3 x3
  refine wp_seq (r3_3 h3.z (b + 1) b o bo hn1 hn2 h3.h3 h3.h5 (movL o bo).length (mvV (movL o bo)) (fun y hy => (rtransfers_any o bo ho hb8 y).mono fun e z ⟨u, p1, p2, p3⟩ => ⟨u, p1, p3, p2.mono hy.size⟩) h3.e3 h3.e5 (fun a4 x4 A4 own9 G4 => ?_))
  have h4 := h3.gr A4 (by decide) G4
  generalize he9 : a4.eval (.tmp 9) = v9 at own9
  have own9' : x4.ownsRow x3.heap.size 29 3 v9 (movL o bo).length (mvV (movL o bo)) := own9
  have own84 := owns_gr own8' G4
  have f8 := A4.get he8 (by decide)
  have f7 := A4.get (A3.get o7 (by decide)) (by decide)
  obtain ⟨ad8, cap8, hv8⟩ := row_slice own84
  obtain ⟨ad9, cap9, hv9⟩ := row_slice own9'
  show Code.wp Try.prog (Code.seq c3_c4 _) _ a4 x4
  unfold c3_c4
  refine wp_seq (wp_seq (r3_4 h4.z (movL o bo).length cap8 cap9 ad8 ad9 (by rw [f8, hv8]) (by rw [he9, hv9]) (fun a5 x5 A5 o22 G5 => ?_)))
  have h5 := h4.gr A5 (by decide) G5
  show Code.wp Try.prog (Code.cond _ _ _) _ a5 x5
  refine wp_cond_split o22 (fun q => by cases q) (fun _ => wp_skip ?_)
  show Code.wp Try.prog (Code.seq (Code.seq _ c3_la) c3_fin) _ a5 x5
  refine wp_seq (wp_seq (r3_6 h5.z (fun a6 x6 A6 o10 G6 => ?_)))
  have h6 := h5.gr A6 (by decide) G6
  have G46 := G5.trans G6
  show Code.wp Try.prog c3_la _ a6 x6
  unfold c3_la
  refine wp_block ?_
  refine wp_loop (fun ad y => ∃ k : Nat, Ls w b v1 o bo ad y ∧ Gr x4 y ∧ k ≤ (movL o bo).length ∧ ad.eval (.tmp 10) = .int .i64 (k : Int) ∧ ad.eval (.tmp 8) = v8 ∧ ad.eval (.tmp 9) = v9 ∧ ad.eval (.tmp 7) = .bool true) (fun ad _ => (movL o bo).length - (intOf (ad.eval (.tmp 10))).toNat)
    ⟨0, h6, G46, Nat.zero_le _, o10, A6.get (A5.get f8 (by decide)) (by decide), A6.get (A5.get he9 (by decide)) (by decide), A6.get (A5.get f7 (by decide)) (by decide)⟩ (fun a7 x7 ⟨k, h7, G7, hk, k10, k8, k9, k7⟩ => ?_)
  unfold c3_ra
  refine wp_seq (wp_seq (r3_7 h7.z k (movL o bo).length cap8 ad8 k10 (by rw [k8, hv8]) (fun a8 x8 A8 o26 G8 => ?_)))
  have h8 := h7.gr A8 (by decide) G8
  have G48 := G7.trans G8
  show Code.wp Try.prog (Code.cond _ _ _) _ a8 x8
  refine wp_cond_split o26 (fun q => ?_) (fun q => ?_)
  · have q : (k : Int) < ((movL o bo).length : Int) := of_decide_eq_true q
    have hkl : k < (movL o bo).length := by omega
    obtain ⟨g8, cp8, hw8, hg8, hr8⟩ := owns_range own84 rfl (by omega)
    obtain ⟨g9, cp9, hw9, hg9, hr9⟩ := owns_range own9' rfl (by omega)
    have hel : (movL o bo)[k]? = some (movL o bo)[k] := List.getElem?_eq_getElem hkl
    have keep : ∀ {g : Nat} {cs : List Value} (y : World), g < x4.heap.size → x4.rangeAt g (k * 3) cs → Gr x8 y → y.rangeAt g (k * 3) cs := fun y hg hr hy j u hu => cell_below (G48.trans hy) hg (hr j u hu)
    refine wp_skip ?_
    show Code.wp Try.prog (Code.seq _ _) _ a8 x8
    refine wp_seq (wp_block ?_)
    refine wp_seq (r3_9 h8.z g8 g9 (movL o bo).length cp8 cp9 k _ rfl hkl (fun y hy => keep y hg8 (hr8 k _ hel) hy) (fun y hy => keep y hg9 (hr9 k _ hel) hy) (neq_tr _ _ _) (fun u v y => by kernel_rfl) (by rw [A8.get k8 (by decide), hw8]) (by rw [A8.get k9 (by decide), hw9]) (A8.get k10 (by decide)) (fun a9 x9 A9 o37 G9 => ?_))
    have h9 := h8.gr A9 (by decide) G9
    show Code.wp Try.prog (Code.cond _ _ _) _ a9 x9
    refine wp_cond_split o37 (fun q' => by cases q') (fun _ => wp_skip ?_)
    show Code.wp Try.prog (Code.region 8 q3_8 false) _ a9 x9
    refine r3_8 h9.z k (by omega) (A9.get (A8.get k10 (by decide)) (by decide)) (fun a10 x10 A10 o10' G10 => ?_)
    refine ⟨⟨k + 1, h9.gr A10 (by decide) G10, G48.trans (G9.trans G10), by omega, o10', A10.get (A9.get (A8.get k8 (by decide)) (by decide)) (by decide), A10.get (A9.get (A8.get k9 (by decide)) (by decide)) (by decide), A10.get (A9.get (A8.get k7 (by decide)) (by decide)) (by decide)⟩, ?_⟩
    rw [o10', k10]
    simp only [intOf]
    omega
  · have hI : ∀ y, Gr x8 y → Ints b y v1 ms ∧ b ≤ y.heap.size := fun y hy => ⟨hm.below (h8.bl'.trans (hy.mono (Nat.le_of_lt h8.h3.lt))), by have := h8.h3.lt; have := hy.size; omega⟩
    refine wp_exit ?_
    show Code.wp Try.prog c3_fin _ a8 x8
    unfold c3_fin
    refine wp_seq (r3_11 h8.z b v1 o (claimL o ms) (balL o ms) hn1 h8.h3 (fun y hy => claim_any b o ho v1 ms y (hI y hy).1 (hI y hy).2 hl) (fun y hy => rclaim_any v1 o ms y ho ((hI y hy).1.mono (hI y hy).2) hl) (fun y hy => balanced_any b o ho v1 ms y (hI y hy).1 (hI y hy).2 hl) (fun y hy => rbalanced_any v1 o ms y ho ((hI y hy).1.mono (hI y hy).2) hl) (yes8 _ (claimL_len o ms ho)) (grd8 _ _ _) (A8.get k7 (by decide)) h8.e3 h8.e1 (fun a9 x9 A9 o6 G9 => ?_))
    have h9 := h8.gr A9 (by decide) G9
    exact wp_ret (bodyPost_ret (results_tmp rfl _ _ _) h9.df ⟨congrArg Ending.returned o6, by rw [hwb]; exact h9.bl'⟩)
end Go.Proofs.Ytlliijodilnlgaa
