/- The document's own Balanced (13): regions and code by tools/gen_rbal.py. -/
import Derived.Test.YtlliijodilnlgaaRgRcC
namespace Go.Proofs.Ytlliijodilnlgaa
open Go.RowKit
def q13_0 : Array Oper := #[{ dst := some 2, op := Op.box 23 (Operand.tmp 0), type := 0, pos := "ref.go:159", after := #[], guard := none }, { dst := some 4, op := Op.assign (Operand.const (Value.bool false)), type := 4, pos := "ref.go:159", after := #[], guard := none }]
def q13_1 : Array Oper := #[{ dst := some 10, op := Op.move (Operand.tmp 1), type := 24, pos := "ref.go:160", after := #[], guard := none }, { dst := some 11, op := Op.call { callee := Callee.value (Operand.func 24), args := #[Operand.tmp 10], argTypes := #[24] }, type := 24, pos := "ref.go:160", after := #[{ on := 0, ground := Ground.data }], guard := none }, { dst := some 5, op := Op.assign (Operand.tmp 11), type := 24, pos := "ref.go:160", after := #[{ on := 1, ground := Ground.data }, { on := 1, ground := Ground.chain }, { on := 0, ground := Ground.phase }, { on := 1, ground := Ground.phase }], guard := none }]
def q13_2 : Array Oper := #[{ dst := some 6, op := Op.assign (Operand.const (Value.int IntKind.i64 0)), type := 3, pos := "ref.go:161", after := #[], guard := none }]
def q13_3 : Array Oper := #[{ dst := some 7, op := Op.assign (Operand.const (Value.int IntKind.i64 0)), type := 3, pos := "ref.go:162", after := #[], guard := none }]
def q13_4 : Array Oper := #[{ dst := some 12, op := Op.move (Operand.tmp 7), type := 3, pos := "ref.go:162", after := #[], guard := none }, { dst := some 13, op := Op.move (Operand.tmp 5), type := 24, pos := "ref.go:162", after := #[], guard := none }, { dst := some 14, op := Op.call { callee := Callee.builtin Builtin.len, args := #[Operand.tmp 13], argTypes := #[24] }, type := 3, pos := "ref.go:162", after := #[{ on := 1, ground := Ground.data }], guard := none }, { dst := some 15, op := Op.binOp BinOp.lss 3 (Operand.tmp 12) (Operand.tmp 14) 3, type := 4, pos := "ref.go:162", after := #[{ on := 0, ground := Ground.data }, { on := 2, ground := Ground.data }], guard := none }]
def q13_5 : Array Oper := #[{ dst := some 16, op := Op.move (Operand.tmp 7), type := 3, pos := "ref.go:162", after := #[], guard := none }, { dst := some 17, op := Op.binOp BinOp.add 3 (Operand.tmp 16) (Operand.const (Value.int IntKind.i64 1)) 3, type := 3, pos := "ref.go:162", after := #[{ on := 0, ground := Ground.data }], guard := none }, { dst := some 7, op := Op.assign (Operand.tmp 17), type := 3, pos := "ref.go:162", after := #[{ on := 1, ground := Ground.data }, { on := 0, ground := Ground.phase }, { on := 1, ground := Ground.phase }], guard := none }]
def q13_6 : Array Oper := #[{ dst := some 18, op := Op.load 23 (Operand.tmp 2), type := 23, pos := "ref.go:163", after := #[], guard := none }, { dst := some 19, op := Op.move (Operand.tmp 5), type := 24, pos := "ref.go:163", after := #[], guard := none }, { dst := some 20, op := Op.move (Operand.tmp 7), type := 3, pos := "ref.go:163", after := #[], guard := none }, { dst := some 21, op := Op.indexAddr 24 (Operand.tmp 19) (Operand.tmp 20), type := 0, pos := "ref.go:163", after := #[{ on := 1, ground := Ground.data }, { on := 2, ground := Ground.data }], guard := none }, { dst := some 22, op := Op.load 3 (Operand.tmp 21), type := 3, pos := "ref.go:163", after := #[{ on := 3, ground := Ground.data }], guard := none }, { dst := some 23, op := Op.call { callee := Callee.value (Operand.func 29), args := #[Operand.tmp 18, Operand.tmp 22], argTypes := #[23, 3] }, type := 24, pos := "ref.go:163", after := #[{ on := 0, ground := Ground.data }, { on := 4, ground := Ground.data }], guard := none }, { dst := some 24, op := Op.call { callee := Callee.builtin Builtin.len, args := #[Operand.tmp 23], argTypes := #[24] }, type := 3, pos := "ref.go:163", after := #[{ on := 5, ground := Ground.data }], guard := none }, { dst := some 8, op := Op.assign (Operand.tmp 24), type := 3, pos := "ref.go:163", after := #[{ on := 6, ground := Ground.data }, { on := 5, ground := Ground.chain }, { on := 0, ground := Ground.phase }, { on := 1, ground := Ground.phase }, { on := 2, ground := Ground.phase }, { on := 3, ground := Ground.phase }, { on := 4, ground := Ground.phase }, { on := 5, ground := Ground.phase }, { on := 6, ground := Ground.phase }], guard := none }]
def q13_7 : Array Oper := #[{ dst := some 25, op := Op.move (Operand.tmp 6), type := 3, pos := "ref.go:164", after := #[], guard := none }, { dst := some 26, op := Op.move (Operand.tmp 8), type := 3, pos := "ref.go:164", after := #[], guard := none }, { dst := some 27, op := Op.binOp BinOp.add 3 (Operand.tmp 25) (Operand.tmp 26) 3, type := 3, pos := "ref.go:164", after := #[{ on := 0, ground := Ground.data }, { on := 1, ground := Ground.data }], guard := none }, { dst := some 6, op := Op.assign (Operand.tmp 27), type := 3, pos := "ref.go:164", after := #[{ on := 2, ground := Ground.data }, { on := 0, ground := Ground.phase }, { on := 1, ground := Ground.phase }, { on := 2, ground := Ground.phase }], guard := none }]
def q13_8 : Array Oper := #[{ dst := some 28, op := Op.move (Operand.tmp 8), type := 3, pos := "ref.go:165", after := #[], guard := none }, { dst := some 29, op := Op.move (Operand.tmp 5), type := 24, pos := "ref.go:165", after := #[], guard := none }, { dst := some 30, op := Op.call { callee := Callee.builtin Builtin.len, args := #[Operand.tmp 29], argTypes := #[24] }, type := 3, pos := "ref.go:165", after := #[{ on := 1, ground := Ground.data }], guard := none }, { dst := some 31, op := Op.binOp BinOp.quo 3 (Operand.const (Value.int IntKind.i64 8)) (Operand.tmp 30) 3, type := 3, pos := "ref.go:165", after := #[{ on := 2, ground := Ground.data }], guard := none }, { dst := some 32, op := Op.binOp BinOp.neq 3 (Operand.tmp 28) (Operand.tmp 31) 3, type := 4, pos := "ref.go:165", after := #[{ on := 0, ground := Ground.data }, { on := 3, ground := Ground.data }], guard := none }, { dst := some 33, op := Op.move (Operand.tmp 32), type := 4, pos := "ref.go:165", after := #[{ on := 4, ground := Ground.data }], guard := none }, { dst := some 34, op := Op.move (Operand.tmp 8), type := 3, pos := "ref.go:165", after := #[{ on := 5, ground := Ground.guard }], guard := some (5, true) }, { dst := some 35, op := Op.move (Operand.tmp 5), type := 24, pos := "ref.go:165", after := #[{ on := 5, ground := Ground.guard }], guard := some (5, true) }, { dst := some 36, op := Op.call { callee := Callee.builtin Builtin.len, args := #[Operand.tmp 35], argTypes := #[24] }, type := 3, pos := "ref.go:165", after := #[{ on := 7, ground := Ground.data }, { on := 5, ground := Ground.guard }], guard := some (5, true) }, { dst := some 37, op := Op.binOp BinOp.add 3 (Operand.const (Value.int IntKind.i64 8)) (Operand.tmp 36) 3, type := 3, pos := "ref.go:165", after := #[{ on := 8, ground := Ground.data }, { on := 5, ground := Ground.guard }], guard := some (5, true) }, { dst := some 38, op := Op.binOp BinOp.sub 3 (Operand.tmp 37) (Operand.const (Value.int IntKind.i64 1)) 3, type := 3, pos := "ref.go:165", after := #[{ on := 9, ground := Ground.data }, { on := 5, ground := Ground.guard }], guard := some (5, true) }, { dst := some 39, op := Op.move (Operand.tmp 5), type := 24, pos := "ref.go:165", after := #[{ on := 5, ground := Ground.guard }], guard := some (5, true) }, { dst := some 40, op := Op.call { callee := Callee.builtin Builtin.len, args := #[Operand.tmp 39], argTypes := #[24] }, type := 3, pos := "ref.go:165", after := #[{ on := 11, ground := Ground.data }, { on := 5, ground := Ground.guard }], guard := some (5, true) }, { dst := some 41, op := Op.binOp BinOp.quo 3 (Operand.tmp 38) (Operand.tmp 40) 3, type := 3, pos := "ref.go:165", after := #[{ on := 10, ground := Ground.data }, { on := 12, ground := Ground.data }, { on := 5, ground := Ground.guard }], guard := some (5, true) }, { dst := some 42, op := Op.binOp BinOp.neq 3 (Operand.tmp 34) (Operand.tmp 41) 3, type := 4, pos := "ref.go:165", after := #[{ on := 6, ground := Ground.data }, { on := 13, ground := Ground.data }, { on := 5, ground := Ground.guard }], guard := some (5, true) }, { dst := some 43, op := Op.pick (Operand.tmp 33) (Operand.tmp 42) (Operand.const (Value.bool false)), type := 4, pos := "ref.go:165", after := #[{ on := 5, ground := Ground.data }, { on := 14, ground := Ground.data }], guard := none }]
def q13_9 : Array Oper := #[{ dst := some 4, op := Op.assign (Operand.const (Value.bool false)), type := 4, pos := "ref.go:166", after := #[], guard := none }]
def q13_10 : Array Oper := #[{ dst := some 44, op := Op.move (Operand.tmp 5), type := 24, pos := "ref.go:169", after := #[], guard := none }, { dst := some 45, op := Op.call { callee := Callee.builtin Builtin.len, args := #[Operand.tmp 44], argTypes := #[24] }, type := 3, pos := "ref.go:169", after := #[{ on := 0, ground := Ground.data }], guard := none }, { dst := some 46, op := Op.binOp BinOp.eql 3 (Operand.tmp 45) (Operand.const (Value.int IntKind.i64 0)) 3, type := 4, pos := "ref.go:169", after := #[{ on := 1, ground := Ground.data }], guard := none }]
def q13_11 : Array Oper := #[{ dst := some 9, op := Op.assign (Operand.const (Value.int IntKind.i64 0)), type := 3, pos := "ref.go:170", after := #[], guard := none }]
def q13_12 : Array Oper := #[{ dst := some 47, op := Op.move (Operand.tmp 9), type := 3, pos := "ref.go:170", after := #[], guard := none }, { dst := some 48, op := Op.binOp BinOp.lss 3 (Operand.tmp 47) (Operand.const (Value.int IntKind.i64 8)) 3, type := 4, pos := "ref.go:170", after := #[{ on := 0, ground := Ground.data }], guard := none }]
def q13_13 : Array Oper := #[{ dst := some 49, op := Op.move (Operand.tmp 9), type := 3, pos := "ref.go:170", after := #[], guard := none }, { dst := some 50, op := Op.binOp BinOp.add 3 (Operand.tmp 49) (Operand.const (Value.int IntKind.i64 1)) 3, type := 3, pos := "ref.go:170", after := #[{ on := 0, ground := Ground.data }], guard := none }, { dst := some 9, op := Op.assign (Operand.tmp 50), type := 3, pos := "ref.go:170", after := #[{ on := 1, ground := Ground.data }, { on := 0, ground := Ground.phase }, { on := 1, ground := Ground.phase }], guard := none }]
def q13_14 : Array Oper := #[{ dst := some 51, op := Op.move (Operand.tmp 9), type := 3, pos := "ref.go:171", after := #[], guard := none }, { dst := some 52, op := Op.indexAddr 23 (Operand.tmp 2) (Operand.tmp 51), type := 0, pos := "ref.go:171", after := #[{ on := 0, ground := Ground.data }], guard := none }, { dst := some 53, op := Op.load 3 (Operand.tmp 52), type := 3, pos := "ref.go:171", after := #[{ on := 1, ground := Ground.data }], guard := none }, { dst := some 54, op := Op.binOp BinOp.gtr 3 (Operand.tmp 53) (Operand.const (Value.int IntKind.i64 0)) 3, type := 4, pos := "ref.go:171", after := #[{ on := 2, ground := Ground.data }], guard := none }]
def q13_15 : Array Oper := #[{ dst := some 4, op := Op.assign (Operand.const (Value.bool false)), type := 4, pos := "ref.go:172", after := #[], guard := none }]
def q13_16 : Array Oper := #[{ dst := some 4, op := Op.assign (Operand.const (Value.bool true)), type := 4, pos := "ref.go:175", after := #[], guard := none }]
def q13_17 : Array Oper := #[{ dst := some 55, op := Op.move (Operand.tmp 6), type := 3, pos := "ref.go:177", after := #[], guard := none }, { dst := some 56, op := Op.binOp BinOp.eql 3 (Operand.tmp 55) (Operand.const (Value.int IntKind.i64 8)) 3, type := 4, pos := "ref.go:177", after := #[{ on := 0, ground := Ground.data }], guard := none }, { dst := some 4, op := Op.assign (Operand.tmp 56), type := 4, pos := "ref.go:177", after := #[{ on := 1, ground := Ground.data }, { on := 0, ground := Ground.phase }, { on := 1, ground := Ground.phase }], guard := none }]
theorem r13_0 {Q : Exit → Act → World → Prop} {a0 : Act} {w : World} (hz : a0.tmps.size = 57) (b : Nat) (hb : w.heap.size = b) (ol : List Int) (e0 : a0.eval (.tmp 0) = .agg (intV ol).toArray) (hend : ∀ ac wz, After [4, 2] a0 ac → ac.eval (.tmp 2) = .pointer (some ⟨b, 0, none⟩) → Anew b w wz (intV ol) 23 → Q .normal ac wz) : (Code.region 0 q13_0 false).wp Try.prog Q a0 w := by
  refine wp_region_list ?_
  refine wpList_box_new 2 rfl rfl 23 (.tmp 0) rfl b hb _ e0 ?_
  intro w1 h1
  refine wl_of rfl (op_move (.const _) (.inr rfl) (wl_end ?_))
  refine hend _ w1 (((After.self a0).put 2 _).put 4 _) ?_ h1
  exact (ev_put (by rw [put_size, hz]; decide)).trans ((if_neg (by decide)).trans ((ev_put (by rw [hz]; decide)).trans (if_pos rfl)))
set_option maxRecDepth 100000 in
theorem r13_1 {Q : Exit → Act → World → Prop} {a0 : Act} {w : World} (hz : a0.tmps.size = 57) (v1 : Value) (M : List Int) (hC : ∀ y, Gr w y → Calls Try.prog 24 #[v1] y fun e z => ∃ u, e = .returned u ∧ Gr y z ∧ (intsF M).holds u z) (e1 : a0.eval (.tmp 1) = v1) (hend : ∀ ac wz, After [10, 11, 5] a0 ac → (intsF M).holds (ac.eval (.tmp 5)) wz → Gr w wz → Q .normal ac wz) : (Code.region 1 q13_1 false).wp Try.prog Q a0 w := by
  refine seq_by (by kernel_rfl) 3 (by decide) [10, 11, 5] (fun | 10 => .val (v1) | 11 => intsF M | 5 => intsF M | _ => .any) (by kernel_rfl) (List.forall_mem_cons.2 ⟨?s0, List.forall_mem_cons.2 ⟨?s1, List.forall_mem_cons.2 ⟨?s2, fun o ho => nomatch ho⟩⟩⟩) ?e
  case s0 => exact sa_move (.tmp 1) 10 (.val (v1)) (.inl rfl) rfl rfl (.old 1 _ (by decide) e1) rfl
  case s1 => exact sa_callF1 24 (.tmp 10) _ 11 (v1) (intsF M) rfl rfl rfl (.new 10 (by kernel_rfl) (by rw [hz]; decide)) (enters_of Try.func24 (by kernel_rfl) rfl) hC rfl
  case s2 => exact sa_move (.tmp 11) 5 (intsF M) (.inr rfl) rfl rfl (.new 11 (by kernel_rfl) (by rw [hz]; decide)) rfl
  case e =>
  intro ac wz hA hgr hv
  exact wl_end (hend ac wz hA (hv 5 (by kernel_rfl) (by rw [hz]; decide)) hgr)
set_option maxRecDepth 100000 in
theorem r13_2 {Q : Exit → Act → World → Prop} {a0 : Act} {w : World} (hz : a0.tmps.size = 57)   (hend : ∀ ac wz, After [6] a0 ac → ac.eval (.tmp 6) = .int .i64 0 → Gr w wz → Q .normal ac wz) : (Code.region 2 q13_2 false).wp Try.prog Q a0 w := by
  refine seq_by (by kernel_rfl) 1 (by decide) [6] (fun | 6 => .val (.int .i64 0) | _ => .any) (by kernel_rfl) (List.forall_mem_cons.2 ⟨?s0, fun o ho => nomatch ho⟩) ?e
  case s0 => exact sa_move (.const _) 6 (.val (.int .i64 0)) (.inr rfl) rfl rfl (.const _) rfl
  case e =>
  intro ac wz hA hgr hv
  exact wl_end (hend ac wz hA (hv 6 (by kernel_rfl) (by rw [hz]; decide)) hgr)
set_option maxRecDepth 100000 in
theorem r13_3 {Q : Exit → Act → World → Prop} {a0 : Act} {w : World} (hz : a0.tmps.size = 57)   (hend : ∀ ac wz, After [7] a0 ac → ac.eval (.tmp 7) = .int .i64 0 → Gr w wz → Q .normal ac wz) : (Code.region 3 q13_3 false).wp Try.prog Q a0 w := by
  refine seq_by (by kernel_rfl) 1 (by decide) [7] (fun | 7 => .val (.int .i64 0) | _ => .any) (by kernel_rfl) (List.forall_mem_cons.2 ⟨?s0, fun o ho => nomatch ho⟩) ?e
  case s0 => exact sa_move (.const _) 7 (.val (.int .i64 0)) (.inr rfl) rfl rfl (.const _) rfl
  case e =>
  intro ac wz hA hgr hv
  exact wl_end (hend ac wz hA (hv 7 (by kernel_rfl) (by rw [hz]; decide)) hgr)
set_option maxRecDepth 100000 in
theorem r13_11 {Q : Exit → Act → World → Prop} {a0 : Act} {w : World} (hz : a0.tmps.size = 57)   (hend : ∀ ac wz, After [9] a0 ac → ac.eval (.tmp 9) = .int .i64 0 → Gr w wz → Q .normal ac wz) : (Code.region 11 q13_11 false).wp Try.prog Q a0 w := by
  refine seq_by (by kernel_rfl) 1 (by decide) [9] (fun | 9 => .val (.int .i64 0) | _ => .any) (by kernel_rfl) (List.forall_mem_cons.2 ⟨?s0, fun o ho => nomatch ho⟩) ?e
  case s0 => exact sa_move (.const _) 9 (.val (.int .i64 0)) (.inr rfl) rfl rfl (.const _) rfl
  case e =>
  intro ac wz hA hgr hv
  exact wl_end (hend ac wz hA (hv 9 (by kernel_rfl) (by rw [hz]; decide)) hgr)
set_option maxRecDepth 100000 in
theorem r13_9 {Q : Exit → Act → World → Prop} {a0 : Act} {w : World} (hz : a0.tmps.size = 57)   (hend : ∀ ac wz, After [4] a0 ac → ac.eval (.tmp 4) = .bool false → Gr w wz → Q .normal ac wz) : (Code.region 9 q13_9 false).wp Try.prog Q a0 w := by
  refine seq_by (by kernel_rfl) 1 (by decide) [4] (fun | 4 => .val (.bool false) | _ => .any) (by kernel_rfl) (List.forall_mem_cons.2 ⟨?s0, fun o ho => nomatch ho⟩) ?e
  case s0 => exact sa_move (.const _) 4 (.val (.bool false)) (.inr rfl) rfl rfl (.const _) rfl
  case e =>
  intro ac wz hA hgr hv
  exact wl_end (hend ac wz hA (hv 4 (by kernel_rfl) (by rw [hz]; decide)) hgr)
set_option maxRecDepth 100000 in
theorem r13_15 {Q : Exit → Act → World → Prop} {a0 : Act} {w : World} (hz : a0.tmps.size = 57)   (hend : ∀ ac wz, After [4] a0 ac → ac.eval (.tmp 4) = .bool false → Gr w wz → Q .normal ac wz) : (Code.region 15 q13_15 false).wp Try.prog Q a0 w := by
  refine seq_by (by kernel_rfl) 1 (by decide) [4] (fun | 4 => .val (.bool false) | _ => .any) (by kernel_rfl) (List.forall_mem_cons.2 ⟨?s0, fun o ho => nomatch ho⟩) ?e
  case s0 => exact sa_move (.const _) 4 (.val (.bool false)) (.inr rfl) rfl rfl (.const _) rfl
  case e =>
  intro ac wz hA hgr hv
  exact wl_end (hend ac wz hA (hv 4 (by kernel_rfl) (by rw [hz]; decide)) hgr)
set_option maxRecDepth 100000 in
theorem r13_16 {Q : Exit → Act → World → Prop} {a0 : Act} {w : World} (hz : a0.tmps.size = 57)   (hend : ∀ ac wz, After [4] a0 ac → ac.eval (.tmp 4) = .bool true → Gr w wz → Q .normal ac wz) : (Code.region 16 q13_16 false).wp Try.prog Q a0 w := by
  refine seq_by (by kernel_rfl) 1 (by decide) [4] (fun | 4 => .val (.bool true) | _ => .any) (by kernel_rfl) (List.forall_mem_cons.2 ⟨?s0, fun o ho => nomatch ho⟩) ?e
  case s0 => exact sa_move (.const _) 4 (.val (.bool true)) (.inr rfl) rfl rfl (.const _) rfl
  case e =>
  intro ac wz hA hgr hv
  exact wl_end (hend ac wz hA (hv 4 (by kernel_rfl) (by rw [hz]; decide)) hgr)
set_option maxRecDepth 100000 in
theorem r13_4 {Q : Exit → Act → World → Prop} {a0 : Act} {w : World} (hz : a0.tmps.size = 57) (k n cap : Nat) (ad : Option Addr) (e7 : a0.eval (.tmp 7) = .int .i64 (k : Int)) (e5 : a0.eval (.tmp 5) = .slice ad n cap) (hend : ∀ ac wz, After [12, 13, 14, 15] a0 ac → ac.eval (.tmp 15) = .bool (decide ((k : Int) < (n : Int))) → Gr w wz → Q .normal ac wz) : (Code.region 4 q13_4 false).wp Try.prog Q a0 w := by
  refine seq_by (by kernel_rfl) 4 (by decide) [12, 13, 14, 15] (fun | 12 => .val (.int .i64 (k : Int)) | 13 => .val (.slice ad n cap) | 14 => .val (.int .i64 (n : Int)) | 15 => .val (.bool (decide ((k : Int) < (n : Int)))) | _ => .any) (by kernel_rfl) (List.forall_mem_cons.2 ⟨?s0, List.forall_mem_cons.2 ⟨?s1, List.forall_mem_cons.2 ⟨?s2, List.forall_mem_cons.2 ⟨?s3, fun o ho => nomatch ho⟩⟩⟩⟩) ?e
  case s0 => exact sa_move (.tmp 7) 12 (.val (.int .i64 (k : Int))) (.inl rfl) rfl rfl (.old 7 _ (by decide) e7) rfl
  case s1 => exact sa_move (.tmp 5) 13 (.val (.slice ad n cap)) (.inl rfl) rfl rfl (.old 5 _ (by decide) e5) rfl
  case s2 => exact sa_len 24 (.tmp 13) 14 (.slice ad n cap) (.int .i64 (n : Int)) rfl rfl rfl (.new 13 (by kernel_rfl) (by rw [hz]; decide)) (by intro w; kernel_rfl) rfl
  case s3 => exact sa_bin .lss 3 (.tmp 12) (.tmp 14) 3 15 (.int .i64 (k : Int)) (.int .i64 (n : Int)) (.bool (decide ((k : Int) < (n : Int)))) rfl rfl rfl (.new 12 (by kernel_rfl) (by rw [hz]; decide)) (.new 14 (by kernel_rfl) (by rw [hz]; decide)) guard_int (bin_lss rfl) rfl
  case e =>
  intro ac wz hA hgr hv
  exact wl_end (hend ac wz hA (hv 15 (by kernel_rfl) (by rw [hz]; decide)) hgr)
set_option maxRecDepth 100000 in
theorem r13_5 {Q : Exit → Act → World → Prop} {a0 : Act} {w : World} (hz : a0.tmps.size = 57) (k : Nat) (hk : k ≤ 17592186043904) (e7 : a0.eval (.tmp 7) = .int .i64 (k : Int)) (hend : ∀ ac wz, After [7, 16, 17] a0 ac → ac.eval (.tmp 7) = .int .i64 ((k + 1 : Nat) : Int) → Gr w wz → Q .normal ac wz) : (Code.region 5 q13_5 false).wp Try.prog Q a0 w := by
  refine seq_by (by kernel_rfl) 2 (by decide) [16, 17] (fun | 16 => .val (.int .i64 (k : Int)) | 17 => .val (.int .i64 ((k + 1 : Nat) : Int)) | _ => .any) (by kernel_rfl) (List.forall_mem_cons.2 ⟨?s0, List.forall_mem_cons.2 ⟨?s1, fun o ho => nomatch ho⟩⟩) ?e
  case s0 => exact sa_move (.tmp 7) 16 (.val (.int .i64 (k : Int))) (.inl rfl) rfl rfl (.old 7 _ (by decide) e7) rfl
  case s1 => exact sa_bin .add 3 (.tmp 16) (.const _) 3 17 (.int .i64 (k : Int)) (.int .i64 1) (.int .i64 ((k + 1 : Nat) : Int)) rfl rfl rfl (.new 16 (by kernel_rfl) (by rw [hz]; decide)) (.const _) guard_int (bin_add (by omega) (by omega) (by omega)) rfl
  case e =>
  intro ac wz hA hgr hv
  have o17 : ac.eval (.tmp 17) = .int .i64 ((k + 1 : Nat) : Int) := hv 17 (by kernel_rfl) (by rw [hz]; decide)
  refine wl_of rfl (op_move (.tmp 17) (.inr rfl) (wl_end ?_))
  exact hend _ wz (hA.put 7 _)  ((ev_put (by rw [hA.size, hz]; decide)).trans ((if_pos rfl).trans o17)) hgr
set_option maxRecDepth 100000 in
theorem r13_13 {Q : Exit → Act → World → Prop} {a0 : Act} {w : World} (hz : a0.tmps.size = 57) (k : Nat) (hk : k ≤ 17592186043904) (e9 : a0.eval (.tmp 9) = .int .i64 (k : Int)) (hend : ∀ ac wz, After [9, 49, 50] a0 ac → ac.eval (.tmp 9) = .int .i64 ((k + 1 : Nat) : Int) → Gr w wz → Q .normal ac wz) : (Code.region 13 q13_13 false).wp Try.prog Q a0 w := by
  refine seq_by (by kernel_rfl) 2 (by decide) [49, 50] (fun | 49 => .val (.int .i64 (k : Int)) | 50 => .val (.int .i64 ((k + 1 : Nat) : Int)) | _ => .any) (by kernel_rfl) (List.forall_mem_cons.2 ⟨?s0, List.forall_mem_cons.2 ⟨?s1, fun o ho => nomatch ho⟩⟩) ?e
  case s0 => exact sa_move (.tmp 9) 49 (.val (.int .i64 (k : Int))) (.inl rfl) rfl rfl (.old 9 _ (by decide) e9) rfl
  case s1 => exact sa_bin .add 3 (.tmp 49) (.const _) 3 50 (.int .i64 (k : Int)) (.int .i64 1) (.int .i64 ((k + 1 : Nat) : Int)) rfl rfl rfl (.new 49 (by kernel_rfl) (by rw [hz]; decide)) (.const _) guard_int (bin_add (by omega) (by omega) (by omega)) rfl
  case e =>
  intro ac wz hA hgr hv
  have o50 : ac.eval (.tmp 50) = .int .i64 ((k + 1 : Nat) : Int) := hv 50 (by kernel_rfl) (by rw [hz]; decide)
  refine wl_of rfl (op_move (.tmp 50) (.inr rfl) (wl_end ?_))
  exact hend _ wz (hA.put 9 _)  ((ev_put (by rw [hA.size, hz]; decide)).trans ((if_pos rfl).trans o50)) hgr
set_option maxRecDepth 100000 in
theorem r13_6 {Q : Exit → Act → World → Prop} {a0 : Act} {w : World} (hz : a0.tmps.size = 57) (b g of n cap k c : Nat) (x : Int) (ol : List Int) (hol : (intV ol).length = 8) (hHol : Holds w b (intV ol) 23) (hk : k < n) (hX : ∀ y, Gr w y → y.cell? ⟨g, of + k, none⟩ = some (.int .i64 x)) (hC : ∀ y, Gr w y → Calls Try.prog 29 #[.agg (intV ol).toArray, .int .i64 x] y fun e z => ∃ u, e = .returned u ∧ Gr y z ∧ (lenF c).holds u z) (e2 : a0.eval (.tmp 2) = .pointer (some ⟨b, 0, none⟩)) (e5 : a0.eval (.tmp 5) = .slice (some ⟨g, of, none⟩) n cap) (e7 : a0.eval (.tmp 7) = .int .i64 (k : Int)) (hend : ∀ ac wz, After [18, 19, 20, 21, 22, 23, 24, 8] a0 ac → ac.eval (.tmp 8) = .int .i64 (c : Int) → Gr w wz → Q .normal ac wz) : (Code.region 6 q13_6 true).wp Try.prog Q a0 w := by
  refine drawn_by (by kernel_rfl) (by kernel_rfl) (by kernel_rfl) [18, 19, 20, 21, 22, 23, 24, 8] (fun | 18 => .val (.agg (intV ol).toArray) | 19 => .val (.slice (some ⟨g, of, none⟩) n cap) | 20 => .val (.int .i64 (k : Int)) | 21 => .val (.pointer (some ⟨g, of + k, none⟩)) | 22 => .val (.int .i64 x) | 23 => lenF c | 24 => .val (.int .i64 (c : Int)) | 8 => .val (.int .i64 (c : Int)) | _ => .any) (by kernel_rfl) (List.forall_mem_cons.2 ⟨?s0, List.forall_mem_cons.2 ⟨?s1, List.forall_mem_cons.2 ⟨?s2, List.forall_mem_cons.2 ⟨?s3, List.forall_mem_cons.2 ⟨?s4, List.forall_mem_cons.2 ⟨?s5, List.forall_mem_cons.2 ⟨?s6, List.forall_mem_cons.2 ⟨?s7, fun o ho => nomatch ho⟩⟩⟩⟩⟩⟩⟩⟩) ?e
  case s0 => exact sa_row 23 (.tmp 2) 18 b (0) 8 _ (intV ol) rfl rfl rfl Try.underlying23 rfl siz23 hol (.old 2 _ (by decide) e2) (fun y hy => range_of (hHol.below hy hHol.lt)) rfl
  case s1 => exact sa_move (.tmp 5) 19 (.val (.slice (some ⟨g, of, none⟩) n cap)) (.inl rfl) rfl rfl (.old 5 _ (by decide) e5) rfl
  case s2 => exact sa_move (.tmp 7) 20 (.val (.int .i64 (k : Int))) (.inl rfl) rfl rfl (.old 7 _ (by decide) e7) rfl
  case s3 => exact sa_ixa 24 (.tmp 19) (.tmp 20) 21 (.slice (some ⟨g, of, none⟩) n cap) (.int .i64 (k : Int)) (.pointer (some ⟨g, of + k, none⟩)) rfl rfl rfl (.new 19 (by kernel_rfl) (by rw [hz]; decide)) (.new 20 (by kernel_rfl) (by rw [hz]; decide)) (ix_slice (sz := 1) Try.underlying24 (by intro w; kernel_rfl) (by omega) (by omega)) rfl
  case s4 => exact sa_loadc 3 (.tmp 21) 22 (g) (of + k) (.int .i64 x) rfl rfl rfl (by intro w; kernel_rfl) (.new 21 (by kernel_rfl) (by rw [hz]; decide)) hX rfl
  case s5 => exact sa_callF2 29 (.tmp 18) (.tmp 22) _ 23 (.agg (intV ol).toArray) (.int .i64 x) (lenF c) rfl rfl rfl (.new 18 (by kernel_rfl) (by rw [hz]; decide)) (.new 22 (by kernel_rfl) (by rw [hz]; decide)) (enters_of Try.func29 (by kernel_rfl) rfl) hC rfl
  case s6 => exact sa_lenF 24 (.tmp 23) 24 c rfl rfl rfl (.new 23 (by kernel_rfl) (by rw [hz]; decide)) (by intro a c y; kernel_rfl) rfl
  case s7 => exact sa_move (.tmp 24) 8 (.val (.int .i64 (c : Int))) (.inr rfl) rfl rfl (.new 24 (by kernel_rfl) (by rw [hz]; decide)) rfl
  case e =>
  intro ac wz hA hgr hv
  exact hend ac wz hA (hv 8 (by kernel_rfl) (by rw [hz]; decide)) hgr
set_option maxRecDepth 100000 in
theorem r13_7 {Q : Exit → Act → World → Prop} {a0 : Act} {w : World} (hz : a0.tmps.size = 57) (s : Int) (c : Nat) (h1 : 0 ≤ s + c) (h2 : s + c < 9223372036854775808) (e6 : a0.eval (.tmp 6) = .int .i64 s) (e8 : a0.eval (.tmp 8) = .int .i64 (c : Int)) (hend : ∀ ac wz, After [6, 25, 26, 27] a0 ac → ac.eval (.tmp 6) = .int .i64 (s + c) → Gr w wz → Q .normal ac wz) : (Code.region 7 q13_7 false).wp Try.prog Q a0 w := by
  refine seq_by (by kernel_rfl) 3 (by decide) [25, 26, 27] (fun | 25 => .val (.int .i64 s) | 26 => .val (.int .i64 (c : Int)) | 27 => .val (.int .i64 (s + c)) | _ => .any) (by kernel_rfl) (List.forall_mem_cons.2 ⟨?s0, List.forall_mem_cons.2 ⟨?s1, List.forall_mem_cons.2 ⟨?s2, fun o ho => nomatch ho⟩⟩⟩) ?e
  case s0 => exact sa_move (.tmp 6) 25 (.val (.int .i64 s)) (.inl rfl) rfl rfl (.old 6 _ (by decide) e6) rfl
  case s1 => exact sa_move (.tmp 8) 26 (.val (.int .i64 (c : Int))) (.inl rfl) rfl rfl (.old 8 _ (by decide) e8) rfl
  case s2 => exact sa_bin .add 3 (.tmp 25) (.tmp 26) 3 27 (.int .i64 s) (.int .i64 (c : Int)) (.int .i64 (s + c)) rfl rfl rfl (.new 25 (by kernel_rfl) (by rw [hz]; decide)) (.new 26 (by kernel_rfl) (by rw [hz]; decide)) guard_int (bin_add rfl (by omega) (by omega)) rfl
  case e =>
  intro ac wz hA hgr hv
  have o27 : ac.eval (.tmp 27) = .int .i64 (s + c) := hv 27 (by kernel_rfl) (by rw [hz]; decide)
  refine wl_of rfl (op_move (.tmp 27) (.inr rfl) (wl_end ?_))
  exact hend _ wz (hA.put 6 _)  ((ev_put (by rw [hA.size, hz]; decide)).trans ((if_pos rfl).trans o27)) hgr
set_option maxRecDepth 100000 in
theorem r13_8f {Q : Exit → Act → World → Prop} {a0 : Act} {w : World} (hz : a0.tmps.size = 57) (n cap c f : Nat) (ad : Option Addr) (hn : 0 < n) (hf : 8 / n = f) (h1 : c = f) (e8 : a0.eval (.tmp 8) = .int .i64 (c : Int)) (e5 : a0.eval (.tmp 5) = .slice ad n cap) (hend : ∀ ac wz, After [28, 29, 30, 31, 32, 33, 34, 35, 36, 37, 38, 39, 40, 41, 42, 43] a0 ac → ac.eval (.tmp 43) = .bool false → Gr w wz → Q .normal ac wz) : (Code.region 8 q13_8 false).wp Try.prog Q a0 w := by
  refine seq_by (by kernel_rfl) 16 (by decide) [28, 29, 30, 31, 32, 33, 34, 35, 36, 37, 38, 39, 40, 41, 42, 43] (fun | 28 => .val (.int .i64 (c : Int)) | 29 => .val (.slice ad n cap) | 30 => .val (.int .i64 (n : Int)) | 31 => .val (.int .i64 (f : Int)) | 32 => .val (.bool false) | 33 => .val (.bool false) | 34 => .val (undef) | 35 => .val (undef) | 36 => .val (undef) | 37 => .val (undef) | 38 => .val (undef) | 39 => .val (undef) | 40 => .val (undef) | 41 => .val (undef) | 42 => .val (undef) | 43 => .val (.bool false) | _ => .any) (by kernel_rfl) (List.forall_mem_cons.2 ⟨?s0, List.forall_mem_cons.2 ⟨?s1, List.forall_mem_cons.2 ⟨?s2, List.forall_mem_cons.2 ⟨?s3, List.forall_mem_cons.2 ⟨?s4, List.forall_mem_cons.2 ⟨?s5, List.forall_mem_cons.2 ⟨?s6, List.forall_mem_cons.2 ⟨?s7, List.forall_mem_cons.2 ⟨?s8, List.forall_mem_cons.2 ⟨?s9, List.forall_mem_cons.2 ⟨?s10, List.forall_mem_cons.2 ⟨?s11, List.forall_mem_cons.2 ⟨?s12, List.forall_mem_cons.2 ⟨?s13, List.forall_mem_cons.2 ⟨?s14, List.forall_mem_cons.2 ⟨?s15, fun o ho => nomatch ho⟩⟩⟩⟩⟩⟩⟩⟩⟩⟩⟩⟩⟩⟩⟩⟩) ?e
  case s0 => exact sa_move (.tmp 8) 28 (.val (.int .i64 (c : Int))) (.inl rfl) rfl rfl (.old 8 _ (by decide) e8) rfl
  case s1 => exact sa_move (.tmp 5) 29 (.val (.slice ad n cap)) (.inl rfl) rfl rfl (.old 5 _ (by decide) e5) rfl
  case s2 => exact sa_len 24 (.tmp 29) 30 (.slice ad n cap) (.int .i64 (n : Int)) rfl rfl rfl (.new 29 (by kernel_rfl) (by rw [hz]; decide)) (by intro w; kernel_rfl) rfl
  case s3 => exact sa_bin .quo 3 (.const _) (.tmp 30) 3 31 (.int .i64 8) (.int .i64 (n : Int)) (.int .i64 (f : Int)) rfl rfl rfl (.const _) (.new 30 (by kernel_rfl) (by rw [hz]; decide)) guard_int (bin_quo (by omega) (by rw [← hf]; exact tdiv_nat 8 n)) rfl
  case s4 => exact sa_bin .neq 3 (.tmp 28) (.tmp 31) 3 32 (.int .i64 (c : Int)) (.int .i64 (f : Int)) (.bool false) rfl rfl rfl (.new 28 (by kernel_rfl) (by rw [hz]; decide)) (.new 31 (by kernel_rfl) (by rw [hz]; decide)) guard_int (bin_neq (decide_eq_false (by omega))) rfl
  case s5 => exact sa_move (.tmp 32) 33 (.val (.bool false)) (.inl rfl) rfl rfl (.new 32 (by kernel_rfl) (by rw [hz]; decide)) rfl
  case s6 => exact so_guardN 5 33 rfl rfl (by kernel_rfl) (by rw [hz]; decide) rfl (fun d hd => by cases hd; rfl)
  case s7 => exact so_guardN 5 33 rfl rfl (by kernel_rfl) (by rw [hz]; decide) rfl (fun d hd => by cases hd; rfl)
  case s8 => exact so_guardN 5 33 rfl rfl (by kernel_rfl) (by rw [hz]; decide) rfl (fun d hd => by cases hd; rfl)
  case s9 => exact so_guardN 5 33 rfl rfl (by kernel_rfl) (by rw [hz]; decide) rfl (fun d hd => by cases hd; rfl)
  case s10 => exact so_guardN 5 33 rfl rfl (by kernel_rfl) (by rw [hz]; decide) rfl (fun d hd => by cases hd; rfl)
  case s11 => exact so_guardN 5 33 rfl rfl (by kernel_rfl) (by rw [hz]; decide) rfl (fun d hd => by cases hd; rfl)
  case s12 => exact so_guardN 5 33 rfl rfl (by kernel_rfl) (by rw [hz]; decide) rfl (fun d hd => by cases hd; rfl)
  case s13 => exact so_guardN 5 33 rfl rfl (by kernel_rfl) (by rw [hz]; decide) rfl (fun d hd => by cases hd; rfl)
  case s14 => exact so_guardN 5 33 rfl rfl (by kernel_rfl) (by rw [hz]; decide) rfl (fun d hd => by cases hd; rfl)
  case s15 => exact sa_pickF (.tmp 33) (.tmp 42) (.const _) 43 (.val (.bool false)) rfl rfl rfl (.new 33 (by kernel_rfl) (by rw [hz]; decide)) (.const _) rfl
  case e =>
  intro ac wz hA hgr hv
  exact wl_end (hend ac wz hA (hv 43 (by kernel_rfl) (by rw [hz]; decide)) hgr)
set_option maxRecDepth 100000 in
theorem r13_8t {Q : Exit → Act → World → Prop} {a0 : Act} {w : World} (hz : a0.tmps.size = 57) (n cap c f : Nat) (ad : Option Addr) (hn : 0 < n) (hf : 8 / n = f) (e : Nat) (hb : n ≤ 17592186043904) (he : (8 + n - 1) / n = e) (h1 : ¬ c = f) (e8 : a0.eval (.tmp 8) = .int .i64 (c : Int)) (e5 : a0.eval (.tmp 5) = .slice ad n cap) (hend : ∀ ac wz, After [28, 29, 30, 31, 32, 33, 34, 35, 36, 37, 38, 39, 40, 41, 42, 43] a0 ac → ac.eval (.tmp 43) = .bool (decide (¬ (c : Int) = (e : Int))) → Gr w wz → Q .normal ac wz) : (Code.region 8 q13_8 false).wp Try.prog Q a0 w := by
  refine seq_by (by kernel_rfl) 16 (by decide) [28, 29, 30, 31, 32, 33, 34, 35, 36, 37, 38, 39, 40, 41, 42, 43] (fun | 28 => .val (.int .i64 (c : Int)) | 29 => .val (.slice ad n cap) | 30 => .val (.int .i64 (n : Int)) | 31 => .val (.int .i64 (f : Int)) | 32 => .val (.bool true) | 33 => .val (.bool true) | 34 => .val (.int .i64 (c : Int)) | 35 => .val (.slice ad n cap) | 36 => .val (.int .i64 (n : Int)) | 37 => .val (.int .i64 ((8 + n : Nat) : Int)) | 38 => .val (.int .i64 ((8 + n - 1 : Nat) : Int)) | 39 => .val (.slice ad n cap) | 40 => .val (.int .i64 (n : Int)) | 41 => .val (.int .i64 (e : Int)) | 42 => .val (.bool (decide (¬ (c : Int) = (e : Int)))) | 43 => .val (.bool (decide (¬ (c : Int) = (e : Int)))) | _ => .any) (by kernel_rfl) (List.forall_mem_cons.2 ⟨?s0, List.forall_mem_cons.2 ⟨?s1, List.forall_mem_cons.2 ⟨?s2, List.forall_mem_cons.2 ⟨?s3, List.forall_mem_cons.2 ⟨?s4, List.forall_mem_cons.2 ⟨?s5, List.forall_mem_cons.2 ⟨?s6, List.forall_mem_cons.2 ⟨?s7, List.forall_mem_cons.2 ⟨?s8, List.forall_mem_cons.2 ⟨?s9, List.forall_mem_cons.2 ⟨?s10, List.forall_mem_cons.2 ⟨?s11, List.forall_mem_cons.2 ⟨?s12, List.forall_mem_cons.2 ⟨?s13, List.forall_mem_cons.2 ⟨?s14, List.forall_mem_cons.2 ⟨?s15, fun o ho => nomatch ho⟩⟩⟩⟩⟩⟩⟩⟩⟩⟩⟩⟩⟩⟩⟩⟩) ?e
  case s0 => exact sa_move (.tmp 8) 28 (.val (.int .i64 (c : Int))) (.inl rfl) rfl rfl (.old 8 _ (by decide) e8) rfl
  case s1 => exact sa_move (.tmp 5) 29 (.val (.slice ad n cap)) (.inl rfl) rfl rfl (.old 5 _ (by decide) e5) rfl
  case s2 => exact sa_len 24 (.tmp 29) 30 (.slice ad n cap) (.int .i64 (n : Int)) rfl rfl rfl (.new 29 (by kernel_rfl) (by rw [hz]; decide)) (by intro w; kernel_rfl) rfl
  case s3 => exact sa_bin .quo 3 (.const _) (.tmp 30) 3 31 (.int .i64 8) (.int .i64 (n : Int)) (.int .i64 (f : Int)) rfl rfl rfl (.const _) (.new 30 (by kernel_rfl) (by rw [hz]; decide)) guard_int (bin_quo (by omega) (by rw [← hf]; exact tdiv_nat 8 n)) rfl
  case s4 => exact sa_bin .neq 3 (.tmp 28) (.tmp 31) 3 32 (.int .i64 (c : Int)) (.int .i64 (f : Int)) (.bool true) rfl rfl rfl (.new 28 (by kernel_rfl) (by rw [hz]; decide)) (.new 31 (by kernel_rfl) (by rw [hz]; decide)) guard_int (bin_neq (decide_eq_true (by omega))) rfl
  case s5 => exact sa_move (.tmp 32) 33 (.val (.bool true)) (.inl rfl) rfl rfl (.new 32 (by kernel_rfl) (by rw [hz]; decide)) rfl
  case s6 => exact sa_guard 5 33 rfl rfl (by kernel_rfl) (by rw [hz]; decide) rfl (sa_move (.tmp 8) 34 (.val (.int .i64 (c : Int))) (.inl rfl) rfl rfl (.old 8 _ (by decide) e8) rfl)
  case s7 => exact sa_guard 5 33 rfl rfl (by kernel_rfl) (by rw [hz]; decide) rfl (sa_move (.tmp 5) 35 (.val (.slice ad n cap)) (.inl rfl) rfl rfl (.old 5 _ (by decide) e5) rfl)
  case s8 => exact sa_guard 5 33 rfl rfl (by kernel_rfl) (by rw [hz]; decide) rfl (sa_len 24 (.tmp 35) 36 (.slice ad n cap) (.int .i64 (n : Int)) rfl rfl rfl (.new 35 (by kernel_rfl) (by rw [hz]; decide)) (by intro w; kernel_rfl) rfl)
  case s9 => exact sa_guard 5 33 rfl rfl (by kernel_rfl) (by rw [hz]; decide) rfl (sa_bin .add 3 (.const _) (.tmp 36) 3 37 (.int .i64 8) (.int .i64 (n : Int)) (.int .i64 ((8 + n : Nat) : Int)) rfl rfl rfl (.const _) (.new 36 (by kernel_rfl) (by rw [hz]; decide)) guard_int (bin_add (by omega) (by omega) (by omega)) rfl)
  case s10 => exact sa_guard 5 33 rfl rfl (by kernel_rfl) (by rw [hz]; decide) rfl (sa_bin .sub 3 (.tmp 37) (.const _) 3 38 (.int .i64 ((8 + n : Nat) : Int)) (.int .i64 1) (.int .i64 ((8 + n - 1 : Nat) : Int)) rfl rfl rfl (.new 37 (by kernel_rfl) (by rw [hz]; decide)) (.const _) guard_int (bin_sub (by omega) (by omega) (by omega)) rfl)
  case s11 => exact sa_guard 5 33 rfl rfl (by kernel_rfl) (by rw [hz]; decide) rfl (sa_move (.tmp 5) 39 (.val (.slice ad n cap)) (.inl rfl) rfl rfl (.old 5 _ (by decide) e5) rfl)
  case s12 => exact sa_guard 5 33 rfl rfl (by kernel_rfl) (by rw [hz]; decide) rfl (sa_len 24 (.tmp 39) 40 (.slice ad n cap) (.int .i64 (n : Int)) rfl rfl rfl (.new 39 (by kernel_rfl) (by rw [hz]; decide)) (by intro w; kernel_rfl) rfl)
  case s13 => exact sa_guard 5 33 rfl rfl (by kernel_rfl) (by rw [hz]; decide) rfl (sa_bin .quo 3 (.tmp 38) (.tmp 40) 3 41 (.int .i64 ((8 + n - 1 : Nat) : Int)) (.int .i64 (n : Int)) (.int .i64 (e : Int)) rfl rfl rfl (.new 38 (by kernel_rfl) (by rw [hz]; decide)) (.new 40 (by kernel_rfl) (by rw [hz]; decide)) guard_int (bin_quo (by omega) (by rw [← he]; exact tdiv_nat (8 + n - 1) n)) rfl)
  case s14 => exact sa_guard 5 33 rfl rfl (by kernel_rfl) (by rw [hz]; decide) rfl (sa_bin .neq 3 (.tmp 34) (.tmp 41) 3 42 (.int .i64 (c : Int)) (.int .i64 (e : Int)) (.bool (decide (¬ (c : Int) = (e : Int)))) rfl rfl rfl (.new 34 (by kernel_rfl) (by rw [hz]; decide)) (.new 41 (by kernel_rfl) (by rw [hz]; decide)) guard_int (bin_neq rfl) rfl)
  case s15 => exact sa_pick (.tmp 33) (.tmp 42) (.const _) 43 (.val (.bool (decide (¬ (c : Int) = (e : Int))))) rfl rfl rfl (.new 33 (by kernel_rfl) (by rw [hz]; decide)) (.new 42 (by kernel_rfl) (by rw [hz]; decide)) rfl
  case e =>
  intro ac wz hA hgr hv
  exact wl_end (hend ac wz hA (hv 43 (by kernel_rfl) (by rw [hz]; decide)) hgr)
set_option maxRecDepth 100000 in
theorem r13_10 {Q : Exit → Act → World → Prop} {a0 : Act} {w : World} (hz : a0.tmps.size = 57) (n cap : Nat) (ad : Option Addr) (e5 : a0.eval (.tmp 5) = .slice ad n cap) (hend : ∀ ac wz, After [44, 45, 46] a0 ac → ac.eval (.tmp 46) = .bool (decide ((n : Int) = 0)) → Gr w wz → Q .normal ac wz) : (Code.region 10 q13_10 false).wp Try.prog Q a0 w := by
  refine seq_by (by kernel_rfl) 3 (by decide) [44, 45, 46] (fun | 44 => .val (.slice ad n cap) | 45 => .val (.int .i64 (n : Int)) | 46 => .val (.bool (decide ((n : Int) = 0))) | _ => .any) (by kernel_rfl) (List.forall_mem_cons.2 ⟨?s0, List.forall_mem_cons.2 ⟨?s1, List.forall_mem_cons.2 ⟨?s2, fun o ho => nomatch ho⟩⟩⟩) ?e
  case s0 => exact sa_move (.tmp 5) 44 (.val (.slice ad n cap)) (.inl rfl) rfl rfl (.old 5 _ (by decide) e5) rfl
  case s1 => exact sa_len 24 (.tmp 44) 45 (.slice ad n cap) (.int .i64 (n : Int)) rfl rfl rfl (.new 44 (by kernel_rfl) (by rw [hz]; decide)) (by intro w; kernel_rfl) rfl
  case s2 => exact sa_bin .eql 3 (.tmp 45) (.const _) 3 46 (.int .i64 (n : Int)) (.int .i64 0) (.bool (decide ((n : Int) = 0))) rfl rfl rfl (.new 45 (by kernel_rfl) (by rw [hz]; decide)) (.const _) guard_int (bin_eql rfl) rfl
  case e =>
  intro ac wz hA hgr hv
  exact wl_end (hend ac wz hA (hv 46 (by kernel_rfl) (by rw [hz]; decide)) hgr)
set_option maxRecDepth 100000 in
theorem r13_12 {Q : Exit → Act → World → Prop} {a0 : Act} {w : World} (hz : a0.tmps.size = 57) (k : Nat) (e9 : a0.eval (.tmp 9) = .int .i64 (k : Int)) (hend : ∀ ac wz, After [47, 48] a0 ac → ac.eval (.tmp 48) = .bool (decide ((k : Int) < 8)) → Gr w wz → Q .normal ac wz) : (Code.region 12 q13_12 false).wp Try.prog Q a0 w := by
  refine seq_by (by kernel_rfl) 2 (by decide) [47, 48] (fun | 47 => .val (.int .i64 (k : Int)) | 48 => .val (.bool (decide ((k : Int) < 8))) | _ => .any) (by kernel_rfl) (List.forall_mem_cons.2 ⟨?s0, List.forall_mem_cons.2 ⟨?s1, fun o ho => nomatch ho⟩⟩) ?e
  case s0 => exact sa_move (.tmp 9) 47 (.val (.int .i64 (k : Int))) (.inl rfl) rfl rfl (.old 9 _ (by decide) e9) rfl
  case s1 => exact sa_bin .lss 3 (.tmp 47) (.const _) 3 48 (.int .i64 (k : Int)) (.int .i64 8) (.bool (decide ((k : Int) < 8))) rfl rfl rfl (.new 47 (by kernel_rfl) (by rw [hz]; decide)) (.const _) guard_int (bin_lss rfl) rfl
  case e =>
  intro ac wz hA hgr hv
  exact wl_end (hend ac wz hA (hv 48 (by kernel_rfl) (by rw [hz]; decide)) hgr)
set_option maxRecDepth 100000 in
theorem r13_14 {Q : Exit → Act → World → Prop} {a0 : Act} {w : World} (hz : a0.tmps.size = 57) (b i : Nat) (y0 : Int) (hi : i < 8) (hO : ∀ y, Gr w y → y.cell? ⟨b, i, none⟩ = some (.int .i64 y0)) (e9 : a0.eval (.tmp 9) = .int .i64 (i : Int)) (e2 : a0.eval (.tmp 2) = .pointer (some ⟨b, 0, none⟩)) (hend : ∀ ac wz, After [51, 52, 53, 54] a0 ac → ac.eval (.tmp 54) = .bool (decide (y0 > 0)) → Gr w wz → Q .normal ac wz) : (Code.region 14 q13_14 false).wp Try.prog Q a0 w := by
  refine seq_by (by kernel_rfl) 4 (by decide) [51, 52, 53, 54] (fun | 51 => .val (.int .i64 (i : Int)) | 52 => .val (.pointer (some ⟨b, i, none⟩)) | 53 => .val (.int .i64 y0) | 54 => .val (.bool (decide (y0 > 0))) | _ => .any) (by kernel_rfl) (List.forall_mem_cons.2 ⟨?s0, List.forall_mem_cons.2 ⟨?s1, List.forall_mem_cons.2 ⟨?s2, List.forall_mem_cons.2 ⟨?s3, fun o ho => nomatch ho⟩⟩⟩⟩) ?e
  case s0 => exact sa_move (.tmp 9) 51 (.val (.int .i64 (i : Int))) (.inl rfl) rfl rfl (.old 9 _ (by decide) e9) rfl
  case s1 => exact sa_ixa 23 (.tmp 2) (.tmp 51) 52 (.pointer (some ⟨b, 0, none⟩)) (.int .i64 (i : Int)) (.pointer (some ⟨b, i, none⟩)) rfl rfl rfl (.old 2 _ (by decide) e2) (.new 51 (by kernel_rfl) (by rw [hz]; decide)) (ix_array (sz := 1) und23 (by intro w; kernel_rfl) (by omega) (by omega)) rfl
  case s2 => exact sa_loadc 3 (.tmp 52) 53 (b) (i) (.int .i64 y0) rfl rfl rfl (by intro w; kernel_rfl) (.new 52 (by kernel_rfl) (by rw [hz]; decide)) hO rfl
  case s3 => exact sa_bin .gtr 3 (.tmp 53) (.const _) 3 54 (.int .i64 y0) (.int .i64 0) (.bool (decide (y0 > 0))) rfl rfl rfl (.new 53 (by kernel_rfl) (by rw [hz]; decide)) (.const _) guard_int (bin_gtr rfl) rfl
  case e =>
  intro ac wz hA hgr hv
  exact wl_end (hend ac wz hA (hv 54 (by kernel_rfl) (by rw [hz]; decide)) hgr)
set_option maxRecDepth 100000 in
theorem r13_17 {Q : Exit → Act → World → Prop} {a0 : Act} {w : World} (hz : a0.tmps.size = 57) (s : Int) (e6 : a0.eval (.tmp 6) = .int .i64 s) (hend : ∀ ac wz, After [55, 56, 4] a0 ac → ac.eval (.tmp 4) = .bool (decide (s = 8)) → Gr w wz → Q .normal ac wz) : (Code.region 17 q13_17 false).wp Try.prog Q a0 w := by
  refine seq_by (by kernel_rfl) 3 (by decide) [55, 56, 4] (fun | 55 => .val (.int .i64 s) | 56 => .val (.bool (decide (s = 8))) | 4 => .val (.bool (decide (s = 8))) | _ => .any) (by kernel_rfl) (List.forall_mem_cons.2 ⟨?s0, List.forall_mem_cons.2 ⟨?s1, List.forall_mem_cons.2 ⟨?s2, fun o ho => nomatch ho⟩⟩⟩) ?e
  case s0 => exact sa_move (.tmp 6) 55 (.val (.int .i64 s)) (.inl rfl) rfl rfl (.old 6 _ (by decide) e6) rfl
  case s1 => exact sa_bin .eql 3 (.tmp 55) (.const _) 3 56 (.int .i64 s) (.int .i64 8) (.bool (decide (s = 8))) rfl rfl rfl (.new 55 (by kernel_rfl) (by rw [hz]; decide)) (.const _) guard_int (bin_eql rfl) rfl
  case s2 => exact sa_move (.tmp 56) 4 (.val (.bool (decide (s = 8)))) (.inr rfl) rfl rfl (.new 56 (by kernel_rfl) (by rw [hz]; decide)) rfl
  case e =>
  intro ac wz hA hgr hv
  exact wl_end (hend ac wz hA (hv 4 (by kernel_rfl) (by rw [hz]; decide)) hgr)
def c13_ra : Code := (((Code.region 4 q13_4 false).seq (Code.cond (Operand.tmp 15) Code.skip (Code.exit 0))).seq ((Code.block 1 ((Code.region 6 q13_6 true).seq ((Code.region 7 q13_7 false).seq ((Code.region 8 q13_8 false).seq (Code.cond (Operand.tmp 43) ((Code.region 9 q13_9 false).seq Code.ret) Code.skip))))).seq (Code.region 5 q13_5 false)))
def c13_la : Code := (Code.block 0 (c13_ra.loop))
def c13_rb : Code := (((Code.region 12 q13_12 false).seq (Code.cond (Operand.tmp 48) Code.skip (Code.exit 2))).seq ((Code.block 3 ((Code.region 14 q13_14 false).seq (Code.cond (Operand.tmp 54) ((Code.region 15 q13_15 false).seq Code.ret) Code.skip))).seq (Code.region 13 q13_13 false)))
def c13_lb : Code := (Code.block 2 (c13_rb.loop))
def c13_zero : Code := (((Code.region 11 q13_11 false).seq c13_lb).seq ((Code.region 16 q13_16 false).seq Code.ret))
def c13_fin : Code := ((Code.region 17 q13_17 false).seq Code.ret)
def c13_c10 : Code := ((Code.region 10 q13_10 false).seq (Code.cond (Operand.tmp 46) c13_zero Code.skip))
def c13 : Code := ((Code.region 0 q13_0 false).seq ((Code.region 1 q13_1 false).seq ((Code.region 2 q13_2 false).seq (((Code.region 3 q13_3 false).seq c13_la).seq (c13_c10.seq c13_fin)))))
theorem walk_none (o : List Int) : ∀ i, i ≤ 8 → ((walkUp o 0 i).length = 0 ↔ ∀ j, j < i → ¬ 0 < o.getD j 0)
  | 0, _ => ⟨fun _ j hj => absurd hj (Nat.not_lt_zero _), fun _ => rfl⟩
  | i + 1, h => by
    have ih := walk_none o i (by omega)
    show (addN (walkUp o 0 i) (o.getD ((0 + i) % 8) 0)).length = 0 ↔ _
    rw [Nat.zero_add, Nat.mod_eq_of_lt (by omega)]
    constructor
    · intro h0 j hj
      have hle : (walkUp o 0 i).length ≤ (addN (walkUp o 0 i) (o.getD i 0)).length := by unfold addN; split <;> simp
      have h1 := ih.1 (by omega)
      by_cases e : j = i
      · subst e
        intro hp
        have hnil : walkUp o 0 j = [] := List.eq_nil_of_length_eq_zero (by omega)
        rw [hnil] at h0
        unfold addN at h0
        rw [if_pos ⟨hp, by simp⟩] at h0
        simp at h0
      · exact h1 j (by omega)
    · intro hj
      have h1 := ih.2 (fun j hj' => hj j (by omega))
      have h2 := hj i (by omega)
      unfold addN
      rw [if_neg (fun q => h2 q.1)]
      exact h1
theorem div_of {n : Nat} {q c : Int} (hc0 : 0 ≤ c) (hcn : c < n) (h : 8 = (n : Int) * q + c) : (8 : Int) / (n : Int) = q := by
  rw [h, Int.add_comm, Int.add_mul_ediv_left _ _ (by omega), Int.ediv_eq_zero_of_lt hc0 hcn, Int.zero_add]
theorem ceil_of {n : Nat} {q c : Int} (hc0 : 0 < c) (hcn : c ≤ n) (h : 8 = (n : Int) * q + c) : (8 + (n : Int) - 1) / (n : Int) = q + 1 := by
  have e : 8 + (n : Int) - 1 = (c - 1) + (n : Int) * (q + 1) := by rw [Int.mul_add]; omega
  rw [e, Int.add_mul_ediv_left _ _ (by omega), Int.ediv_eq_zero_of_lt (by omega) (by omega), Int.zero_add]
/-- What is balanced has the least share, or the greatest. -/
theorem bal_two {t : List Int} (ht : 0 < t.length) (hb : balT t = true) : ∀ x ∈ t, x = 8 / (t.length : Int) ∨ x = (8 + (t.length : Int) - 1) / (t.length : Int) := by
  unfold balT at hb
  rw [Bool.and_eq_true] at hb
  have h1 := of_decide_eq_true hb.1
  have h2 := of_decide_eq_true hb.2
  unfold Lib.maxOf Lib.minOf at h2
  obtain ⟨_, lo⟩ := foldl_min_le t (t.headD 0)
  obtain ⟨_, hi⟩ := foldl_max_le t (t.headD 0)
  generalize t.foldl min (t.headD 0) = q at *
  have hq : ∀ x ∈ t, x = q ∨ x = q + 1 := fun x hx => by have := lo x hx; have := hi x hx; omega
  have hs := sum_two q t hq
  rw [h1] at hs
  have hcl : t.countP (fun x => decide (x = q + 1)) ≤ t.length := List.countP_le_length
  intro x hx
  by_cases hc : t.countP (fun x => decide (x = q + 1)) = t.length
  · have hall := List.countP_eq_length.1 hc x hx
    have hx1 : x = q + 1 := of_decide_eq_true hall
    left
    have e : (8 : Int) = (t.length : Int) * (q + 1) + 0 := by rw [Int.mul_add]; omega
    rw [hx1]
    exact (div_of (Int.le_refl 0) (by omega) e).symm
  · have hlt : t.countP (fun x => decide (x = q + 1)) < t.length := by omega
    rcases hq x hx with e | e
    · left
      rw [e]
      exact (div_of (by omega) (by omega) hs).symm
    · right
      have hpos : 0 < t.countP (fun x => decide (x = q + 1)) := List.countP_pos_iff.2 ⟨x, hx, by simp [e]⟩
      rw [e]
      exact (ceil_of (by omega) (by omega) hs).symm
theorem two_bal {t : List Int} (ht : 0 < t.length) (h : ∀ x ∈ t, x = 8 / (t.length : Int) ∨ x = (8 + (t.length : Int) - 1) / (t.length : Int)) : balT t = decide (t.sum = 8) := by
  have hce : (8 + (t.length : Int) - 1) / (t.length : Int) = 8 / (t.length : Int) ∨ (8 + (t.length : Int) - 1) / (t.length : Int) = 8 / (t.length : Int) + 1 := by
    have e1 := Int.emod_add_mul_ediv 8 (t.length : Int)
    have e2 := Int.emod_nonneg 8 (show (t.length : Int) ≠ 0 by omega)
    have e3 := Int.emod_lt_of_pos 8 (show 0 < (t.length : Int) by omega)
    generalize hr : (8 : Int) % (t.length : Int) = r at *
    generalize hq : (8 : Int) / (t.length : Int) = q at *
    by_cases hz : r = 0
    · left
      have e : 8 + (t.length : Int) - 1 = ((t.length : Int) - 1) + (t.length : Int) * q := by omega
      rw [e, Int.add_mul_ediv_left _ _ (by omega), Int.ediv_eq_zero_of_lt (by omega) (by omega), Int.zero_add]
    · right
      exact ceil_of (c := r) (by omega) (by omega) (by omega)
  obtain ⟨x, l, hx⟩ : ∃ x l, t = x :: l := by
    cases t with
    | nil => simp at ht
    | cons x l => exact ⟨x, l, rfl⟩
  generalize (8 : Int) / (t.length : Int) = f at h hce
  generalize (8 + (t.length : Int) - 1) / (t.length : Int) = ce at h hce
  have hm : ∀ y ∈ t, y = f ∨ y = f + 1 := fun y hy => by rcases h y hy with e | e <;> omega
  have h1 : Lib.maxOf t = f ∨ Lib.maxOf t = f + 1 := by rw [hx] at hm ⊢; exact fold_two _ max (fun a b => by omega) (x :: l) x (hm x (by simp)) hm
  have h2 : Lib.minOf t = f ∨ Lib.minOf t = f + 1 := by rw [hx] at hm ⊢; exact fold_two _ min (fun a b => by omega) (x :: l) x (hm x (by simp)) hm
  unfold balT
  rw [decide_eq_true (show Lib.maxOf t - Lib.minOf t ≤ 1 by omega), Bool.and_true]
structure Bs (w : World) (b C : Nat) (v5 : Value) (o M : List Int) (ac : Act) (x : World) : Prop where
  z : ac.tmps.size = 57
  df : ac.defers = []
  e2 : ac.eval (.tmp 2) = .pointer (some ⟨b, 0, none⟩)
  e5 : ac.eval (.tmp 5) = v5
  bl : Below b w x
  h2 : Holds x b (intV o) 23
  i5 : Ints C x v5 M
  hC : C ≤ x.heap.size
theorem Bs.gr {w x y : World} {b C : Nat} {v5 : Value} {o M : List Int} {ac ad : Act} {D : List Nat} (h : Bs w b C v5 o M ac x) (hA : After D ac ad) (hD : (D.all fun s => decide (6 ≤ s ∨ s = 4)) = true) (g : Gr x y) : Bs w b C v5 o M ad y := by
  have hn : ∀ s, s = 2 ∨ s = 5 → s ∉ D := fun s hs q => by have := List.all_eq_true.1 hD s q; simp at this; omega
  exact ⟨hA.size.trans h.z, hA.defers.trans h.df, (hA.old 2 (hn 2 (.inl rfl))).trans h.e2, (hA.old 5 (hn 5 (.inr rfl))).trans h.e5, h.bl.trans (g.mono (Nat.le_of_lt h.h2.lt)), h.h2.below g h.h2.lt, h.i5.below (g.mono h.hC), Nat.le_trans h.hC g.size⟩
abbrev rbPost (w : World) (res : Bool) : Exit → Act → World → Prop := bodyPost Try.prog Try.f13 fun e z => e = .returned (.bool res) ∧ Gr w z
theorem rb_ret {w x : World} {b C : Nat} {v5 : Value} {o M : List Int} {ac : Act} {res : Bool} (h : Bs w b C v5 o M ac x) (hb : w.heap.size = b) (e4 : ac.eval (.tmp 4) = .bool res) : rbPost w res .ret ac x :=
  bodyPost_ret (results_tmp rfl _ _ _) h.df ⟨congrArg Ending.returned e4, by unfold Gr; rw [hb]; exact h.bl⟩
theorem rbal_la {w x : World} {Kn : Act → World → Prop} {b C : Nat} {v5 : Value} {o M : List Int} {ac : Act} {res : Bool} (hwb : w.heap.size = b) (ho : o.length = 8) (hM : M.Pairwise (· < ·)) (hp : ∀ x ∈ M, 0 < x) (hl : M.length ≤ 17592186043904) (h : Bs w b C v5 o M ac x) (e6 : ac.eval (.tmp 6) = .int .i64 ((tallyI M.length (o.map (findI M))).take 0).sum) (e7 : ac.eval (.tmp 7) = .int .i64 ((0 : Nat) : Int))
    (hres : 0 < M.length → res = balT (tallyI M.length (o.map (findI M))))
    (hend : ∀ ad y, Bs w b C v5 o M ad y → ad.eval (.tmp 6) = .int .i64 (tallyI M.length (o.map (findI M))).sum → (∀ x ∈ tallyI M.length (o.map (findI M)), x = 8 / (M.length : Int) ∨ x = (8 + (M.length : Int) - 1) / (M.length : Int)) → Kn ad y) : c13_la.wp Try.prog (Exit.then Kn (rbPost w res)) ac x := by
  obtain ⟨a5, cap5, hv5⟩ := h.i5.len
  have htl : (tallyI M.length (o.map (findI M))).length = M.length := tallyI_len _ _
  have hr8 : R8 (tallyI M.length (o.map (findI M))) := tallyI_R8 _ _ (by simpa using ho)
  have hts := fun k => sum_take hr8 k
  have hown := fun k hk => own_tally hM hp ho k hk
  have hbt := @bal_two (tallyI M.length (o.map (findI M)))
  rw [htl] at hbt
  generalize tallyI M.length (o.map (findI M)) = t at *
  unfold c13_la
  refine wp_block ?_
  refine wp_loop (fun ad y => ∃ k : Nat, Bs w b C v5 o M ad y ∧ k ≤ M.length ∧ ad.eval (.tmp 7) = .int .i64 (k : Int) ∧ ad.eval (.tmp 6) = .int .i64 (t.take k).sum ∧ (∀ j, j < k → t.getD j 0 = 8 / (M.length : Int) ∨ t.getD j 0 = (8 + (M.length : Int) - 1) / (M.length : Int))) (fun ad _ => M.length - (intOf (ad.eval (.tmp 7))).toNat)
    ⟨0, h, Nat.zero_le _, e7, e6, fun j hj => absurd hj (Nat.not_lt_zero _)⟩ (fun a0 x0 ⟨k, h0, hk, f7, f6, hall⟩ => ?_)
  unfold c13_ra
  refine wp_seq (wp_seq (r13_4 h0.z k M.length cap5 a5 f7 (by rw [h0.e5, hv5]) (fun a2 x2 A2 o2 G2 => ?_)))
  have h2 := h0.gr A2 (by decide) G2
  have g6 := A2.get f6 (by decide)
  have g7 := A2.get f7 (by decide)
  show Code.wp Try.prog (Code.cond _ _ _) _ a2 x2
  refine wp_cond_split o2 (fun q => ?_) (fun q => ?_)
  · have q : (k : Int) < (M.length : Int) := of_decide_eq_true q
    have hkl : k < M.length := by omega
    have hM0 : 0 < M.length := by omega
    obtain ⟨g, of, cap, hv, hgb, hc⟩ := ints_at h2.i5 k hkl
    have hcn := hown k hkl
    obtain ⟨cn, hcn'⟩ : ∃ cn, (ownedL o (M.getD k 0)).length = cn := ⟨_, rfl⟩
    rw [hcn'] at hcn
    have hst : (t.take (k + 1)).sum = (t.take k).sum + cn := by
      rw [List.take_succ_eq_append_getElem (by omega), List.sum_append]
      have : t[k]'(by omega) = t.getD k 0 := by simp [List.getD_eq_getElem?_getD, show k < t.length by omega]
      rw [this, hcn]; simp
    obtain ⟨s0, s1⟩ := hts (k + 1)
    rw [hst] at s0 s1
    refine wp_skip ?_
    show Code.wp Try.prog (Code.seq _ _) _ a2 x2
    refine wp_seq (wp_block ?_)
    refine wp_seq (r13_6 h2.z b g of M.length cap k cn _ o (by rw [intV_len, ho]) h2.h2 hkl (fun y hy => cell_below (hy.mono h2.hC) hgb hc) (fun y _ => by have := own_len o ho (M.getD k 0) y; rw [hcn'] at this; exact this) h2.e2 (by rw [h2.e5, hv]) g7 (fun a3 x3 A3 o8 G3 => ?_))
    have h3 := h2.gr A3 (by decide) G3
    show Code.wp Try.prog (Code.seq _ _) _ a3 x3
    refine wp_seq (r13_7 h3.z _ cn s0 (by omega) (A3.get g6 (by decide)) o8 (fun a4 x4 A4 o6 G4 => ?_))
    have h4 := h3.gr A4 (by decide) G4
    have k7 := A4.get (A3.get g7 (by decide)) (by decide)
    have k8 := A4.get o8 (by decide)
    have fin : ∀ a6 x6, Bs w b C v5 o M a6 x6 → a6.eval (.tmp 7) = .int .i64 (k : Int) → a6.eval (.tmp 6) = .int .i64 (t.take (k + 1)).sum → (t.getD k 0 = 8 / (M.length : Int) ∨ t.getD k 0 = (8 + (M.length : Int) - 1) / (M.length : Int)) → (Code.region 5 q13_5 false).wp Try.prog (Exit.then (fun a' w' => (∃ k : Nat, Bs w b C v5 o M a' w' ∧ k ≤ M.length ∧ a'.eval (.tmp 7) = .int .i64 (k : Int) ∧ a'.eval (.tmp 6) = .int .i64 (t.take k).sum ∧ (∀ j, j < k → t.getD j 0 = 8 / (M.length : Int) ∨ t.getD j 0 = (8 + (M.length : Int) - 1) / (M.length : Int))) ∧ M.length - (intOf (a'.eval (.tmp 7))).toNat < M.length - (intOf (a0.eval (.tmp 7))).toNat) (Exit.inBlock 0 (Exit.then Kn (rbPost w res)))) a6 x6 := fun a6 x6 h6 m7 m6 ht => by
      refine r13_5 h6.z k (by omega) m7 (fun a7 x7 A7 o7 G7 => ?_)
      refine ⟨⟨k + 1, h6.gr A7 (by decide) G7, by omega, o7, A7.get m6 (by decide), fun j hj => ?_⟩, ?_⟩
      · by_cases e : j = k
        · subst e; exact ht
        · exact hall j (by omega)
      · rw [o7, f7]
        simp only [intOf]
        omega
    have hdv : ((8 / M.length : Nat) : Int) = 8 / (M.length : Int) := rfl
    have hcv : (((8 + M.length - 1) / M.length : Nat) : Int) = (8 + (M.length : Int) - 1) / (M.length : Int) := by
      rw [Int.natCast_ediv]
      congr 1
      omega
    show Code.wp Try.prog (Code.seq _ _) _ a4 x4
    by_cases h1 : cn = 8 / M.length
    · refine wp_seq (r13_8f h4.z M.length cap5 cn _ a5 hM0 rfl h1 k8 (by rw [h4.e5, hv5]) (fun a5' x5 A5 o43 G5 => ?_))
      show Code.wp Try.prog (Code.cond _ _ _) _ a5' x5
      refine wp_cond_split o43 (fun q' => by cases q') (fun _ => wp_skip ?_)
      refine fin a5' x5 (h4.gr A5 (by decide) G5) (A5.get k7 (by decide)) (by rw [hst]; exact A5.get o6 (by decide)) (.inl ?_)
      rw [hcn, h1]; rfl
    · refine wp_seq (r13_8t h4.z M.length cap5 cn _ a5 hM0 rfl _ hl rfl h1 k8 (by rw [h4.e5, hv5]) (fun a5' x5 A5 o43 G5 => ?_))
      have h5 := h4.gr A5 (by decide) G5
      show Code.wp Try.prog (Code.cond _ _ _) _ a5' x5
      refine wp_cond_split o43 (fun q' => ?_) (fun q' => ?_)
      · have q' := of_decide_eq_true q'
        refine wp_seq (r13_9 h5.z (fun a6 x6 A6 o4 G6 => ?_))
        have hrf : res = false := by
          rw [hres hM0]
          cases hb : balT t with
          | false => rfl
          | true =>
            exfalso
            have hm : t.getD k 0 ∈ t := by
              rw [List.getD_eq_getElem?_getD, List.getElem?_eq_getElem (by omega)]
              exact List.getElem_mem _
            rcases hbt hM0 hb _ hm with e | e
            · rw [hcn] at e; omega
            · rw [hcn] at e; omega
        rw [← hrf] at o4
        exact wp_ret (rb_ret (h5.gr A6 (by decide) G6) hwb o4)
      · have q' := of_decide_eq_false q'
        have q' : (cn : Int) = _ := Classical.not_not.1 q'
        refine wp_skip ?_
        refine fin a5' x5 h5 (A5.get k7 (by decide)) (by rw [hst]; exact A5.get o6 (by decide)) (.inr ?_)
        rw [hcn, q']; exact hcv
  · have q : ¬ (k : Int) < (M.length : Int) := of_decide_eq_false q
    obtain rfl : k = M.length := by omega
    rw [List.take_of_length_le (by omega)] at g6
    refine wp_exit (hend a2 x2 h2 g6 (fun y hy => ?_))
    obtain ⟨j, hj, rfl⟩ := List.getElem_of_mem hy
    have := hall j (by omega)
    rw [List.getD_eq_getElem?_getD, List.getElem?_eq_getElem hj] at this
    exact this
theorem rbal_zero {Q : Exit → Act → World → Prop} {w x : World} {b C : Nat} {v5 : Value} {o M : List Int} {ac : Act} (hwb : w.heap.size = b) (ho : o.length = 8) (h : Bs w b C v5 o M ac x) (hQ : ∀ a y, rbPost w (decide ((walkL o 0).length = 0)) .ret a y → Q .ret a y) : c13_zero.wp Try.prog Q ac x := by
  have hw : (walkL o 0).length = 0 ↔ ∀ j, j < 8 → ¬ 0 < o.getD j 0 := walk_none o 8 (Nat.le_refl _)
  unfold c13_zero
  refine wp_seq (wp_seq (r13_11 h.z (fun a1 x1 A1 o9 G1 => ?_)))
  have h1 := h.gr A1 (by decide) G1
  show Code.wp Try.prog c13_lb _ a1 x1
  unfold c13_lb
  refine wp_block ?_
  refine wp_loop (fun ad y => ∃ i : Nat, Bs w b C v5 o M ad y ∧ i ≤ 8 ∧ ad.eval (.tmp 9) = .int .i64 (i : Int) ∧ ∀ j, j < i → ¬ 0 < o.getD j 0) (fun ad _ => 8 - (intOf (ad.eval (.tmp 9))).toNat)
    ⟨0, h1, by omega, o9, fun j hj => absurd hj (Nat.not_lt_zero _)⟩ (fun a0 x0 ⟨i, h0, hi, f9, hall⟩ => ?_)
  unfold c13_rb
  refine wp_seq (wp_seq (r13_12 h0.z i f9 (fun a2 x2 A2 o2 G2 => ?_)))
  have h2 := h0.gr A2 (by decide) G2
  have g9 := A2.get f9 (by decide)
  show Code.wp Try.prog (Code.cond _ _ _) _ a2 x2
  refine wp_cond_split o2 (fun q => ?_) (fun q => ?_)
  · have q : (i : Int) < 8 := of_decide_eq_true q
    have hi8 : i < 8 := by omega
    refine wp_skip ?_
    show Code.wp Try.prog (Code.seq _ _) _ a2 x2
    refine wp_seq (wp_block ?_)
    refine wp_seq (r13_14 h2.z b i _ hi8 (fun y hy => (h2.h2.below hy h2.h2.lt).at i _ (intV_at o i (by omega))) g9 h2.e2 (fun a3 x3 A3 o54 G3 => ?_))
    have h3 := h2.gr A3 (by decide) G3
    show Code.wp Try.prog (Code.cond _ _ _) _ a3 x3
    refine wp_cond_split o54 (fun q' => ?_) (fun q' => ?_)
    · have q' : o.getD i 0 > 0 := of_decide_eq_true q'
      refine wp_seq (r13_15 h3.z (fun a4 x4 A4 o4 G4 => ?_))
      have hrf : false = decide ((walkL o 0).length = 0) := by
        rw [decide_eq_false (fun e => hw.1 e i hi8 q')]
      rw [hrf] at o4
      exact wp_ret (hQ _ _ (rb_ret (h3.gr A4 (by decide) G4) hwb o4))
    · have q' : ¬ o.getD i 0 > 0 := of_decide_eq_false q'
      refine wp_skip ?_
      show Code.wp Try.prog (Code.region 13 q13_13 false) _ a3 x3
      refine r13_13 h3.z i (by omega) (A3.get g9 (by decide)) (fun a5 x5 A5 o5 G5 => ?_)
      refine ⟨⟨i + 1, h3.gr A5 (by decide) G5, by omega, o5, fun j hj => ?_⟩, ?_⟩
      · by_cases e : j = i
        · subst e; exact q'
        · exact hall j (by omega)
      · rw [o5, f9]
        simp only [intOf]
        omega
  · have q : ¬ (i : Int) < 8 := of_decide_eq_false q
    obtain rfl : i = 8 := by omega
    refine wp_exit ?_
    show Code.wp Try.prog (Code.seq _ Code.ret) _ a2 x2
    refine wp_seq (r13_16 h2.z (fun a4 x4 A4 o4 G4 => ?_))
    have hrt : true = decide ((walkL o 0).length = 0) := by rw [decide_eq_true (hw.2 hall)]
    rw [hrt] at o4
    exact wp_ret (hQ _ _ (rb_ret (h2.gr A4 (by decide) G4) hwb o4))
theorem rbalanced_any (v1 : Value) (o ms : List Int) (w : World) (ho : o.length = 8) (hm : Ints w.heap.size w v1 ms) (hl : ms.length ≤ 17592186043904) :
    Calls Try.prog 13 #[.agg (intV o).toArray, v1] w fun e z => e = .returned (.bool (balL o ms)) ∧ Gr w z := by
  obtain ⟨b, hwb⟩ : ∃ b, w.heap.size = b := ⟨_, rfl⟩
  rw [hwb] at hm
  obtain ⟨hM, hmem⟩ := risen_facts ms
  have hp : ∀ x ∈ risenL ms, 0 < x := fun x hx => ((hmem x).1 hx).2
  have hml : (risenL ms).length ≤ 17592186043904 := by
    have h1 : (risenL ms).length ≤ (sortL (posL ms)).length := by
      unfold risenL Lib.compact Lib.compactUpTo
      rw [List.length_map]
      exact Nat.le_trans (List.length_filter_le ..) (by simp)
    have h2 := posL_len ms
    rw [sortL_len] at h1
    omega
  have hbl : balL o ms = if (risenL ms).length = 0 then decide ((walkL o 0).length = 0) else balT (tallyI (risenL ms).length (o.map (findI (risenL ms)))) := rfl
  have hth : ∀ y, Below b w y → b ≤ y.heap.size → Calls Try.prog 24 #[v1] y fun e z => ∃ u, e = .returned u ∧ Gr y z ∧ (intsF (risenL ms)).holds u z := fun y hy hb => (those_any v1 ms y ((hm.below hy).mono hb) hl).mono fun e z ⟨u, p1, p2, p3⟩ => ⟨u, p1, p3, p2⟩
  generalize risenL ms = M at *
  generalize balL o ms = res at *
  refine calls_by (c := c13) Try.func13 (by kernel_rfl) 57 (by rw [Try.ntmps13]; rfl) (fun ac z df hv => ?_)
  have e0 := hv 0 _ rfl
  have e1 := hv 1 _ rfl
  clear hv
  show c13.wp Try.prog (rbPost w res) ac w
  unfold c13
  refine wp_seq (r13_0 z b hwb o e0 (fun a1 x1 A1 o2 N1 => ?_))
  have z1 := A1.size.trans z
  show Code.wp Try.prog (Code.seq _ _) _ a1 x1
  refine wp_seq (r13_1 z1 v1 M (fun y hy => hth y (N1.below.trans (hy.mono (by rw [N1.size]; omega))) (by have := hy.size; have := N1.size; omega)) (A1.get e1 (by decide)) (fun a2 x2 A2 i5 G2 => ?_))
  generalize he5 : a2.eval (.tmp 5) = v5 at i5
  have i5' : Ints x2.heap.size x2 v5 M := i5
  have h2 : Bs w b x2.heap.size v5 o M a2 x2 := ⟨A2.size.trans z1, A2.defers.trans (A1.defers.trans df), A2.get o2 (by decide), he5, N1.below.trans (Below.mono G2 (by rw [N1.size]; omega)), N1.holds.below G2 N1.holds.lt, i5', Nat.le_refl _⟩
  show Code.wp Try.prog (Code.seq _ _) _ a2 x2
  refine wp_seq (r13_2 h2.z (fun a3 x3 A3 o6 G3 => ?_))
  have h3 := h2.gr A3 (by decide) G3
  show Code.wp Try.prog (Code.seq (Code.seq _ c13_la) _) _ a3 x3
  refine wp_seq (wp_seq (r13_3 h3.z (fun a4 x4 A4 o7 G4 => ?_)))
  have h4 := h3.gr A4 (by decide) G4
  show Code.wp Try.prog c13_la _ a4 x4
  refine rbal_la (res := res) hwb ho hM hp hml h4 (A4.get o6 (by decide)) o7 (fun hn => by rw [hbl, if_neg (by omega)]) (fun a5 x5 h5 k6 hall => ?_)
  obtain ⟨ad5, cap5, hv5⟩ := h5.i5.len
  show Code.wp Try.prog (Code.seq c13_c10 c13_fin) _ a5 x5
  unfold c13_c10
  refine wp_seq (wp_seq (r13_10 h5.z M.length cap5 ad5 (by rw [h5.e5, hv5]) (fun a6 x6 A6 o46 G6 => ?_)))
  have h6 := h5.gr A6 (by decide) G6
  show Code.wp Try.prog (Code.cond _ _ _) _ a6 x6
  refine wp_cond_split o46 (fun q => ?_) (fun q => ?_)
  · have q : (M.length : Int) = 0 := of_decide_eq_true q
    rw [if_pos (by omega)] at hbl
    refine rbal_zero hwb ho h6 (fun a y hq => ?_)
    rw [← hbl] at hq
    exact hq
  · have q : ¬ (M.length : Int) = 0 := of_decide_eq_false q
    refine wp_skip ?_
    show Code.wp Try.prog c13_fin _ a6 x6
    unfold c13_fin
    refine wp_seq (r13_17 h6.z _ (A6.get k6 (by decide)) (fun a7 x7 A7 o4 G7 => ?_))
    have htl : (tallyI M.length (o.map (findI M))).length = M.length := tallyI_len _ _
    have h9 := two_bal (t := tallyI M.length (o.map (findI M))) (by omega) (by rw [htl]; exact hall)
    rw [if_neg (by omega), h9] at hbl
    rw [← hbl] at o4
    exact wp_ret (rb_ret (h6.gr A7 (by decide) G7) hwb o4)
end Go.Proofs.Ytlliijodilnlgaa
