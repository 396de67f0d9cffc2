/- The document's own quotas (25): regions and code by tools/gen_quot.py. -/
import Derived.Test.YtlliijodilnlgaaRgRcT
namespace Go.Proofs.Ytlliijodilnlgaa
open Go.RowKit
theorem bin_quo {P : Program} {t : TypeId} {x y z : Int} (hy : y ≠ 0) (h : x.tdiv y = z) (hx : 0 ≤ x := by omega) (hy0 : 0 ≤ y := by omega) (hxb : x < 9223372036854775808 := by omega) : ∀ w, (binOp .quo t (.int .i64 x) (.int .i64 y)).run P w = .ok (.int .i64 z) w := by
  intro w
  subst h
  have h1 : 0 ≤ x.tdiv y := Int.tdiv_nonneg hx hy0
  have h2 : x.tdiv y ≤ x := Int.tdiv_le_self y hx
  have e : IntKind.i64.wrap (x.tdiv y) = x.tdiv y := wrap_in (by omega) (by omega)
  simp [binOp, Op.intDiv, hy, e]
theorem tdiv_nat (q n : Nat) : ((q : Int)).tdiv (n : Int) = ((q / n : Nat) : Int) := by
  rw [Int.tdiv_eq_ediv_of_nonneg (by omega)]; rfl
def q25_0 : Array Oper := #[{ dst := some 2, op := Op.box 23 (Operand.tmp 0), type := 0, pos := "ref.go:111", after := #[], guard := none }, { dst := some 4, op := Op.assign (Operand.const (Value.slice none 0 0)), type := 24, pos := "ref.go:111", after := #[], guard := none }]
def q25_1 : Array Oper := #[{ dst := some 5, op := Op.assign (Operand.const (Value.slice none 0 0)), type := 24, pos := "ref.go:112", after := #[], guard := none }]
def q25_2 : Array Oper := #[{ dst := some 6, op := Op.assign (Operand.const (Value.int IntKind.i64 0)), type := 3, pos := "ref.go:113", after := #[], guard := none }]
def q25_3 : Array Oper := #[{ dst := some 12, op := Op.move (Operand.tmp 6), type := 3, pos := "ref.go:113", after := #[], guard := none }, { dst := some 13, op := Op.move (Operand.tmp 1), type := 24, pos := "ref.go:113", after := #[], guard := none }, { dst := some 14, op := Op.call { callee := Callee.builtin Builtin.len, args := #[Operand.tmp 13], argTypes := #[24] }, type := 3, pos := "ref.go:113", after := #[{ on := 1, ground := Ground.data }], guard := none }, { dst := some 15, op := Op.binOp BinOp.lss 3 (Operand.tmp 12) (Operand.tmp 14) 3, type := 4, pos := "ref.go:113", after := #[{ on := 0, ground := Ground.data }, { on := 2, ground := Ground.data }], guard := none }]
def q25_4 : Array Oper := #[{ dst := some 16, op := Op.move (Operand.tmp 6), type := 3, pos := "ref.go:113", after := #[], guard := none }, { dst := some 17, op := Op.binOp BinOp.add 3 (Operand.tmp 16) (Operand.const (Value.int IntKind.i64 1)) 3, type := 3, pos := "ref.go:113", after := #[{ on := 0, ground := Ground.data }], guard := none }, { dst := some 6, op := Op.assign (Operand.tmp 17), type := 3, pos := "ref.go:113", after := #[{ on := 1, ground := Ground.data }, { on := 0, ground := Ground.phase }, { on := 1, ground := Ground.phase }], guard := none }]
def q25_5 : Array Oper := #[{ dst := some 7, op := Op.assign (Operand.const (Value.int IntKind.i64 0)), type := 3, pos := "ref.go:114", after := #[], guard := none }]
def q25_6 : Array Oper := #[{ dst := some 8, op := Op.assign (Operand.const (Value.int IntKind.i64 0)), type := 3, pos := "ref.go:115", after := #[], guard := none }]
def q25_7 : Array Oper := #[{ dst := some 18, op := Op.move (Operand.tmp 8), type := 3, pos := "ref.go:115", after := #[], guard := none }, { dst := some 19, op := Op.move (Operand.tmp 1), type := 24, pos := "ref.go:115", after := #[], guard := none }, { dst := some 20, op := Op.call { callee := Callee.builtin Builtin.len, args := #[Operand.tmp 19], argTypes := #[24] }, type := 3, pos := "ref.go:115", after := #[{ on := 1, ground := Ground.data }], guard := none }, { dst := some 21, op := Op.binOp BinOp.lss 3 (Operand.tmp 18) (Operand.tmp 20) 3, type := 4, pos := "ref.go:115", after := #[{ on := 0, ground := Ground.data }, { on := 2, ground := Ground.data }], guard := none }]
def q25_8 : Array Oper := #[{ dst := some 22, op := Op.move (Operand.tmp 8), type := 3, pos := "ref.go:115", after := #[], guard := none }, { dst := some 23, op := Op.binOp BinOp.add 3 (Operand.tmp 22) (Operand.const (Value.int IntKind.i64 1)) 3, type := 3, pos := "ref.go:115", after := #[{ on := 0, ground := Ground.data }], guard := none }, { dst := some 8, op := Op.assign (Operand.tmp 23), type := 3, pos := "ref.go:115", after := #[{ on := 1, ground := Ground.data }, { on := 0, ground := Ground.phase }, { on := 1, ground := Ground.phase }], guard := none }]
def q25_9 : Array Oper := #[{ dst := some 24, op := Op.load 23 (Operand.tmp 2), type := 23, pos := "ref.go:116", after := #[], guard := none }, { dst := some 25, op := Op.move (Operand.tmp 1), type := 24, pos := "ref.go:116", after := #[], guard := none }, { dst := some 26, op := Op.move (Operand.tmp 8), type := 3, pos := "ref.go:116", after := #[], guard := none }, { dst := some 27, op := Op.indexAddr 24 (Operand.tmp 25) (Operand.tmp 26), type := 0, pos := "ref.go:116", after := #[{ on := 1, ground := Ground.data }, { on := 2, ground := Ground.data }], guard := none }, { dst := some 28, op := Op.load 3 (Operand.tmp 27), type := 3, pos := "ref.go:116", after := #[{ on := 3, ground := Ground.data }], guard := none }, { dst := some 29, op := Op.call { callee := Callee.value (Operand.func 29), args := #[Operand.tmp 24, Operand.tmp 28], argTypes := #[23, 3] }, type := 24, pos := "ref.go:116", after := #[{ on := 0, ground := Ground.data }, { on := 4, ground := Ground.data }], guard := none }, { dst := some 30, op := Op.call { callee := Callee.builtin Builtin.len, args := #[Operand.tmp 29], argTypes := #[24] }, type := 3, pos := "ref.go:116", after := #[{ on := 5, ground := Ground.data }], guard := none }, { dst := some 9, op := Op.assign (Operand.tmp 30), type := 3, pos := "ref.go:116", after := #[{ on := 6, ground := Ground.data }, { on := 5, ground := Ground.chain }, { on := 0, ground := Ground.phase }, { on := 1, ground := Ground.phase }, { on := 2, ground := Ground.phase }, { on := 3, ground := Ground.phase }, { on := 4, ground := Ground.phase }, { on := 5, ground := Ground.phase }, { on := 6, ground := Ground.phase }], guard := none }]
def q25_10 : Array Oper := #[{ dst := some 31, op := Op.load 23 (Operand.tmp 2), type := 23, pos := "ref.go:117", after := #[], guard := none }, { dst := some 32, op := Op.move (Operand.tmp 1), type := 24, pos := "ref.go:117", after := #[], guard := none }, { dst := some 33, op := Op.move (Operand.tmp 6), type := 3, pos := "ref.go:117", after := #[], guard := none }, { dst := some 34, op := Op.indexAddr 24 (Operand.tmp 32) (Operand.tmp 33), type := 0, pos := "ref.go:117", after := #[{ on := 1, ground := Ground.data }, { on := 2, ground := Ground.data }], guard := none }, { dst := some 35, op := Op.load 3 (Operand.tmp 34), type := 3, pos := "ref.go:117", after := #[{ on := 3, ground := Ground.data }], guard := none }, { dst := some 36, op := Op.call { callee := Callee.value (Operand.func 29), args := #[Operand.tmp 31, Operand.tmp 35], argTypes := #[23, 3] }, type := 24, pos := "ref.go:117", after := #[{ on := 0, ground := Ground.data }, { on := 4, ground := Ground.data }], guard := none }, { dst := some 37, op := Op.call { callee := Callee.builtin Builtin.len, args := #[Operand.tmp 36], argTypes := #[24] }, type := 3, pos := "ref.go:117", after := #[{ on := 5, ground := Ground.data }], guard := none }, { dst := some 10, op := Op.assign (Operand.tmp 37), type := 3, pos := "ref.go:117", after := #[{ on := 6, ground := Ground.data }, { on := 5, ground := Ground.chain }, { on := 0, ground := Ground.phase }, { on := 1, ground := Ground.phase }, { on := 2, ground := Ground.phase }, { on := 3, ground := Ground.phase }, { on := 4, ground := Ground.phase }, { on := 5, ground := Ground.phase }, { on := 6, ground := Ground.phase }], guard := none }]
def q25_11 : Array Oper := #[{ dst := some 38, op := Op.move (Operand.tmp 9), type := 3, pos := "ref.go:118", after := #[], guard := none }, { dst := some 39, op := Op.move (Operand.tmp 10), type := 3, pos := "ref.go:118", after := #[], guard := none }, { dst := some 40, op := Op.binOp BinOp.gtr 3 (Operand.tmp 38) (Operand.tmp 39) 3, type := 4, pos := "ref.go:118", after := #[{ on := 0, ground := Ground.data }, { on := 1, ground := Ground.data }], guard := none }, { dst := some 41, op := Op.move (Operand.tmp 40), type := 4, pos := "ref.go:118", after := #[{ on := 2, ground := Ground.data }], guard := none }, { dst := some 42, op := Op.move (Operand.tmp 9), type := 3, pos := "ref.go:118", after := #[{ on := 3, ground := Ground.guard }], guard := some (3, false) }, { dst := some 43, op := Op.move (Operand.tmp 10), type := 3, pos := "ref.go:118", after := #[{ on := 3, ground := Ground.guard }], guard := some (3, false) }, { dst := some 44, op := Op.binOp BinOp.eql 3 (Operand.tmp 42) (Operand.tmp 43) 3, type := 4, pos := "ref.go:118", after := #[{ on := 4, ground := Ground.data }, { on := 5, ground := Ground.data }, { on := 3, ground := Ground.guard }], guard := some (3, false) }, { dst := some 45, op := Op.move (Operand.tmp 44), type := 4, pos := "ref.go:118", after := #[{ on := 6, ground := Ground.data }, { on := 3, ground := Ground.chain }, { on := 3, ground := Ground.guard }], guard := some (3, false) }, { dst := some 46, op := Op.move (Operand.tmp 1), type := 24, pos := "ref.go:118", after := #[{ on := 7, ground := Ground.guard }], guard := some (7, true) }, { dst := some 47, op := Op.move (Operand.tmp 8), type := 3, pos := "ref.go:118", after := #[{ on := 7, ground := Ground.guard }], guard := some (7, true) }, { dst := some 48, op := Op.indexAddr 24 (Operand.tmp 46) (Operand.tmp 47), type := 0, pos := "ref.go:118", after := #[{ on := 8, ground := Ground.data }, { on := 9, ground := Ground.data }, { on := 7, ground := Ground.guard }], guard := some (7, true) }, { dst := some 49, op := Op.load 3 (Operand.tmp 48), type := 3, pos := "ref.go:118", after := #[{ on := 10, ground := Ground.data }, { on := 7, ground := Ground.guard }], guard := some (7, true) }, { dst := some 50, op := Op.move (Operand.tmp 1), type := 24, pos := "ref.go:118", after := #[{ on := 7, ground := Ground.guard }], guard := some (7, true) }, { dst := some 51, op := Op.move (Operand.tmp 6), type := 3, pos := "ref.go:118", after := #[{ on := 7, ground := Ground.guard }], guard := some (7, true) }, { dst := some 52, op := Op.indexAddr 24 (Operand.tmp 50) (Operand.tmp 51), type := 0, pos := "ref.go:118", after := #[{ on := 12, ground := Ground.data }, { on := 13, ground := Ground.data }, { on := 7, ground := Ground.guard }], guard := some (7, true) }, { dst := some 53, op := Op.load 3 (Operand.tmp 52), type := 3, pos := "ref.go:118", after := #[{ on := 14, ground := Ground.data }, { on := 7, ground := Ground.guard }], guard := some (7, true) }, { dst := some 54, op := Op.binOp BinOp.lss 3 (Operand.tmp 49) (Operand.tmp 53) 3, type := 4, pos := "ref.go:118", after := #[{ on := 11, ground := Ground.data }, { on := 15, ground := Ground.data }, { on := 7, ground := Ground.guard }], guard := some (7, true) }, { dst := some 55, op := Op.pick (Operand.tmp 45) (Operand.tmp 54) (Operand.const (Value.bool false)), type := 4, pos := "ref.go:118", after := #[{ on := 7, ground := Ground.data }, { on := 16, ground := Ground.data }, { on := 3, ground := Ground.guard }], guard := some (3, false) }, { dst := some 56, op := Op.pick (Operand.tmp 41) (Operand.const (Value.bool true)) (Operand.tmp 55), type := 4, pos := "ref.go:118", after := #[{ on := 3, ground := Ground.data }, { on := 17, ground := Ground.data }], guard := none }]
def q25_12 : Array Oper := #[{ dst := some 57, op := Op.move (Operand.tmp 7), type := 3, pos := "ref.go:119", after := #[], guard := none }, { dst := some 58, op := Op.binOp BinOp.add 3 (Operand.tmp 57) (Operand.const (Value.int IntKind.i64 1)) 3, type := 3, pos := "ref.go:119", after := #[{ on := 0, ground := Ground.data }], guard := none }, { dst := some 7, op := Op.assign (Operand.tmp 58), type := 3, pos := "ref.go:119", after := #[{ on := 1, ground := Ground.data }, { on := 0, ground := Ground.phase }, { on := 1, ground := Ground.phase }], guard := none }]
def q25_13 : Array Oper := #[{ dst := some 59, op := Op.move (Operand.tmp 1), type := 24, pos := "ref.go:122", after := #[], guard := none }, { dst := some 60, op := Op.call { callee := Callee.builtin Builtin.len, args := #[Operand.tmp 59], argTypes := #[24] }, type := 3, pos := "ref.go:122", after := #[{ on := 0, ground := Ground.data }], guard := none }, { dst := some 61, op := Op.binOp BinOp.quo 3 (Operand.const (Value.int IntKind.i64 8)) (Operand.tmp 60) 3, type := 3, pos := "ref.go:122", after := #[{ on := 1, ground := Ground.data }], guard := none }, { dst := some 11, op := Op.assign (Operand.tmp 61), type := 3, pos := "ref.go:122", after := #[{ on := 2, ground := Ground.data }, { on := 0, ground := Ground.phase }, { on := 1, ground := Ground.phase }, { on := 2, ground := Ground.phase }], guard := none }]
def q25_14 : Array Oper := #[{ dst := some 62, op := Op.move (Operand.tmp 7), type := 3, pos := "ref.go:123", after := #[], guard := none }, { dst := some 63, op := Op.move (Operand.tmp 1), type := 24, pos := "ref.go:123", after := #[], guard := none }, { dst := some 64, op := Op.call { callee := Callee.builtin Builtin.len, args := #[Operand.tmp 63], argTypes := #[24] }, type := 3, pos := "ref.go:123", after := #[{ on := 1, ground := Ground.data }], guard := none }, { dst := some 65, op := Op.binOp BinOp.rem 3 (Operand.const (Value.int IntKind.i64 8)) (Operand.tmp 64) 3, type := 3, pos := "ref.go:123", after := #[{ on := 2, ground := Ground.data }], guard := none }, { dst := some 66, op := Op.binOp BinOp.lss 3 (Operand.tmp 62) (Operand.tmp 65) 3, type := 4, pos := "ref.go:123", after := #[{ on := 0, ground := Ground.data }, { on := 3, ground := Ground.data }], guard := none }]
def q25_15 : Array Oper := #[{ dst := some 67, op := Op.move (Operand.tmp 11), type := 3, pos := "ref.go:124", after := #[], guard := none }, { dst := some 68, op := Op.binOp BinOp.add 3 (Operand.tmp 67) (Operand.const (Value.int IntKind.i64 1)) 3, type := 3, pos := "ref.go:124", after := #[{ on := 0, ground := Ground.data }], guard := none }, { dst := some 11, op := Op.assign (Operand.tmp 68), type := 3, pos := "ref.go:124", after := #[{ on := 1, ground := Ground.data }, { on := 0, ground := Ground.phase }, { on := 1, ground := Ground.phase }], guard := none }]
def q25_16 : Array Oper := #[{ dst := some 69, op := Op.move (Operand.tmp 5), type := 24, pos := "ref.go:126", after := #[], guard := none }, { dst := some 70, op := Op.move (Operand.tmp 11), type := 3, pos := "ref.go:126", after := #[], guard := none }, { dst := some 71, op := Op.buildSlice 24 1 #[(0, Operand.tmp 70)], type := 24, pos := "ref.go:126", after := #[{ on := 1, ground := Ground.data }], guard := none }, { dst := some 72, op := Op.call { callee := Callee.builtin Builtin.append, args := #[Operand.tmp 69, Operand.tmp 71], argTypes := #[24, 24] }, type := 24, pos := "ref.go:126", after := #[{ on := 0, ground := Ground.data }, { on := 2, ground := Ground.data }], guard := none }, { dst := some 5, op := Op.assign (Operand.tmp 72), type := 24, pos := "ref.go:126", after := #[{ on := 3, ground := Ground.data }, { on := 3, ground := Ground.chain }, { on := 0, ground := Ground.phase }, { on := 1, ground := Ground.phase }, { on := 2, ground := Ground.phase }, { on := 3, ground := Ground.phase }], guard := none }]
def q25_17 : Array Oper := #[{ dst := some 73, op := Op.move (Operand.tmp 5), type := 24, pos := "ref.go:128", after := #[], guard := none }, { dst := some 4, op := Op.assign (Operand.tmp 73), type := 24, pos := "ref.go:128", after := #[{ on := 0, ground := Ground.data }, { on := 0, ground := Ground.phase }], guard := none }]
theorem r25_0 {Q : Exit → Act → World → Prop} {a0 : Act} {w : World} (hz : a0.tmps.size = 74) (b : Nat) (hb : w.heap.size = b) (ol : List Int) (e0 : a0.eval (.tmp 0) = .agg (intV ol).toArray) (hend : ∀ ac wz, After [4, 2] a0 ac → ac.eval (.tmp 2) = .pointer (some ⟨b, 0, none⟩) → Anew b w wz (intV ol) 23 → Q .normal ac wz) : (Code.region 0 q25_0 false).wp Try.prog Q a0 w := by
  refine wp_region_list ?_
  refine wpList_box_new 2 rfl rfl 23 (.tmp 0) rfl b hb _ e0 ?_
  intro w1 h1
  refine wl_of rfl (op_move (.const _) (.inr rfl) (wl_end ?_))
  refine hend _ w1 (((After.self a0).put 2 _).put 4 _) ?_ h1
  exact (ev_put (by rw [put_size, hz]; decide)).trans ((if_neg (by decide)).trans ((ev_put (by rw [hz]; decide)).trans (if_pos rfl)))
set_option maxRecDepth 100000 in
theorem r25_1 {Q : Exit → Act → World → Prop} {a0 : Act} {w : World} (hz : a0.tmps.size = 74)   (hend : ∀ ac wz, After [5] a0 ac → ac.eval (.tmp 5) = .slice none 0 0 → Gr w wz → Q .normal ac wz) : (Code.region 1 q25_1 false).wp Try.prog Q a0 w := by
  refine seq_by (by kernel_rfl) 1 (by decide) [5] (fun | 5 => .val (.slice none 0 0) | _ => .any) (by kernel_rfl) (List.forall_mem_cons.2 ⟨?s0, fun o ho => nomatch ho⟩) ?e
  case s0 => exact sa_move (.const _) 5 (.val (.slice none 0 0)) (.inr rfl) rfl rfl (.const _) rfl
  case e =>
  intro ac wz hA hgr hv
  exact wl_end (hend ac wz hA (hv 5 (by kernel_rfl) (by rw [hz]; decide)) hgr)
set_option maxRecDepth 100000 in
theorem r25_2 {Q : Exit → Act → World → Prop} {a0 : Act} {w : World} (hz : a0.tmps.size = 74)   (hend : ∀ ac wz, After [6] a0 ac → ac.eval (.tmp 6) = .int .i64 0 → Gr w wz → Q .normal ac wz) : (Code.region 2 q25_2 false).wp Try.prog Q a0 w := by
  refine seq_by (by kernel_rfl) 1 (by decide) [6] (fun | 6 => .val (.int .i64 0) | _ => .any) (by kernel_rfl) (List.forall_mem_cons.2 ⟨?s0, fun o ho => nomatch ho⟩) ?e
  case s0 => exact sa_move (.const _) 6 (.val (.int .i64 0)) (.inr rfl) rfl rfl (.const _) rfl
  case e =>
  intro ac wz hA hgr hv
  exact wl_end (hend ac wz hA (hv 6 (by kernel_rfl) (by rw [hz]; decide)) hgr)
set_option maxRecDepth 100000 in
theorem r25_5 {Q : Exit → Act → World → Prop} {a0 : Act} {w : World} (hz : a0.tmps.size = 74)   (hend : ∀ ac wz, After [7] a0 ac → ac.eval (.tmp 7) = .int .i64 0 → Gr w wz → Q .normal ac wz) : (Code.region 5 q25_5 false).wp Try.prog Q a0 w := by
  refine seq_by (by kernel_rfl) 1 (by decide) [7] (fun | 7 => .val (.int .i64 0) | _ => .any) (by kernel_rfl) (List.forall_mem_cons.2 ⟨?s0, fun o ho => nomatch ho⟩) ?e
  case s0 => exact sa_move (.const _) 7 (.val (.int .i64 0)) (.inr rfl) rfl rfl (.const _) rfl
  case e =>
  intro ac wz hA hgr hv
  exact wl_end (hend ac wz hA (hv 7 (by kernel_rfl) (by rw [hz]; decide)) hgr)
set_option maxRecDepth 100000 in
theorem r25_6 {Q : Exit → Act → World → Prop} {a0 : Act} {w : World} (hz : a0.tmps.size = 74)   (hend : ∀ ac wz, After [8] a0 ac → ac.eval (.tmp 8) = .int .i64 0 → Gr w wz → Q .normal ac wz) : (Code.region 6 q25_6 false).wp Try.prog Q a0 w := by
  refine seq_by (by kernel_rfl) 1 (by decide) [8] (fun | 8 => .val (.int .i64 0) | _ => .any) (by kernel_rfl) (List.forall_mem_cons.2 ⟨?s0, fun o ho => nomatch ho⟩) ?e
  case s0 => exact sa_move (.const _) 8 (.val (.int .i64 0)) (.inr rfl) rfl rfl (.const _) rfl
  case e =>
  intro ac wz hA hgr hv
  exact wl_end (hend ac wz hA (hv 8 (by kernel_rfl) (by rw [hz]; decide)) hgr)
set_option maxRecDepth 100000 in
theorem r25_3 {Q : Exit → Act → World → Prop} {a0 : Act} {w : World} (hz : a0.tmps.size = 74) (k n cap : Nat) (ad : Option Addr) (e6 : a0.eval (.tmp 6) = .int .i64 (k : Int)) (e1 : a0.eval (.tmp 1) = .slice ad n cap) (hend : ∀ ac wz, After [12, 13, 14, 15] a0 ac → ac.eval (.tmp 15) = .bool (decide ((k : Int) < (n : Int))) → Gr w wz → Q .normal ac wz) : (Code.region 3 q25_3 false).wp Try.prog Q a0 w := by
  refine seq_by (by kernel_rfl) 4 (by decide) [12, 13, 14, 15] (fun | 12 => .val (.int .i64 (k : Int)) | 13 => .val (.slice ad n cap) | 14 => .val (.int .i64 (n : Int)) | 15 => .val (.bool (decide ((k : Int) < (n : Int)))) | _ => .any) (by kernel_rfl) (List.forall_mem_cons.2 ⟨?s0, List.forall_mem_cons.2 ⟨?s1, List.forall_mem_cons.2 ⟨?s2, List.forall_mem_cons.2 ⟨?s3, fun o ho => nomatch ho⟩⟩⟩⟩) ?e
  case s0 => exact sa_move (.tmp 6) 12 (.val (.int .i64 (k : Int))) (.inl rfl) rfl rfl (.old 6 _ (by decide) e6) rfl
  case s1 => exact sa_move (.tmp 1) 13 (.val (.slice ad n cap)) (.inl rfl) rfl rfl (.old 1 _ (by decide) e1) rfl
  case s2 => exact sa_len 24 (.tmp 13) 14 (.slice ad n cap) (.int .i64 (n : Int)) rfl rfl rfl (.new 13 (by kernel_rfl) (by rw [hz]; decide)) (by intro w; kernel_rfl) rfl
  case s3 => exact sa_bin .lss 3 (.tmp 12) (.tmp 14) 3 15 (.int .i64 (k : Int)) (.int .i64 (n : Int)) (.bool (decide ((k : Int) < (n : Int)))) rfl rfl rfl (.new 12 (by kernel_rfl) (by rw [hz]; decide)) (.new 14 (by kernel_rfl) (by rw [hz]; decide)) guard_int (bin_lss rfl) rfl
  case e =>
  intro ac wz hA hgr hv
  exact wl_end (hend ac wz hA (hv 15 (by kernel_rfl) (by rw [hz]; decide)) hgr)
set_option maxRecDepth 100000 in
theorem r25_7 {Q : Exit → Act → World → Prop} {a0 : Act} {w : World} (hz : a0.tmps.size = 74) (k n cap : Nat) (ad : Option Addr) (e8 : a0.eval (.tmp 8) = .int .i64 (k : Int)) (e1 : a0.eval (.tmp 1) = .slice ad n cap) (hend : ∀ ac wz, After [18, 19, 20, 21] a0 ac → ac.eval (.tmp 21) = .bool (decide ((k : Int) < (n : Int))) → Gr w wz → Q .normal ac wz) : (Code.region 7 q25_7 false).wp Try.prog Q a0 w := by
  refine seq_by (by kernel_rfl) 4 (by decide) [18, 19, 20, 21] (fun | 18 => .val (.int .i64 (k : Int)) | 19 => .val (.slice ad n cap) | 20 => .val (.int .i64 (n : Int)) | 21 => .val (.bool (decide ((k : Int) < (n : Int)))) | _ => .any) (by kernel_rfl) (List.forall_mem_cons.2 ⟨?s0, List.forall_mem_cons.2 ⟨?s1, List.forall_mem_cons.2 ⟨?s2, List.forall_mem_cons.2 ⟨?s3, fun o ho => nomatch ho⟩⟩⟩⟩) ?e
  case s0 => exact sa_move (.tmp 8) 18 (.val (.int .i64 (k : Int))) (.inl rfl) rfl rfl (.old 8 _ (by decide) e8) rfl
  case s1 => exact sa_move (.tmp 1) 19 (.val (.slice ad n cap)) (.inl rfl) rfl rfl (.old 1 _ (by decide) e1) rfl
  case s2 => exact sa_len 24 (.tmp 19) 20 (.slice ad n cap) (.int .i64 (n : Int)) rfl rfl rfl (.new 19 (by kernel_rfl) (by rw [hz]; decide)) (by intro w; kernel_rfl) rfl
  case s3 => exact sa_bin .lss 3 (.tmp 18) (.tmp 20) 3 21 (.int .i64 (k : Int)) (.int .i64 (n : Int)) (.bool (decide ((k : Int) < (n : Int)))) rfl rfl rfl (.new 18 (by kernel_rfl) (by rw [hz]; decide)) (.new 20 (by kernel_rfl) (by rw [hz]; decide)) guard_int (bin_lss rfl) rfl
  case e =>
  intro ac wz hA hgr hv
  exact wl_end (hend ac wz hA (hv 21 (by kernel_rfl) (by rw [hz]; decide)) hgr)
set_option maxRecDepth 100000 in
theorem r25_4 {Q : Exit → Act → World → Prop} {a0 : Act} {w : World} (hz : a0.tmps.size = 74) (k : Nat) (hk : k ≤ 17592186043904) (e6 : a0.eval (.tmp 6) = .int .i64 (k : Int)) (hend : ∀ ac wz, After [6, 16, 17] a0 ac → ac.eval (.tmp 6) = .int .i64 ((k + 1 : Nat) : Int) → Gr w wz → Q .normal ac wz) : (Code.region 4 q25_4 false).wp Try.prog Q a0 w := by
  refine seq_by (by kernel_rfl) 2 (by decide) [16, 17] (fun | 16 => .val (.int .i64 (k : Int)) | 17 => .val (.int .i64 ((k + 1 : Nat) : Int)) | _ => .any) (by kernel_rfl) (List.forall_mem_cons.2 ⟨?s0, List.forall_mem_cons.2 ⟨?s1, fun o ho => nomatch ho⟩⟩) ?e
  case s0 => exact sa_move (.tmp 6) 16 (.val (.int .i64 (k : Int))) (.inl rfl) rfl rfl (.old 6 _ (by decide) e6) rfl
  case s1 => exact sa_bin .add 3 (.tmp 16) (.const _) 3 17 (.int .i64 (k : Int)) (.int .i64 1) (.int .i64 ((k + 1 : Nat) : Int)) rfl rfl rfl (.new 16 (by kernel_rfl) (by rw [hz]; decide)) (.const _) guard_int (bin_add (by omega) (by omega) (by omega)) rfl
  case e =>
  intro ac wz hA hgr hv
  have o17 : ac.eval (.tmp 17) = .int .i64 ((k + 1 : Nat) : Int) := hv 17 (by kernel_rfl) (by rw [hz]; decide)
  refine wl_of rfl (op_move (.tmp 17) (.inr rfl) (wl_end ?_))
  exact hend _ wz (hA.put 6 _)  ((ev_put (by rw [hA.size, hz]; decide)).trans ((if_pos rfl).trans o17)) hgr
set_option maxRecDepth 100000 in
theorem r25_8 {Q : Exit → Act → World → Prop} {a0 : Act} {w : World} (hz : a0.tmps.size = 74) (k : Nat) (hk : k ≤ 17592186043904) (e8 : a0.eval (.tmp 8) = .int .i64 (k : Int)) (hend : ∀ ac wz, After [8, 22, 23] a0 ac → ac.eval (.tmp 8) = .int .i64 ((k + 1 : Nat) : Int) → Gr w wz → Q .normal ac wz) : (Code.region 8 q25_8 false).wp Try.prog Q a0 w := by
  refine seq_by (by kernel_rfl) 2 (by decide) [22, 23] (fun | 22 => .val (.int .i64 (k : Int)) | 23 => .val (.int .i64 ((k + 1 : Nat) : Int)) | _ => .any) (by kernel_rfl) (List.forall_mem_cons.2 ⟨?s0, List.forall_mem_cons.2 ⟨?s1, fun o ho => nomatch ho⟩⟩) ?e
  case s0 => exact sa_move (.tmp 8) 22 (.val (.int .i64 (k : Int))) (.inl rfl) rfl rfl (.old 8 _ (by decide) e8) rfl
  case s1 => exact sa_bin .add 3 (.tmp 22) (.const _) 3 23 (.int .i64 (k : Int)) (.int .i64 1) (.int .i64 ((k + 1 : Nat) : Int)) rfl rfl rfl (.new 22 (by kernel_rfl) (by rw [hz]; decide)) (.const _) guard_int (bin_add (by omega) (by omega) (by omega)) rfl
  case e =>
  intro ac wz hA hgr hv
  have o23 : ac.eval (.tmp 23) = .int .i64 ((k + 1 : Nat) : Int) := hv 23 (by kernel_rfl) (by rw [hz]; decide)
  refine wl_of rfl (op_move (.tmp 23) (.inr rfl) (wl_end ?_))
  exact hend _ wz (hA.put 8 _)  ((ev_put (by rw [hA.size, hz]; decide)).trans ((if_pos rfl).trans o23)) hgr
set_option maxRecDepth 100000 in
theorem r25_12 {Q : Exit → Act → World → Prop} {a0 : Act} {w : World} (hz : a0.tmps.size = 74) (k : Nat) (hk : k ≤ 17592186043904) (e7 : a0.eval (.tmp 7) = .int .i64 (k : Int)) (hend : ∀ ac wz, After [7, 57, 58] a0 ac → ac.eval (.tmp 7) = .int .i64 ((k + 1 : Nat) : Int) → Gr w wz → Q .normal ac wz) : (Code.region 12 q25_12 false).wp Try.prog Q a0 w := by
  refine seq_by (by kernel_rfl) 2 (by decide) [57, 58] (fun | 57 => .val (.int .i64 (k : Int)) | 58 => .val (.int .i64 ((k + 1 : Nat) : Int)) | _ => .any) (by kernel_rfl) (List.forall_mem_cons.2 ⟨?s0, List.forall_mem_cons.2 ⟨?s1, fun o ho => nomatch ho⟩⟩) ?e
  case s0 => exact sa_move (.tmp 7) 57 (.val (.int .i64 (k : Int))) (.inl rfl) rfl rfl (.old 7 _ (by decide) e7) rfl
  case s1 => exact sa_bin .add 3 (.tmp 57) (.const _) 3 58 (.int .i64 (k : Int)) (.int .i64 1) (.int .i64 ((k + 1 : Nat) : Int)) rfl rfl rfl (.new 57 (by kernel_rfl) (by rw [hz]; decide)) (.const _) guard_int (bin_add (by omega) (by omega) (by omega)) rfl
  case e =>
  intro ac wz hA hgr hv
  have o58 : ac.eval (.tmp 58) = .int .i64 ((k + 1 : Nat) : Int) := hv 58 (by kernel_rfl) (by rw [hz]; decide)
  refine wl_of rfl (op_move (.tmp 58) (.inr rfl) (wl_end ?_))
  exact hend _ wz (hA.put 7 _)  ((ev_put (by rw [hA.size, hz]; decide)).trans ((if_pos rfl).trans o58)) hgr
set_option maxRecDepth 100000 in
theorem r25_15 {Q : Exit → Act → World → Prop} {a0 : Act} {w : World} (hz : a0.tmps.size = 74) (k : Nat) (hk : k ≤ 17592186043904) (e11 : a0.eval (.tmp 11) = .int .i64 (k : Int)) (hend : ∀ ac wz, After [11, 67, 68] a0 ac → ac.eval (.tmp 11) = .int .i64 ((k + 1 : Nat) : Int) → Gr w wz → Q .normal ac wz) : (Code.region 15 q25_15 false).wp Try.prog Q a0 w := by
  refine seq_by (by kernel_rfl) 2 (by decide) [67, 68] (fun | 67 => .val (.int .i64 (k : Int)) | 68 => .val (.int .i64 ((k + 1 : Nat) : Int)) | _ => .any) (by kernel_rfl) (List.forall_mem_cons.2 ⟨?s0, List.forall_mem_cons.2 ⟨?s1, fun o ho => nomatch ho⟩⟩) ?e
  case s0 => exact sa_move (.tmp 11) 67 (.val (.int .i64 (k : Int))) (.inl rfl) rfl rfl (.old 11 _ (by decide) e11) rfl
  case s1 => exact sa_bin .add 3 (.tmp 67) (.const _) 3 68 (.int .i64 (k : Int)) (.int .i64 1) (.int .i64 ((k + 1 : Nat) : Int)) rfl rfl rfl (.new 67 (by kernel_rfl) (by rw [hz]; decide)) (.const _) guard_int (bin_add (by omega) (by omega) (by omega)) rfl
  case e =>
  intro ac wz hA hgr hv
  have o68 : ac.eval (.tmp 68) = .int .i64 ((k + 1 : Nat) : Int) := hv 68 (by kernel_rfl) (by rw [hz]; decide)
  refine wl_of rfl (op_move (.tmp 68) (.inr rfl) (wl_end ?_))
  exact hend _ wz (hA.put 11 _)  ((ev_put (by rw [hA.size, hz]; decide)).trans ((if_pos rfl).trans o68)) hgr
set_option maxRecDepth 100000 in
theorem r25_9 {Q : Exit → Act → World → Prop} {a0 : Act} {w : World} (hz : a0.tmps.size = 74) (b g of n cap k c : Nat) (x : Int) (ol : List Int) (hol : (intV ol).length = 8) (hHol : Holds w b (intV ol) 23) (hk : k < n) (hX : ∀ y, Gr w y → y.cell? ⟨g, of + k, none⟩ = some (.int .i64 x)) (hC : ∀ y, Gr w y → Calls Try.prog 29 #[.agg (intV ol).toArray, .int .i64 x] y fun e z => ∃ u, e = .returned u ∧ Gr y z ∧ (lenF c).holds u z) (e2 : a0.eval (.tmp 2) = .pointer (some ⟨b, 0, none⟩)) (e1 : a0.eval (.tmp 1) = .slice (some ⟨g, of, none⟩) n cap) (e8 : a0.eval (.tmp 8) = .int .i64 (k : Int)) (hend : ∀ ac wz, After [24, 25, 26, 27, 28, 29, 30, 9] a0 ac → ac.eval (.tmp 9) = .int .i64 (c : Int) → Gr w wz → Q .normal ac wz) : (Code.region 9 q25_9 true).wp Try.prog Q a0 w := by
  refine drawn_by (by kernel_rfl) (by kernel_rfl) (by kernel_rfl) [24, 25, 26, 27, 28, 29, 30, 9] (fun | 24 => .val (.agg (intV ol).toArray) | 25 => .val (.slice (some ⟨g, of, none⟩) n cap) | 26 => .val (.int .i64 (k : Int)) | 27 => .val (.pointer (some ⟨g, of + k, none⟩)) | 28 => .val (.int .i64 x) | 29 => lenF c | 30 => .val (.int .i64 (c : Int)) | 9 => .val (.int .i64 (c : Int)) | _ => .any) (by kernel_rfl) (List.forall_mem_cons.2 ⟨?s0, List.forall_mem_cons.2 ⟨?s1, List.forall_mem_cons.2 ⟨?s2, List.forall_mem_cons.2 ⟨?s3, List.forall_mem_cons.2 ⟨?s4, List.forall_mem_cons.2 ⟨?s5, List.forall_mem_cons.2 ⟨?s6, List.forall_mem_cons.2 ⟨?s7, fun o ho => nomatch ho⟩⟩⟩⟩⟩⟩⟩⟩) ?e
  case s0 => exact sa_row 23 (.tmp 2) 24 b (0) 8 _ (intV ol) rfl rfl rfl Try.underlying23 rfl siz23 hol (.old 2 _ (by decide) e2) (fun y hy => range_of (hHol.below hy hHol.lt)) rfl
  case s1 => exact sa_move (.tmp 1) 25 (.val (.slice (some ⟨g, of, none⟩) n cap)) (.inl rfl) rfl rfl (.old 1 _ (by decide) e1) rfl
  case s2 => exact sa_move (.tmp 8) 26 (.val (.int .i64 (k : Int))) (.inl rfl) rfl rfl (.old 8 _ (by decide) e8) rfl
  case s3 => exact sa_ixa 24 (.tmp 25) (.tmp 26) 27 (.slice (some ⟨g, of, none⟩) n cap) (.int .i64 (k : Int)) (.pointer (some ⟨g, of + k, none⟩)) rfl rfl rfl (.new 25 (by kernel_rfl) (by rw [hz]; decide)) (.new 26 (by kernel_rfl) (by rw [hz]; decide)) (ix_slice (sz := 1) Try.underlying24 (by intro w; kernel_rfl) (by omega) (by omega)) rfl
  case s4 => exact sa_loadc 3 (.tmp 27) 28 (g) (of + k) (.int .i64 x) rfl rfl rfl (by intro w; kernel_rfl) (.new 27 (by kernel_rfl) (by rw [hz]; decide)) hX rfl
  case s5 => exact sa_callF2 29 (.tmp 24) (.tmp 28) _ 29 (.agg (intV ol).toArray) (.int .i64 x) (lenF c) rfl rfl rfl (.new 24 (by kernel_rfl) (by rw [hz]; decide)) (.new 28 (by kernel_rfl) (by rw [hz]; decide)) (enters_of Try.func29 (by kernel_rfl) rfl) hC rfl
  case s6 => exact sa_lenF 24 (.tmp 29) 30 c rfl rfl rfl (.new 29 (by kernel_rfl) (by rw [hz]; decide)) (by intro a c y; kernel_rfl) rfl
  case s7 => exact sa_move (.tmp 30) 9 (.val (.int .i64 (c : Int))) (.inr rfl) rfl rfl (.new 30 (by kernel_rfl) (by rw [hz]; decide)) rfl
  case e =>
  intro ac wz hA hgr hv
  exact hend ac wz hA (hv 9 (by kernel_rfl) (by rw [hz]; decide)) hgr
set_option maxRecDepth 100000 in
theorem r25_10 {Q : Exit → Act → World → Prop} {a0 : Act} {w : World} (hz : a0.tmps.size = 74) (b g of n cap k c : Nat) (x : Int) (ol : List Int) (hol : (intV ol).length = 8) (hHol : Holds w b (intV ol) 23) (hk : k < n) (hX : ∀ y, Gr w y → y.cell? ⟨g, of + k, none⟩ = some (.int .i64 x)) (hC : ∀ y, Gr w y → Calls Try.prog 29 #[.agg (intV ol).toArray, .int .i64 x] y fun e z => ∃ u, e = .returned u ∧ Gr y z ∧ (lenF c).holds u z) (e2 : a0.eval (.tmp 2) = .pointer (some ⟨b, 0, none⟩)) (e1 : a0.eval (.tmp 1) = .slice (some ⟨g, of, none⟩) n cap) (e6 : a0.eval (.tmp 6) = .int .i64 (k : Int)) (hend : ∀ ac wz, After [31, 32, 33, 34, 35, 36, 37, 10] a0 ac → ac.eval (.tmp 10) = .int .i64 (c : Int) → Gr w wz → Q .normal ac wz) : (Code.region 10 q25_10 true).wp Try.prog Q a0 w := by
  refine drawn_by (by kernel_rfl) (by kernel_rfl) (by kernel_rfl) [31, 32, 33, 34, 35, 36, 37, 10] (fun | 31 => .val (.agg (intV ol).toArray) | 32 => .val (.slice (some ⟨g, of, none⟩) n cap) | 33 => .val (.int .i64 (k : Int)) | 34 => .val (.pointer (some ⟨g, of + k, none⟩)) | 35 => .val (.int .i64 x) | 36 => lenF c | 37 => .val (.int .i64 (c : Int)) | 10 => .val (.int .i64 (c : Int)) | _ => .any) (by kernel_rfl) (List.forall_mem_cons.2 ⟨?s0, List.forall_mem_cons.2 ⟨?s1, List.forall_mem_cons.2 ⟨?s2, List.forall_mem_cons.2 ⟨?s3, List.forall_mem_cons.2 ⟨?s4, List.forall_mem_cons.2 ⟨?s5, List.forall_mem_cons.2 ⟨?s6, List.forall_mem_cons.2 ⟨?s7, fun o ho => nomatch ho⟩⟩⟩⟩⟩⟩⟩⟩) ?e
  case s0 => exact sa_row 23 (.tmp 2) 31 b (0) 8 _ (intV ol) rfl rfl rfl Try.underlying23 rfl siz23 hol (.old 2 _ (by decide) e2) (fun y hy => range_of (hHol.below hy hHol.lt)) rfl
  case s1 => exact sa_move (.tmp 1) 32 (.val (.slice (some ⟨g, of, none⟩) n cap)) (.inl rfl) rfl rfl (.old 1 _ (by decide) e1) rfl
  case s2 => exact sa_move (.tmp 6) 33 (.val (.int .i64 (k : Int))) (.inl rfl) rfl rfl (.old 6 _ (by decide) e6) rfl
  case s3 => exact sa_ixa 24 (.tmp 32) (.tmp 33) 34 (.slice (some ⟨g, of, none⟩) n cap) (.int .i64 (k : Int)) (.pointer (some ⟨g, of + k, none⟩)) rfl rfl rfl (.new 32 (by kernel_rfl) (by rw [hz]; decide)) (.new 33 (by kernel_rfl) (by rw [hz]; decide)) (ix_slice (sz := 1) Try.underlying24 (by intro w; kernel_rfl) (by omega) (by omega)) rfl
  case s4 => exact sa_loadc 3 (.tmp 34) 35 (g) (of + k) (.int .i64 x) rfl rfl rfl (by intro w; kernel_rfl) (.new 34 (by kernel_rfl) (by rw [hz]; decide)) hX rfl
  case s5 => exact sa_callF2 29 (.tmp 31) (.tmp 35) _ 36 (.agg (intV ol).toArray) (.int .i64 x) (lenF c) rfl rfl rfl (.new 31 (by kernel_rfl) (by rw [hz]; decide)) (.new 35 (by kernel_rfl) (by rw [hz]; decide)) (enters_of Try.func29 (by kernel_rfl) rfl) hC rfl
  case s6 => exact sa_lenF 24 (.tmp 36) 37 c rfl rfl rfl (.new 36 (by kernel_rfl) (by rw [hz]; decide)) (by intro a c y; kernel_rfl) rfl
  case s7 => exact sa_move (.tmp 37) 10 (.val (.int .i64 (c : Int))) (.inr rfl) rfl rfl (.new 37 (by kernel_rfl) (by rw [hz]; decide)) rfl
  case e =>
  intro ac wz hA hgr hv
  exact hend ac wz hA (hv 10 (by kernel_rfl) (by rw [hz]; decide)) hgr
set_option maxRecDepth 100000 in
theorem r25_11g {Q : Exit → Act → World → Prop} {a0 : Act} {w : World} (hz : a0.tmps.size = 74) (a b : Nat) (h1 : b < a) (e9 : a0.eval (.tmp 9) = .int .i64 (a : Int)) (e10 : a0.eval (.tmp 10) = .int .i64 (b : Int)) (hend : ∀ ac wz, After [38, 39, 40, 41, 42, 43, 44, 45, 46, 47, 48, 49, 50, 51, 52, 53, 54, 55, 56] a0 ac → ac.eval (.tmp 56) = .bool true → Gr w wz → Q .normal ac wz) : (Code.region 11 q25_11 true).wp Try.prog Q a0 w := by
  refine drawn_by (by kernel_rfl) (by kernel_rfl) (by kernel_rfl) [38, 39, 40, 41, 42, 43, 44, 45, 46, 47, 48, 49, 50, 51, 52, 53, 54, 55, 56] (fun | 38 => .val (.int .i64 (a : Int)) | 39 => .val (.int .i64 (b : Int)) | 40 => .val (.bool true) | 41 => .val (.bool true) | 42 => .val (undef) | 43 => .val (undef) | 44 => .val (undef) | 45 => .val (undef) | 46 => .val (undef) | 47 => .val (undef) | 48 => .val (undef) | 49 => .val (undef) | 50 => .val (undef) | 51 => .val (undef) | 52 => .val (undef) | 53 => .val (undef) | 54 => .val (undef) | 55 => .val (undef) | 56 => .val (.bool true) | _ => .any) (by kernel_rfl) (List.forall_mem_cons.2 ⟨?s0, List.forall_mem_cons.2 ⟨?s1, List.forall_mem_cons.2 ⟨?s2, List.forall_mem_cons.2 ⟨?s3, List.forall_mem_cons.2 ⟨?s4, List.forall_mem_cons.2 ⟨?s5, List.forall_mem_cons.2 ⟨?s6, List.forall_mem_cons.2 ⟨?s7, List.forall_mem_cons.2 ⟨?s8, List.forall_mem_cons.2 ⟨?s9, List.forall_mem_cons.2 ⟨?s10, List.forall_mem_cons.2 ⟨?s11, List.forall_mem_cons.2 ⟨?s12, List.forall_mem_cons.2 ⟨?s13, List.forall_mem_cons.2 ⟨?s14, List.forall_mem_cons.2 ⟨?s15, List.forall_mem_cons.2 ⟨?s16, List.forall_mem_cons.2 ⟨?s17, List.forall_mem_cons.2 ⟨?s18, fun o ho => nomatch ho⟩⟩⟩⟩⟩⟩⟩⟩⟩⟩⟩⟩⟩⟩⟩⟩⟩⟩⟩) ?e
  case s0 => exact sa_move (.tmp 9) 38 (.val (.int .i64 (a : Int))) (.inl rfl) rfl rfl (.old 9 _ (by decide) e9) rfl
  case s1 => exact sa_move (.tmp 10) 39 (.val (.int .i64 (b : Int))) (.inl rfl) rfl rfl (.old 10 _ (by decide) e10) rfl
  case s2 => exact sa_bin .gtr 3 (.tmp 38) (.tmp 39) 3 40 (.int .i64 (a : Int)) (.int .i64 (b : Int)) (.bool true) rfl rfl rfl (.new 38 (by kernel_rfl) (by rw [hz]; decide)) (.new 39 (by kernel_rfl) (by rw [hz]; decide)) guard_int (bin_gtr (decide_eq_true (by omega))) rfl
  case s3 => exact sa_move (.tmp 40) 41 (.val (.bool true)) (.inl rfl) rfl rfl (.new 40 (by kernel_rfl) (by rw [hz]; decide)) rfl
  case s4 => exact so_guardFN 3 41 rfl rfl (by kernel_rfl) (by rw [hz]; decide) rfl (fun d hd => by cases hd; rfl)
  case s5 => exact so_guardFN 3 41 rfl rfl (by kernel_rfl) (by rw [hz]; decide) rfl (fun d hd => by cases hd; rfl)
  case s6 => exact so_guardFN 3 41 rfl rfl (by kernel_rfl) (by rw [hz]; decide) rfl (fun d hd => by cases hd; rfl)
  case s7 => exact so_guardFN 3 41 rfl rfl (by kernel_rfl) (by rw [hz]; decide) rfl (fun d hd => by cases hd; rfl)
  case s8 => exact so_guardU 7 45 true rfl rfl (by kernel_rfl) (by rw [hz]; decide) rfl (fun d hd => by cases hd; rfl)
  case s9 => exact so_guardU 7 45 true rfl rfl (by kernel_rfl) (by rw [hz]; decide) rfl (fun d hd => by cases hd; rfl)
  case s10 => exact so_guardU 7 45 true rfl rfl (by kernel_rfl) (by rw [hz]; decide) rfl (fun d hd => by cases hd; rfl)
  case s11 => exact so_guardU 7 45 true rfl rfl (by kernel_rfl) (by rw [hz]; decide) rfl (fun d hd => by cases hd; rfl)
  case s12 => exact so_guardU 7 45 true rfl rfl (by kernel_rfl) (by rw [hz]; decide) rfl (fun d hd => by cases hd; rfl)
  case s13 => exact so_guardU 7 45 true rfl rfl (by kernel_rfl) (by rw [hz]; decide) rfl (fun d hd => by cases hd; rfl)
  case s14 => exact so_guardU 7 45 true rfl rfl (by kernel_rfl) (by rw [hz]; decide) rfl (fun d hd => by cases hd; rfl)
  case s15 => exact so_guardU 7 45 true rfl rfl (by kernel_rfl) (by rw [hz]; decide) rfl (fun d hd => by cases hd; rfl)
  case s16 => exact so_guardU 7 45 true rfl rfl (by kernel_rfl) (by rw [hz]; decide) rfl (fun d hd => by cases hd; rfl)
  case s17 => exact so_guardFN 3 41 rfl rfl (by kernel_rfl) (by rw [hz]; decide) rfl (fun d hd => by cases hd; rfl)
  case s18 => exact sa_pick (.tmp 41) (.const _) (.tmp 55) 56 (.val (.bool true)) rfl rfl rfl (.new 41 (by kernel_rfl) (by rw [hz]; decide)) (.const _) rfl
  case e =>
  intro ac wz hA hgr hv
  exact hend ac wz hA (hv 56 (by kernel_rfl) (by rw [hz]; decide)) hgr
set_option maxRecDepth 100000 in
theorem r25_11n {Q : Exit → Act → World → Prop} {a0 : Act} {w : World} (hz : a0.tmps.size = 74) (a b : Nat) (h1 : ¬ b < a) (h2 : ¬ a = b) (e9 : a0.eval (.tmp 9) = .int .i64 (a : Int)) (e10 : a0.eval (.tmp 10) = .int .i64 (b : Int)) (hend : ∀ ac wz, After [38, 39, 40, 41, 42, 43, 44, 45, 46, 47, 48, 49, 50, 51, 52, 53, 54, 55, 56] a0 ac → ac.eval (.tmp 56) = .bool false → Gr w wz → Q .normal ac wz) : (Code.region 11 q25_11 true).wp Try.prog Q a0 w := by
  refine drawn_by (by kernel_rfl) (by kernel_rfl) (by kernel_rfl) [38, 39, 40, 41, 42, 43, 44, 45, 46, 47, 48, 49, 50, 51, 52, 53, 54, 55, 56] (fun | 38 => .val (.int .i64 (a : Int)) | 39 => .val (.int .i64 (b : Int)) | 40 => .val (.bool false) | 41 => .val (.bool false) | 42 => .val (.int .i64 (a : Int)) | 43 => .val (.int .i64 (b : Int)) | 44 => .val (.bool false) | 45 => .val (.bool false) | 46 => .val (undef) | 47 => .val (undef) | 48 => .val (undef) | 49 => .val (undef) | 50 => .val (undef) | 51 => .val (undef) | 52 => .val (undef) | 53 => .val (undef) | 54 => .val (undef) | 55 => .val (.bool false) | 56 => .val (.bool false) | _ => .any) (by kernel_rfl) (List.forall_mem_cons.2 ⟨?s0, List.forall_mem_cons.2 ⟨?s1, List.forall_mem_cons.2 ⟨?s2, List.forall_mem_cons.2 ⟨?s3, List.forall_mem_cons.2 ⟨?s4, List.forall_mem_cons.2 ⟨?s5, List.forall_mem_cons.2 ⟨?s6, List.forall_mem_cons.2 ⟨?s7, List.forall_mem_cons.2 ⟨?s8, List.forall_mem_cons.2 ⟨?s9, List.forall_mem_cons.2 ⟨?s10, List.forall_mem_cons.2 ⟨?s11, List.forall_mem_cons.2 ⟨?s12, List.forall_mem_cons.2 ⟨?s13, List.forall_mem_cons.2 ⟨?s14, List.forall_mem_cons.2 ⟨?s15, List.forall_mem_cons.2 ⟨?s16, List.forall_mem_cons.2 ⟨?s17, List.forall_mem_cons.2 ⟨?s18, fun o ho => nomatch ho⟩⟩⟩⟩⟩⟩⟩⟩⟩⟩⟩⟩⟩⟩⟩⟩⟩⟩⟩) ?e
  case s0 => exact sa_move (.tmp 9) 38 (.val (.int .i64 (a : Int))) (.inl rfl) rfl rfl (.old 9 _ (by decide) e9) rfl
  case s1 => exact sa_move (.tmp 10) 39 (.val (.int .i64 (b : Int))) (.inl rfl) rfl rfl (.old 10 _ (by decide) e10) rfl
  case s2 => exact sa_bin .gtr 3 (.tmp 38) (.tmp 39) 3 40 (.int .i64 (a : Int)) (.int .i64 (b : Int)) (.bool false) rfl rfl rfl (.new 38 (by kernel_rfl) (by rw [hz]; decide)) (.new 39 (by kernel_rfl) (by rw [hz]; decide)) guard_int (bin_gtr (decide_eq_false (by omega))) rfl
  case s3 => exact sa_move (.tmp 40) 41 (.val (.bool false)) (.inl rfl) rfl rfl (.new 40 (by kernel_rfl) (by rw [hz]; decide)) rfl
  case s4 => exact sa_guardF 3 41 rfl rfl (by kernel_rfl) (by rw [hz]; decide) rfl (sa_move (.tmp 9) 42 (.val (.int .i64 (a : Int))) (.inl rfl) rfl rfl (.old 9 _ (by decide) e9) rfl)
  case s5 => exact sa_guardF 3 41 rfl rfl (by kernel_rfl) (by rw [hz]; decide) rfl (sa_move (.tmp 10) 43 (.val (.int .i64 (b : Int))) (.inl rfl) rfl rfl (.old 10 _ (by decide) e10) rfl)
  case s6 => exact sa_guardF 3 41 rfl rfl (by kernel_rfl) (by rw [hz]; decide) rfl (sa_bin .eql 3 (.tmp 42) (.tmp 43) 3 44 (.int .i64 (a : Int)) (.int .i64 (b : Int)) (.bool false) rfl rfl rfl (.new 42 (by kernel_rfl) (by rw [hz]; decide)) (.new 43 (by kernel_rfl) (by rw [hz]; decide)) guard_int (bin_eql (decide_eq_false (by omega))) rfl)
  case s7 => exact sa_guardF 3 41 rfl rfl (by kernel_rfl) (by rw [hz]; decide) rfl (sa_move (.tmp 44) 45 (.val (.bool false)) (.inl rfl) rfl rfl (.new 44 (by kernel_rfl) (by rw [hz]; decide)) rfl)
  case s8 => exact so_guardN 7 45 rfl rfl (by kernel_rfl) (by rw [hz]; decide) rfl (fun d hd => by cases hd; rfl)
  case s9 => exact so_guardN 7 45 rfl rfl (by kernel_rfl) (by rw [hz]; decide) rfl (fun d hd => by cases hd; rfl)
  case s10 => exact so_guardN 7 45 rfl rfl (by kernel_rfl) (by rw [hz]; decide) rfl (fun d hd => by cases hd; rfl)
  case s11 => exact so_guardN 7 45 rfl rfl (by kernel_rfl) (by rw [hz]; decide) rfl (fun d hd => by cases hd; rfl)
  case s12 => exact so_guardN 7 45 rfl rfl (by kernel_rfl) (by rw [hz]; decide) rfl (fun d hd => by cases hd; rfl)
  case s13 => exact so_guardN 7 45 rfl rfl (by kernel_rfl) (by rw [hz]; decide) rfl (fun d hd => by cases hd; rfl)
  case s14 => exact so_guardN 7 45 rfl rfl (by kernel_rfl) (by rw [hz]; decide) rfl (fun d hd => by cases hd; rfl)
  case s15 => exact so_guardN 7 45 rfl rfl (by kernel_rfl) (by rw [hz]; decide) rfl (fun d hd => by cases hd; rfl)
  case s16 => exact so_guardN 7 45 rfl rfl (by kernel_rfl) (by rw [hz]; decide) rfl (fun d hd => by cases hd; rfl)
  case s17 => exact sa_guardF 3 41 rfl rfl (by kernel_rfl) (by rw [hz]; decide) rfl (sa_pickF (.tmp 45) (.tmp 54) (.const _) 55 (.val (.bool false)) rfl rfl rfl (.new 45 (by kernel_rfl) (by rw [hz]; decide)) (.const _) rfl)
  case s18 => exact sa_pickF (.tmp 41) (.const _) (.tmp 55) 56 (.val (.bool false)) rfl rfl rfl (.new 41 (by kernel_rfl) (by rw [hz]; decide)) (.new 55 (by kernel_rfl) (by rw [hz]; decide)) rfl
  case e =>
  intro ac wz hA hgr hv
  exact hend ac wz hA (hv 56 (by kernel_rfl) (by rw [hz]; decide)) hgr
set_option maxRecDepth 100000 in
theorem r25_11e {Q : Exit → Act → World → Prop} {a0 : Act} {w : World} (hz : a0.tmps.size = 74) (a b : Nat) (h2 : a = b) (g of n cap k i : Nat) (x y : Int) (hk : k < n) (hi : i < n) (hX : ∀ z, Gr w z → z.cell? ⟨g, of + k, none⟩ = some (.int .i64 x)) (hY : ∀ z, Gr w z → z.cell? ⟨g, of + i, none⟩ = some (.int .i64 y)) (e9 : a0.eval (.tmp 9) = .int .i64 (a : Int)) (e10 : a0.eval (.tmp 10) = .int .i64 (b : Int)) (e1 : a0.eval (.tmp 1) = .slice (some ⟨g, of, none⟩) n cap) (e8 : a0.eval (.tmp 8) = .int .i64 (k : Int)) (e6 : a0.eval (.tmp 6) = .int .i64 (i : Int)) (hend : ∀ ac wz, After [38, 39, 40, 41, 42, 43, 44, 45, 46, 47, 48, 49, 50, 51, 52, 53, 54, 55, 56] a0 ac → ac.eval (.tmp 56) = .bool (decide (x < y)) → Gr w wz → Q .normal ac wz) : (Code.region 11 q25_11 true).wp Try.prog Q a0 w := by
  refine drawn_by (by kernel_rfl) (by kernel_rfl) (by kernel_rfl) [38, 39, 40, 41, 42, 43, 44, 45, 46, 47, 48, 49, 50, 51, 52, 53, 54, 55, 56] (fun | 38 => .val (.int .i64 (a : Int)) | 39 => .val (.int .i64 (b : Int)) | 40 => .val (.bool false) | 41 => .val (.bool false) | 42 => .val (.int .i64 (a : Int)) | 43 => .val (.int .i64 (b : Int)) | 44 => .val (.bool true) | 45 => .val (.bool true) | 46 => .val (.slice (some ⟨g, of, none⟩) n cap) | 47 => .val (.int .i64 (k : Int)) | 48 => .val (.pointer (some ⟨g, of + k, none⟩)) | 49 => .val (.int .i64 x) | 50 => .val (.slice (some ⟨g, of, none⟩) n cap) | 51 => .val (.int .i64 (i : Int)) | 52 => .val (.pointer (some ⟨g, of + i, none⟩)) | 53 => .val (.int .i64 y) | 54 => .val (.bool (decide (x < y))) | 55 => .val (.bool (decide (x < y))) | 56 => .val (.bool (decide (x < y))) | _ => .any) (by kernel_rfl) (List.forall_mem_cons.2 ⟨?s0, List.forall_mem_cons.2 ⟨?s1, List.forall_mem_cons.2 ⟨?s2, List.forall_mem_cons.2 ⟨?s3, List.forall_mem_cons.2 ⟨?s4, List.forall_mem_cons.2 ⟨?s5, List.forall_mem_cons.2 ⟨?s6, List.forall_mem_cons.2 ⟨?s7, List.forall_mem_cons.2 ⟨?s8, List.forall_mem_cons.2 ⟨?s9, List.forall_mem_cons.2 ⟨?s10, List.forall_mem_cons.2 ⟨?s11, List.forall_mem_cons.2 ⟨?s12, List.forall_mem_cons.2 ⟨?s13, List.forall_mem_cons.2 ⟨?s14, List.forall_mem_cons.2 ⟨?s15, List.forall_mem_cons.2 ⟨?s16, List.forall_mem_cons.2 ⟨?s17, List.forall_mem_cons.2 ⟨?s18, fun o ho => nomatch ho⟩⟩⟩⟩⟩⟩⟩⟩⟩⟩⟩⟩⟩⟩⟩⟩⟩⟩⟩) ?e
  case s0 => exact sa_move (.tmp 9) 38 (.val (.int .i64 (a : Int))) (.inl rfl) rfl rfl (.old 9 _ (by decide) e9) rfl
  case s1 => exact sa_move (.tmp 10) 39 (.val (.int .i64 (b : Int))) (.inl rfl) rfl rfl (.old 10 _ (by decide) e10) rfl
  case s2 => exact sa_bin .gtr 3 (.tmp 38) (.tmp 39) 3 40 (.int .i64 (a : Int)) (.int .i64 (b : Int)) (.bool false) rfl rfl rfl (.new 38 (by kernel_rfl) (by rw [hz]; decide)) (.new 39 (by kernel_rfl) (by rw [hz]; decide)) guard_int (bin_gtr (decide_eq_false (by omega))) rfl
  case s3 => exact sa_move (.tmp 40) 41 (.val (.bool false)) (.inl rfl) rfl rfl (.new 40 (by kernel_rfl) (by rw [hz]; decide)) rfl
  case s4 => exact sa_guardF 3 41 rfl rfl (by kernel_rfl) (by rw [hz]; decide) rfl (sa_move (.tmp 9) 42 (.val (.int .i64 (a : Int))) (.inl rfl) rfl rfl (.old 9 _ (by decide) e9) rfl)
  case s5 => exact sa_guardF 3 41 rfl rfl (by kernel_rfl) (by rw [hz]; decide) rfl (sa_move (.tmp 10) 43 (.val (.int .i64 (b : Int))) (.inl rfl) rfl rfl (.old 10 _ (by decide) e10) rfl)
  case s6 => exact sa_guardF 3 41 rfl rfl (by kernel_rfl) (by rw [hz]; decide) rfl (sa_bin .eql 3 (.tmp 42) (.tmp 43) 3 44 (.int .i64 (a : Int)) (.int .i64 (b : Int)) (.bool true) rfl rfl rfl (.new 42 (by kernel_rfl) (by rw [hz]; decide)) (.new 43 (by kernel_rfl) (by rw [hz]; decide)) guard_int (bin_eql (decide_eq_true (by omega))) rfl)
  case s7 => exact sa_guardF 3 41 rfl rfl (by kernel_rfl) (by rw [hz]; decide) rfl (sa_move (.tmp 44) 45 (.val (.bool true)) (.inl rfl) rfl rfl (.new 44 (by kernel_rfl) (by rw [hz]; decide)) rfl)
  case s8 => exact sa_guard 7 45 rfl rfl (by kernel_rfl) (by rw [hz]; decide) rfl (sa_move (.tmp 1) 46 (.val (.slice (some ⟨g, of, none⟩) n cap)) (.inl rfl) rfl rfl (.old 1 _ (by decide) e1) rfl)
  case s9 => exact sa_guard 7 45 rfl rfl (by kernel_rfl) (by rw [hz]; decide) rfl (sa_move (.tmp 8) 47 (.val (.int .i64 (k : Int))) (.inl rfl) rfl rfl (.old 8 _ (by decide) e8) rfl)
  case s10 => exact sa_guard 7 45 rfl rfl (by kernel_rfl) (by rw [hz]; decide) rfl (sa_ixa 24 (.tmp 46) (.tmp 47) 48 (.slice (some ⟨g, of, none⟩) n cap) (.int .i64 (k : Int)) (.pointer (some ⟨g, of + k, none⟩)) rfl rfl rfl (.new 46 (by kernel_rfl) (by rw [hz]; decide)) (.new 47 (by kernel_rfl) (by rw [hz]; decide)) (ix_slice (sz := 1) Try.underlying24 (by intro w; kernel_rfl) (by omega) (by omega)) rfl)
  case s11 => exact sa_guard 7 45 rfl rfl (by kernel_rfl) (by rw [hz]; decide) rfl (sa_loadc 3 (.tmp 48) 49 (g) (of + k) (.int .i64 x) rfl rfl rfl (by intro w; kernel_rfl) (.new 48 (by kernel_rfl) (by rw [hz]; decide)) hX rfl)
  case s12 => exact sa_guard 7 45 rfl rfl (by kernel_rfl) (by rw [hz]; decide) rfl (sa_move (.tmp 1) 50 (.val (.slice (some ⟨g, of, none⟩) n cap)) (.inl rfl) rfl rfl (.old 1 _ (by decide) e1) rfl)
  case s13 => exact sa_guard 7 45 rfl rfl (by kernel_rfl) (by rw [hz]; decide) rfl (sa_move (.tmp 6) 51 (.val (.int .i64 (i : Int))) (.inl rfl) rfl rfl (.old 6 _ (by decide) e6) rfl)
  case s14 => exact sa_guard 7 45 rfl rfl (by kernel_rfl) (by rw [hz]; decide) rfl (sa_ixa 24 (.tmp 50) (.tmp 51) 52 (.slice (some ⟨g, of, none⟩) n cap) (.int .i64 (i : Int)) (.pointer (some ⟨g, of + i, none⟩)) rfl rfl rfl (.new 50 (by kernel_rfl) (by rw [hz]; decide)) (.new 51 (by kernel_rfl) (by rw [hz]; decide)) (ix_slice (sz := 1) Try.underlying24 (by intro w; kernel_rfl) (by omega) (by omega)) rfl)
  case s15 => exact sa_guard 7 45 rfl rfl (by kernel_rfl) (by rw [hz]; decide) rfl (sa_loadc 3 (.tmp 52) 53 (g) (of + i) (.int .i64 y) rfl rfl rfl (by intro w; kernel_rfl) (.new 52 (by kernel_rfl) (by rw [hz]; decide)) hY rfl)
  case s16 => exact sa_guard 7 45 rfl rfl (by kernel_rfl) (by rw [hz]; decide) rfl (sa_bin .lss 3 (.tmp 49) (.tmp 53) 3 54 (.int .i64 x) (.int .i64 y) (.bool (decide (x < y))) rfl rfl rfl (.new 49 (by kernel_rfl) (by rw [hz]; decide)) (.new 53 (by kernel_rfl) (by rw [hz]; decide)) guard_int (bin_lss rfl) rfl)
  case s17 => exact sa_guardF 3 41 rfl rfl (by kernel_rfl) (by rw [hz]; decide) rfl (sa_pick (.tmp 45) (.tmp 54) (.const _) 55 (.val (.bool (decide (x < y)))) rfl rfl rfl (.new 45 (by kernel_rfl) (by rw [hz]; decide)) (.new 54 (by kernel_rfl) (by rw [hz]; decide)) rfl)
  case s18 => exact sa_pickF (.tmp 41) (.const _) (.tmp 55) 56 (.val (.bool (decide (x < y)))) rfl rfl rfl (.new 41 (by kernel_rfl) (by rw [hz]; decide)) (.new 55 (by kernel_rfl) (by rw [hz]; decide)) rfl
  case e =>
  intro ac wz hA hgr hv
  exact hend ac wz hA (hv 56 (by kernel_rfl) (by rw [hz]; decide)) hgr
set_option maxRecDepth 100000 in
theorem r25_13 {Q : Exit → Act → World → Prop} {a0 : Act} {w : World} (hz : a0.tmps.size = 74) (n cap q : Nat) (ad : Option Addr) (hn : 0 < n) (hq : 8 / n = q) (e1 : a0.eval (.tmp 1) = .slice ad n cap) (hend : ∀ ac wz, After [59, 60, 61, 11] a0 ac → ac.eval (.tmp 11) = .int .i64 (q : Int) → Gr w wz → Q .normal ac wz) : (Code.region 13 q25_13 false).wp Try.prog Q a0 w := by
  refine seq_by (by kernel_rfl) 4 (by decide) [59, 60, 61, 11] (fun | 59 => .val (.slice ad n cap) | 60 => .val (.int .i64 (n : Int)) | 61 => .val (.int .i64 (q : Int)) | 11 => .val (.int .i64 (q : Int)) | _ => .any) (by kernel_rfl) (List.forall_mem_cons.2 ⟨?s0, List.forall_mem_cons.2 ⟨?s1, List.forall_mem_cons.2 ⟨?s2, List.forall_mem_cons.2 ⟨?s3, fun o ho => nomatch ho⟩⟩⟩⟩) ?e
  case s0 => exact sa_move (.tmp 1) 59 (.val (.slice ad n cap)) (.inl rfl) rfl rfl (.old 1 _ (by decide) e1) rfl
  case s1 => exact sa_len 24 (.tmp 59) 60 (.slice ad n cap) (.int .i64 (n : Int)) rfl rfl rfl (.new 59 (by kernel_rfl) (by rw [hz]; decide)) (by intro w; kernel_rfl) rfl
  case s2 => exact sa_bin .quo 3 (.const _) (.tmp 60) 3 61 (.int .i64 8) (.int .i64 (n : Int)) (.int .i64 (q : Int)) rfl rfl rfl (.const _) (.new 60 (by kernel_rfl) (by rw [hz]; decide)) guard_int (bin_quo (by omega) (by rw [← hq]; exact tdiv_nat 8 n)) rfl
  case s3 => exact sa_move (.tmp 61) 11 (.val (.int .i64 (q : Int))) (.inr rfl) rfl rfl (.new 61 (by kernel_rfl) (by rw [hz]; decide)) rfl
  case e =>
  intro ac wz hA hgr hv
  exact wl_end (hend ac wz hA (hv 11 (by kernel_rfl) (by rw [hz]; decide)) hgr)
set_option maxRecDepth 100000 in
theorem r25_14 {Q : Exit → Act → World → Prop} {a0 : Act} {w : World} (hz : a0.tmps.size = 74) (n cap k q : Nat) (ad : Option Addr) (hn : 0 < n) (hq : 8 % n = q) (e7 : a0.eval (.tmp 7) = .int .i64 (k : Int)) (e1 : a0.eval (.tmp 1) = .slice ad n cap) (hend : ∀ ac wz, After [62, 63, 64, 65, 66] a0 ac → ac.eval (.tmp 66) = .bool (decide ((k : Int) < (q : Int))) → Gr w wz → Q .normal ac wz) : (Code.region 14 q25_14 false).wp Try.prog Q a0 w := by
  refine seq_by (by kernel_rfl) 5 (by decide) [62, 63, 64, 65, 66] (fun | 62 => .val (.int .i64 (k : Int)) | 63 => .val (.slice ad n cap) | 64 => .val (.int .i64 (n : Int)) | 65 => .val (.int .i64 (q : Int)) | 66 => .val (.bool (decide ((k : Int) < (q : Int)))) | _ => .any) (by kernel_rfl) (List.forall_mem_cons.2 ⟨?s0, List.forall_mem_cons.2 ⟨?s1, List.forall_mem_cons.2 ⟨?s2, List.forall_mem_cons.2 ⟨?s3, List.forall_mem_cons.2 ⟨?s4, fun o ho => nomatch ho⟩⟩⟩⟩⟩) ?e
  case s0 => exact sa_move (.tmp 7) 62 (.val (.int .i64 (k : Int))) (.inl rfl) rfl rfl (.old 7 _ (by decide) e7) rfl
  case s1 => exact sa_move (.tmp 1) 63 (.val (.slice ad n cap)) (.inl rfl) rfl rfl (.old 1 _ (by decide) e1) rfl
  case s2 => exact sa_len 24 (.tmp 63) 64 (.slice ad n cap) (.int .i64 (n : Int)) rfl rfl rfl (.new 63 (by kernel_rfl) (by rw [hz]; decide)) (by intro w; kernel_rfl) rfl
  case s3 => exact sa_bin .rem 3 (.const _) (.tmp 64) 3 65 (.int .i64 8) (.int .i64 (n : Int)) (.int .i64 (q : Int)) rfl rfl rfl (.const _) (.new 64 (by kernel_rfl) (by rw [hz]; decide)) guard_int (bin_rem (by omega) (by rw [← hq]; exact tmod_nat 8 n)) rfl
  case s4 => exact sa_bin .lss 3 (.tmp 62) (.tmp 65) 3 66 (.int .i64 (k : Int)) (.int .i64 (q : Int)) (.bool (decide ((k : Int) < (q : Int)))) rfl rfl rfl (.new 62 (by kernel_rfl) (by rw [hz]; decide)) (.new 65 (by kernel_rfl) (by rw [hz]; decide)) guard_int (bin_lss rfl) rfl
  case e =>
  intro ac wz hA hgr hv
  exact wl_end (hend ac wz hA (hv 66 (by kernel_rfl) (by rw [hz]; decide)) hgr)
set_option maxRecDepth 100000 in
theorem r25_16 {Q : Exit → Act → World → Prop} {a0 : Act} {w : World} (hz : a0.tmps.size = 74) (v5 : Value) (x M : Nat) (L : List Int) (hown : w.ownsRow M 3 1 v5 L.length (intV L)) (hb : L.length + 1 ≤ 17592186043904) (hM : M ≤ w.heap.size) (e5 : a0.eval (.tmp 5) = v5) (e11 : a0.eval (.tmp 11) = .int .i64 (x : Int)) (hend : ∀ ac wz v, After (5 :: 72 :: [69, 70, 71]) a0 ac → ac.eval (.tmp 5) = v → wz.ownsRow M 3 1 v (L ++ [(x : Int)]).length (intV (L ++ [(x : Int)])) → Below M w wz → Q .normal ac wz) : (Code.region 16 q25_16 false).wp Try.prog Q a0 w := by
  refine seq_by (by kernel_rfl) 3 (by decide) [69, 70, 71] (fun | 69 => .val (v5) | 70 => .val (.int .i64 (x : Int)) | 71 => oneF (x : Int) | _ => .any) (by kernel_rfl) (List.forall_mem_cons.2 ⟨?s0, List.forall_mem_cons.2 ⟨?s1, List.forall_mem_cons.2 ⟨?s2, fun o ho => nomatch ho⟩⟩⟩) ?e
  case s0 => exact sa_move (.tmp 5) 69 (.val (v5)) (.inl rfl) rfl rfl (.old 5 _ (by decide) e5) rfl
  case s1 => exact sa_move (.tmp 11) 70 (.val (.int .i64 (x : Int))) (.inl rfl) rfl rfl (.old 11 _ (by decide) e11) rfl
  case s2 => exact sa_bs1 24 1 (.tmp 70) 71 (.int .i64 (x : Int)) rfl rfl rfl (.new 70 (by kernel_rfl) (by rw [hz]; decide)) (bs24 (x : Int))
  case e =>
  intro ac wz hA hgr hv
  have o69 : ac.eval (.tmp 69) = v5 := hv 69 (by kernel_rfl) (by rw [hz]; decide)
  have o71 := hv 71 (by kernel_rfl) (by rw [hz]; decide)
  refine wpl_app rfl (.tmp 69) (.tmp 71) rfl M v5 L [(x : Int)] (owns_gr hown hgr) o69 _ _ rfl (oneF_ints o71) hb (Nat.le_trans hM hgr.size) ?_
  intro v3 w3 own3 b3
  refine wl_of rfl (op_move (.tmp 72) (.inr rfl) (wl_end ?_))
  exact hend _ w3 v3 ((hA.put 72 _).put 5 _) ((ev_put (by rw [put_size, hA.size, hz]; decide)).trans ((if_pos rfl).trans ((ev_put (by rw [hA.size, hz]; decide)).trans (if_pos rfl)))) own3 ((hgr.mono hM).trans b3)
set_option maxRecDepth 100000 in
theorem r25_17 {Q : Exit → Act → World → Prop} {a0 : Act} {w : World} (hz : a0.tmps.size = 74) (v5 : Value) (e5 : a0.eval (.tmp 5) = v5) (hend : ∀ ac wz, After [73, 4] a0 ac → ac.eval (.tmp 4) = v5 → Gr w wz → Q .normal ac wz) : (Code.region 17 q25_17 false).wp Try.prog Q a0 w := by
  refine seq_by (by kernel_rfl) 2 (by decide) [73, 4] (fun | 73 => .val (v5) | 4 => .val (v5) | _ => .any) (by kernel_rfl) (List.forall_mem_cons.2 ⟨?s0, List.forall_mem_cons.2 ⟨?s1, fun o ho => nomatch ho⟩⟩) ?e
  case s0 => exact sa_move (.tmp 5) 73 (.val (v5)) (.inl rfl) rfl rfl (.old 5 _ (by decide) e5) rfl
  case s1 => exact sa_move (.tmp 73) 4 (.val (v5)) (.inr rfl) rfl rfl (.new 73 (by kernel_rfl) (by rw [hz]; decide)) rfl
  case e =>
  intro ac wz hA hgr hv
  exact wl_end (hend ac wz hA (hv 4 (by kernel_rfl) (by rw [hz]; decide)) hgr)
def c25_ri : Code := (((Code.region 7 q25_7 false).seq (Code.cond (Operand.tmp 21) Code.skip (Code.exit 2))).seq ((Code.block 3 ((Code.region 9 q25_9 true).seq ((Code.region 10 q25_10 true).seq ((Code.region 11 q25_11 true).seq (Code.cond (Operand.tmp 56) (Code.region 12 q25_12 false) Code.skip))))).seq (Code.region 8 q25_8 false)))
def c25_li : Code := (Code.block 2 (c25_ri.loop))
def c25_fin : Code := ((Code.region 13 q25_13 false).seq (((Code.region 14 q25_14 false).seq (Code.cond (Operand.tmp 66) (Code.region 15 q25_15 false) Code.skip)).seq (Code.region 16 q25_16 false)))
def c25_b1 : Code := (Code.block 1 ((Code.region 5 q25_5 false).seq (((Code.region 6 q25_6 false).seq c25_li).seq c25_fin)))
def c25_ra : Code := (((Code.region 3 q25_3 false).seq (Code.cond (Operand.tmp 15) Code.skip (Code.exit 0))).seq (c25_b1.seq (Code.region 4 q25_4 false)))
def c25_la : Code := (Code.block 0 (c25_ra.loop))
def c25 : Code := ((Code.region 0 q25_0 false).seq ((Code.region 1 q25_1 false).seq (((Code.region 2 q25_2 false).seq c25_la).seq ((Code.region 17 q25_17 false).seq Code.ret))))
theorem own_tally {M o : List Int} (hM : M.Pairwise (· < ·)) (hp : ∀ x ∈ M, 0 < x) (ho : o.length = 8) (k : Nat) (hk : k < M.length) : (tallyI M.length (o.map (findI M))).getD k 0 = ((ownedL o (M.getD k 0)).length : Int) := by
  have h1 : (tallyI M.length (o.map (findI M))).getD k 0 = ((o.map (findI M)).count (some k) : Int) := by
    unfold tallyI
    rw [List.getD_eq_getElem?_getD, List.getElem?_map, List.getElem?_range hk]; rfl
  have hpos : 0 < M.getD k 0 := hp _ (by rw [List.getD_eq_getElem?_getD, List.getElem?_eq_getElem hk]; exact List.getElem_mem hk)
  rw [h1]
  congr 1
  rw [List.count_eq_countP, List.countP_map]
  unfold ownedL ownedTo
  rw [List.length_map, ← List.countP_eq_length_filter]
  have h2 := countP_range_eq o (fun z => decide (z = M.getD k 0))
  rw [ho] at h2
  have e1 : (List.range 8).countP (fun i => decide (o.getD i 0 = M.getD k 0 ∧ 0 < M.getD k 0)) = (List.range 8).countP (fun j => decide (o.getD j 0 = M.getD k 0)) := by
    congr 1
    funext i
    rw [decide_eq_decide]
    exact ⟨fun q => q.1, fun q => ⟨q, hpos⟩⟩
  rw [e1, h2]
  congr 1
  funext y
  show (findI M y == some k) = decide (y = M.getD k 0)
  have h3 := find_iff hM k hk y
  by_cases q : M.getD k 0 = y
  · rw [h3.2 q, decide_eq_true q.symm]; simp
  · have : ¬ findI M y = some k := fun e => q (h3.1 e)
    rw [decide_eq_false (fun e => q e.symm)]
    simpa using this
def shTo (t : List Int) (i : Nat) : List Int := (List.range i).map fun j => quotaI t.length (rankI t j)
theorem shTo_succ (t : List Int) (i : Nat) : shTo t (i + 1) = shTo t i ++ [quotaI t.length (rankI t i)] := by
  unfold shTo
  rw [List.range_succ, List.map_append]; rfl
theorem shTo_len (t : List Int) (i : Nat) : (shTo t i).length = i := by simp [shTo]
theorem shTo_all (t : List Int) : shTo t t.length = shareI t := rfl
def rkTo (t : List Int) (i k : Nat) : Nat := (List.range k).countP fun j => aheadB t j i
theorem rkTo_succ (t : List Int) (i k : Nat) : rkTo t i (k + 1) = rkTo t i k + if aheadB t k i = true then 1 else 0 := by
  unfold rkTo
  rw [List.range_succ, List.countP_append]
  by_cases h : aheadB t k i = true <;> simp [h]
theorem rkTo_le (t : List Int) (i k : Nat) : rkTo t i k ≤ k := by
  unfold rkTo
  exact Nat.le_trans List.countP_le_length (by simp)
structure Qs (w : World) (b : Nat) (v1 : Value) (o : List Int) (ac : Act) (x : World) : Prop where
  z : ac.tmps.size = 74
  df : ac.defers = []
  e1 : ac.eval (.tmp 1) = v1
  e2 : ac.eval (.tmp 2) = .pointer (some ⟨b, 0, none⟩)
  bl : Below b w x
  h2 : Holds x b (intV o) 23
theorem Qs.next {w x y : World} {b M : Nat} {v1 : Value} {o : List Int} {ac ad : Act} {D : List Nat} (h : Qs w b v1 o ac x) (hA : After D ac ad) (hD : (D.all fun s => decide (3 ≤ s)) = true) (hb : Below M x y) (hM : b < M) : Qs w b v1 o ad y :=
  ⟨hA.size.trans h.z, hA.defers.trans h.df, hA.keep hD (by omega) h.e1, hA.keep hD (by omega) h.e2, h.bl.trans (hb.mono (by omega)), h.h2.below hb hM⟩
theorem Qs.gr {w x y : World} {b : Nat} {v1 : Value} {o : List Int} {ac ad : Act} {D : List Nat} (h : Qs w b v1 o ac x) (hA : After D ac ad) (hD : (D.all fun s => decide (3 ≤ s)) = true) (g : Gr x y) : Qs w b v1 o ad y := h.next hA hD g h.h2.lt
theorem own_len (o : List Int) (ho : o.length = 8) (node : Int) (y : World) : Calls Try.prog 29 #[.agg (intV o).toArray, .int .i64 node] y fun e z => ∃ u, e = .returned u ∧ Gr y z ∧ (lenF (ownedL o node).length).holds u z :=
  (rowned_any o ho node y).mono fun e z ⟨v, p1, p2, p3⟩ => by
    obtain ⟨a, c, e⟩ := row_slice p2
    exact ⟨v, p1, p3, a, c, e⟩
theorem quot_li {Q : Exit → Act → World → Prop} {w x : World} {b : Nat} {v1 : Value} {o M : List Int} {ac : Act} {i : Nat} (h : Qs w b v1 o ac x) (ho : o.length = 8) (hI : Ints b w v1 M) (hM : M.Pairwise (· < ·)) (hp : ∀ x ∈ M, 0 < x) (hl : M.length ≤ 17592186043904) (hi : i < M.length) (e6 : ac.eval (.tmp 6) = .int .i64 (i : Int)) (e7 : ac.eval (.tmp 7) = .int .i64 ((0 : Nat) : Int)) (e8 : ac.eval (.tmp 8) = .int .i64 ((0 : Nat) : Int)) (v5 : Value) (e5 : ac.eval (.tmp 5) = v5)
    (hend : ∀ ad y, Qs w b v1 o ad y → Gr x y → ad.eval (.tmp 6) = .int .i64 (i : Int) → ad.eval (.tmp 5) = v5 → ad.eval (.tmp 7) = .int .i64 ((rkTo (tallyI M.length (o.map (findI M))) i M.length : Nat) : Int) → Q .normal ad y) : c25_li.wp Try.prog Q ac x := by
  obtain ⟨a1, cap1, hv1⟩ := hI.len
  unfold c25_li
  refine wp_block ?_
  refine wp_loop (fun ad y => ∃ k : Nat, Qs w b v1 o ad y ∧ Gr x y ∧ k ≤ M.length ∧ ad.eval (.tmp 8) = .int .i64 (k : Int) ∧ ad.eval (.tmp 6) = .int .i64 (i : Int) ∧ ad.eval (.tmp 5) = v5 ∧ ad.eval (.tmp 7) = .int .i64 ((rkTo (tallyI M.length (o.map (findI M))) i k : Nat) : Int)) (fun ad _ => M.length - (intOf (ad.eval (.tmp 8))).toNat)
    ⟨0, h, Gr.refl _, Nat.zero_le _, e8, e6, e5, e7⟩ (fun a0 x0 ⟨k, h0, G0, hk, f8, f6, f5, f7⟩ => ?_)
  unfold c25_ri
  refine wp_seq (wp_seq (r25_7 h0.z k M.length cap1 a1 f8 (by rw [h0.e1, hv1]) (fun a2 x2 A2 o2 G2 => ?_)))
  have h2 := h0.gr A2 (by decide) G2
  have g5 := A2.get f5 (by decide)
  have g6 := A2.get f6 (by decide)
  have g7 := A2.get f7 (by decide)
  have g8 := A2.get f8 (by decide)
  show Code.wp Try.prog (Code.cond _ _ _) _ a2 x2
  refine wp_cond_split o2 (fun q => ?_) (fun q => ?_)
  · have q : (k : Int) < (M.length : Int) := of_decide_eq_true q
    have hkl : k < M.length := by omega
    obtain ⟨g, of, cap, hv, hgb, hck⟩ := ints_at hI k hkl
    have hci : w.cell? ⟨g, of + i, none⟩ = some (.int .i64 (M.getD i 0)) := by
      obtain ⟨g', of', cap', hv', _, hc'⟩ := ints_at hI i hi
      rw [hv] at hv'
      cases hv'
      exact hc'
    have cK : ∀ {y : World} {ad : Act}, Qs w b v1 o ad y → ∀ z, Gr y z → z.cell? ⟨g, of + k, none⟩ = some (.int .i64 (M.getD k 0)) := fun hq z hz => cell_below (hq.bl.trans (hz.mono (Nat.le_of_lt hq.h2.lt))) hgb hck
    have cI : ∀ {y : World} {ad : Act}, Qs w b v1 o ad y → ∀ z, Gr y z → z.cell? ⟨g, of + i, none⟩ = some (.int .i64 (M.getD i 0)) := fun hq z hz => cell_below (hq.bl.trans (hz.mono (Nat.le_of_lt hq.h2.lt))) hgb hci
    have tk := own_tally hM hp ho k hkl
    have ti := own_tally hM hp ho i hi
    have hol : (intV o).length = 8 := by rw [intV_len, ho]
    have rs := rkTo_succ (tallyI M.length (o.map (findI M))) i k
    have rl := rkTo_le (tallyI M.length (o.map (findI M))) i k
    have ha := aheadB_iff (tallyI M.length (o.map (findI M))) k i
    rw [tk, ti] at ha
    obtain ⟨ca, hca⟩ : ∃ ca, (ownedL o (M.getD k 0)).length = ca := ⟨_, rfl⟩
    obtain ⟨cb, hcb⟩ : ∃ cb, (ownedL o (M.getD i 0)).length = cb := ⟨_, rfl⟩
    rw [hca, hcb] at ha
    have hki : M.getD k 0 < M.getD i 0 ↔ k < i := by
      constructor
      · intro q1
        rcases Nat.lt_trichotomy k i with q2 | q2 | q2
        · exact q2
        · subst q2; omega
        · have := rise_getD hM q2 hkl; omega
      · intro q1; exact rise_getD hM q1 hi
    have fin : ∀ a6 x6, Qs w b v1 o a6 x6 → Gr x x6 → a6.eval (.tmp 8) = .int .i64 (k : Int) → a6.eval (.tmp 6) = .int .i64 (i : Int) → a6.eval (.tmp 5) = v5 → a6.eval (.tmp 7) = .int .i64 ((rkTo (tallyI M.length (o.map (findI M))) i (k + 1) : Nat) : Int) → (Code.region 8 q25_8 false).wp Try.prog (Exit.then (fun a' w' => (∃ k : Nat, Qs w b v1 o a' w' ∧ Gr x w' ∧ k ≤ M.length ∧ a'.eval (.tmp 8) = .int .i64 (k : Int) ∧ a'.eval (.tmp 6) = .int .i64 (i : Int) ∧ a'.eval (.tmp 5) = v5 ∧ a'.eval (.tmp 7) = .int .i64 ((rkTo (tallyI M.length (o.map (findI M))) i k : Nat) : Int)) ∧ M.length - (intOf (a'.eval (.tmp 8))).toNat < M.length - (intOf (a0.eval (.tmp 8))).toNat) (Exit.inBlock 2 Q)) a6 x6 := fun a6 x6 h6 G6 m8 m6 m5 m7 => by
      refine r25_8 h6.z k (by omega) m8 (fun a7 x7 A7 o7 G7 => ?_)
      refine ⟨⟨k + 1, h6.gr A7 (by decide) G7, G6.trans G7, by omega, o7, A7.get m6 (by decide), A7.get m5 (by decide), A7.get m7 (by decide)⟩, ?_⟩
      rw [o7, f8]
      simp only [intOf]
      omega
    refine wp_skip ?_
    show Code.wp Try.prog (Code.seq _ _) _ a2 x2
    refine wp_seq (wp_block ?_)
    refine wp_seq (r25_9 h2.z b g of M.length cap k ca _ o hol h2.h2 hkl (cK h2) (fun y _ => by have := own_len o ho (M.getD k 0) y; rw [hca] at this; exact this) h2.e2 (by rw [h2.e1, hv]) g8 (fun a3 x3 A3 o9 G3 => ?_))
    have h3 := h2.gr A3 (by decide) G3
    show Code.wp Try.prog (Code.seq _ _) _ a3 x3
    refine wp_seq (r25_10 h3.z b g of M.length cap i cb _ o hol h3.h2 hi (cI h3) (fun y _ => by have := own_len o ho (M.getD i 0) y; rw [hcb] at this; exact this) h3.e2 (by rw [h3.e1, hv]) (A3.get g6 (by decide)) (fun a4 x4 A4 o10 G4 => ?_))
    have h4 := h3.gr A4 (by decide) G4
    have k5 := A4.get (A3.get g5 (by decide)) (by decide)
    have k6 := A4.get (A3.get g6 (by decide)) (by decide)
    have k7 := A4.get (A3.get g7 (by decide)) (by decide)
    have k8 := A4.get (A3.get g8 (by decide)) (by decide)
    have k9 := A4.get o9 (by decide)
    have G24 := G0.trans (G2.trans (G3.trans G4))
    -- behind the test
    have tst : ∀ a5 x5 D (bb : Bool), After D a4 a5 → (D.all fun s => decide (11 ≤ s)) = true → Gr x4 x5 → a5.eval (.tmp 56) = .bool bb → bb = aheadB (tallyI M.length (o.map (findI M))) k i → (Code.cond (Operand.tmp 56) (Code.region 12 q25_12 false) Code.skip).wp Try.prog (Exit.inBlock 3 (Exit.then ((Code.region 8 q25_8 false).wp Try.prog (Exit.then (fun a' w' => (∃ k : Nat, Qs w b v1 o a' w' ∧ Gr x w' ∧ k ≤ M.length ∧ a'.eval (.tmp 8) = .int .i64 (k : Int) ∧ a'.eval (.tmp 6) = .int .i64 (i : Int) ∧ a'.eval (.tmp 5) = v5 ∧ a'.eval (.tmp 7) = .int .i64 ((rkTo (tallyI M.length (o.map (findI M))) i k : Nat) : Int)) ∧ M.length - (intOf (a'.eval (.tmp 8))).toNat < M.length - (intOf (a0.eval (.tmp 8))).toNat) (Exit.inBlock 2 Q))) (Exit.then (fun a' w' => (∃ k : Nat, Qs w b v1 o a' w' ∧ Gr x w' ∧ k ≤ M.length ∧ a'.eval (.tmp 8) = .int .i64 (k : Int) ∧ a'.eval (.tmp 6) = .int .i64 (i : Int) ∧ a'.eval (.tmp 5) = v5 ∧ a'.eval (.tmp 7) = .int .i64 ((rkTo (tallyI M.length (o.map (findI M))) i k : Nat) : Int)) ∧ M.length - (intOf (a'.eval (.tmp 8))).toNat < M.length - (intOf (a0.eval (.tmp 8))).toNat) (Exit.inBlock 2 Q)))) a5 x5 := fun a5 x5 D bb A5 hD5 G5 o56 hbb => by
      have hD3 : (D.all fun s => decide (3 ≤ s)) = true := List.all_eq_true.2 fun s hs => by have := List.all_eq_true.1 hD5 s hs; simp at this ⊢; omega
      have h5 := h4.gr A5 hD3 G5
      refine wp_cond_split o56 (fun qb => ?_) (fun qb => ?_)
      · rw [qb] at hbb
        rw [if_pos hbb.symm] at rs
        refine r25_12 h5.z _ (by omega) (A5.keep hD5 (by omega) k7) (fun a6 x6 A6 o6 G6 => ?_)
        exact fin a6 x6 (h5.gr A6 (by decide) G6) (G24.trans (G5.trans G6)) (A6.get (A5.keep hD5 (by omega) k8) (by decide)) (A6.get (A5.keep hD5 (by omega) k6) (by decide)) (A6.get (A5.keep hD5 (by omega) k5) (by decide)) (by rw [rs]; exact o6)
      · rw [qb] at hbb
        rw [if_neg (by rw [← hbb]; decide), Nat.add_zero] at rs
        refine wp_skip ?_
        exact fin a5 x5 h5 (G24.trans G5) (A5.keep hD5 (by omega) k8) (A5.keep hD5 (by omega) k6) (A5.keep hD5 (by omega) k5) (by rw [rs]; exact A5.keep hD5 (by omega) k7)
    show Code.wp Try.prog (Code.seq _ _) _ a4 x4
    by_cases c1 : cb < ca
    · refine wp_seq (r25_11g h4.z ca cb c1 k9 o10 (fun a5 x5 A5 o56 G5 => ?_))
      exact tst a5 x5 _ true A5 (by decide) G5 o56 (ha.2 (.inl (by omega))).symm
    · by_cases c2 : ca = cb
      · refine wp_seq (r25_11e h4.z ca cb c2 g of M.length cap k i _ _ hkl hi (cK h4) (cI h4) k9 o10 (by rw [h4.e1, hv]) k8 k6 (fun a5 x5 A5 o56 G5 => ?_))
        refine tst a5 x5 _ _ A5 (by decide) G5 o56 ?_
        by_cases c3 : k < i
        · rw [decide_eq_true (hki.2 c3), ha.2 (.inr ⟨by omega, c3⟩)]
        · rw [decide_eq_false (fun q1 => c3 (hki.1 q1))]
          cases hb : aheadB (tallyI M.length (o.map (findI M))) k i with
          | false => rfl
          | true => rcases ha.1 hb with q1 | q1 <;> omega
      · refine wp_seq (r25_11n h4.z ca cb c1 c2 k9 o10 (fun a5 x5 A5 o56 G5 => ?_))
        refine tst a5 x5 _ false A5 (by decide) G5 o56 ?_
        cases hb : aheadB (tallyI M.length (o.map (findI M))) k i with
        | false => rfl
        | true => rcases ha.1 hb with q1 | q1 <;> omega
  · have q : ¬ (k : Int) < (M.length : Int) := of_decide_eq_false q
    obtain rfl : k = M.length := by omega
    exact wp_exit (hend a2 x2 h2 (G0.trans G2) g6 g5 g7)
theorem quotas_any (v1 : Value) (o M : List Int) (w : World) (ho : o.length = 8) (hI : Ints w.heap.size w v1 M) (hM : M.Pairwise (· < ·)) (hp : ∀ x ∈ M, 0 < x) (hl : M.length ≤ 17592186043904) :
    Calls Try.prog 25 #[.agg (intV o).toArray, v1] w fun e z => ∃ u, e = .returned u ∧ z.ownsRow w.heap.size 3 1 u M.length (intV (shareI (tallyI M.length (o.map (findI M))))) ∧ Gr w z := by
  obtain ⟨b, hwb⟩ : ∃ b, w.heap.size = b := ⟨_, rfl⟩
  rw [hwb] at hI ⊢
  obtain ⟨a1, cap1, hv1⟩ := hI.len
  have htl : (tallyI M.length (o.map (findI M))).length = M.length := tallyI_len _ _
  refine calls_by (c := c25) Try.func25 (by kernel_rfl) 74 (by rw [Try.ntmps25]; rfl) (fun ac z df hv => ?_)
  have e0 := hv 0 _ rfl
  have e1 := hv 1 _ rfl
  clear hv
  unfold c25
  refine wp_seq (r25_0 z b hwb o e0 (fun a1' x1 A1 o2 N1 => ?_))
  have h1 : Qs w b v1 o a1' x1 := ⟨A1.size.trans z, A1.defers.trans df, A1.get e1 (by decide), o2, N1.below, N1.holds⟩
  show Code.wp Try.prog (Code.seq _ _) _ a1' x1
  refine wp_seq (r25_1 h1.z (fun a2 x2 A2 o5 G2 => ?_))
  have h2 := h1.gr A2 (by decide) G2
  show Code.wp Try.prog (Code.seq (Code.seq _ c25_la) _) _ a2 x2
  refine wp_seq (wp_seq (r25_2 h2.z (fun a3 x3 A3 o6 G3 => ?_)))
  have h3 := h2.gr A3 (by decide) G3
  show Code.wp Try.prog c25_la _ a3 x3
  unfold c25_la
  refine wp_block ?_
  refine wp_loop (fun ad y => ∃ (i : Nat) (v5 : Value), Qs w b v1 o ad y ∧ b + 1 ≤ y.heap.size ∧ i ≤ M.length ∧ ad.eval (.tmp 6) = .int .i64 (i : Int) ∧ ad.eval (.tmp 5) = v5 ∧ y.ownsRow (b + 1) 3 1 v5 (shTo (tallyI M.length (o.map (findI M))) i).length (intV (shTo (tallyI M.length (o.map (findI M))) i))) (fun ad _ => M.length - (intOf (ad.eval (.tmp 6))).toNat)
    ⟨0, _, h3, by have := h3.h2.lt; omega, Nat.zero_le _, o6, A3.get o5 (by decide), World.ownsRow_nil _ _ _ _⟩ (fun a4 x4 ⟨i, v5, h4, hsz4, hi, f6, f5, own4⟩ => ?_)
  unfold c25_ra
  refine wp_seq (wp_seq (r25_3 h4.z i M.length cap1 a1 f6 (by rw [h4.e1, hv1]) (fun a5 x5 A5 o15 G5 => ?_)))
  have h5 := h4.gr A5 (by decide) G5
  show Code.wp Try.prog (Code.cond _ _ _) _ a5 x5
  refine wp_cond_split o15 (fun q => ?_) (fun q => ?_)
  · have q : (i : Int) < (M.length : Int) := of_decide_eq_true q
    have hil : i < M.length := by omega
    refine wp_skip ?_
    show Code.wp Try.prog (Code.seq c25_b1 _) _ a5 x5
    unfold c25_b1
    refine wp_seq (wp_block ?_)
    refine wp_seq (r25_5 h5.z (fun a6 x6 A6 o7 G6 => ?_))
    have h6 := h5.gr A6 (by decide) G6
    show Code.wp Try.prog (Code.seq (Code.seq _ c25_li) c25_fin) _ a6 x6
    refine wp_seq (wp_seq (r25_6 h6.z (fun a7 x7 A7 o8 G7 => ?_)))
    have h7 := h6.gr A7 (by decide) G7
    show Code.wp Try.prog c25_li _ a7 x7
    refine quot_li h7 ho hI hM hp hl hil (A7.get (A6.get (A5.get f6 (by decide)) (by decide)) (by decide)) (A7.get o7 (by decide)) o8 v5 (A7.get (A6.get (A5.get f5 (by decide)) (by decide)) (by decide)) (fun a8 x8 h8 G8 m6 m5 m7 => ?_)
    have own8 := owns_gr own4 (G5.trans (G6.trans (G7.trans G8)))
    have hsz8 : b + 1 ≤ x8.heap.size := Nat.le_trans hsz4 (G5.trans (G6.trans (G7.trans G8))).size
    have hrk : rkTo (tallyI M.length (o.map (findI M))) i M.length = rankI (tallyI M.length (o.map (findI M))) i := by
      unfold rkTo rankI
      rw [htl]
    rw [hrk] at m7
    have hss := shTo_succ (tallyI M.length (o.map (findI M))) i
    have hsl := shTo_len (tallyI M.length (o.map (findI M))) i
    rw [htl] at hss
    generalize rankI (tallyI M.length (o.map (findI M))) i = rk at m7 hss
    show Code.wp Try.prog c25_fin _ a8 x8
    unfold c25_fin
    refine wp_seq (r25_13 h8.z M.length cap1 (8 / M.length) a1 (by omega) rfl (by rw [h8.e1, hv1]) (fun a9 x9 A9 o11 G9 => ?_))
    have h9 := h8.gr A9 (by decide) G9
    have m5' := A9.get m5 (by decide)
    have m6' := A9.get m6 (by decide)
    have m7' := A9.get m7 (by decide)
    have own9 := owns_gr own8 G9
    -- the quota is appended
    have app : ∀ a11 x11 (qn : Nat), Qs w b v1 o a11 x11 → Gr x9 x11 → a11.eval (.tmp 6) = .int .i64 (i : Int) → a11.eval (.tmp 5) = v5 → a11.eval (.tmp 11) = .int .i64 (qn : Int) → (qn : Int) = quotaI M.length rk → (Code.region 16 q25_16 false).wp Try.prog (Exit.inBlock 1 (Exit.then ((Code.region 4 q25_4 false).wp Try.prog (Exit.then (fun a' w' => (∃ (i : Nat) (v5 : Value), Qs w b v1 o a' w' ∧ b + 1 ≤ w'.heap.size ∧ i ≤ M.length ∧ a'.eval (.tmp 6) = .int .i64 (i : Int) ∧ a'.eval (.tmp 5) = v5 ∧ w'.ownsRow (b + 1) 3 1 v5 (shTo (tallyI M.length (o.map (findI M))) i).length (intV (shTo (tallyI M.length (o.map (findI M))) i))) ∧ M.length - (intOf (a'.eval (.tmp 6))).toNat < M.length - (intOf (a4.eval (.tmp 6))).toNat) (Exit.inBlock 0 (Exit.then (((Code.region 17 q25_17 false).seq Code.ret).wp Try.prog (bodyPost Try.prog Try.f25 fun e z => ∃ u, e = .returned u ∧ z.ownsRow b 3 1 u M.length (intV (shareI (tallyI M.length (o.map (findI M))))) ∧ Gr w z)) (bodyPost Try.prog Try.f25 fun e z => ∃ u, e = .returned u ∧ z.ownsRow b 3 1 u M.length (intV (shareI (tallyI M.length (o.map (findI M))))) ∧ Gr w z))))) (Exit.then (fun a' w' => (∃ (i : Nat) (v5 : Value), Qs w b v1 o a' w' ∧ b + 1 ≤ w'.heap.size ∧ i ≤ M.length ∧ a'.eval (.tmp 6) = .int .i64 (i : Int) ∧ a'.eval (.tmp 5) = v5 ∧ w'.ownsRow (b + 1) 3 1 v5 (shTo (tallyI M.length (o.map (findI M))) i).length (intV (shTo (tallyI M.length (o.map (findI M))) i))) ∧ M.length - (intOf (a'.eval (.tmp 6))).toNat < M.length - (intOf (a4.eval (.tmp 6))).toNat) (Exit.inBlock 0 (Exit.then (((Code.region 17 q25_17 false).seq Code.ret).wp Try.prog (bodyPost Try.prog Try.f25 fun e z => ∃ u, e = .returned u ∧ z.ownsRow b 3 1 u M.length (intV (shareI (tallyI M.length (o.map (findI M))))) ∧ Gr w z)) (bodyPost Try.prog Try.f25 fun e z => ∃ u, e = .returned u ∧ z.ownsRow b 3 1 u M.length (intV (shareI (tallyI M.length (o.map (findI M))))) ∧ Gr w z)))))) a11 x11 := fun a11 x11 qn h11 G11 n6 n5 n11 hqn => by
      have own11 := owns_gr own9 G11
      refine r25_16 h11.z v5 qn (b + 1) _ own11 (by omega) (by have := h11.h2.lt; omega) n5 n11 (fun a12 x12 v12 A12 o12 own12 B12 => ?_)
      have h12 := h11.next A12 (by decide) B12 (by omega)
      show Code.wp Try.prog (Code.region 4 q25_4 false) _ a12 x12
      refine r25_4 h12.z i (by omega) (A12.get n6 (by decide)) (fun a13 x13 A13 o13 G13 => ?_)
      refine ⟨⟨i + 1, v12, h12.gr A13 (by decide) G13, by have := (h12.gr A13 (by decide) G13).h2.lt; omega, by omega, o13, A13.get o12 (by decide), ?_⟩, ?_⟩
      · rw [hss, ← hqn]; exact owns_gr own12 G13
      · rw [o13, f6]
        simp only [intOf]
        omega
    show Code.wp Try.prog (Code.seq _ _) _ a9 x9
    refine wp_seq (wp_seq (r25_14 h9.z M.length cap1 rk (8 % M.length) a1 (by omega) rfl m7' (by rw [h9.e1, hv1]) (fun a10 x10 A10 o66 G10 => ?_)))
    have h10 := h9.gr A10 (by decide) G10
    show Code.wp Try.prog (Code.cond _ _ _) _ a10 x10
    refine wp_cond_split o66 (fun q' => ?_) (fun q' => ?_)
    · have q' : (rk : Int) < ((8 % M.length : Nat) : Int) := of_decide_eq_true q'
      refine r25_15 h10.z (8 / M.length) (Nat.le_trans (Nat.div_le_self _ _) (by omega)) (A10.get o11 (by decide)) (fun a11 x11 A11 o11' G11 => ?_)
      refine app a11 x11 _ (h10.gr A11 (by decide) G11) (G10.trans G11) (A11.get (A10.get m6' (by decide)) (by decide)) (A11.get (A10.get m5' (by decide)) (by decide)) o11' ?_
      unfold quotaI
      rw [if_pos (by omega)]
      rfl
    · have q' : ¬ (rk : Int) < ((8 % M.length : Nat) : Int) := of_decide_eq_false q'
      refine wp_skip ?_
      refine app a10 x10 _ h10 G10 (A10.get m6' (by decide)) (A10.get m5' (by decide)) (A10.get o11 (by decide)) ?_
      unfold quotaI
      rw [if_neg (by omega), Int.add_zero]
      rfl
  · have q : ¬ (i : Int) < (M.length : Int) := of_decide_eq_false q
    obtain rfl : i = M.length := by omega
    refine wp_exit ?_
    show Code.wp Try.prog (Code.seq _ Code.ret) _ a5 x5
    refine wp_seq (r25_17 h5.z v5 (A5.get f5 (by decide)) (fun a6 x6 A6 o4 G6 => ?_))
    have h6 := h5.gr A6 (by decide) G6
    have own6 := owns_gr own4 (G5.trans G6)
    rw [shTo_len] at own6
    have e9 : shTo (tallyI M.length (o.map (findI M))) M.length = shareI (tallyI M.length (o.map (findI M))) := by
      have := shTo_all (tallyI M.length (o.map (findI M)))
      rw [htl] at this; exact this
    rw [e9] at own6
    exact wp_ret (bodyPost_ret (results_tmp rfl _ _ _) h6.df ⟨_, congrArg Ending.returned o4, own6.mono (by omega), by unfold Gr; rw [hwb]; exact h6.bl⟩)
end Go.Proofs.Ytlliijodilnlgaa
