/- The document's own members (24): regions and code by tools/gen_those.py. -/
import Derived.Test.YtlliijodilnlgaaRgRcE
namespace Go.Proofs.Ytlliijodilnlgaa
open Go.RowKit
def q24_0 : Array Oper := #[{ dst := some 2, op := Op.assign (Operand.const (Value.slice none 0 0)), type := 24, pos := "ref.go:92", after := #[], guard := none }]
def q24_1 : Array Oper := #[{ dst := some 3, op := Op.assign (Operand.const (Value.slice none 0 0)), type := 24, pos := "ref.go:93", after := #[], guard := none }]
def q24_2 : Array Oper := #[{ dst := some 4, op := Op.assign (Operand.const (Value.int IntKind.i64 0)), type := 3, pos := "ref.go:94", after := #[], guard := none }]
def q24_3 : Array Oper := #[{ dst := some 7, op := Op.move (Operand.tmp 4), type := 3, pos := "ref.go:94", after := #[], guard := none }, { dst := some 8, op := Op.move (Operand.tmp 0), type := 24, pos := "ref.go:94", after := #[], guard := none }, { dst := some 9, op := Op.call { callee := Callee.builtin Builtin.len, args := #[Operand.tmp 8], argTypes := #[24] }, type := 3, pos := "ref.go:94", after := #[{ on := 1, ground := Ground.data }], guard := none }, { dst := some 10, op := Op.binOp BinOp.lss 3 (Operand.tmp 7) (Operand.tmp 9) 3, type := 4, pos := "ref.go:94", after := #[{ on := 0, ground := Ground.data }, { on := 2, ground := Ground.data }], guard := none }]
def q24_4 : Array Oper := #[{ dst := some 11, op := Op.move (Operand.tmp 4), type := 3, pos := "ref.go:94", after := #[], guard := none }, { dst := some 12, op := Op.binOp BinOp.add 3 (Operand.tmp 11) (Operand.const (Value.int IntKind.i64 1)) 3, type := 3, pos := "ref.go:94", after := #[{ on := 0, ground := Ground.data }], guard := none }, { dst := some 4, op := Op.assign (Operand.tmp 12), type := 3, pos := "ref.go:94", after := #[{ on := 1, ground := Ground.data }, { on := 0, ground := Ground.phase }, { on := 1, ground := Ground.phase }], guard := none }]
def q24_5 : Array Oper := #[{ dst := some 5, op := Op.assign (Operand.const (Value.int IntKind.i64 0)), type := 3, pos := "ref.go:95", after := #[], guard := none }]
def q24_6 : Array Oper := #[{ dst := some 13, op := Op.move (Operand.tmp 5), type := 3, pos := "ref.go:96", after := #[], guard := none }, { dst := some 14, op := Op.move (Operand.tmp 3), type := 24, pos := "ref.go:96", after := #[], guard := none }, { dst := some 15, op := Op.call { callee := Callee.builtin Builtin.len, args := #[Operand.tmp 14], argTypes := #[24] }, type := 3, pos := "ref.go:96", after := #[{ on := 1, ground := Ground.data }], guard := none }, { dst := some 16, op := Op.binOp BinOp.lss 3 (Operand.tmp 13) (Operand.tmp 15) 3, type := 4, pos := "ref.go:96", after := #[{ on := 0, ground := Ground.data }, { on := 2, ground := Ground.data }], guard := none }, { dst := some 17, op := Op.move (Operand.tmp 16), type := 4, pos := "ref.go:96", after := #[{ on := 3, ground := Ground.data }], guard := none }, { dst := some 18, op := Op.move (Operand.tmp 3), type := 24, pos := "ref.go:96", after := #[{ on := 4, ground := Ground.guard }], guard := some (4, true) }, { dst := some 19, op := Op.move (Operand.tmp 5), type := 3, pos := "ref.go:96", after := #[{ on := 4, ground := Ground.guard }], guard := some (4, true) }, { dst := some 20, op := Op.indexAddr 24 (Operand.tmp 18) (Operand.tmp 19), type := 0, pos := "ref.go:96", after := #[{ on := 5, ground := Ground.data }, { on := 6, ground := Ground.data }, { on := 4, ground := Ground.guard }], guard := some (4, true) }, { dst := some 21, op := Op.load 3 (Operand.tmp 20), type := 3, pos := "ref.go:96", after := #[{ on := 7, ground := Ground.data }, { on := 4, ground := Ground.guard }], guard := some (4, true) }, { dst := some 22, op := Op.move (Operand.tmp 0), type := 24, pos := "ref.go:96", after := #[{ on := 4, ground := Ground.guard }], guard := some (4, true) }, { dst := some 23, op := Op.move (Operand.tmp 4), type := 3, pos := "ref.go:96", after := #[{ on := 4, ground := Ground.guard }], guard := some (4, true) }, { dst := some 24, op := Op.indexAddr 24 (Operand.tmp 22) (Operand.tmp 23), type := 0, pos := "ref.go:96", after := #[{ on := 9, ground := Ground.data }, { on := 10, ground := Ground.data }, { on := 4, ground := Ground.guard }], guard := some (4, true) }, { dst := some 25, op := Op.load 3 (Operand.tmp 24), type := 3, pos := "ref.go:96", after := #[{ on := 11, ground := Ground.data }, { on := 4, ground := Ground.guard }], guard := some (4, true) }, { dst := some 26, op := Op.binOp BinOp.lss 3 (Operand.tmp 21) (Operand.tmp 25) 3, type := 4, pos := "ref.go:96", after := #[{ on := 8, ground := Ground.data }, { on := 12, ground := Ground.data }, { on := 4, ground := Ground.guard }], guard := some (4, true) }, { dst := some 27, op := Op.pick (Operand.tmp 17) (Operand.tmp 26) (Operand.const (Value.bool false)), type := 4, pos := "ref.go:96", after := #[{ on := 4, ground := Ground.data }, { on := 13, ground := Ground.data }], guard := none }]
def q24_7 : Array Oper := #[{ dst := some 28, op := Op.move (Operand.tmp 5), type := 3, pos := "ref.go:97", after := #[], guard := none }, { dst := some 29, op := Op.binOp BinOp.add 3 (Operand.tmp 28) (Operand.const (Value.int IntKind.i64 1)) 3, type := 3, pos := "ref.go:97", after := #[{ on := 0, ground := Ground.data }], guard := none }, { dst := some 5, op := Op.assign (Operand.tmp 29), type := 3, pos := "ref.go:97", after := #[{ on := 1, ground := Ground.data }, { on := 0, ground := Ground.phase }, { on := 1, ground := Ground.phase }], guard := none }]
def q24_8 : Array Oper := #[{ dst := some 30, op := Op.move (Operand.tmp 0), type := 24, pos := "ref.go:99", after := #[], guard := none }, { dst := some 31, op := Op.move (Operand.tmp 4), type := 3, pos := "ref.go:99", after := #[], guard := none }, { dst := some 32, op := Op.indexAddr 24 (Operand.tmp 30) (Operand.tmp 31), type := 0, pos := "ref.go:99", after := #[{ on := 0, ground := Ground.data }, { on := 1, ground := Ground.data }], guard := none }, { dst := some 33, op := Op.load 3 (Operand.tmp 32), type := 3, pos := "ref.go:99", after := #[{ on := 2, ground := Ground.data }], guard := none }, { dst := some 34, op := Op.binOp BinOp.leq 3 (Operand.tmp 33) (Operand.const (Value.int IntKind.i64 0)) 3, type := 4, pos := "ref.go:99", after := #[{ on := 3, ground := Ground.data }], guard := none }, { dst := some 35, op := Op.move (Operand.tmp 34), type := 4, pos := "ref.go:99", after := #[{ on := 4, ground := Ground.data }], guard := none }, { dst := some 36, op := Op.move (Operand.tmp 5), type := 3, pos := "ref.go:99", after := #[{ on := 5, ground := Ground.guard }], guard := some (5, false) }, { dst := some 37, op := Op.move (Operand.tmp 3), type := 24, pos := "ref.go:99", after := #[{ on := 5, ground := Ground.guard }], guard := some (5, false) }, { dst := some 38, op := Op.call { callee := Callee.builtin Builtin.len, args := #[Operand.tmp 37], argTypes := #[24] }, type := 3, pos := "ref.go:99", after := #[{ on := 7, ground := Ground.data }, { on := 5, ground := Ground.guard }], guard := some (5, false) }, { dst := some 39, op := Op.binOp BinOp.lss 3 (Operand.tmp 36) (Operand.tmp 38) 3, type := 4, pos := "ref.go:99", after := #[{ on := 6, ground := Ground.data }, { on := 8, ground := Ground.data }, { on := 5, ground := Ground.guard }], guard := some (5, false) }, { dst := some 40, op := Op.move (Operand.tmp 39), type := 4, pos := "ref.go:99", after := #[{ on := 9, ground := Ground.data }, { on := 5, ground := Ground.chain }, { on := 5, ground := Ground.guard }], guard := some (5, false) }, { dst := some 41, op := Op.move (Operand.tmp 3), type := 24, pos := "ref.go:99", after := #[{ on := 10, ground := Ground.guard }], guard := some (10, true) }, { dst := some 42, op := Op.move (Operand.tmp 5), type := 3, pos := "ref.go:99", after := #[{ on := 10, ground := Ground.guard }], guard := some (10, true) }, { dst := some 43, op := Op.indexAddr 24 (Operand.tmp 41) (Operand.tmp 42), type := 0, pos := "ref.go:99", after := #[{ on := 11, ground := Ground.data }, { on := 12, ground := Ground.data }, { on := 10, ground := Ground.guard }], guard := some (10, true) }, { dst := some 44, op := Op.load 3 (Operand.tmp 43), type := 3, pos := "ref.go:99", after := #[{ on := 13, ground := Ground.data }, { on := 10, ground := Ground.guard }], guard := some (10, true) }, { dst := some 45, op := Op.move (Operand.tmp 0), type := 24, pos := "ref.go:99", after := #[{ on := 10, ground := Ground.guard }], guard := some (10, true) }, { dst := some 46, op := Op.move (Operand.tmp 4), type := 3, pos := "ref.go:99", after := #[{ on := 10, ground := Ground.guard }], guard := some (10, true) }, { dst := some 47, op := Op.indexAddr 24 (Operand.tmp 45) (Operand.tmp 46), type := 0, pos := "ref.go:99", after := #[{ on := 15, ground := Ground.data }, { on := 16, ground := Ground.data }, { on := 10, ground := Ground.guard }], guard := some (10, true) }, { dst := some 48, op := Op.load 3 (Operand.tmp 47), type := 3, pos := "ref.go:99", after := #[{ on := 17, ground := Ground.data }, { on := 10, ground := Ground.guard }], guard := some (10, true) }, { dst := some 49, op := Op.binOp BinOp.eql 3 (Operand.tmp 44) (Operand.tmp 48) 3, type := 4, pos := "ref.go:99", after := #[{ on := 14, ground := Ground.data }, { on := 18, ground := Ground.data }, { on := 10, ground := Ground.guard }], guard := some (10, true) }, { dst := some 50, op := Op.pick (Operand.tmp 40) (Operand.tmp 49) (Operand.const (Value.bool false)), type := 4, pos := "ref.go:99", after := #[{ on := 10, ground := Ground.data }, { on := 19, ground := Ground.data }, { on := 5, ground := Ground.guard }], guard := some (5, false) }, { dst := some 51, op := Op.pick (Operand.tmp 35) (Operand.const (Value.bool true)) (Operand.tmp 50), type := 4, pos := "ref.go:99", after := #[{ on := 5, ground := Ground.data }, { on := 20, ground := Ground.data }], guard := none }]
def q24_9 : Array Oper := #[{ dst := some 6, op := Op.assign (Operand.const (Value.slice none 0 0)), type := 24, pos := "ref.go:102", after := #[], guard := none }]
def q24_10 : Array Oper := #[{ dst := some 52, op := Op.move (Operand.tmp 6), type := 24, pos := "ref.go:103", after := #[], guard := none }, { dst := some 53, op := Op.move (Operand.tmp 3), type := 24, pos := "ref.go:103", after := #[], guard := none }, { dst := some 54, op := Op.move (Operand.tmp 5), type := 3, pos := "ref.go:103", after := #[], guard := none }, { dst := some 55, op := Op.slice 24 (Operand.tmp 53) none (some (Operand.tmp 54)) none, type := 24, pos := "ref.go:103", after := #[{ on := 1, ground := Ground.data }, { on := 2, ground := Ground.data }], guard := none }, { dst := some 56, op := Op.call { callee := Callee.builtin Builtin.append, args := #[Operand.tmp 52, Operand.tmp 55], argTypes := #[24, 24] }, type := 24, pos := "ref.go:103", after := #[{ on := 0, ground := Ground.data }, { on := 3, ground := Ground.data }], guard := none }, { dst := some 6, op := Op.assign (Operand.tmp 56), type := 24, pos := "ref.go:103", after := #[{ on := 4, ground := Ground.data }, { on := 4, ground := Ground.chain }, { on := 0, ground := Ground.phase }, { on := 1, ground := Ground.phase }, { on := 2, ground := Ground.phase }, { on := 3, ground := Ground.phase }, { on := 4, ground := Ground.phase }], guard := none }]
def q24_11 : Array Oper := #[{ dst := some 57, op := Op.move (Operand.tmp 6), type := 24, pos := "ref.go:104", after := #[], guard := none }, { dst := some 58, op := Op.move (Operand.tmp 0), type := 24, pos := "ref.go:104", after := #[], guard := none }, { dst := some 59, op := Op.move (Operand.tmp 4), type := 3, pos := "ref.go:104", after := #[], guard := none }, { dst := some 60, op := Op.indexAddr 24 (Operand.tmp 58) (Operand.tmp 59), type := 0, pos := "ref.go:104", after := #[{ on := 1, ground := Ground.data }, { on := 2, ground := Ground.data }], guard := none }, { dst := some 61, op := Op.load 3 (Operand.tmp 60), type := 3, pos := "ref.go:104", after := #[{ on := 3, ground := Ground.data }], guard := none }, { dst := some 62, op := Op.buildSlice 24 1 #[(0, Operand.tmp 61)], type := 24, pos := "ref.go:104", after := #[{ on := 4, ground := Ground.data }], guard := none }, { dst := some 63, op := Op.call { callee := Callee.builtin Builtin.append, args := #[Operand.tmp 57, Operand.tmp 62], argTypes := #[24, 24] }, type := 24, pos := "ref.go:104", after := #[{ on := 0, ground := Ground.data }, { on := 5, ground := Ground.data }], guard := none }, { dst := some 6, op := Op.assign (Operand.tmp 63), type := 24, pos := "ref.go:104", after := #[{ on := 6, ground := Ground.data }, { on := 6, ground := Ground.chain }, { on := 0, ground := Ground.phase }, { on := 1, ground := Ground.phase }, { on := 2, ground := Ground.phase }, { on := 3, ground := Ground.phase }, { on := 4, ground := Ground.phase }, { on := 5, ground := Ground.phase }, { on := 6, ground := Ground.phase }], guard := none }]
def q24_12 : Array Oper := #[{ dst := some 64, op := Op.move (Operand.tmp 6), type := 24, pos := "ref.go:105", after := #[], guard := none }, { dst := some 65, op := Op.move (Operand.tmp 3), type := 24, pos := "ref.go:105", after := #[], guard := none }, { dst := some 66, op := Op.move (Operand.tmp 5), type := 3, pos := "ref.go:105", after := #[], guard := none }, { dst := some 67, op := Op.slice 24 (Operand.tmp 65) (some (Operand.tmp 66)) none none, type := 24, pos := "ref.go:105", after := #[{ on := 1, ground := Ground.data }, { on := 2, ground := Ground.data }], guard := none }, { dst := some 68, op := Op.call { callee := Callee.builtin Builtin.append, args := #[Operand.tmp 64, Operand.tmp 67], argTypes := #[24, 24] }, type := 24, pos := "ref.go:105", after := #[{ on := 0, ground := Ground.data }, { on := 3, ground := Ground.data }], guard := none }, { dst := some 3, op := Op.assign (Operand.tmp 68), type := 24, pos := "ref.go:105", after := #[{ on := 4, ground := Ground.data }, { on := 4, ground := Ground.chain }, { on := 0, ground := Ground.phase }, { on := 1, ground := Ground.phase }, { on := 2, ground := Ground.phase }, { on := 3, ground := Ground.phase }, { on := 4, ground := Ground.phase }], guard := none }]
def q24_13 : Array Oper := #[{ dst := some 69, op := Op.move (Operand.tmp 3), type := 24, pos := "ref.go:107", after := #[], guard := none }, { dst := some 2, op := Op.assign (Operand.tmp 69), type := 24, pos := "ref.go:107", after := #[{ on := 0, ground := Ground.data }, { on := 0, ground := Ground.phase }], guard := none }]
set_option maxRecDepth 100000 in
theorem r24_0 {Q : Exit → Act → World → Prop} {a0 : Act} {w : World} (_hz : a0.tmps.size = 70)   (hend : ∀ ac wz, After [2] a0 ac → Gr w wz → Q .normal ac wz) : (Code.region 0 q24_0 false).wp Try.prog Q a0 w := by
  refine seq_by (by kernel_rfl) 1 (by decide) [2] (fun | 2 => .val (.slice none 0 0) | _ => .any) (by kernel_rfl) (List.forall_mem_cons.2 ⟨?s0, fun o ho => nomatch ho⟩) ?e
  case s0 => exact sa_move (.const _) 2 (.val (.slice none 0 0)) (.inr rfl) rfl rfl (.const _) rfl
  case e =>
  intro ac wz hA hgr hv
  exact wl_end (hend ac wz hA  hgr)
set_option maxRecDepth 100000 in
theorem r24_1 {Q : Exit → Act → World → Prop} {a0 : Act} {w : World} (hz : a0.tmps.size = 70)   (hend : ∀ ac wz, After [3] a0 ac → ac.eval (.tmp 3) = .slice none 0 0 → Gr w wz → Q .normal ac wz) : (Code.region 1 q24_1 false).wp Try.prog Q a0 w := by
  refine seq_by (by kernel_rfl) 1 (by decide) [3] (fun | 3 => .val (.slice none 0 0) | _ => .any) (by kernel_rfl) (List.forall_mem_cons.2 ⟨?s0, fun o ho => nomatch ho⟩) ?e
  case s0 => exact sa_move (.const _) 3 (.val (.slice none 0 0)) (.inr rfl) rfl rfl (.const _) rfl
  case e =>
  intro ac wz hA hgr hv
  exact wl_end (hend ac wz hA (hv 3 (by kernel_rfl) (by rw [hz]; decide)) hgr)
set_option maxRecDepth 100000 in
theorem r24_2 {Q : Exit → Act → World → Prop} {a0 : Act} {w : World} (hz : a0.tmps.size = 70)   (hend : ∀ ac wz, After [4] a0 ac → ac.eval (.tmp 4) = .int .i64 0 → Gr w wz → Q .normal ac wz) : (Code.region 2 q24_2 false).wp Try.prog Q a0 w := by
  refine seq_by (by kernel_rfl) 1 (by decide) [4] (fun | 4 => .val (.int .i64 0) | _ => .any) (by kernel_rfl) (List.forall_mem_cons.2 ⟨?s0, fun o ho => nomatch ho⟩) ?e
  case s0 => exact sa_move (.const _) 4 (.val (.int .i64 0)) (.inr rfl) rfl rfl (.const _) rfl
  case e =>
  intro ac wz hA hgr hv
  exact wl_end (hend ac wz hA (hv 4 (by kernel_rfl) (by rw [hz]; decide)) hgr)
set_option maxRecDepth 100000 in
theorem r24_3 {Q : Exit → Act → World → Prop} {a0 : Act} {w : World} (hz : a0.tmps.size = 70) (k n cap : Nat) (ad : Option Addr) (e4 : a0.eval (.tmp 4) = .int .i64 (k : Int)) (e0 : a0.eval (.tmp 0) = .slice ad n cap) (hend : ∀ ac wz, After [7, 8, 9, 10] a0 ac → ac.eval (.tmp 10) = .bool (decide ((k : Int) < (n : Int))) → Gr w wz → Q .normal ac wz) : (Code.region 3 q24_3 false).wp Try.prog Q a0 w := by
  refine seq_by (by kernel_rfl) 4 (by decide) [7, 8, 9, 10] (fun | 7 => .val (.int .i64 (k : Int)) | 8 => .val (.slice ad n cap) | 9 => .val (.int .i64 (n : Int)) | 10 => .val (.bool (decide ((k : Int) < (n : Int)))) | _ => .any) (by kernel_rfl) (List.forall_mem_cons.2 ⟨?s0, List.forall_mem_cons.2 ⟨?s1, List.forall_mem_cons.2 ⟨?s2, List.forall_mem_cons.2 ⟨?s3, fun o ho => nomatch ho⟩⟩⟩⟩) ?e
  case s0 => exact sa_move (.tmp 4) 7 (.val (.int .i64 (k : Int))) (.inl rfl) rfl rfl (.old 4 _ (by decide) e4) rfl
  case s1 => exact sa_move (.tmp 0) 8 (.val (.slice ad n cap)) (.inl rfl) rfl rfl (.old 0 _ (by decide) e0) rfl
  case s2 => exact sa_len 24 (.tmp 8) 9 (.slice ad n cap) (.int .i64 (n : Int)) rfl rfl rfl (.new 8 (by kernel_rfl) (by rw [hz]; decide)) (by intro w; kernel_rfl) rfl
  case s3 => exact sa_bin .lss 3 (.tmp 7) (.tmp 9) 3 10 (.int .i64 (k : Int)) (.int .i64 (n : Int)) (.bool (decide ((k : Int) < (n : Int)))) rfl rfl rfl (.new 7 (by kernel_rfl) (by rw [hz]; decide)) (.new 9 (by kernel_rfl) (by rw [hz]; decide)) guard_int (bin_lss rfl) rfl
  case e =>
  intro ac wz hA hgr hv
  exact wl_end (hend ac wz hA (hv 10 (by kernel_rfl) (by rw [hz]; decide)) hgr)
set_option maxRecDepth 100000 in
theorem r24_4 {Q : Exit → Act → World → Prop} {a0 : Act} {w : World} (hz : a0.tmps.size = 70) (k : Nat) (hk : k ≤ 17592186043904) (e4 : a0.eval (.tmp 4) = .int .i64 (k : Int)) (hend : ∀ ac wz, After [4, 11, 12] a0 ac → ac.eval (.tmp 4) = .int .i64 ((k + 1 : Nat) : Int) → Gr w wz → Q .normal ac wz) : (Code.region 4 q24_4 false).wp Try.prog Q a0 w := by
  refine seq_by (by kernel_rfl) 2 (by decide) [11, 12] (fun | 11 => .val (.int .i64 (k : Int)) | 12 => .val (.int .i64 ((k + 1 : Nat) : Int)) | _ => .any) (by kernel_rfl) (List.forall_mem_cons.2 ⟨?s0, List.forall_mem_cons.2 ⟨?s1, fun o ho => nomatch ho⟩⟩) ?e
  case s0 => exact sa_move (.tmp 4) 11 (.val (.int .i64 (k : Int))) (.inl rfl) rfl rfl (.old 4 _ (by decide) e4) rfl
  case s1 => exact sa_bin .add 3 (.tmp 11) (.const _) 3 12 (.int .i64 (k : Int)) (.int .i64 1) (.int .i64 ((k + 1 : Nat) : Int)) rfl rfl rfl (.new 11 (by kernel_rfl) (by rw [hz]; decide)) (.const _) guard_int (bin_add (by omega) (by omega) (by omega)) rfl
  case e =>
  intro ac wz hA hgr hv
  have o12 : ac.eval (.tmp 12) = .int .i64 ((k + 1 : Nat) : Int) := hv 12 (by kernel_rfl) (by rw [hz]; decide)
  refine wl_of rfl (op_move (.tmp 12) (.inr rfl) (wl_end ?_))
  exact hend _ wz (hA.put 4 _)  ((ev_put (by rw [hA.size, hz]; decide)).trans ((if_pos rfl).trans o12)) hgr
set_option maxRecDepth 100000 in
theorem r24_5 {Q : Exit → Act → World → Prop} {a0 : Act} {w : World} (hz : a0.tmps.size = 70)   (hend : ∀ ac wz, After [5] a0 ac → ac.eval (.tmp 5) = .int .i64 0 → Gr w wz → Q .normal ac wz) : (Code.region 5 q24_5 false).wp Try.prog Q a0 w := by
  refine seq_by (by kernel_rfl) 1 (by decide) [5] (fun | 5 => .val (.int .i64 0) | _ => .any) (by kernel_rfl) (List.forall_mem_cons.2 ⟨?s0, fun o ho => nomatch ho⟩) ?e
  case s0 => exact sa_move (.const _) 5 (.val (.int .i64 0)) (.inr rfl) rfl rfl (.const _) rfl
  case e =>
  intro ac wz hA hgr hv
  exact wl_end (hend ac wz hA (hv 5 (by kernel_rfl) (by rw [hz]; decide)) hgr)
set_option maxRecDepth 100000 in
theorem r24_7 {Q : Exit → Act → World → Prop} {a0 : Act} {w : World} (hz : a0.tmps.size = 70) (k : Nat) (hk : k ≤ 17592186043904) (e5 : a0.eval (.tmp 5) = .int .i64 (k : Int)) (hend : ∀ ac wz, After [5, 28, 29] a0 ac → ac.eval (.tmp 5) = .int .i64 ((k + 1 : Nat) : Int) → Gr w wz → Q .normal ac wz) : (Code.region 7 q24_7 false).wp Try.prog Q a0 w := by
  refine seq_by (by kernel_rfl) 2 (by decide) [28, 29] (fun | 28 => .val (.int .i64 (k : Int)) | 29 => .val (.int .i64 ((k + 1 : Nat) : Int)) | _ => .any) (by kernel_rfl) (List.forall_mem_cons.2 ⟨?s0, List.forall_mem_cons.2 ⟨?s1, fun o ho => nomatch ho⟩⟩) ?e
  case s0 => exact sa_move (.tmp 5) 28 (.val (.int .i64 (k : Int))) (.inl rfl) rfl rfl (.old 5 _ (by decide) e5) rfl
  case s1 => exact sa_bin .add 3 (.tmp 28) (.const _) 3 29 (.int .i64 (k : Int)) (.int .i64 1) (.int .i64 ((k + 1 : Nat) : Int)) rfl rfl rfl (.new 28 (by kernel_rfl) (by rw [hz]; decide)) (.const _) guard_int (bin_add (by omega) (by omega) (by omega)) rfl
  case e =>
  intro ac wz hA hgr hv
  have o29 : ac.eval (.tmp 29) = .int .i64 ((k + 1 : Nat) : Int) := hv 29 (by kernel_rfl) (by rw [hz]; decide)
  refine wl_of rfl (op_move (.tmp 29) (.inr rfl) (wl_end ?_))
  exact hend _ wz (hA.put 5 _)  ((ev_put (by rw [hA.size, hz]; decide)).trans ((if_pos rfl).trans o29)) hgr
set_option maxRecDepth 100000 in
theorem r24_6t {Q : Exit → Act → World → Prop} {a0 : Act} {w : World} (hz : a0.tmps.size = 70) (g of n cap k : Nat) (x : Int) (hk : k < n) (hX : ∀ y, Gr w y → y.cell? ⟨g, of + k, none⟩ = some (.int .i64 x)) (g3 of3 n3 cap3 at3 : Nat) (y3 : Int) (hat : at3 < n3) (hY : ∀ y, Gr w y → y.cell? ⟨g3, of3 + at3, none⟩ = some (.int .i64 y3)) (e5 : a0.eval (.tmp 5) = .int .i64 (at3 : Int)) (e3 : a0.eval (.tmp 3) = .slice (some ⟨g3, of3, none⟩) n3 cap3) (e0 : a0.eval (.tmp 0) = .slice (some ⟨g, of, none⟩) n cap) (e4 : a0.eval (.tmp 4) = .int .i64 (k : Int)) (hend : ∀ ac wz, After [13, 14, 15, 16, 17, 18, 19, 20, 21, 22, 23, 24, 25, 26, 27] a0 ac → ac.eval (.tmp 27) = .bool (decide (y3 < x)) → Gr w wz → Q .normal ac wz) : (Code.region 6 q24_6 true).wp Try.prog Q a0 w := by
  refine drawn_by (by kernel_rfl) (by kernel_rfl) (by kernel_rfl) [13, 14, 15, 16, 17, 18, 19, 20, 21, 22, 23, 24, 25, 26, 27] (fun | 13 => .val (.int .i64 (at3 : Int)) | 14 => .val (.slice (some ⟨g3, of3, none⟩) n3 cap3) | 15 => .val (.int .i64 (n3 : Int)) | 16 => .val (.bool true) | 17 => .val (.bool true) | 18 => .val (.slice (some ⟨g3, of3, none⟩) n3 cap3) | 19 => .val (.int .i64 (at3 : Int)) | 20 => .val (.pointer (some ⟨g3, of3 + at3, none⟩)) | 21 => .val (.int .i64 y3) | 22 => .val (.slice (some ⟨g, of, none⟩) n cap) | 23 => .val (.int .i64 (k : Int)) | 24 => .val (.pointer (some ⟨g, of + k, none⟩)) | 25 => .val (.int .i64 x) | 26 => .val (.bool (decide (y3 < x))) | 27 => .val (.bool (decide (y3 < x))) | _ => .any) (by kernel_rfl) (List.forall_mem_cons.2 ⟨?s0, List.forall_mem_cons.2 ⟨?s1, List.forall_mem_cons.2 ⟨?s2, List.forall_mem_cons.2 ⟨?s3, List.forall_mem_cons.2 ⟨?s4, List.forall_mem_cons.2 ⟨?s5, List.forall_mem_cons.2 ⟨?s6, List.forall_mem_cons.2 ⟨?s7, List.forall_mem_cons.2 ⟨?s8, List.forall_mem_cons.2 ⟨?s9, List.forall_mem_cons.2 ⟨?s10, List.forall_mem_cons.2 ⟨?s11, List.forall_mem_cons.2 ⟨?s12, List.forall_mem_cons.2 ⟨?s13, List.forall_mem_cons.2 ⟨?s14, fun o ho => nomatch ho⟩⟩⟩⟩⟩⟩⟩⟩⟩⟩⟩⟩⟩⟩⟩) ?e
  case s0 => exact sa_move (.tmp 5) 13 (.val (.int .i64 (at3 : Int))) (.inl rfl) rfl rfl (.old 5 _ (by decide) e5) rfl
  case s1 => exact sa_move (.tmp 3) 14 (.val (.slice (some ⟨g3, of3, none⟩) n3 cap3)) (.inl rfl) rfl rfl (.old 3 _ (by decide) e3) rfl
  case s2 => exact sa_len 24 (.tmp 14) 15 (.slice (some ⟨g3, of3, none⟩) n3 cap3) (.int .i64 (n3 : Int)) rfl rfl rfl (.new 14 (by kernel_rfl) (by rw [hz]; decide)) (by intro w; kernel_rfl) rfl
  case s3 => exact sa_bin .lss 3 (.tmp 13) (.tmp 15) 3 16 (.int .i64 (at3 : Int)) (.int .i64 (n3 : Int)) (.bool true) rfl rfl rfl (.new 13 (by kernel_rfl) (by rw [hz]; decide)) (.new 15 (by kernel_rfl) (by rw [hz]; decide)) guard_int (bin_lss (decide_eq_true (by omega))) rfl
  case s4 => exact sa_move (.tmp 16) 17 (.val (.bool true)) (.inl rfl) rfl rfl (.new 16 (by kernel_rfl) (by rw [hz]; decide)) rfl
  case s5 => exact sa_guard 4 17 rfl rfl (by kernel_rfl) (by rw [hz]; decide) rfl (sa_move (.tmp 3) 18 (.val (.slice (some ⟨g3, of3, none⟩) n3 cap3)) (.inl rfl) rfl rfl (.old 3 _ (by decide) e3) rfl)
  case s6 => exact sa_guard 4 17 rfl rfl (by kernel_rfl) (by rw [hz]; decide) rfl (sa_move (.tmp 5) 19 (.val (.int .i64 (at3 : Int))) (.inl rfl) rfl rfl (.old 5 _ (by decide) e5) rfl)
  case s7 => exact sa_guard 4 17 rfl rfl (by kernel_rfl) (by rw [hz]; decide) rfl (sa_ixa 24 (.tmp 18) (.tmp 19) 20 (.slice (some ⟨g3, of3, none⟩) n3 cap3) (.int .i64 (at3 : Int)) (.pointer (some ⟨g3, of3 + at3, none⟩)) rfl rfl rfl (.new 18 (by kernel_rfl) (by rw [hz]; decide)) (.new 19 (by kernel_rfl) (by rw [hz]; decide)) (ix_slice (sz := 1) Try.underlying24 (by intro w; kernel_rfl) (by omega) (by omega)) rfl)
  case s8 => exact sa_guard 4 17 rfl rfl (by kernel_rfl) (by rw [hz]; decide) rfl (sa_loadc 3 (.tmp 20) 21 (g3) (of3 + at3) (.int .i64 y3) rfl rfl rfl (by intro w; kernel_rfl) (.new 20 (by kernel_rfl) (by rw [hz]; decide)) hY rfl)
  case s9 => exact sa_guard 4 17 rfl rfl (by kernel_rfl) (by rw [hz]; decide) rfl (sa_move (.tmp 0) 22 (.val (.slice (some ⟨g, of, none⟩) n cap)) (.inl rfl) rfl rfl (.old 0 _ (by decide) e0) rfl)
  case s10 => exact sa_guard 4 17 rfl rfl (by kernel_rfl) (by rw [hz]; decide) rfl (sa_move (.tmp 4) 23 (.val (.int .i64 (k : Int))) (.inl rfl) rfl rfl (.old 4 _ (by decide) e4) rfl)
  case s11 => exact sa_guard 4 17 rfl rfl (by kernel_rfl) (by rw [hz]; decide) rfl (sa_ixa 24 (.tmp 22) (.tmp 23) 24 (.slice (some ⟨g, of, none⟩) n cap) (.int .i64 (k : Int)) (.pointer (some ⟨g, of + k, none⟩)) rfl rfl rfl (.new 22 (by kernel_rfl) (by rw [hz]; decide)) (.new 23 (by kernel_rfl) (by rw [hz]; decide)) (ix_slice (sz := 1) Try.underlying24 (by intro w; kernel_rfl) (by omega) (by omega)) rfl)
  case s12 => exact sa_guard 4 17 rfl rfl (by kernel_rfl) (by rw [hz]; decide) rfl (sa_loadc 3 (.tmp 24) 25 (g) (of + k) (.int .i64 x) rfl rfl rfl (by intro w; kernel_rfl) (.new 24 (by kernel_rfl) (by rw [hz]; decide)) hX rfl)
  case s13 => exact sa_guard 4 17 rfl rfl (by kernel_rfl) (by rw [hz]; decide) rfl (sa_bin .lss 3 (.tmp 21) (.tmp 25) 3 26 (.int .i64 y3) (.int .i64 x) (.bool (decide (y3 < x))) rfl rfl rfl (.new 21 (by kernel_rfl) (by rw [hz]; decide)) (.new 25 (by kernel_rfl) (by rw [hz]; decide)) guard_int (bin_lss rfl) rfl)
  case s14 => exact sa_pick (.tmp 17) (.tmp 26) (.const _) 27 (.val (.bool (decide (y3 < x)))) rfl rfl rfl (.new 17 (by kernel_rfl) (by rw [hz]; decide)) (.new 26 (by kernel_rfl) (by rw [hz]; decide)) rfl
  case e =>
  intro ac wz hA hgr hv
  exact hend ac wz hA (hv 27 (by kernel_rfl) (by rw [hz]; decide)) hgr
set_option maxRecDepth 100000 in
theorem r24_6f {Q : Exit → Act → World → Prop} {a0 : Act} {w : World} (hz : a0.tmps.size = 70) (n3 cap3 at3 : Nat) (a3 : Option Addr) (hat : ¬ at3 < n3) (e5 : a0.eval (.tmp 5) = .int .i64 (at3 : Int)) (e3 : a0.eval (.tmp 3) = .slice a3 n3 cap3) (hend : ∀ ac wz, After [13, 14, 15, 16, 17, 18, 19, 20, 21, 22, 23, 24, 25, 26, 27] a0 ac → ac.eval (.tmp 27) = .bool false → Gr w wz → Q .normal ac wz) : (Code.region 6 q24_6 true).wp Try.prog Q a0 w := by
  refine drawn_by (by kernel_rfl) (by kernel_rfl) (by kernel_rfl) [13, 14, 15, 16, 17, 18, 19, 20, 21, 22, 23, 24, 25, 26, 27] (fun | 13 => .val (.int .i64 (at3 : Int)) | 14 => .val (.slice a3 n3 cap3) | 15 => .val (.int .i64 (n3 : Int)) | 16 => .val (.bool false) | 17 => .val (.bool false) | 18 => .val (undef) | 19 => .val (undef) | 20 => .val (undef) | 21 => .val (undef) | 22 => .val (undef) | 23 => .val (undef) | 24 => .val (undef) | 25 => .val (undef) | 26 => .val (undef) | 27 => .val (.bool false) | _ => .any) (by kernel_rfl) (List.forall_mem_cons.2 ⟨?s0, List.forall_mem_cons.2 ⟨?s1, List.forall_mem_cons.2 ⟨?s2, List.forall_mem_cons.2 ⟨?s3, List.forall_mem_cons.2 ⟨?s4, List.forall_mem_cons.2 ⟨?s5, List.forall_mem_cons.2 ⟨?s6, List.forall_mem_cons.2 ⟨?s7, List.forall_mem_cons.2 ⟨?s8, List.forall_mem_cons.2 ⟨?s9, List.forall_mem_cons.2 ⟨?s10, List.forall_mem_cons.2 ⟨?s11, List.forall_mem_cons.2 ⟨?s12, List.forall_mem_cons.2 ⟨?s13, List.forall_mem_cons.2 ⟨?s14, fun o ho => nomatch ho⟩⟩⟩⟩⟩⟩⟩⟩⟩⟩⟩⟩⟩⟩⟩) ?e
  case s0 => exact sa_move (.tmp 5) 13 (.val (.int .i64 (at3 : Int))) (.inl rfl) rfl rfl (.old 5 _ (by decide) e5) rfl
  case s1 => exact sa_move (.tmp 3) 14 (.val (.slice a3 n3 cap3)) (.inl rfl) rfl rfl (.old 3 _ (by decide) e3) rfl
  case s2 => exact sa_len 24 (.tmp 14) 15 (.slice a3 n3 cap3) (.int .i64 (n3 : Int)) rfl rfl rfl (.new 14 (by kernel_rfl) (by rw [hz]; decide)) (by intro w; kernel_rfl) rfl
  case s3 => exact sa_bin .lss 3 (.tmp 13) (.tmp 15) 3 16 (.int .i64 (at3 : Int)) (.int .i64 (n3 : Int)) (.bool false) rfl rfl rfl (.new 13 (by kernel_rfl) (by rw [hz]; decide)) (.new 15 (by kernel_rfl) (by rw [hz]; decide)) guard_int (bin_lss (decide_eq_false (by omega))) rfl
  case s4 => exact sa_move (.tmp 16) 17 (.val (.bool false)) (.inl rfl) rfl rfl (.new 16 (by kernel_rfl) (by rw [hz]; decide)) rfl
  case s5 => exact so_guardN 4 17 rfl rfl (by kernel_rfl) (by rw [hz]; decide) rfl (fun d hd => by cases hd; rfl)
  case s6 => exact so_guardN 4 17 rfl rfl (by kernel_rfl) (by rw [hz]; decide) rfl (fun d hd => by cases hd; rfl)
  case s7 => exact so_guardN 4 17 rfl rfl (by kernel_rfl) (by rw [hz]; decide) rfl (fun d hd => by cases hd; rfl)
  case s8 => exact so_guardN 4 17 rfl rfl (by kernel_rfl) (by rw [hz]; decide) rfl (fun d hd => by cases hd; rfl)
  case s9 => exact so_guardN 4 17 rfl rfl (by kernel_rfl) (by rw [hz]; decide) rfl (fun d hd => by cases hd; rfl)
  case s10 => exact so_guardN 4 17 rfl rfl (by kernel_rfl) (by rw [hz]; decide) rfl (fun d hd => by cases hd; rfl)
  case s11 => exact so_guardN 4 17 rfl rfl (by kernel_rfl) (by rw [hz]; decide) rfl (fun d hd => by cases hd; rfl)
  case s12 => exact so_guardN 4 17 rfl rfl (by kernel_rfl) (by rw [hz]; decide) rfl (fun d hd => by cases hd; rfl)
  case s13 => exact so_guardN 4 17 rfl rfl (by kernel_rfl) (by rw [hz]; decide) rfl (fun d hd => by cases hd; rfl)
  case s14 => exact sa_pickF (.tmp 17) (.tmp 26) (.const _) 27 (.val (.bool false)) rfl rfl rfl (.new 17 (by kernel_rfl) (by rw [hz]; decide)) (.const _) rfl
  case e =>
  intro ac wz hA hgr hv
  exact hend ac wz hA (hv 27 (by kernel_rfl) (by rw [hz]; decide)) hgr
set_option maxRecDepth 100000 in
theorem r24_8n {Q : Exit → Act → World → Prop} {a0 : Act} {w : World} (hz : a0.tmps.size = 70) (g of n cap k : Nat) (x : Int) (hk : k < n) (hX : ∀ y, Gr w y → y.cell? ⟨g, of + k, none⟩ = some (.int .i64 x)) (hx : x ≤ 0) (e0 : a0.eval (.tmp 0) = .slice (some ⟨g, of, none⟩) n cap) (e4 : a0.eval (.tmp 4) = .int .i64 (k : Int)) (hend : ∀ ac wz, After [30, 31, 32, 33, 34, 35, 36, 37, 38, 39, 40, 41, 42, 43, 44, 45, 46, 47, 48, 49, 50, 51] a0 ac → ac.eval (.tmp 51) = .bool true → Gr w wz → Q .normal ac wz) : (Code.region 8 q24_8 true).wp Try.prog Q a0 w := by
  refine drawn_by (by kernel_rfl) (by kernel_rfl) (by kernel_rfl) [30, 31, 32, 33, 34, 35, 36, 37, 38, 39, 40, 41, 42, 43, 44, 45, 46, 47, 48, 49, 50, 51] (fun | 30 => .val (.slice (some ⟨g, of, none⟩) n cap) | 31 => .val (.int .i64 (k : Int)) | 32 => .val (.pointer (some ⟨g, of + k, none⟩)) | 33 => .val (.int .i64 x) | 34 => .val (.bool true) | 35 => .val (.bool true) | 36 => .val (undef) | 37 => .val (undef) | 38 => .val (undef) | 39 => .val (undef) | 40 => .val (undef) | 41 => .val (undef) | 42 => .val (undef) | 43 => .val (undef) | 44 => .val (undef) | 45 => .val (undef) | 46 => .val (undef) | 47 => .val (undef) | 48 => .val (undef) | 49 => .val (undef) | 50 => .val (undef) | 51 => .val (.bool true) | _ => .any) (by kernel_rfl) (List.forall_mem_cons.2 ⟨?s0, List.forall_mem_cons.2 ⟨?s1, List.forall_mem_cons.2 ⟨?s2, List.forall_mem_cons.2 ⟨?s3, List.forall_mem_cons.2 ⟨?s4, List.forall_mem_cons.2 ⟨?s5, List.forall_mem_cons.2 ⟨?s6, List.forall_mem_cons.2 ⟨?s7, List.forall_mem_cons.2 ⟨?s8, List.forall_mem_cons.2 ⟨?s9, List.forall_mem_cons.2 ⟨?s10, List.forall_mem_cons.2 ⟨?s11, List.forall_mem_cons.2 ⟨?s12, List.forall_mem_cons.2 ⟨?s13, List.forall_mem_cons.2 ⟨?s14, List.forall_mem_cons.2 ⟨?s15, List.forall_mem_cons.2 ⟨?s16, List.forall_mem_cons.2 ⟨?s17, List.forall_mem_cons.2 ⟨?s18, List.forall_mem_cons.2 ⟨?s19, List.forall_mem_cons.2 ⟨?s20, List.forall_mem_cons.2 ⟨?s21, fun o ho => nomatch ho⟩⟩⟩⟩⟩⟩⟩⟩⟩⟩⟩⟩⟩⟩⟩⟩⟩⟩⟩⟩⟩⟩) ?e
  case s0 => exact sa_move (.tmp 0) 30 (.val (.slice (some ⟨g, of, none⟩) n cap)) (.inl rfl) rfl rfl (.old 0 _ (by decide) e0) rfl
  case s1 => exact sa_move (.tmp 4) 31 (.val (.int .i64 (k : Int))) (.inl rfl) rfl rfl (.old 4 _ (by decide) e4) rfl
  case s2 => exact sa_ixa 24 (.tmp 30) (.tmp 31) 32 (.slice (some ⟨g, of, none⟩) n cap) (.int .i64 (k : Int)) (.pointer (some ⟨g, of + k, none⟩)) rfl rfl rfl (.new 30 (by kernel_rfl) (by rw [hz]; decide)) (.new 31 (by kernel_rfl) (by rw [hz]; decide)) (ix_slice (sz := 1) Try.underlying24 (by intro w; kernel_rfl) (by omega) (by omega)) rfl
  case s3 => exact sa_loadc 3 (.tmp 32) 33 (g) (of + k) (.int .i64 x) rfl rfl rfl (by intro w; kernel_rfl) (.new 32 (by kernel_rfl) (by rw [hz]; decide)) hX rfl
  case s4 => exact sa_bin .leq 3 (.tmp 33) (.const _) 3 34 (.int .i64 x) (.int .i64 0) (.bool true) rfl rfl rfl (.new 33 (by kernel_rfl) (by rw [hz]; decide)) (.const _) guard_int (bin_leq (decide_eq_true (by omega))) rfl
  case s5 => exact sa_move (.tmp 34) 35 (.val (.bool true)) (.inl rfl) rfl rfl (.new 34 (by kernel_rfl) (by rw [hz]; decide)) rfl
  case s6 => exact so_guardFN 5 35 rfl rfl (by kernel_rfl) (by rw [hz]; decide) rfl (fun d hd => by cases hd; rfl)
  case s7 => exact so_guardFN 5 35 rfl rfl (by kernel_rfl) (by rw [hz]; decide) rfl (fun d hd => by cases hd; rfl)
  case s8 => exact so_guardFN 5 35 rfl rfl (by kernel_rfl) (by rw [hz]; decide) rfl (fun d hd => by cases hd; rfl)
  case s9 => exact so_guardFN 5 35 rfl rfl (by kernel_rfl) (by rw [hz]; decide) rfl (fun d hd => by cases hd; rfl)
  case s10 => exact so_guardFN 5 35 rfl rfl (by kernel_rfl) (by rw [hz]; decide) rfl (fun d hd => by cases hd; rfl)
  case s11 => exact so_guardU 10 40 true rfl rfl (by kernel_rfl) (by rw [hz]; decide) rfl (fun d hd => by cases hd; rfl)
  case s12 => exact so_guardU 10 40 true rfl rfl (by kernel_rfl) (by rw [hz]; decide) rfl (fun d hd => by cases hd; rfl)
  case s13 => exact so_guardU 10 40 true rfl rfl (by kernel_rfl) (by rw [hz]; decide) rfl (fun d hd => by cases hd; rfl)
  case s14 => exact so_guardU 10 40 true rfl rfl (by kernel_rfl) (by rw [hz]; decide) rfl (fun d hd => by cases hd; rfl)
  case s15 => exact so_guardU 10 40 true rfl rfl (by kernel_rfl) (by rw [hz]; decide) rfl (fun d hd => by cases hd; rfl)
  case s16 => exact so_guardU 10 40 true rfl rfl (by kernel_rfl) (by rw [hz]; decide) rfl (fun d hd => by cases hd; rfl)
  case s17 => exact so_guardU 10 40 true rfl rfl (by kernel_rfl) (by rw [hz]; decide) rfl (fun d hd => by cases hd; rfl)
  case s18 => exact so_guardU 10 40 true rfl rfl (by kernel_rfl) (by rw [hz]; decide) rfl (fun d hd => by cases hd; rfl)
  case s19 => exact so_guardU 10 40 true rfl rfl (by kernel_rfl) (by rw [hz]; decide) rfl (fun d hd => by cases hd; rfl)
  case s20 => exact so_guardFN 5 35 rfl rfl (by kernel_rfl) (by rw [hz]; decide) rfl (fun d hd => by cases hd; rfl)
  case s21 => exact sa_pick (.tmp 35) (.const _) (.tmp 50) 51 (.val (.bool true)) rfl rfl rfl (.new 35 (by kernel_rfl) (by rw [hz]; decide)) (.const _) rfl
  case e =>
  intro ac wz hA hgr hv
  exact hend ac wz hA (hv 51 (by kernel_rfl) (by rw [hz]; decide)) hgr
set_option maxRecDepth 100000 in
theorem r24_8f {Q : Exit → Act → World → Prop} {a0 : Act} {w : World} (hz : a0.tmps.size = 70) (g of n cap k : Nat) (x : Int) (hk : k < n) (hX : ∀ y, Gr w y → y.cell? ⟨g, of + k, none⟩ = some (.int .i64 x)) (n3 cap3 at3 : Nat) (a3 : Option Addr) (hat : ¬ at3 < n3) (hx : ¬ x ≤ 0) (e0 : a0.eval (.tmp 0) = .slice (some ⟨g, of, none⟩) n cap) (e4 : a0.eval (.tmp 4) = .int .i64 (k : Int)) (e5 : a0.eval (.tmp 5) = .int .i64 (at3 : Int)) (e3 : a0.eval (.tmp 3) = .slice a3 n3 cap3) (hend : ∀ ac wz, After [30, 31, 32, 33, 34, 35, 36, 37, 38, 39, 40, 41, 42, 43, 44, 45, 46, 47, 48, 49, 50, 51] a0 ac → ac.eval (.tmp 51) = .bool false → Gr w wz → Q .normal ac wz) : (Code.region 8 q24_8 true).wp Try.prog Q a0 w := by
  refine drawn_by (by kernel_rfl) (by kernel_rfl) (by kernel_rfl) [30, 31, 32, 33, 34, 35, 36, 37, 38, 39, 40, 41, 42, 43, 44, 45, 46, 47, 48, 49, 50, 51] (fun | 30 => .val (.slice (some ⟨g, of, none⟩) n cap) | 31 => .val (.int .i64 (k : Int)) | 32 => .val (.pointer (some ⟨g, of + k, none⟩)) | 33 => .val (.int .i64 x) | 34 => .val (.bool false) | 35 => .val (.bool false) | 36 => .val (.int .i64 (at3 : Int)) | 37 => .val (.slice a3 n3 cap3) | 38 => .val (.int .i64 (n3 : Int)) | 39 => .val (.bool false) | 40 => .val (.bool false) | 41 => .val (undef) | 42 => .val (undef) | 43 => .val (undef) | 44 => .val (undef) | 45 => .val (undef) | 46 => .val (undef) | 47 => .val (undef) | 48 => .val (undef) | 49 => .val (undef) | 50 => .val (.bool false) | 51 => .val (.bool false) | _ => .any) (by kernel_rfl) (List.forall_mem_cons.2 ⟨?s0, List.forall_mem_cons.2 ⟨?s1, List.forall_mem_cons.2 ⟨?s2, List.forall_mem_cons.2 ⟨?s3, List.forall_mem_cons.2 ⟨?s4, List.forall_mem_cons.2 ⟨?s5, List.forall_mem_cons.2 ⟨?s6, List.forall_mem_cons.2 ⟨?s7, List.forall_mem_cons.2 ⟨?s8, List.forall_mem_cons.2 ⟨?s9, List.forall_mem_cons.2 ⟨?s10, List.forall_mem_cons.2 ⟨?s11, List.forall_mem_cons.2 ⟨?s12, List.forall_mem_cons.2 ⟨?s13, List.forall_mem_cons.2 ⟨?s14, List.forall_mem_cons.2 ⟨?s15, List.forall_mem_cons.2 ⟨?s16, List.forall_mem_cons.2 ⟨?s17, List.forall_mem_cons.2 ⟨?s18, List.forall_mem_cons.2 ⟨?s19, List.forall_mem_cons.2 ⟨?s20, List.forall_mem_cons.2 ⟨?s21, fun o ho => nomatch ho⟩⟩⟩⟩⟩⟩⟩⟩⟩⟩⟩⟩⟩⟩⟩⟩⟩⟩⟩⟩⟩⟩) ?e
  case s0 => exact sa_move (.tmp 0) 30 (.val (.slice (some ⟨g, of, none⟩) n cap)) (.inl rfl) rfl rfl (.old 0 _ (by decide) e0) rfl
  case s1 => exact sa_move (.tmp 4) 31 (.val (.int .i64 (k : Int))) (.inl rfl) rfl rfl (.old 4 _ (by decide) e4) rfl
  case s2 => exact sa_ixa 24 (.tmp 30) (.tmp 31) 32 (.slice (some ⟨g, of, none⟩) n cap) (.int .i64 (k : Int)) (.pointer (some ⟨g, of + k, none⟩)) rfl rfl rfl (.new 30 (by kernel_rfl) (by rw [hz]; decide)) (.new 31 (by kernel_rfl) (by rw [hz]; decide)) (ix_slice (sz := 1) Try.underlying24 (by intro w; kernel_rfl) (by omega) (by omega)) rfl
  case s3 => exact sa_loadc 3 (.tmp 32) 33 (g) (of + k) (.int .i64 x) rfl rfl rfl (by intro w; kernel_rfl) (.new 32 (by kernel_rfl) (by rw [hz]; decide)) hX rfl
  case s4 => exact sa_bin .leq 3 (.tmp 33) (.const _) 3 34 (.int .i64 x) (.int .i64 0) (.bool false) rfl rfl rfl (.new 33 (by kernel_rfl) (by rw [hz]; decide)) (.const _) guard_int (bin_leq (decide_eq_false (by omega))) rfl
  case s5 => exact sa_move (.tmp 34) 35 (.val (.bool false)) (.inl rfl) rfl rfl (.new 34 (by kernel_rfl) (by rw [hz]; decide)) rfl
  case s6 => exact sa_guardF 5 35 rfl rfl (by kernel_rfl) (by rw [hz]; decide) rfl (sa_move (.tmp 5) 36 (.val (.int .i64 (at3 : Int))) (.inl rfl) rfl rfl (.old 5 _ (by decide) e5) rfl)
  case s7 => exact sa_guardF 5 35 rfl rfl (by kernel_rfl) (by rw [hz]; decide) rfl (sa_move (.tmp 3) 37 (.val (.slice a3 n3 cap3)) (.inl rfl) rfl rfl (.old 3 _ (by decide) e3) rfl)
  case s8 => exact sa_guardF 5 35 rfl rfl (by kernel_rfl) (by rw [hz]; decide) rfl (sa_len 24 (.tmp 37) 38 (.slice a3 n3 cap3) (.int .i64 (n3 : Int)) rfl rfl rfl (.new 37 (by kernel_rfl) (by rw [hz]; decide)) (by intro w; kernel_rfl) rfl)
  case s9 => exact sa_guardF 5 35 rfl rfl (by kernel_rfl) (by rw [hz]; decide) rfl (sa_bin .lss 3 (.tmp 36) (.tmp 38) 3 39 (.int .i64 (at3 : Int)) (.int .i64 (n3 : Int)) (.bool false) rfl rfl rfl (.new 36 (by kernel_rfl) (by rw [hz]; decide)) (.new 38 (by kernel_rfl) (by rw [hz]; decide)) guard_int (bin_lss (decide_eq_false (by omega))) rfl)
  case s10 => exact sa_guardF 5 35 rfl rfl (by kernel_rfl) (by rw [hz]; decide) rfl (sa_move (.tmp 39) 40 (.val (.bool false)) (.inl rfl) rfl rfl (.new 39 (by kernel_rfl) (by rw [hz]; decide)) rfl)
  case s11 => exact so_guardN 10 40 rfl rfl (by kernel_rfl) (by rw [hz]; decide) rfl (fun d hd => by cases hd; rfl)
  case s12 => exact so_guardN 10 40 rfl rfl (by kernel_rfl) (by rw [hz]; decide) rfl (fun d hd => by cases hd; rfl)
  case s13 => exact so_guardN 10 40 rfl rfl (by kernel_rfl) (by rw [hz]; decide) rfl (fun d hd => by cases hd; rfl)
  case s14 => exact so_guardN 10 40 rfl rfl (by kernel_rfl) (by rw [hz]; decide) rfl (fun d hd => by cases hd; rfl)
  case s15 => exact so_guardN 10 40 rfl rfl (by kernel_rfl) (by rw [hz]; decide) rfl (fun d hd => by cases hd; rfl)
  case s16 => exact so_guardN 10 40 rfl rfl (by kernel_rfl) (by rw [hz]; decide) rfl (fun d hd => by cases hd; rfl)
  case s17 => exact so_guardN 10 40 rfl rfl (by kernel_rfl) (by rw [hz]; decide) rfl (fun d hd => by cases hd; rfl)
  case s18 => exact so_guardN 10 40 rfl rfl (by kernel_rfl) (by rw [hz]; decide) rfl (fun d hd => by cases hd; rfl)
  case s19 => exact so_guardN 10 40 rfl rfl (by kernel_rfl) (by rw [hz]; decide) rfl (fun d hd => by cases hd; rfl)
  case s20 => exact sa_guardF 5 35 rfl rfl (by kernel_rfl) (by rw [hz]; decide) rfl (sa_pickF (.tmp 40) (.tmp 49) (.const _) 50 (.val (.bool false)) rfl rfl rfl (.new 40 (by kernel_rfl) (by rw [hz]; decide)) (.const _) rfl)
  case s21 => exact sa_pickF (.tmp 35) (.const _) (.tmp 50) 51 (.val (.bool false)) rfl rfl rfl (.new 35 (by kernel_rfl) (by rw [hz]; decide)) (.new 50 (by kernel_rfl) (by rw [hz]; decide)) rfl
  case e =>
  intro ac wz hA hgr hv
  exact hend ac wz hA (hv 51 (by kernel_rfl) (by rw [hz]; decide)) hgr
set_option maxRecDepth 100000 in
theorem r24_8t {Q : Exit → Act → World → Prop} {a0 : Act} {w : World} (hz : a0.tmps.size = 70) (g of n cap k : Nat) (x : Int) (hk : k < n) (hX : ∀ y, Gr w y → y.cell? ⟨g, of + k, none⟩ = some (.int .i64 x)) (g3 of3 n3 cap3 at3 : Nat) (y3 : Int) (hat : at3 < n3) (hY : ∀ y, Gr w y → y.cell? ⟨g3, of3 + at3, none⟩ = some (.int .i64 y3)) (hx : ¬ x ≤ 0) (e0 : a0.eval (.tmp 0) = .slice (some ⟨g, of, none⟩) n cap) (e4 : a0.eval (.tmp 4) = .int .i64 (k : Int)) (e5 : a0.eval (.tmp 5) = .int .i64 (at3 : Int)) (e3 : a0.eval (.tmp 3) = .slice (some ⟨g3, of3, none⟩) n3 cap3) (hend : ∀ ac wz, After [30, 31, 32, 33, 34, 35, 36, 37, 38, 39, 40, 41, 42, 43, 44, 45, 46, 47, 48, 49, 50, 51] a0 ac → ac.eval (.tmp 51) = .bool (decide (y3 = x)) → Gr w wz → Q .normal ac wz) : (Code.region 8 q24_8 true).wp Try.prog Q a0 w := by
  refine drawn_by (by kernel_rfl) (by kernel_rfl) (by kernel_rfl) [30, 31, 32, 33, 34, 35, 36, 37, 38, 39, 40, 41, 42, 43, 44, 45, 46, 47, 48, 49, 50, 51] (fun | 30 => .val (.slice (some ⟨g, of, none⟩) n cap) | 31 => .val (.int .i64 (k : Int)) | 32 => .val (.pointer (some ⟨g, of + k, none⟩)) | 33 => .val (.int .i64 x) | 34 => .val (.bool false) | 35 => .val (.bool false) | 36 => .val (.int .i64 (at3 : Int)) | 37 => .val (.slice (some ⟨g3, of3, none⟩) n3 cap3) | 38 => .val (.int .i64 (n3 : Int)) | 39 => .val (.bool true) | 40 => .val (.bool true) | 41 => .val (.slice (some ⟨g3, of3, none⟩) n3 cap3) | 42 => .val (.int .i64 (at3 : Int)) | 43 => .val (.pointer (some ⟨g3, of3 + at3, none⟩)) | 44 => .val (.int .i64 y3) | 45 => .val (.slice (some ⟨g, of, none⟩) n cap) | 46 => .val (.int .i64 (k : Int)) | 47 => .val (.pointer (some ⟨g, of + k, none⟩)) | 48 => .val (.int .i64 x) | 49 => .val (.bool (decide (y3 = x))) | 50 => .val (.bool (decide (y3 = x))) | 51 => .val (.bool (decide (y3 = x))) | _ => .any) (by kernel_rfl) (List.forall_mem_cons.2 ⟨?s0, List.forall_mem_cons.2 ⟨?s1, List.forall_mem_cons.2 ⟨?s2, List.forall_mem_cons.2 ⟨?s3, List.forall_mem_cons.2 ⟨?s4, List.forall_mem_cons.2 ⟨?s5, List.forall_mem_cons.2 ⟨?s6, List.forall_mem_cons.2 ⟨?s7, List.forall_mem_cons.2 ⟨?s8, List.forall_mem_cons.2 ⟨?s9, List.forall_mem_cons.2 ⟨?s10, List.forall_mem_cons.2 ⟨?s11, List.forall_mem_cons.2 ⟨?s12, List.forall_mem_cons.2 ⟨?s13, List.forall_mem_cons.2 ⟨?s14, List.forall_mem_cons.2 ⟨?s15, List.forall_mem_cons.2 ⟨?s16, List.forall_mem_cons.2 ⟨?s17, List.forall_mem_cons.2 ⟨?s18, List.forall_mem_cons.2 ⟨?s19, List.forall_mem_cons.2 ⟨?s20, List.forall_mem_cons.2 ⟨?s21, fun o ho => nomatch ho⟩⟩⟩⟩⟩⟩⟩⟩⟩⟩⟩⟩⟩⟩⟩⟩⟩⟩⟩⟩⟩⟩) ?e
  case s0 => exact sa_move (.tmp 0) 30 (.val (.slice (some ⟨g, of, none⟩) n cap)) (.inl rfl) rfl rfl (.old 0 _ (by decide) e0) rfl
  case s1 => exact sa_move (.tmp 4) 31 (.val (.int .i64 (k : Int))) (.inl rfl) rfl rfl (.old 4 _ (by decide) e4) rfl
  case s2 => exact sa_ixa 24 (.tmp 30) (.tmp 31) 32 (.slice (some ⟨g, of, none⟩) n cap) (.int .i64 (k : Int)) (.pointer (some ⟨g, of + k, none⟩)) rfl rfl rfl (.new 30 (by kernel_rfl) (by rw [hz]; decide)) (.new 31 (by kernel_rfl) (by rw [hz]; decide)) (ix_slice (sz := 1) Try.underlying24 (by intro w; kernel_rfl) (by omega) (by omega)) rfl
  case s3 => exact sa_loadc 3 (.tmp 32) 33 (g) (of + k) (.int .i64 x) rfl rfl rfl (by intro w; kernel_rfl) (.new 32 (by kernel_rfl) (by rw [hz]; decide)) hX rfl
  case s4 => exact sa_bin .leq 3 (.tmp 33) (.const _) 3 34 (.int .i64 x) (.int .i64 0) (.bool false) rfl rfl rfl (.new 33 (by kernel_rfl) (by rw [hz]; decide)) (.const _) guard_int (bin_leq (decide_eq_false (by omega))) rfl
  case s5 => exact sa_move (.tmp 34) 35 (.val (.bool false)) (.inl rfl) rfl rfl (.new 34 (by kernel_rfl) (by rw [hz]; decide)) rfl
  case s6 => exact sa_guardF 5 35 rfl rfl (by kernel_rfl) (by rw [hz]; decide) rfl (sa_move (.tmp 5) 36 (.val (.int .i64 (at3 : Int))) (.inl rfl) rfl rfl (.old 5 _ (by decide) e5) rfl)
  case s7 => exact sa_guardF 5 35 rfl rfl (by kernel_rfl) (by rw [hz]; decide) rfl (sa_move (.tmp 3) 37 (.val (.slice (some ⟨g3, of3, none⟩) n3 cap3)) (.inl rfl) rfl rfl (.old 3 _ (by decide) e3) rfl)
  case s8 => exact sa_guardF 5 35 rfl rfl (by kernel_rfl) (by rw [hz]; decide) rfl (sa_len 24 (.tmp 37) 38 (.slice (some ⟨g3, of3, none⟩) n3 cap3) (.int .i64 (n3 : Int)) rfl rfl rfl (.new 37 (by kernel_rfl) (by rw [hz]; decide)) (by intro w; kernel_rfl) rfl)
  case s9 => exact sa_guardF 5 35 rfl rfl (by kernel_rfl) (by rw [hz]; decide) rfl (sa_bin .lss 3 (.tmp 36) (.tmp 38) 3 39 (.int .i64 (at3 : Int)) (.int .i64 (n3 : Int)) (.bool true) rfl rfl rfl (.new 36 (by kernel_rfl) (by rw [hz]; decide)) (.new 38 (by kernel_rfl) (by rw [hz]; decide)) guard_int (bin_lss (decide_eq_true (by omega))) rfl)
  case s10 => exact sa_guardF 5 35 rfl rfl (by kernel_rfl) (by rw [hz]; decide) rfl (sa_move (.tmp 39) 40 (.val (.bool true)) (.inl rfl) rfl rfl (.new 39 (by kernel_rfl) (by rw [hz]; decide)) rfl)
  case s11 => exact sa_guard 10 40 rfl rfl (by kernel_rfl) (by rw [hz]; decide) rfl (sa_move (.tmp 3) 41 (.val (.slice (some ⟨g3, of3, none⟩) n3 cap3)) (.inl rfl) rfl rfl (.old 3 _ (by decide) e3) rfl)
  case s12 => exact sa_guard 10 40 rfl rfl (by kernel_rfl) (by rw [hz]; decide) rfl (sa_move (.tmp 5) 42 (.val (.int .i64 (at3 : Int))) (.inl rfl) rfl rfl (.old 5 _ (by decide) e5) rfl)
  case s13 => exact sa_guard 10 40 rfl rfl (by kernel_rfl) (by rw [hz]; decide) rfl (sa_ixa 24 (.tmp 41) (.tmp 42) 43 (.slice (some ⟨g3, of3, none⟩) n3 cap3) (.int .i64 (at3 : Int)) (.pointer (some ⟨g3, of3 + at3, none⟩)) rfl rfl rfl (.new 41 (by kernel_rfl) (by rw [hz]; decide)) (.new 42 (by kernel_rfl) (by rw [hz]; decide)) (ix_slice (sz := 1) Try.underlying24 (by intro w; kernel_rfl) (by omega) (by omega)) rfl)
  case s14 => exact sa_guard 10 40 rfl rfl (by kernel_rfl) (by rw [hz]; decide) rfl (sa_loadc 3 (.tmp 43) 44 (g3) (of3 + at3) (.int .i64 y3) rfl rfl rfl (by intro w; kernel_rfl) (.new 43 (by kernel_rfl) (by rw [hz]; decide)) hY rfl)
  case s15 => exact sa_guard 10 40 rfl rfl (by kernel_rfl) (by rw [hz]; decide) rfl (sa_move (.tmp 0) 45 (.val (.slice (some ⟨g, of, none⟩) n cap)) (.inl rfl) rfl rfl (.old 0 _ (by decide) e0) rfl)
  case s16 => exact sa_guard 10 40 rfl rfl (by kernel_rfl) (by rw [hz]; decide) rfl (sa_move (.tmp 4) 46 (.val (.int .i64 (k : Int))) (.inl rfl) rfl rfl (.old 4 _ (by decide) e4) rfl)
  case s17 => exact sa_guard 10 40 rfl rfl (by kernel_rfl) (by rw [hz]; decide) rfl (sa_ixa 24 (.tmp 45) (.tmp 46) 47 (.slice (some ⟨g, of, none⟩) n cap) (.int .i64 (k : Int)) (.pointer (some ⟨g, of + k, none⟩)) rfl rfl rfl (.new 45 (by kernel_rfl) (by rw [hz]; decide)) (.new 46 (by kernel_rfl) (by rw [hz]; decide)) (ix_slice (sz := 1) Try.underlying24 (by intro w; kernel_rfl) (by omega) (by omega)) rfl)
  case s18 => exact sa_guard 10 40 rfl rfl (by kernel_rfl) (by rw [hz]; decide) rfl (sa_loadc 3 (.tmp 47) 48 (g) (of + k) (.int .i64 x) rfl rfl rfl (by intro w; kernel_rfl) (.new 47 (by kernel_rfl) (by rw [hz]; decide)) hX rfl)
  case s19 => exact sa_guard 10 40 rfl rfl (by kernel_rfl) (by rw [hz]; decide) rfl (sa_bin .eql 3 (.tmp 44) (.tmp 48) 3 49 (.int .i64 y3) (.int .i64 x) (.bool (decide (y3 = x))) rfl rfl rfl (.new 44 (by kernel_rfl) (by rw [hz]; decide)) (.new 48 (by kernel_rfl) (by rw [hz]; decide)) guard_int (bin_eql rfl) rfl)
  case s20 => exact sa_guardF 5 35 rfl rfl (by kernel_rfl) (by rw [hz]; decide) rfl (sa_pick (.tmp 40) (.tmp 49) (.const _) 50 (.val (.bool (decide (y3 = x)))) rfl rfl rfl (.new 40 (by kernel_rfl) (by rw [hz]; decide)) (.new 49 (by kernel_rfl) (by rw [hz]; decide)) rfl)
  case s21 => exact sa_pickF (.tmp 35) (.const _) (.tmp 50) 51 (.val (.bool (decide (y3 = x)))) rfl rfl rfl (.new 35 (by kernel_rfl) (by rw [hz]; decide)) (.new 50 (by kernel_rfl) (by rw [hz]; decide)) rfl
  case e =>
  intro ac wz hA hgr hv
  exact hend ac wz hA (hv 51 (by kernel_rfl) (by rw [hz]; decide)) hgr
set_option maxRecDepth 100000 in
theorem r24_9 {Q : Exit → Act → World → Prop} {a0 : Act} {w : World} (hz : a0.tmps.size = 70)   (hend : ∀ ac wz, After [6] a0 ac → ac.eval (.tmp 6) = .slice none 0 0 → Gr w wz → Q .normal ac wz) : (Code.region 9 q24_9 false).wp Try.prog Q a0 w := by
  refine seq_by (by kernel_rfl) 1 (by decide) [6] (fun | 6 => .val (.slice none 0 0) | _ => .any) (by kernel_rfl) (List.forall_mem_cons.2 ⟨?s0, fun o ho => nomatch ho⟩) ?e
  case s0 => exact sa_move (.const _) 6 (.val (.slice none 0 0)) (.inr rfl) rfl rfl (.const _) rfl
  case e =>
  intro ac wz hA hgr hv
  exact wl_end (hend ac wz hA (hv 6 (by kernel_rfl) (by rw [hz]; decide)) hgr)
set_option maxRecDepth 100000 in
theorem r24_10 {Q : Exit → Act → World → Prop} {a0 : Act} {w : World} (hz : a0.tmps.size = 70) (n3 cap3 at3 M B : Nat) (a3 : Option Addr) (L : List Int) (hc : at3 ≤ cap3) (hL : Ints B w (.slice a3 at3 cap3) L) (hBw : B ≤ w.heap.size) (hb : L.length ≤ 17592186043904) (hM : M ≤ w.heap.size) (e6 : a0.eval (.tmp 6) = .slice none 0 0) (e3 : a0.eval (.tmp 3) = .slice a3 n3 cap3) (e5 : a0.eval (.tmp 5) = .int .i64 (at3 : Int)) (hend : ∀ ac wz v, After (6 :: 56 :: [52, 53, 54, 55]) a0 ac → ac.eval (.tmp 6) = v → wz.ownsRow M 3 1 v L.length (intV L) → Below M w wz → Q .normal ac wz) : (Code.region 10 q24_10 false).wp Try.prog Q a0 w := by
  refine seq_by (by kernel_rfl) 4 (by decide) [52, 53, 54, 55] (fun | 52 => .val (.slice none 0 0) | 53 => .val (.slice a3 n3 cap3) | 54 => .val (.int .i64 (at3 : Int)) | 55 => .val (.slice a3 at3 cap3) | _ => .any) (by kernel_rfl) (List.forall_mem_cons.2 ⟨?s0, List.forall_mem_cons.2 ⟨?s1, List.forall_mem_cons.2 ⟨?s2, List.forall_mem_cons.2 ⟨?s3, fun o ho => nomatch ho⟩⟩⟩⟩) ?e
  case s0 => exact sa_move (.tmp 6) 52 (.val (.slice none 0 0)) (.inl rfl) rfl rfl (.old 6 _ (by decide) e6) rfl
  case s1 => exact sa_move (.tmp 3) 53 (.val (.slice a3 n3 cap3)) (.inl rfl) rfl rfl (.old 3 _ (by decide) e3) rfl
  case s2 => exact sa_move (.tmp 5) 54 (.val (.int .i64 (at3 : Int))) (.inl rfl) rfl rfl (.old 5 _ (by decide) e5) rfl
  case s3 => exact sa_to 24 (.tmp 53) (.tmp 54) 55 (.slice a3 n3 cap3) (.int .i64 (at3 : Int)) (.slice a3 at3 cap3) rfl rfl rfl (.new 53 (by kernel_rfl) (by rw [hz]; decide)) (.new 54 (by kernel_rfl) (by rw [hz]; decide)) (slice_to a3 n3 cap3 at3 hc) rfl
  case e =>
  intro ac wz hA hgr hv
  have o52 : ac.eval (.tmp 52) = .slice none 0 0 := hv 52 (by kernel_rfl) (by rw [hz]; decide)
  have o55 : ac.eval (.tmp 55) = .slice a3 at3 cap3 := hv 55 (by kernel_rfl) (by rw [hz]; decide)
  refine wpl_app rfl (.tmp 52) (.tmp 55) rfl M (.slice none 0 0) [] L (World.ownsRow_nil _ _ _ _) o52 B _ o55 (hL.below (hgr.mono hBw)) (by simpa using hb) (Nat.le_trans hM hgr.size) ?_
  intro v3 w3 own3 b3
  refine wl_of rfl (op_move (.tmp 56) (.inr rfl) (wl_end ?_))
  exact hend _ w3 v3 ((hA.put 56 _).put 6 _) ((ev_put (by rw [put_size, hA.size, hz]; decide)).trans ((if_pos rfl).trans ((ev_put (by rw [hA.size, hz]; decide)).trans (if_pos rfl)))) (by simpa using own3) ((hgr.mono hM).trans b3)
set_option maxRecDepth 100000 in
theorem r24_11 {Q : Exit → Act → World → Prop} {a0 : Act} {w : World} (hz : a0.tmps.size = 70) (g of n cap k : Nat) (x : Int) (hk : k < n) (hX : ∀ y, Gr w y → y.cell? ⟨g, of + k, none⟩ = some (.int .i64 x)) (v6 : Value) (M : Nat) (L : List Int) (hown : w.ownsRow M 3 1 v6 L.length (intV L)) (hb : L.length + 1 ≤ 17592186043904) (hM : M ≤ w.heap.size) (e6 : a0.eval (.tmp 6) = v6) (e0 : a0.eval (.tmp 0) = .slice (some ⟨g, of, none⟩) n cap) (e4 : a0.eval (.tmp 4) = .int .i64 (k : Int)) (hend : ∀ ac wz v, After (6 :: 63 :: [57, 58, 59, 60, 61, 62]) a0 ac → ac.eval (.tmp 6) = v → wz.ownsRow M 3 1 v (L ++ [x]).length (intV (L ++ [x])) → Below M w wz → Q .normal ac wz) : (Code.region 11 q24_11 false).wp Try.prog Q a0 w := by
  refine seq_by (by kernel_rfl) 6 (by decide) [57, 58, 59, 60, 61, 62] (fun | 57 => .val (v6) | 58 => .val (.slice (some ⟨g, of, none⟩) n cap) | 59 => .val (.int .i64 (k : Int)) | 60 => .val (.pointer (some ⟨g, of + k, none⟩)) | 61 => .val (.int .i64 x) | 62 => oneF x | _ => .any) (by kernel_rfl) (List.forall_mem_cons.2 ⟨?s0, List.forall_mem_cons.2 ⟨?s1, List.forall_mem_cons.2 ⟨?s2, List.forall_mem_cons.2 ⟨?s3, List.forall_mem_cons.2 ⟨?s4, List.forall_mem_cons.2 ⟨?s5, fun o ho => nomatch ho⟩⟩⟩⟩⟩⟩) ?e
  case s0 => exact sa_move (.tmp 6) 57 (.val (v6)) (.inl rfl) rfl rfl (.old 6 _ (by decide) e6) rfl
  case s1 => exact sa_move (.tmp 0) 58 (.val (.slice (some ⟨g, of, none⟩) n cap)) (.inl rfl) rfl rfl (.old 0 _ (by decide) e0) rfl
  case s2 => exact sa_move (.tmp 4) 59 (.val (.int .i64 (k : Int))) (.inl rfl) rfl rfl (.old 4 _ (by decide) e4) rfl
  case s3 => exact sa_ixa 24 (.tmp 58) (.tmp 59) 60 (.slice (some ⟨g, of, none⟩) n cap) (.int .i64 (k : Int)) (.pointer (some ⟨g, of + k, none⟩)) rfl rfl rfl (.new 58 (by kernel_rfl) (by rw [hz]; decide)) (.new 59 (by kernel_rfl) (by rw [hz]; decide)) (ix_slice (sz := 1) Try.underlying24 (by intro w; kernel_rfl) (by omega) (by omega)) rfl
  case s4 => exact sa_loadc 3 (.tmp 60) 61 (g) (of + k) (.int .i64 x) rfl rfl rfl (by intro w; kernel_rfl) (.new 60 (by kernel_rfl) (by rw [hz]; decide)) hX rfl
  case s5 => exact sa_bs1 24 1 (.tmp 61) 62 (.int .i64 x) rfl rfl rfl (.new 61 (by kernel_rfl) (by rw [hz]; decide)) (bs24 x)
  case e =>
  intro ac wz hA hgr hv
  have o57 : ac.eval (.tmp 57) = v6 := hv 57 (by kernel_rfl) (by rw [hz]; decide)
  have o62 := hv 62 (by kernel_rfl) (by rw [hz]; decide)
  refine wpl_app rfl (.tmp 57) (.tmp 62) rfl M v6 L [x] (owns_gr hown hgr) o57 _ _ rfl (oneF_ints o62) hb (Nat.le_trans hM hgr.size) ?_
  intro v3 w3 own3 b3
  refine wl_of rfl (op_move (.tmp 63) (.inr rfl) (wl_end ?_))
  exact hend _ w3 v3 ((hA.put 63 _).put 6 _) ((ev_put (by rw [put_size, hA.size, hz]; decide)).trans ((if_pos rfl).trans ((ev_put (by rw [hA.size, hz]; decide)).trans (if_pos rfl)))) own3 ((hgr.mono hM).trans b3)
set_option maxRecDepth 100000 in
theorem r24_12 {Q : Exit → Act → World → Prop} {a0 : Act} {w : World} (hz : a0.tmps.size = 70) (v6 : Value) (n3 cap3 at3 M B : Nat) (a3 : Option Addr) (L K : List Int) (hc : at3 ≤ n3) (hK : Ints B w (.slice (if cap3 = at3 then a3 else a3.map (·.add at3)) (n3 - at3) (cap3 - at3)) K) (hBw : B ≤ w.heap.size) (hown : w.ownsRow M 3 1 v6 L.length (intV L)) (hb : L.length + K.length ≤ 17592186043904) (hM : M ≤ w.heap.size) (e6 : a0.eval (.tmp 6) = v6) (e3 : a0.eval (.tmp 3) = .slice a3 n3 cap3) (e5 : a0.eval (.tmp 5) = .int .i64 (at3 : Int)) (hend : ∀ ac wz v, After (3 :: 68 :: [64, 65, 66, 67]) a0 ac → ac.eval (.tmp 3) = v → wz.ownsRow M 3 1 v (L ++ K).length (intV (L ++ K)) → Below M w wz → Q .normal ac wz) : (Code.region 12 q24_12 false).wp Try.prog Q a0 w := by
  refine seq_by (by kernel_rfl) 4 (by decide) [64, 65, 66, 67] (fun | 64 => .val (v6) | 65 => .val (.slice a3 n3 cap3) | 66 => .val (.int .i64 (at3 : Int)) | 67 => .val (.slice (if cap3 = at3 then a3 else a3.map (·.add at3)) (n3 - at3) (cap3 - at3)) | _ => .any) (by kernel_rfl) (List.forall_mem_cons.2 ⟨?s0, List.forall_mem_cons.2 ⟨?s1, List.forall_mem_cons.2 ⟨?s2, List.forall_mem_cons.2 ⟨?s3, fun o ho => nomatch ho⟩⟩⟩⟩) ?e
  case s0 => exact sa_move (.tmp 6) 64 (.val (v6)) (.inl rfl) rfl rfl (.old 6 _ (by decide) e6) rfl
  case s1 => exact sa_move (.tmp 3) 65 (.val (.slice a3 n3 cap3)) (.inl rfl) rfl rfl (.old 3 _ (by decide) e3) rfl
  case s2 => exact sa_move (.tmp 5) 66 (.val (.int .i64 (at3 : Int))) (.inl rfl) rfl rfl (.old 5 _ (by decide) e5) rfl
  case s3 => exact sa_from 24 (.tmp 65) (.tmp 66) 67 (.slice a3 n3 cap3) (.int .i64 (at3 : Int)) (.slice (if cap3 = at3 then a3 else a3.map (·.add at3)) (n3 - at3) (cap3 - at3)) rfl rfl rfl (.new 65 (by kernel_rfl) (by rw [hz]; decide)) (.new 66 (by kernel_rfl) (by rw [hz]; decide)) (slice_from a3 n3 cap3 at3 hc) rfl
  case e =>
  intro ac wz hA hgr hv
  have o64 : ac.eval (.tmp 64) = v6 := hv 64 (by kernel_rfl) (by rw [hz]; decide)
  have o67 : ac.eval (.tmp 67) = .slice (if cap3 = at3 then a3 else a3.map (·.add at3)) (n3 - at3) (cap3 - at3) := hv 67 (by kernel_rfl) (by rw [hz]; decide)
  refine wpl_app rfl (.tmp 64) (.tmp 67) rfl M v6 L K (owns_gr hown hgr) o64 B _ o67 (hK.below (hgr.mono hBw)) hb (Nat.le_trans hM hgr.size) ?_
  intro v3 w3 own3 b3
  refine wl_of rfl (op_move (.tmp 68) (.inr rfl) (wl_end ?_))
  exact hend _ w3 v3 ((hA.put 68 _).put 3 _) ((ev_put (by rw [put_size, hA.size, hz]; decide)).trans ((if_pos rfl).trans ((ev_put (by rw [hA.size, hz]; decide)).trans (if_pos rfl)))) own3 ((hgr.mono hM).trans b3)
set_option maxRecDepth 100000 in
theorem r24_13 {Q : Exit → Act → World → Prop} {a0 : Act} {w : World} (hz : a0.tmps.size = 70) (v3 : Value) (e3 : a0.eval (.tmp 3) = v3) (hend : ∀ ac wz, After [69, 2] a0 ac → ac.eval (.tmp 2) = v3 → Gr w wz → Q .normal ac wz) : (Code.region 13 q24_13 false).wp Try.prog Q a0 w := by
  refine seq_by (by kernel_rfl) 2 (by decide) [69, 2] (fun | 69 => .val (v3) | 2 => .val (v3) | _ => .any) (by kernel_rfl) (List.forall_mem_cons.2 ⟨?s0, List.forall_mem_cons.2 ⟨?s1, fun o ho => nomatch ho⟩⟩) ?e
  case s0 => exact sa_move (.tmp 3) 69 (.val (v3)) (.inl rfl) rfl rfl (.old 3 _ (by decide) e3) rfl
  case s1 => exact sa_move (.tmp 69) 2 (.val (v3)) (.inr rfl) rfl rfl (.new 69 (by kernel_rfl) (by rw [hz]; decide)) rfl
  case e =>
  intro ac wz hA hgr hv
  exact wl_end (hend ac wz hA (hv 2 (by kernel_rfl) (by rw [hz]; decide)) hgr)
def c24_ri : Code := (((Code.region 6 q24_6 true).seq (Code.cond (Operand.tmp 27) Code.skip (Code.exit 2))).seq (Code.block 3 (Code.region 7 q24_7 false)))
def c24_li : Code := (Code.block 2 (c24_ri.loop))
def c24_ins : Code := (((Code.region 8 q24_8 true).seq (Code.cond (Operand.tmp 51) (Code.exit 1) Code.skip)).seq ((Code.region 9 q24_9 false).seq ((Code.region 10 q24_10 false).seq ((Code.region 11 q24_11 false).seq (Code.region 12 q24_12 false)))))
def c24_b1 : Code := (Code.block 1 ((Code.region 5 q24_5 false).seq (c24_li.seq c24_ins)))
def c24_ra : Code := (((Code.region 3 q24_3 false).seq (Code.cond (Operand.tmp 10) Code.skip (Code.exit 0))).seq (c24_b1.seq (Code.region 4 q24_4 false)))
def c24_la : Code := (Code.block 0 (c24_ra.loop))
def c24 : Code := ((Code.region 0 q24_0 false).seq ((Code.region 1 q24_1 false).seq (((Code.region 2 q24_2 false).seq c24_la).seq ((Code.region 13 q24_13 false).seq Code.ret))))
theorem mem_take_at {l : List Int} {n : Nat} {a : Int} (h : a ∈ l.take n) : ∃ j, j < n ∧ j < l.length ∧ l.getD j 0 = a := by
  obtain ⟨j, hj, rfl⟩ := List.mem_iff_getElem.1 h
  have hj2 : j < n ∧ j < l.length := by simp at hj; omega
  exact ⟨j, hj2.1, hj2.2, by simp [List.getD_eq_getElem?_getD, hj2.2]⟩
theorem mem_drop_at {l : List Int} {n : Nat} {a : Int} (h : a ∈ l.drop n) : ∃ j, n ≤ j ∧ j < l.length ∧ l.getD j 0 = a := by
  obtain ⟨j, hj, rfl⟩ := List.mem_iff_getElem.1 h
  have hj2 : n + j < l.length := by simp at hj; omega
  exact ⟨n + j, by omega, hj2, by simp [List.getD_eq_getElem?_getD, hj2]⟩
theorem rise_getD {l : List Int} (hp : l.Pairwise (· < ·)) {i j : Nat} (hij : i < j) (hj : j < l.length) : l.getD i 0 < l.getD j 0 := by
  have := List.pairwise_iff_getElem.1 hp i j (by omega) hj hij
  simpa [List.getD_eq_getElem?_getD, hj, show i < l.length by omega] using this
theorem ins_rise {out : List Int} {x : Int} {at3 : Nat} (hp : out.Pairwise (· < ·)) (hlo : ∀ j, j < at3 → out.getD j 0 < x) (hhi : at3 < out.length → x < out.getD at3 0) : (out.take at3 ++ [x] ++ out.drop at3).Pairwise (· < ·) ∧ ∀ y, y ∈ out.take at3 ++ [x] ++ out.drop at3 ↔ (y ∈ out ∨ y = x) := by
  have hbig : ∀ b ∈ out.drop at3, x < b := fun b hb => by
    obtain ⟨j, h1, h2, rfl⟩ := mem_drop_at hb
    have h3 := hhi (by omega)
    by_cases e : j = at3
    · subst e; exact h3
    · have := rise_getD hp (show at3 < j by omega) h2
      omega
  have hsm : ∀ a ∈ out.take at3, a < x := fun a ha => by
    obtain ⟨j, h1, h2, rfl⟩ := mem_take_at ha
    exact hlo j h1
  refine ⟨?_, fun y => ?_⟩
  · rw [List.pairwise_append, List.pairwise_append]
    refine ⟨⟨hp.sublist (List.take_sublist _ _), List.pairwise_singleton _ _, fun a ha b hb => ?_⟩, hp.sublist (List.drop_sublist _ _), fun a ha b hb => ?_⟩
    · rw [List.mem_singleton] at hb; subst hb; exact hsm a ha
    · have h2 := hbig b hb
      rcases List.mem_append.1 ha with q | q
      · have := hsm a q; omega
      · rw [List.mem_singleton] at q; subst q; exact h2
  · have e : y ∈ out ↔ (y ∈ out.take at3 ∨ y ∈ out.drop at3) := by
      conv => lhs; rw [← List.take_append_drop at3 out]
      exact List.mem_append
    rw [List.mem_append, List.mem_append, List.mem_singleton, e]
    constructor
    · rintro ((h | h) | h)
      · exact .inl (.inl h)
      · exact .inr h
      · exact .inl (.inr h)
    · rintro ((h | h) | h)
      · exact .inl (.inl h)
      · exact .inr h
      · exact .inl (.inr h)
/-- The members among the first k. -/
structure Tho (ms : List Int) (k : Nat) (out : List Int) : Prop where
  rise : out.Pairwise (· < ·)
  mem : ∀ y, y ∈ out ↔ (y ∈ ms.take k ∧ 0 < y)
  len : out.length ≤ k
theorem take_mem {ms : List Int} {k : Nat} (hk : k < ms.length) (y : Int) : y ∈ ms.take (k + 1) ↔ (y ∈ ms.take k ∨ y = ms.getD k 0) := by
  rw [List.take_succ_eq_append_getElem hk, List.mem_append, List.mem_singleton]
  simp [List.getD_eq_getElem?_getD, hk]
theorem Tho.same {ms : List Int} {k : Nat} {out : List Int} (h : Tho ms k out) (hk : k < ms.length) (hx : ms.getD k 0 ≤ 0 ∨ ms.getD k 0 ∈ out) : Tho ms (k + 1) out := by
  refine ⟨h.rise, fun y => ?_, by have := h.len; omega⟩
  rw [take_mem hk, h.mem]
  constructor
  · rintro ⟨a, b⟩; exact ⟨.inl a, b⟩
  · rintro ⟨a | a, b⟩
    · exact ⟨a, b⟩
    · subst a
      rcases hx with q | q
      · omega
      · exact (h.mem _).1 q
theorem Tho.more {ms : List Int} {k at3 : Nat} {out : List Int} (h : Tho ms k out) (hk : k < ms.length) (hx : 0 < ms.getD k 0) (hlo : ∀ j, j < at3 → out.getD j 0 < ms.getD k 0) (hhi : at3 < out.length → ms.getD k 0 < out.getD at3 0) : Tho ms (k + 1) (out.take at3 ++ [ms.getD k 0] ++ out.drop at3) := by
  obtain ⟨h1, h2⟩ := ins_rise h.rise hlo hhi
  refine ⟨h1, fun y => ?_, ?_⟩
  · rw [h2, take_mem hk, h.mem]
    constructor
    · rintro (⟨a, b⟩ | a)
      · exact ⟨.inl a, b⟩
      · subst a; exact ⟨.inr rfl, hx⟩
    · rintro ⟨a | a, b⟩
      · exact .inl ⟨a, b⟩
      · exact .inr a
  · have := h.len
    simp; omega
theorem Tho.all {ms out : List Int} (h : Tho ms ms.length out) : out = risenL ms := by
  obtain ⟨h1, h2⟩ := risen_facts ms
  refine rise_ext _ _ h.rise h1 (fun y => ?_)
  rw [h.mem, h2, List.take_length]
structure Th (w : World) (v0 : Value) (ac : Act) (x : World) : Prop where
  z : ac.tmps.size = 70
  df : ac.defers = []
  e0 : ac.eval (.tmp 0) = v0
  gr : Gr w x
theorem Th.next {w x y : World} {v0 : Value} {ac ad : Act} {D : List Nat} (h : Th w v0 ac x) (hA : After D ac ad) (hD : (D.all fun s => decide (1 ≤ s)) = true) (g : Gr x y) : Th w v0 ad y :=
  ⟨hA.size.trans h.z, hA.defers.trans h.df, hA.keep hD (by omega) h.e0, h.gr.trans g⟩
theorem those_li {Q : Exit → Act → World → Prop} {w x : World} {v0 : Value} {ms out : List Int} {ac : Act} {k cap3 : Nat} {a3 : Option Addr} (h : Th w v0 ac x) (hm : Ints w.heap.size w v0 ms) (hk : k < ms.length) (hol : out.length ≤ 17592186043904) (e3 : ac.eval (.tmp 3) = .slice a3 out.length cap3) (i3 : Ints x.heap.size x (.slice a3 out.length cap3) out) (e4 : ac.eval (.tmp 4) = .int .i64 (k : Int)) (e5 : ac.eval (.tmp 5) = .int .i64 ((0 : Nat) : Int))
    (hend : ∀ ad y (at3 : Nat), Th w v0 ad y → Gr x y → ad.eval (.tmp 3) = .slice a3 out.length cap3 → ad.eval (.tmp 4) = .int .i64 (k : Int) → ad.eval (.tmp 5) = .int .i64 (at3 : Int) → at3 ≤ out.length → (∀ j, j < at3 → out.getD j 0 < ms.getD k 0) → (at3 < out.length → ¬ out.getD at3 0 < ms.getD k 0) → Q .normal ad y) : c24_li.wp Try.prog Q ac x := by
  obtain ⟨g, of, cap, hv, hgb, hc⟩ := ints_at hm k hk
  unfold c24_li
  refine wp_block ?_
  refine wp_loop (fun ad y => ∃ at3 : Nat, Th w v0 ad y ∧ Gr x y ∧ ad.eval (.tmp 3) = .slice a3 out.length cap3 ∧ ad.eval (.tmp 4) = .int .i64 (k : Int) ∧ ad.eval (.tmp 5) = .int .i64 (at3 : Int) ∧ at3 ≤ out.length ∧ (∀ j, j < at3 → out.getD j 0 < ms.getD k 0)) (fun ad _ => out.length - (intOf (ad.eval (.tmp 5))).toNat)
    ⟨0, h, Gr.refl _, e3, e4, e5, Nat.zero_le _, fun j hj => absurd hj (Nat.not_lt_zero _)⟩ (fun a0 x0 ⟨at3, h0, G0, f3, f4, f5, hat, hlo⟩ => ?_)
  unfold c24_ri
  have hX : ∀ y, Gr x0 y → y.cell? ⟨g, of + k, none⟩ = some (.int .i64 (ms.getD k 0)) := fun y hy => cell_below (h0.gr.trans hy) hgb hc
  by_cases hlt : at3 < out.length
  · obtain ⟨g3, of3, cap3', hv3, hg3, hc3⟩ := ints_at i3 at3 hlt
    rw [hv3] at f3
    have hY : ∀ y, Gr x0 y → y.cell? ⟨g3, of3 + at3, none⟩ = some (.int .i64 (out.getD at3 0)) := fun y hy => cell_below (G0.trans hy) hg3 hc3
    refine wp_seq (wp_seq (r24_6t h0.z g of ms.length cap k _ hk hX g3 of3 out.length cap3' at3 _ hlt hY f5 f3 (by rw [h0.e0, hv]) f4 (fun a2 x2 A2 o2 G2 => ?_)))
    have h2 := h0.next A2 (by decide) G2
    rw [← hv3] at f3
    show Code.wp Try.prog (Code.cond _ _ _) _ a2 x2
    refine wp_cond_split o2 (fun q => ?_) (fun q => ?_)
    · have q := of_decide_eq_true q
      refine wp_skip ?_
      show Code.wp Try.prog (Code.block 3 _) _ a2 x2
      refine wp_block ?_
      refine r24_7 h2.z at3 (by omega) (A2.get f5 (by decide)) (fun a4 x4 A4 o4 G4 => ?_)
      refine ⟨⟨at3 + 1, h2.next A4 (by decide) G4, G0.trans (G2.trans G4), A4.get (A2.get f3 (by decide)) (by decide), A4.get (A2.get f4 (by decide)) (by decide), o4, by omega, fun j hj => ?_⟩, ?_⟩
      · by_cases e : j = at3
        · subst e; exact q
        · exact hlo j (by omega)
      · rw [o4, f5]
        simp only [intOf]
        omega
    · have q := of_decide_eq_false q
      exact wp_exit (hend a2 x2 at3 h2 (G0.trans G2) (A2.get f3 (by decide)) (A2.get f4 (by decide)) (A2.get f5 (by decide)) hat hlo (fun _ => q))
  · refine wp_seq (wp_seq (r24_6f h0.z out.length cap3 at3 a3 hlt f5 f3 (fun a2 x2 A2 o2 G2 => ?_)))
    have h2 := h0.next A2 (by decide) G2
    show Code.wp Try.prog (Code.cond _ _ _) _ a2 x2
    refine wp_cond_split o2 (fun q => by cases q) (fun _ => ?_)
    exact wp_exit (hend a2 x2 at3 h2 (G0.trans G2) (A2.get f3 (by decide)) (A2.get f4 (by decide)) (A2.get f5 (by decide)) hat hlo (fun q => absurd q hlt))
theorem those_ins {Q : Exit → Act → World → Prop} {w x : World} {v0 : Value} {ms out : List Int} {ac : Act} {k cap3 at3 : Nat} {a3 : Option Addr} (h : Th w v0 ac x) (hm : Ints w.heap.size w v0 ms) (hk : k < ms.length) (hml : ms.length ≤ 17592186043904) (hT : Tho ms k out) (e3 : ac.eval (.tmp 3) = .slice a3 out.length cap3) (i3 : Ints x.heap.size x (.slice a3 out.length cap3) out) (e4 : ac.eval (.tmp 4) = .int .i64 (k : Int)) (e5 : ac.eval (.tmp 5) = .int .i64 (at3 : Int)) (hat : at3 ≤ out.length) (hlo : ∀ j, j < at3 → out.getD j 0 < ms.getD k 0) (hhi : at3 < out.length → ¬ out.getD at3 0 < ms.getD k 0)
    (hend : ∀ ad y v3 out', Th w v0 ad y → ad.eval (.tmp 4) = .int .i64 (k : Int) → ad.eval (.tmp 3) = v3 → Ints y.heap.size y v3 out' → Tho ms (k + 1) out' → Q .normal ad y) : c24_ins.wp Try.prog (Exit.inBlock 1 Q) ac x := by
  obtain ⟨g, of, cap, hv, hgb, hc⟩ := ints_at hm k hk
  have hX : ∀ y, Gr x y → y.cell? ⟨g, of + k, none⟩ = some (.int .i64 (ms.getD k 0)) := fun y hy => cell_below (h.gr.trans hy) hgb hc
  have hlen := hT.len
  unfold c24_ins
  -- it is put in
  have put : ∀ a2 x2 D, After D ac a2 → (D.all fun s => decide (7 ≤ s)) = true → Gr x x2 → 0 < ms.getD k 0 → (at3 < out.length → ms.getD k 0 < out.getD at3 0) → ((Code.region 9 q24_9 false).seq ((Code.region 10 q24_10 false).seq ((Code.region 11 q24_11 false).seq (Code.region 12 q24_12 false)))).wp Try.prog (Exit.inBlock 1 Q) a2 x2 := fun a2 x2 D A2 hD2 G2 hx hhi2 => by
    have hD3 : (D.all fun s => decide (1 ≤ s)) = true := List.all_eq_true.2 fun s hs => by have := List.all_eq_true.1 hD2 s hs; simp at this ⊢; omega
    have h2 := h.next A2 hD3 G2
    have f3 := A2.keep hD2 (by omega) e3
    have f4 := A2.keep hD2 (by omega) e4
    have f5 := A2.keep hD2 (by omega) e5
    refine wp_seq (r24_9 h2.z (fun a4 x4 A4 o6 G4 => ?_))
    have h4 := h2.next A4 (by decide) G4
    have i4 := i3.below (G2.trans G4)
    obtain ⟨hcap, p1, p2⟩ := i4.parts at3 hat
    have hsz : x.heap.size ≤ x4.heap.size := (G2.trans G4).size
    have hL1 : (out.take at3).length = at3 := by rw [List.length_take]; omega
    have hL2 : (out.drop at3).length = out.length - at3 := List.length_drop
    show Code.wp Try.prog (Code.seq _ _) _ a4 x4
    refine wp_seq (r24_10 h4.z out.length cap3 at3 x4.heap.size x.heap.size a3 (out.take at3) (by omega) p1 hsz (by omega) (Nat.le_refl _) o6 (A4.get f3 (by decide)) (A4.get f5 (by decide)) (fun a5 x5 v5 A5 o5 own5 B5 => ?_))
    have h5 := h4.next A5 (by decide) B5
    show Code.wp Try.prog (Code.seq _ _) _ a5 x5
    have hX5 : ∀ y, Gr x5 y → y.cell? ⟨g, of + k, none⟩ = some (.int .i64 (ms.getD k 0)) := fun y hy => hX y (((G2.trans G4).trans B5).trans hy)
    refine wp_seq (r24_11 h5.z g of ms.length cap k _ hk hX5 v5 x4.heap.size (out.take at3) own5 (by omega) B5.size o5 (by rw [h5.e0, hv]) (A5.get (A4.get f4 (by decide)) (by decide)) (fun a6 x6 v6 A6 o6' own6 B6 => ?_))
    have G6 : Gr x4 x6 := Below.trans B5 B6
    have h6 := h4.next (A5.trans A6) (by decide) G6
    show Code.wp Try.prog (Code.region 12 q24_12 false) _ a6 x6
    have k3 : a6.eval (.tmp 3) = .slice a3 out.length cap3 := A6.get (A5.get (A4.get f3 (by decide)) (by decide)) (by decide)
    refine r24_12 h6.z v6 out.length cap3 at3 x4.heap.size x.heap.size a3 (out.take at3 ++ [ms.getD k 0]) (out.drop at3) hat (p2.below (Below.mono G6 hsz)) (Nat.le_trans hsz G6.size) own6 (by rw [List.length_append, hL1, hL2]; simp; omega) G6.size o6' k3 (A6.get (A5.get (A4.get f5 (by decide)) (by decide)) (by decide)) (fun a7 x7 v7 A7 o7 own7 B7 => ?_)
    have G7 : Gr x4 x7 := Below.trans G6 B7
    exact hend a7 x7 v7 _ (h4.next ((A5.trans A6).trans A7) (by decide) G7) (A7.get (A6.get (A5.get (A4.get f4 (by decide)) (by decide)) (by decide)) (by decide)) o7 (ints_of_row own7) (hT.more hk hx hlo hhi2)
  by_cases hx : ms.getD k 0 ≤ 0
  · refine wp_seq (wp_seq (r24_8n h.z g of ms.length cap k _ hk hX hx (by rw [h.e0, hv]) e4 (fun a2 x2 A2 o2 G2 => ?_)))
    show Code.wp Try.prog (Code.cond _ _ _) _ a2 x2
    refine wp_cond_split o2 (fun _ => ?_) (fun q => by cases q)
    exact wp_exit (hend a2 x2 _ out (h.next A2 (by decide) G2) (A2.get e4 (by decide)) (A2.get e3 (by decide)) ((i3.below G2).mono G2.size) (hT.same hk (.inl hx)))
  · by_cases hlt : at3 < out.length
    · obtain ⟨g3, of3, cap3', hv3, hg3, hc3⟩ := ints_at i3 at3 hlt
      have e3' := e3
      rw [hv3] at e3'
      have hY : ∀ y, Gr x y → y.cell? ⟨g3, of3 + at3, none⟩ = some (.int .i64 (out.getD at3 0)) := fun y hy => cell_below hy hg3 hc3
      refine wp_seq (wp_seq (r24_8t h.z g of ms.length cap k _ hk hX g3 of3 out.length cap3' at3 _ hlt hY hx (by rw [h.e0, hv]) e4 e5 e3' (fun a2 x2 A2 o2 G2 => ?_)))
      show Code.wp Try.prog (Code.cond _ _ _) _ a2 x2
      refine wp_cond_split o2 (fun q => ?_) (fun q => ?_)
      · have q := of_decide_eq_true q
        have hmem : ms.getD k 0 ∈ out := by
          rw [← q, List.getD_eq_getElem?_getD, List.getElem?_eq_getElem hlt]
          exact List.getElem_mem hlt
        exact wp_exit (hend a2 x2 _ out (h.next A2 (by decide) G2) (A2.get e4 (by decide)) (A2.get e3 (by decide)) ((i3.below G2).mono G2.size) (hT.same hk (.inr hmem)))
      · have q := of_decide_eq_false q
        refine wp_skip ?_
        have h9 := hhi hlt
        exact put a2 x2 _ A2 (by decide) G2 (by omega) (fun _ => by omega)
    · refine wp_seq (wp_seq (r24_8f h.z g of ms.length cap k _ hk hX out.length cap3 at3 a3 hlt hx (by rw [h.e0, hv]) e4 e5 e3 (fun a2 x2 A2 o2 G2 => ?_)))
      show Code.wp Try.prog (Code.cond _ _ _) _ a2 x2
      refine wp_cond_split o2 (fun q => by cases q) (fun _ => wp_skip ?_)
      exact put a2 x2 _ A2 (by decide) G2 (by omega) (fun q => absurd q hlt)
theorem those_any (v0 : Value) (ms : List Int) (w : World) (hm : Ints w.heap.size w v0 ms) (hml : ms.length ≤ 17592186043904) :
    Calls Try.prog 24 #[v0] w fun e z => ∃ u, e = .returned u ∧ Ints z.heap.size z u (risenL ms) ∧ Gr w z := by
  obtain ⟨a0', cap0, hv0⟩ := hm.len
  refine calls_by (c := c24) Try.func24 (by kernel_rfl) 70 (by rw [Try.ntmps24]; rfl) (fun ac z df hv => ?_)
  have h0 : Th w v0 ac w := ⟨z, df, hv 0 _ rfl, Gr.refl _⟩
  clear hv
  unfold c24
  refine wp_seq (r24_0 h0.z (fun a1 x1 A1 G1 => ?_))
  have h1 := h0.next A1 (by decide) G1
  show Code.wp Try.prog (Code.seq _ _) _ a1 x1
  refine wp_seq (r24_1 h1.z (fun a2 x2 A2 o3 G2 => ?_))
  have h2 := h1.next A2 (by decide) G2
  show Code.wp Try.prog (Code.seq (Code.seq _ c24_la) _) _ a2 x2
  refine wp_seq (wp_seq (r24_2 h2.z (fun a3 x3 A3 o4 G3 => ?_)))
  have h3 := h2.next A3 (by decide) G3
  show Code.wp Try.prog c24_la _ a3 x3
  unfold c24_la
  refine wp_block ?_
  refine wp_loop (fun ad y => ∃ (k : Nat) (v3 : Value) (out : List Int), Th w v0 ad y ∧ k ≤ ms.length ∧ ad.eval (.tmp 4) = .int .i64 (k : Int) ∧ ad.eval (.tmp 3) = v3 ∧ Ints y.heap.size y v3 out ∧ Tho ms k out) (fun ad _ => ms.length - (intOf (ad.eval (.tmp 4))).toNat)
    ⟨0, _, [], h3, Nat.zero_le _, o4, A3.get o3 (by decide), ⟨none, 0, rfl, Nat.le_refl _, Or.inl rfl⟩, ⟨List.Pairwise.nil, fun y => by simp, Nat.le_refl _⟩⟩ (fun a4 x4 ⟨k, v3, out, h4, hk, f4, f3, i3, hT⟩ => ?_)
  unfold c24_ra
  refine wp_seq (wp_seq (r24_3 h4.z k ms.length cap0 a0' f4 (by rw [h4.e0, hv0]) (fun a5 x5 A5 o5 G5 => ?_)))
  have h5 := h4.next A5 (by decide) G5
  show Code.wp Try.prog (Code.cond _ _ _) _ a5 x5
  refine wp_cond_split o5 (fun q => ?_) (fun q => ?_)
  · have q : (k : Int) < (ms.length : Int) := of_decide_eq_true q
    have hkl : k < ms.length := by omega
    obtain ⟨a3', cap3, hv3⟩ := i3.len
    refine wp_skip ?_
    show Code.wp Try.prog (Code.seq c24_b1 _) _ a5 x5
    unfold c24_b1
    refine wp_seq (wp_block ?_)
    refine wp_seq (r24_5 h5.z (fun a6 x6 A6 o6 G6 => ?_))
    have h6 := h5.next A6 (by decide) G6
    have f3' : a6.eval (.tmp 3) = .slice a3' out.length cap3 := A6.get (A5.get (f3.trans hv3) (by decide)) (by decide)
    have i6 : Ints x6.heap.size x6 (.slice a3' out.length cap3) out := by
      rw [← hv3]; exact (i3.below (G5.trans G6)).mono (G5.trans G6).size
    have hol := hT.len
    show Code.wp Try.prog (Code.seq c24_li c24_ins) _ a6 x6
    refine wp_seq (those_li h6 hm hkl (by omega) f3' i6 (A6.get (A5.get f4 (by decide)) (by decide)) o6 (fun a7 x7 at3 h7 G7 k3 k4 k5 hat hlo hhi => ?_))
    show Code.wp Try.prog c24_ins _ a7 x7
    refine those_ins h7 hm hkl hml hT k3 ((i6.below G7).mono G7.size) k4 k5 hat hlo hhi (fun a8 x8 v8 out' h8 m4 m3 i8 hT8 => ?_)
    show Code.wp Try.prog (Code.region 4 q24_4 false) _ a8 x8
    refine r24_4 h8.z k (by omega) m4 (fun a9 x9 A9 o9 G9 => ?_)
    refine ⟨⟨k + 1, v8, out', h8.next A9 (by decide) G9, by omega, o9, A9.get m3 (by decide), (i8.below G9).mono G9.size, hT8⟩, ?_⟩
    show ms.length - (intOf (a9.eval (.tmp 4))).toNat < ms.length - (intOf (a4.eval (.tmp 4))).toNat
    rw [o9, f4]
    simp only [intOf]
    omega
  · have q : ¬ (k : Int) < (ms.length : Int) := of_decide_eq_false q
    obtain rfl : k = ms.length := by omega
    rw [hT.all] at i3
    refine wp_exit ?_
    show Code.wp Try.prog (Code.seq _ Code.ret) _ a5 x5
    refine wp_seq (r24_13 h5.z v3 (A5.get f3 (by decide)) (fun a6 x6 A6 o2 G6 => ?_))
    have h6 := h5.next A6 (by decide) G6
    exact wp_ret (bodyPost_ret (results_tmp rfl _ _ _) h6.df ⟨_, congrArg Ending.returned o2, (i3.below (G5.trans G6)).mono (G5.trans G6).size, h6.gr⟩)
end Go.Proofs.Ytlliijodilnlgaa
