/- slices.stableCmpFunc, whatever the length (regions and code by tools/gen_stab.py). -/
import Derived.Test.YtlliijodilnlgaaRgSymW
import Derived.Test.YtlliijodilnlgaaRgIns
namespace Go.Proofs.Ytlliijodilnlgaa
open Go.RowKit Go.Sort
def q41_0 : Array Oper := #[{ dst := some 6, op := Op.assign (Operand.const (Value.int IntKind.i64 20)), type := 3, pos := "zsortanyfunc.go:336", after := #[], guard := none }]
def q41_1 : Array Oper := #[{ dst := some 10, op := Op.move (Operand.tmp 6), type := 3, pos := "zsortanyfunc.go:337", after := #[{ on := 1, ground := Ground.gcOnly Departure.lateStores }], guard := none }, { dst := some 7, op := Op.assign (Operand.const (Value.int IntKind.i64 0)), type := 3, pos := "zsortanyfunc.go:337", after := #[{ on := 0, ground := Ground.textOnly Departure.lateStores }], guard := none }, { dst := some 8, op := Op.assign (Operand.tmp 10), type := 3, pos := "zsortanyfunc.go:337", after := #[{ on := 0, ground := Ground.data }, { on := 1, ground := Ground.chain }, { on := 0, ground := Ground.phase }, { on := 1, ground := Ground.phase }], guard := none }]
def q41_2 : Array Oper := #[{ dst := some 11, op := Op.move (Operand.tmp 8), type := 3, pos := "zsortanyfunc.go:338", after := #[], guard := none }, { dst := some 12, op := Op.move (Operand.tmp 1), type := 3, pos := "zsortanyfunc.go:338", after := #[], guard := none }, { dst := some 13, op := Op.binOp BinOp.leq 3 (Operand.tmp 11) (Operand.tmp 12) 3, type := 4, pos := "zsortanyfunc.go:338", after := #[{ on := 0, ground := Ground.data }, { on := 1, ground := Ground.data }], guard := none }]
def q41_3 : Array Oper := #[{ dst := some 14, op := Op.move (Operand.tmp 0), type := 24, pos := "zsortanyfunc.go:339", after := #[], guard := none }, { dst := some 15, op := Op.move (Operand.tmp 7), type := 3, pos := "zsortanyfunc.go:339", after := #[], guard := none }, { dst := some 16, op := Op.move (Operand.tmp 8), type := 3, pos := "zsortanyfunc.go:339", after := #[], guard := none }, { dst := some 17, op := Op.move (Operand.tmp 2), type := 56, pos := "zsortanyfunc.go:339", after := #[], guard := none }, { dst := some 18, op := Op.call { callee := Callee.value (Operand.func 54), args := #[Operand.tmp 14, Operand.tmp 15, Operand.tmp 16, Operand.tmp 17], argTypes := #[24, 3, 3, 56] }, type := 0, pos := "zsortanyfunc.go:339", after := #[{ on := 0, ground := Ground.data }, { on := 1, ground := Ground.data }, { on := 2, ground := Ground.data }, { on := 3, ground := Ground.data }], guard := none }]
def q41_4 : Array Oper := #[{ dst := some 19, op := Op.move (Operand.tmp 8), type := 3, pos := "zsortanyfunc.go:340", after := #[], guard := none }, { dst := some 7, op := Op.assign (Operand.tmp 19), type := 3, pos := "zsortanyfunc.go:340", after := #[{ on := 0, ground := Ground.data }, { on := 0, ground := Ground.phase }], guard := none }]
def q41_5 : Array Oper := #[{ dst := some 20, op := Op.move (Operand.tmp 8), type := 3, pos := "zsortanyfunc.go:341", after := #[], guard := none }, { dst := some 21, op := Op.move (Operand.tmp 6), type := 3, pos := "zsortanyfunc.go:341", after := #[], guard := none }, { dst := some 22, op := Op.binOp BinOp.add 3 (Operand.tmp 20) (Operand.tmp 21) 3, type := 3, pos := "zsortanyfunc.go:341", after := #[{ on := 0, ground := Ground.data }, { on := 1, ground := Ground.data }], guard := none }, { dst := some 8, op := Op.assign (Operand.tmp 22), type := 3, pos := "zsortanyfunc.go:341", after := #[{ on := 2, ground := Ground.data }, { on := 0, ground := Ground.phase }, { on := 1, ground := Ground.phase }, { on := 2, ground := Ground.phase }], guard := none }]
def q41_6 : Array Oper := #[{ dst := some 23, op := Op.move (Operand.tmp 0), type := 24, pos := "zsortanyfunc.go:343", after := #[], guard := none }, { dst := some 24, op := Op.move (Operand.tmp 7), type := 3, pos := "zsortanyfunc.go:343", after := #[], guard := none }, { dst := some 25, op := Op.move (Operand.tmp 1), type := 3, pos := "zsortanyfunc.go:343", after := #[], guard := none }, { dst := some 26, op := Op.move (Operand.tmp 2), type := 56, pos := "zsortanyfunc.go:343", after := #[], guard := none }, { dst := some 27, op := Op.call { callee := Callee.value (Operand.func 54), args := #[Operand.tmp 23, Operand.tmp 24, Operand.tmp 25, Operand.tmp 26], argTypes := #[24, 3, 3, 56] }, type := 0, pos := "zsortanyfunc.go:343", after := #[{ on := 0, ground := Ground.data }, { on := 1, ground := Ground.data }, { on := 2, ground := Ground.data }, { on := 3, ground := Ground.data }], guard := none }]
def q41_7 : Array Oper := #[{ dst := some 28, op := Op.move (Operand.tmp 6), type := 3, pos := "zsortanyfunc.go:345", after := #[], guard := none }, { dst := some 29, op := Op.move (Operand.tmp 1), type := 3, pos := "zsortanyfunc.go:345", after := #[], guard := none }, { dst := some 30, op := Op.binOp BinOp.lss 3 (Operand.tmp 28) (Operand.tmp 29) 3, type := 4, pos := "zsortanyfunc.go:345", after := #[{ on := 0, ground := Ground.data }, { on := 1, ground := Ground.data }], guard := none }]
def q41_8 : Array Oper := #[{ dst := some 31, op := Op.move (Operand.tmp 6), type := 3, pos := "zsortanyfunc.go:346", after := #[{ on := 2, ground := Ground.gcOnly Departure.lateStores }], guard := none }, { dst := some 32, op := Op.binOp BinOp.mul 3 (Operand.const (Value.int IntKind.i64 2)) (Operand.tmp 31) 3, type := 3, pos := "zsortanyfunc.go:346", after := #[{ on := 0, ground := Ground.data }, { on := 2, ground := Ground.gcOnly Departure.lateStores }], guard := none }, { dst := some 7, op := Op.assign (Operand.const (Value.int IntKind.i64 0)), type := 3, pos := "zsortanyfunc.go:346", after := #[{ on := 0, ground := Ground.textOnly Departure.lateStores }, { on := 1, ground := Ground.textOnly Departure.lateStores }], guard := none }, { dst := some 8, op := Op.assign (Operand.tmp 32), type := 3, pos := "zsortanyfunc.go:346", after := #[{ on := 1, ground := Ground.data }, { on := 2, ground := Ground.chain }, { on := 0, ground := Ground.phase }, { on := 1, ground := Ground.phase }, { on := 2, ground := Ground.phase }], guard := none }]
def q41_9 : Array Oper := #[{ dst := some 33, op := Op.move (Operand.tmp 8), type := 3, pos := "zsortanyfunc.go:347", after := #[], guard := none }, { dst := some 34, op := Op.move (Operand.tmp 1), type := 3, pos := "zsortanyfunc.go:347", after := #[], guard := none }, { dst := some 35, op := Op.binOp BinOp.leq 3 (Operand.tmp 33) (Operand.tmp 34) 3, type := 4, pos := "zsortanyfunc.go:347", after := #[{ on := 0, ground := Ground.data }, { on := 1, ground := Ground.data }], guard := none }]
def q41_10 : Array Oper := #[{ dst := some 36, op := Op.move (Operand.tmp 0), type := 24, pos := "zsortanyfunc.go:348", after := #[], guard := none }, { dst := some 37, op := Op.move (Operand.tmp 7), type := 3, pos := "zsortanyfunc.go:348", after := #[], guard := none }, { dst := some 38, op := Op.move (Operand.tmp 7), type := 3, pos := "zsortanyfunc.go:348", after := #[], guard := none }, { dst := some 39, op := Op.move (Operand.tmp 6), type := 3, pos := "zsortanyfunc.go:348", after := #[], guard := none }, { dst := some 40, op := Op.binOp BinOp.add 3 (Operand.tmp 38) (Operand.tmp 39) 3, type := 3, pos := "zsortanyfunc.go:348", after := #[{ on := 2, ground := Ground.data }, { on := 3, ground := Ground.data }], guard := none }, { dst := some 41, op := Op.move (Operand.tmp 8), type := 3, pos := "zsortanyfunc.go:348", after := #[], guard := none }, { dst := some 42, op := Op.move (Operand.tmp 2), type := 56, pos := "zsortanyfunc.go:348", after := #[], guard := none }, { dst := some 43, op := Op.call { callee := Callee.value (Operand.func 55), args := #[Operand.tmp 36, Operand.tmp 37, Operand.tmp 40, Operand.tmp 41, Operand.tmp 42], argTypes := #[24, 3, 3, 3, 56] }, type := 0, pos := "zsortanyfunc.go:348", after := #[{ on := 0, ground := Ground.data }, { on := 1, ground := Ground.data }, { on := 4, ground := Ground.data }, { on := 5, ground := Ground.data }, { on := 6, ground := Ground.data }], guard := none }]
def q41_11 : Array Oper := #[{ dst := some 44, op := Op.move (Operand.tmp 8), type := 3, pos := "zsortanyfunc.go:349", after := #[], guard := none }, { dst := some 7, op := Op.assign (Operand.tmp 44), type := 3, pos := "zsortanyfunc.go:349", after := #[{ on := 0, ground := Ground.data }, { on := 0, ground := Ground.phase }], guard := none }]
def q41_12 : Array Oper := #[{ dst := some 45, op := Op.move (Operand.tmp 8), type := 3, pos := "zsortanyfunc.go:350", after := #[], guard := none }, { dst := some 46, op := Op.move (Operand.tmp 6), type := 3, pos := "zsortanyfunc.go:350", after := #[], guard := none }, { dst := some 47, op := Op.binOp BinOp.mul 3 (Operand.const (Value.int IntKind.i64 2)) (Operand.tmp 46) 3, type := 3, pos := "zsortanyfunc.go:350", after := #[{ on := 1, ground := Ground.data }], guard := none }, { dst := some 48, op := Op.binOp BinOp.add 3 (Operand.tmp 45) (Operand.tmp 47) 3, type := 3, pos := "zsortanyfunc.go:350", after := #[{ on := 0, ground := Ground.data }, { on := 2, ground := Ground.data }], guard := none }, { dst := some 8, op := Op.assign (Operand.tmp 48), type := 3, pos := "zsortanyfunc.go:350", after := #[{ on := 3, ground := Ground.data }, { on := 0, ground := Ground.phase }, { on := 1, ground := Ground.phase }, { on := 2, ground := Ground.phase }, { on := 3, ground := Ground.phase }], guard := none }]
def q41_13 : Array Oper := #[{ dst := some 49, op := Op.move (Operand.tmp 7), type := 3, pos := "zsortanyfunc.go:352", after := #[], guard := none }, { dst := some 50, op := Op.move (Operand.tmp 6), type := 3, pos := "zsortanyfunc.go:352", after := #[], guard := none }, { dst := some 51, op := Op.binOp BinOp.add 3 (Operand.tmp 49) (Operand.tmp 50) 3, type := 3, pos := "zsortanyfunc.go:352", after := #[{ on := 0, ground := Ground.data }, { on := 1, ground := Ground.data }], guard := none }, { dst := some 9, op := Op.assign (Operand.tmp 51), type := 3, pos := "zsortanyfunc.go:352", after := #[{ on := 2, ground := Ground.data }, { on := 0, ground := Ground.phase }, { on := 1, ground := Ground.phase }, { on := 2, ground := Ground.phase }], guard := none }]
def q41_14 : Array Oper := #[{ dst := some 52, op := Op.move (Operand.tmp 9), type := 3, pos := "zsortanyfunc.go:352", after := #[], guard := none }, { dst := some 53, op := Op.move (Operand.tmp 1), type := 3, pos := "zsortanyfunc.go:352", after := #[], guard := none }, { dst := some 54, op := Op.binOp BinOp.lss 3 (Operand.tmp 52) (Operand.tmp 53) 3, type := 4, pos := "zsortanyfunc.go:352", after := #[{ on := 0, ground := Ground.data }, { on := 1, ground := Ground.data }], guard := none }]
def q41_15 : Array Oper := #[{ dst := some 55, op := Op.move (Operand.tmp 0), type := 24, pos := "zsortanyfunc.go:353", after := #[], guard := none }, { dst := some 56, op := Op.move (Operand.tmp 7), type := 3, pos := "zsortanyfunc.go:353", after := #[], guard := none }, { dst := some 57, op := Op.move (Operand.tmp 9), type := 3, pos := "zsortanyfunc.go:353", after := #[], guard := none }, { dst := some 58, op := Op.move (Operand.tmp 1), type := 3, pos := "zsortanyfunc.go:353", after := #[], guard := none }, { dst := some 59, op := Op.move (Operand.tmp 2), type := 56, pos := "zsortanyfunc.go:353", after := #[], guard := none }, { dst := some 60, op := Op.call { callee := Callee.value (Operand.func 55), args := #[Operand.tmp 55, Operand.tmp 56, Operand.tmp 57, Operand.tmp 58, Operand.tmp 59], argTypes := #[24, 3, 3, 3, 56] }, type := 0, pos := "zsortanyfunc.go:353", after := #[{ on := 0, ground := Ground.data }, { on := 1, ground := Ground.data }, { on := 2, ground := Ground.data }, { on := 3, ground := Ground.data }, { on := 4, ground := Ground.data }], guard := none }]
def q41_16 : Array Oper := #[{ dst := some 61, op := Op.move (Operand.tmp 6), type := 3, pos := "zsortanyfunc.go:355", after := #[], guard := none }, { dst := some 62, op := Op.binOp BinOp.mul 3 (Operand.tmp 61) (Operand.const (Value.int IntKind.i64 2)) 3, type := 3, pos := "zsortanyfunc.go:355", after := #[{ on := 0, ground := Ground.data }], guard := none }, { dst := some 6, op := Op.assign (Operand.tmp 62), type := 3, pos := "zsortanyfunc.go:355", after := #[{ on := 1, ground := Ground.data }, { on := 0, ground := Ground.phase }, { on := 1, ground := Ground.phase }], guard := none }]
set_option maxRecDepth 100000 in
theorem r41_0 {Q : Exit → Act → World → Prop} {a0 : Act} {w : World} (hz : a0.tmps.size = 63)   (hend : ∀ ac wz, After [6] a0 ac → ac.eval (.tmp 6) = .int .i64 20 → Gr w wz → Q .normal ac wz) : (Code.region 0 q41_0 false).wp Try.prog Q a0 w := by
  refine seq_by (by kernel_rfl) 1 (by decide) [6] (fun | 6 => .val (.int .i64 20) | _ => .any) (by kernel_rfl) (List.forall_mem_cons.2 ⟨?s0, fun o ho => nomatch ho⟩) ?e
  case s0 => exact sa_move (.const _) 6 (.val (.int .i64 20)) (.inr rfl) rfl rfl (.const _) rfl
  case e =>
  intro ac wz hA hgr hv
  exact wl_end (hend ac wz hA (hv 6 (by kernel_rfl) (by rw [hz]; decide)) hgr)
set_option maxRecDepth 100000 in
theorem r41_1 {Q : Exit → Act → World → Prop} {a0 : Act} {w : World} (hz : a0.tmps.size = 63) (s : Nat) (e6 : a0.eval (.tmp 6) = .int .i64 (s : Int)) (hend : ∀ ac wz, After [10, 7, 8] a0 ac → ac.eval (.tmp 7) = .int .i64 0 → ac.eval (.tmp 8) = .int .i64 (s : Int) → Gr w wz → Q .normal ac wz) : (Code.region 1 q41_1 false).wp Try.prog Q a0 w := by
  refine seq_by (by kernel_rfl) 3 (by decide) [10, 7, 8] (fun | 10 => .val (.int .i64 (s : Int)) | 7 => .val (.int .i64 0) | 8 => .val (.int .i64 (s : Int)) | _ => .any) (by kernel_rfl) (List.forall_mem_cons.2 ⟨?s0, List.forall_mem_cons.2 ⟨?s1, List.forall_mem_cons.2 ⟨?s2, fun o ho => nomatch ho⟩⟩⟩) ?e
  case s0 => exact sa_move (.tmp 6) 10 (.val (.int .i64 (s : Int))) (.inl rfl) rfl rfl (.old 6 _ (by decide) e6) rfl
  case s1 => exact sa_move (.const _) 7 (.val (.int .i64 0)) (.inr rfl) rfl rfl (.const _) rfl
  case s2 => exact sa_move (.tmp 10) 8 (.val (.int .i64 (s : Int))) (.inr rfl) rfl rfl (.new 10 (by kernel_rfl) (by rw [hz]; decide)) rfl
  case e =>
  intro ac wz hA hgr hv
  exact wl_end (hend ac wz hA (hv 7 (by kernel_rfl) (by rw [hz]; decide)) (hv 8 (by kernel_rfl) (by rw [hz]; decide)) hgr)
set_option maxRecDepth 100000 in
theorem r41_2 {Q : Exit → Act → World → Prop} {a0 : Act} {w : World} (hz : a0.tmps.size = 63) (B N : Nat) (e8 : a0.eval (.tmp 8) = .int .i64 (B : Int)) (e1 : a0.eval (.tmp 1) = .int .i64 (N : Int)) (hend : ∀ ac wz, After [11, 12, 13] a0 ac → ac.eval (.tmp 13) = .bool (decide ((B : Int) ≤ (N : Int))) → Gr w wz → Q .normal ac wz) : (Code.region 2 q41_2 false).wp Try.prog Q a0 w := by
  refine seq_by (by kernel_rfl) 3 (by decide) [11, 12, 13] (fun | 11 => .val (.int .i64 (B : Int)) | 12 => .val (.int .i64 (N : Int)) | 13 => .val (.bool (decide ((B : Int) ≤ (N : Int)))) | _ => .any) (by kernel_rfl) (List.forall_mem_cons.2 ⟨?s0, List.forall_mem_cons.2 ⟨?s1, List.forall_mem_cons.2 ⟨?s2, fun o ho => nomatch ho⟩⟩⟩) ?e
  case s0 => exact sa_move (.tmp 8) 11 (.val (.int .i64 (B : Int))) (.inl rfl) rfl rfl (.old 8 _ (by decide) e8) rfl
  case s1 => exact sa_move (.tmp 1) 12 (.val (.int .i64 (N : Int))) (.inl rfl) rfl rfl (.old 1 _ (by decide) e1) rfl
  case s2 => exact sa_bin .leq 3 (.tmp 11) (.tmp 12) 3 13 (.int .i64 (B : Int)) (.int .i64 (N : Int)) (.bool (decide ((B : Int) ≤ (N : Int)))) rfl rfl rfl (.new 11 (by kernel_rfl) (by rw [hz]; decide)) (.new 12 (by kernel_rfl) (by rw [hz]; decide)) guard_int (bin_leq rfl) rfl
  case e =>
  intro ac wz hA hgr hv
  exact wl_end (hend ac wz hA (hv 13 (by kernel_rfl) (by rw [hz]; decide)) hgr)
set_option maxRecDepth 100000 in
theorem r41_3 {Q : Exit → Act → World → Prop} {a0 : Act} {w : World} (hz : a0.tmps.size = 63) (bk N cap c A B : Nat) (e0 : a0.eval (.tmp 0) = .slice (some ⟨bk, 0, none⟩) N cap) (e7 : a0.eval (.tmp 7) = .int .i64 (A : Int)) (e8 : a0.eval (.tmp 8) = .int .i64 (B : Int)) (e2 : a0.eval (.tmp 2) = .func (.func 36) #[] #[.pointer (some ⟨c, 0, none⟩)]) {R : Value → World → Prop} (hc : ∀ wy, Gr w wy → Calls Try.prog 54 #[.slice (some ⟨bk, 0, none⟩) N cap, .int .i64 (A : Int), .int .i64 (B : Int), .func (.func 36) #[] #[.pointer (some ⟨c, 0, none⟩)]] wy fun er wz => ∃ u, er = .returned u ∧ R u wz) (hend : ∀ ac wz u, After [18, 14, 15, 16, 17] a0 ac → ac.eval (.tmp 18) = u → R u wz → Q .normal ac wz) : (Code.region 3 q41_3 false).wp Try.prog Q a0 w := by
  refine seq_by (by kernel_rfl) 4 (by decide) [14, 15, 16, 17] (fun | 14 => .val (.slice (some ⟨bk, 0, none⟩) N cap) | 15 => .val (.int .i64 (A : Int)) | 16 => .val (.int .i64 (B : Int)) | 17 => .val (.func (.func 36) #[] #[.pointer (some ⟨c, 0, none⟩)]) | _ => .any) (by kernel_rfl) (List.forall_mem_cons.2 ⟨?s0, List.forall_mem_cons.2 ⟨?s1, List.forall_mem_cons.2 ⟨?s2, List.forall_mem_cons.2 ⟨?s3, fun o ho => nomatch ho⟩⟩⟩⟩) ?e
  case s0 => exact sa_move (.tmp 0) 14 (.val (.slice (some ⟨bk, 0, none⟩) N cap)) (.inl rfl) rfl rfl (.old 0 _ (by decide) e0) rfl
  case s1 => exact sa_move (.tmp 7) 15 (.val (.int .i64 (A : Int))) (.inl rfl) rfl rfl (.old 7 _ (by decide) e7) rfl
  case s2 => exact sa_move (.tmp 8) 16 (.val (.int .i64 (B : Int))) (.inl rfl) rfl rfl (.old 8 _ (by decide) e8) rfl
  case s3 => exact sa_move (.tmp 2) 17 (.val (.func (.func 36) #[] #[.pointer (some ⟨c, 0, none⟩)])) (.inl rfl) rfl rfl (.old 2 _ (by decide) e2) rfl
  case e =>
  intro ac wz hA hgr hv
  have o14 : ac.eval (.tmp 14) = .slice (some ⟨bk, 0, none⟩) N cap := hv 14 (by kernel_rfl) (by rw [hz]; decide)
  have o15 : ac.eval (.tmp 15) = .int .i64 (A : Int) := hv 15 (by kernel_rfl) (by rw [hz]; decide)
  have o16 : ac.eval (.tmp 16) = .int .i64 (B : Int) := hv 16 (by kernel_rfl) (by rw [hz]; decide)
  have o17 : ac.eval (.tmp 17) = .func (.func 36) #[] #[.pointer (some ⟨c, 0, none⟩)] := hv 17 (by kernel_rfl) (by rw [hz]; decide)
  refine wl_of rfl (op_call 54 #[.tmp 14, .tmp 15, .tmp 16, .tmp 17] #[24, 3, 3, 56] rfl #[.slice (some ⟨bk, 0, none⟩) N cap, .int .i64 (A : Int), .int .i64 (B : Int), .func (.func 36) #[] #[.pointer (some ⟨c, 0, none⟩)]] (by simp [o14, o15, o16, o17]) (enters_of Try.func54 (by kernel_rfl) rfl) ?_)
  refine (hc wz hgr).mono fun er wy ⟨u, e1, e2⟩ => ⟨u, e1, wl_end ?_⟩
  exact hend _ wy u (hA.put 18 u) ((ev_put (by rw [hA.size, hz]; decide)).trans (if_pos rfl)) e2
set_option maxRecDepth 100000 in
theorem r41_4 {Q : Exit → Act → World → Prop} {a0 : Act} {w : World} (hz : a0.tmps.size = 63) (B : Nat) (e8 : a0.eval (.tmp 8) = .int .i64 (B : Int)) (hend : ∀ ac wz, After [19, 7] a0 ac → ac.eval (.tmp 7) = .int .i64 (B : Int) → Gr w wz → Q .normal ac wz) : (Code.region 4 q41_4 false).wp Try.prog Q a0 w := by
  refine seq_by (by kernel_rfl) 2 (by decide) [19, 7] (fun | 19 => .val (.int .i64 (B : Int)) | 7 => .val (.int .i64 (B : Int)) | _ => .any) (by kernel_rfl) (List.forall_mem_cons.2 ⟨?s0, List.forall_mem_cons.2 ⟨?s1, fun o ho => nomatch ho⟩⟩) ?e
  case s0 => exact sa_move (.tmp 8) 19 (.val (.int .i64 (B : Int))) (.inl rfl) rfl rfl (.old 8 _ (by decide) e8) rfl
  case s1 => exact sa_move (.tmp 19) 7 (.val (.int .i64 (B : Int))) (.inr rfl) rfl rfl (.new 19 (by kernel_rfl) (by rw [hz]; decide)) rfl
  case e =>
  intro ac wz hA hgr hv
  exact wl_end (hend ac wz hA (hv 7 (by kernel_rfl) (by rw [hz]; decide)) hgr)
set_option maxRecDepth 100000 in
theorem r41_5 {Q : Exit → Act → World → Prop} {a0 : Act} {w : World} (hz : a0.tmps.size = 63) (B s B2 : Nat) (h1 : B + s = B2) (h2 : B2 ≤ 9223372036854775807) (e8 : a0.eval (.tmp 8) = .int .i64 (B : Int)) (e6 : a0.eval (.tmp 6) = .int .i64 (s : Int)) (hend : ∀ ac wz, After [8, 20, 21, 22] a0 ac → ac.eval (.tmp 8) = .int .i64 (B2 : Int) → Gr w wz → Q .normal ac wz) : (Code.region 5 q41_5 false).wp Try.prog Q a0 w := by
  refine seq_by (by kernel_rfl) 3 (by decide) [20, 21, 22] (fun | 20 => .val (.int .i64 (B : Int)) | 21 => .val (.int .i64 (s : Int)) | 22 => .val (.int .i64 (B2 : Int)) | _ => .any) (by kernel_rfl) (List.forall_mem_cons.2 ⟨?s0, List.forall_mem_cons.2 ⟨?s1, List.forall_mem_cons.2 ⟨?s2, fun o ho => nomatch ho⟩⟩⟩) ?e
  case s0 => exact sa_move (.tmp 8) 20 (.val (.int .i64 (B : Int))) (.inl rfl) rfl rfl (.old 8 _ (by decide) e8) rfl
  case s1 => exact sa_move (.tmp 6) 21 (.val (.int .i64 (s : Int))) (.inl rfl) rfl rfl (.old 6 _ (by decide) e6) rfl
  case s2 => exact sa_bin .add 3 (.tmp 20) (.tmp 21) 3 22 (.int .i64 (B : Int)) (.int .i64 (s : Int)) (.int .i64 (B2 : Int)) rfl rfl rfl (.new 20 (by kernel_rfl) (by rw [hz]; decide)) (.new 21 (by kernel_rfl) (by rw [hz]; decide)) guard_int (bin_add (by omega) (by omega) (by omega)) rfl
  case e =>
  intro ac wz hA hgr hv
  have o22 : ac.eval (.tmp 22) = .int .i64 (B2 : Int) := hv 22 (by kernel_rfl) (by rw [hz]; decide)
  refine wl_of rfl (op_move (.tmp 22) (.inr rfl) (wl_end ?_))
  exact hend _ wz (hA.put 8 _)  ((ev_put (by rw [hA.size, hz]; decide)).trans ((if_pos rfl).trans o22)) hgr
set_option maxRecDepth 100000 in
theorem r41_6 {Q : Exit → Act → World → Prop} {a0 : Act} {w : World} (hz : a0.tmps.size = 63) (bk N cap c A : Nat) (e0 : a0.eval (.tmp 0) = .slice (some ⟨bk, 0, none⟩) N cap) (e7 : a0.eval (.tmp 7) = .int .i64 (A : Int)) (e1 : a0.eval (.tmp 1) = .int .i64 (N : Int)) (e2 : a0.eval (.tmp 2) = .func (.func 36) #[] #[.pointer (some ⟨c, 0, none⟩)]) {R : Value → World → Prop} (hc : ∀ wy, Gr w wy → Calls Try.prog 54 #[.slice (some ⟨bk, 0, none⟩) N cap, .int .i64 (A : Int), .int .i64 (N : Int), .func (.func 36) #[] #[.pointer (some ⟨c, 0, none⟩)]] wy fun er wz => ∃ u, er = .returned u ∧ R u wz) (hend : ∀ ac wz u, After [27, 23, 24, 25, 26] a0 ac → ac.eval (.tmp 27) = u → R u wz → Q .normal ac wz) : (Code.region 6 q41_6 false).wp Try.prog Q a0 w := by
  refine seq_by (by kernel_rfl) 4 (by decide) [23, 24, 25, 26] (fun | 23 => .val (.slice (some ⟨bk, 0, none⟩) N cap) | 24 => .val (.int .i64 (A : Int)) | 25 => .val (.int .i64 (N : Int)) | 26 => .val (.func (.func 36) #[] #[.pointer (some ⟨c, 0, none⟩)]) | _ => .any) (by kernel_rfl) (List.forall_mem_cons.2 ⟨?s0, List.forall_mem_cons.2 ⟨?s1, List.forall_mem_cons.2 ⟨?s2, List.forall_mem_cons.2 ⟨?s3, fun o ho => nomatch ho⟩⟩⟩⟩) ?e
  case s0 => exact sa_move (.tmp 0) 23 (.val (.slice (some ⟨bk, 0, none⟩) N cap)) (.inl rfl) rfl rfl (.old 0 _ (by decide) e0) rfl
  case s1 => exact sa_move (.tmp 7) 24 (.val (.int .i64 (A : Int))) (.inl rfl) rfl rfl (.old 7 _ (by decide) e7) rfl
  case s2 => exact sa_move (.tmp 1) 25 (.val (.int .i64 (N : Int))) (.inl rfl) rfl rfl (.old 1 _ (by decide) e1) rfl
  case s3 => exact sa_move (.tmp 2) 26 (.val (.func (.func 36) #[] #[.pointer (some ⟨c, 0, none⟩)])) (.inl rfl) rfl rfl (.old 2 _ (by decide) e2) rfl
  case e =>
  intro ac wz hA hgr hv
  have o23 : ac.eval (.tmp 23) = .slice (some ⟨bk, 0, none⟩) N cap := hv 23 (by kernel_rfl) (by rw [hz]; decide)
  have o24 : ac.eval (.tmp 24) = .int .i64 (A : Int) := hv 24 (by kernel_rfl) (by rw [hz]; decide)
  have o25 : ac.eval (.tmp 25) = .int .i64 (N : Int) := hv 25 (by kernel_rfl) (by rw [hz]; decide)
  have o26 : ac.eval (.tmp 26) = .func (.func 36) #[] #[.pointer (some ⟨c, 0, none⟩)] := hv 26 (by kernel_rfl) (by rw [hz]; decide)
  refine wl_of rfl (op_call 54 #[.tmp 23, .tmp 24, .tmp 25, .tmp 26] #[24, 3, 3, 56] rfl #[.slice (some ⟨bk, 0, none⟩) N cap, .int .i64 (A : Int), .int .i64 (N : Int), .func (.func 36) #[] #[.pointer (some ⟨c, 0, none⟩)]] (by simp [o23, o24, o25, o26]) (enters_of Try.func54 (by kernel_rfl) rfl) ?_)
  refine (hc wz hgr).mono fun er wy ⟨u, e1, e2⟩ => ⟨u, e1, wl_end ?_⟩
  exact hend _ wy u (hA.put 27 u) ((ev_put (by rw [hA.size, hz]; decide)).trans (if_pos rfl)) e2
set_option maxRecDepth 100000 in
theorem r41_7 {Q : Exit → Act → World → Prop} {a0 : Act} {w : World} (hz : a0.tmps.size = 63) (s N : Nat) (e6 : a0.eval (.tmp 6) = .int .i64 (s : Int)) (e1 : a0.eval (.tmp 1) = .int .i64 (N : Int)) (hend : ∀ ac wz, After [28, 29, 30] a0 ac → ac.eval (.tmp 30) = .bool (decide ((s : Int) < (N : Int))) → Gr w wz → Q .normal ac wz) : (Code.region 7 q41_7 false).wp Try.prog Q a0 w := by
  refine seq_by (by kernel_rfl) 3 (by decide) [28, 29, 30] (fun | 28 => .val (.int .i64 (s : Int)) | 29 => .val (.int .i64 (N : Int)) | 30 => .val (.bool (decide ((s : Int) < (N : Int)))) | _ => .any) (by kernel_rfl) (List.forall_mem_cons.2 ⟨?s0, List.forall_mem_cons.2 ⟨?s1, List.forall_mem_cons.2 ⟨?s2, fun o ho => nomatch ho⟩⟩⟩) ?e
  case s0 => exact sa_move (.tmp 6) 28 (.val (.int .i64 (s : Int))) (.inl rfl) rfl rfl (.old 6 _ (by decide) e6) rfl
  case s1 => exact sa_move (.tmp 1) 29 (.val (.int .i64 (N : Int))) (.inl rfl) rfl rfl (.old 1 _ (by decide) e1) rfl
  case s2 => exact sa_bin .lss 3 (.tmp 28) (.tmp 29) 3 30 (.int .i64 (s : Int)) (.int .i64 (N : Int)) (.bool (decide ((s : Int) < (N : Int)))) rfl rfl rfl (.new 28 (by kernel_rfl) (by rw [hz]; decide)) (.new 29 (by kernel_rfl) (by rw [hz]; decide)) guard_int (bin_lss rfl) rfl
  case e =>
  intro ac wz hA hgr hv
  exact wl_end (hend ac wz hA (hv 30 (by kernel_rfl) (by rw [hz]; decide)) hgr)
set_option maxRecDepth 100000 in
theorem r41_8 {Q : Exit → Act → World → Prop} {a0 : Act} {w : World} (hz : a0.tmps.size = 63) (s B : Nat) (h1 : 2 * s = B) (h2 : B ≤ 9223372036854775807) (e6 : a0.eval (.tmp 6) = .int .i64 (s : Int)) (hend : ∀ ac wz, After [31, 32, 7, 8] a0 ac → ac.eval (.tmp 7) = .int .i64 0 → ac.eval (.tmp 8) = .int .i64 (B : Int) → Gr w wz → Q .normal ac wz) : (Code.region 8 q41_8 false).wp Try.prog Q a0 w := by
  refine seq_by (by kernel_rfl) 4 (by decide) [31, 32, 7, 8] (fun | 31 => .val (.int .i64 (s : Int)) | 32 => .val (.int .i64 (B : Int)) | 7 => .val (.int .i64 0) | 8 => .val (.int .i64 (B : Int)) | _ => .any) (by kernel_rfl) (List.forall_mem_cons.2 ⟨?s0, List.forall_mem_cons.2 ⟨?s1, List.forall_mem_cons.2 ⟨?s2, List.forall_mem_cons.2 ⟨?s3, fun o ho => nomatch ho⟩⟩⟩⟩) ?e
  case s0 => exact sa_move (.tmp 6) 31 (.val (.int .i64 (s : Int))) (.inl rfl) rfl rfl (.old 6 _ (by decide) e6) rfl
  case s1 => exact sa_bin .mul 3 (.const _) (.tmp 31) 3 32 (.int .i64 2) (.int .i64 (s : Int)) (.int .i64 (B : Int)) rfl rfl rfl (.const _) (.new 31 (by kernel_rfl) (by rw [hz]; decide)) guard_int (bin_mul (by omega) (by omega) (by omega)) rfl
  case s2 => exact sa_move (.const _) 7 (.val (.int .i64 0)) (.inr rfl) rfl rfl (.const _) rfl
  case s3 => exact sa_move (.tmp 32) 8 (.val (.int .i64 (B : Int))) (.inr rfl) rfl rfl (.new 32 (by kernel_rfl) (by rw [hz]; decide)) rfl
  case e =>
  intro ac wz hA hgr hv
  exact wl_end (hend ac wz hA (hv 7 (by kernel_rfl) (by rw [hz]; decide)) (hv 8 (by kernel_rfl) (by rw [hz]; decide)) hgr)
set_option maxRecDepth 100000 in
theorem r41_9 {Q : Exit → Act → World → Prop} {a0 : Act} {w : World} (hz : a0.tmps.size = 63) (B N : Nat) (e8 : a0.eval (.tmp 8) = .int .i64 (B : Int)) (e1 : a0.eval (.tmp 1) = .int .i64 (N : Int)) (hend : ∀ ac wz, After [33, 34, 35] a0 ac → ac.eval (.tmp 35) = .bool (decide ((B : Int) ≤ (N : Int))) → Gr w wz → Q .normal ac wz) : (Code.region 9 q41_9 false).wp Try.prog Q a0 w := by
  refine seq_by (by kernel_rfl) 3 (by decide) [33, 34, 35] (fun | 33 => .val (.int .i64 (B : Int)) | 34 => .val (.int .i64 (N : Int)) | 35 => .val (.bool (decide ((B : Int) ≤ (N : Int)))) | _ => .any) (by kernel_rfl) (List.forall_mem_cons.2 ⟨?s0, List.forall_mem_cons.2 ⟨?s1, List.forall_mem_cons.2 ⟨?s2, fun o ho => nomatch ho⟩⟩⟩) ?e
  case s0 => exact sa_move (.tmp 8) 33 (.val (.int .i64 (B : Int))) (.inl rfl) rfl rfl (.old 8 _ (by decide) e8) rfl
  case s1 => exact sa_move (.tmp 1) 34 (.val (.int .i64 (N : Int))) (.inl rfl) rfl rfl (.old 1 _ (by decide) e1) rfl
  case s2 => exact sa_bin .leq 3 (.tmp 33) (.tmp 34) 3 35 (.int .i64 (B : Int)) (.int .i64 (N : Int)) (.bool (decide ((B : Int) ≤ (N : Int)))) rfl rfl rfl (.new 33 (by kernel_rfl) (by rw [hz]; decide)) (.new 34 (by kernel_rfl) (by rw [hz]; decide)) guard_int (bin_leq rfl) rfl
  case e =>
  intro ac wz hA hgr hv
  exact wl_end (hend ac wz hA (hv 35 (by kernel_rfl) (by rw [hz]; decide)) hgr)
set_option maxRecDepth 100000 in
theorem r41_10 {Q : Exit → Act → World → Prop} {a0 : Act} {w : World} (hz : a0.tmps.size = 63) (bk N cap c A s M B : Nat) (h1 : A + s = M) (h2 : M ≤ 9223372036854775807) (e0 : a0.eval (.tmp 0) = .slice (some ⟨bk, 0, none⟩) N cap) (e7 : a0.eval (.tmp 7) = .int .i64 (A : Int)) (e6 : a0.eval (.tmp 6) = .int .i64 (s : Int)) (e8 : a0.eval (.tmp 8) = .int .i64 (B : Int)) (e2 : a0.eval (.tmp 2) = .func (.func 36) #[] #[.pointer (some ⟨c, 0, none⟩)]) {R : Value → World → Prop} (hc : ∀ wy, Gr w wy → Calls Try.prog 55 #[.slice (some ⟨bk, 0, none⟩) N cap, .int .i64 (A : Int), .int .i64 (M : Int), .int .i64 (B : Int), .func (.func 36) #[] #[.pointer (some ⟨c, 0, none⟩)]] wy fun er wz => ∃ u, er = .returned u ∧ R u wz) (hend : ∀ ac wz u, After [43, 36, 37, 38, 39, 40, 41, 42] a0 ac → ac.eval (.tmp 43) = u → R u wz → Q .normal ac wz) : (Code.region 10 q41_10 false).wp Try.prog Q a0 w := by
  refine seq_by (by kernel_rfl) 7 (by decide) [36, 37, 38, 39, 40, 41, 42] (fun | 36 => .val (.slice (some ⟨bk, 0, none⟩) N cap) | 37 => .val (.int .i64 (A : Int)) | 38 => .val (.int .i64 (A : Int)) | 39 => .val (.int .i64 (s : Int)) | 40 => .val (.int .i64 (M : Int)) | 41 => .val (.int .i64 (B : Int)) | 42 => .val (.func (.func 36) #[] #[.pointer (some ⟨c, 0, none⟩)]) | _ => .any) (by kernel_rfl) (List.forall_mem_cons.2 ⟨?s0, List.forall_mem_cons.2 ⟨?s1, List.forall_mem_cons.2 ⟨?s2, List.forall_mem_cons.2 ⟨?s3, List.forall_mem_cons.2 ⟨?s4, List.forall_mem_cons.2 ⟨?s5, List.forall_mem_cons.2 ⟨?s6, fun o ho => nomatch ho⟩⟩⟩⟩⟩⟩⟩) ?e
  case s0 => exact sa_move (.tmp 0) 36 (.val (.slice (some ⟨bk, 0, none⟩) N cap)) (.inl rfl) rfl rfl (.old 0 _ (by decide) e0) rfl
  case s1 => exact sa_move (.tmp 7) 37 (.val (.int .i64 (A : Int))) (.inl rfl) rfl rfl (.old 7 _ (by decide) e7) rfl
  case s2 => exact sa_move (.tmp 7) 38 (.val (.int .i64 (A : Int))) (.inl rfl) rfl rfl (.old 7 _ (by decide) e7) rfl
  case s3 => exact sa_move (.tmp 6) 39 (.val (.int .i64 (s : Int))) (.inl rfl) rfl rfl (.old 6 _ (by decide) e6) rfl
  case s4 => exact sa_bin .add 3 (.tmp 38) (.tmp 39) 3 40 (.int .i64 (A : Int)) (.int .i64 (s : Int)) (.int .i64 (M : Int)) rfl rfl rfl (.new 38 (by kernel_rfl) (by rw [hz]; decide)) (.new 39 (by kernel_rfl) (by rw [hz]; decide)) guard_int (bin_add (by omega) (by omega) (by omega)) rfl
  case s5 => exact sa_move (.tmp 8) 41 (.val (.int .i64 (B : Int))) (.inl rfl) rfl rfl (.old 8 _ (by decide) e8) rfl
  case s6 => exact sa_move (.tmp 2) 42 (.val (.func (.func 36) #[] #[.pointer (some ⟨c, 0, none⟩)])) (.inl rfl) rfl rfl (.old 2 _ (by decide) e2) rfl
  case e =>
  intro ac wz hA hgr hv
  have o36 : ac.eval (.tmp 36) = .slice (some ⟨bk, 0, none⟩) N cap := hv 36 (by kernel_rfl) (by rw [hz]; decide)
  have o37 : ac.eval (.tmp 37) = .int .i64 (A : Int) := hv 37 (by kernel_rfl) (by rw [hz]; decide)
  have o40 : ac.eval (.tmp 40) = .int .i64 (M : Int) := hv 40 (by kernel_rfl) (by rw [hz]; decide)
  have o41 : ac.eval (.tmp 41) = .int .i64 (B : Int) := hv 41 (by kernel_rfl) (by rw [hz]; decide)
  have o42 : ac.eval (.tmp 42) = .func (.func 36) #[] #[.pointer (some ⟨c, 0, none⟩)] := hv 42 (by kernel_rfl) (by rw [hz]; decide)
  refine wl_of rfl (op_call 55 #[.tmp 36, .tmp 37, .tmp 40, .tmp 41, .tmp 42] #[24, 3, 3, 3, 56] rfl #[.slice (some ⟨bk, 0, none⟩) N cap, .int .i64 (A : Int), .int .i64 (M : Int), .int .i64 (B : Int), .func (.func 36) #[] #[.pointer (some ⟨c, 0, none⟩)]] (by simp [o36, o37, o40, o41, o42]) (enters_of Try.func55 (by kernel_rfl) rfl) ?_)
  refine (hc wz hgr).mono fun er wy ⟨u, e1, e2⟩ => ⟨u, e1, wl_end ?_⟩
  exact hend _ wy u (hA.put 43 u) ((ev_put (by rw [hA.size, hz]; decide)).trans (if_pos rfl)) e2
set_option maxRecDepth 100000 in
theorem r41_11 {Q : Exit → Act → World → Prop} {a0 : Act} {w : World} (hz : a0.tmps.size = 63) (B : Nat) (e8 : a0.eval (.tmp 8) = .int .i64 (B : Int)) (hend : ∀ ac wz, After [44, 7] a0 ac → ac.eval (.tmp 7) = .int .i64 (B : Int) → Gr w wz → Q .normal ac wz) : (Code.region 11 q41_11 false).wp Try.prog Q a0 w := by
  refine seq_by (by kernel_rfl) 2 (by decide) [44, 7] (fun | 44 => .val (.int .i64 (B : Int)) | 7 => .val (.int .i64 (B : Int)) | _ => .any) (by kernel_rfl) (List.forall_mem_cons.2 ⟨?s0, List.forall_mem_cons.2 ⟨?s1, fun o ho => nomatch ho⟩⟩) ?e
  case s0 => exact sa_move (.tmp 8) 44 (.val (.int .i64 (B : Int))) (.inl rfl) rfl rfl (.old 8 _ (by decide) e8) rfl
  case s1 => exact sa_move (.tmp 44) 7 (.val (.int .i64 (B : Int))) (.inr rfl) rfl rfl (.new 44 (by kernel_rfl) (by rw [hz]; decide)) rfl
  case e =>
  intro ac wz hA hgr hv
  exact wl_end (hend ac wz hA (hv 7 (by kernel_rfl) (by rw [hz]; decide)) hgr)
set_option maxRecDepth 100000 in
theorem r41_12 {Q : Exit → Act → World → Prop} {a0 : Act} {w : World} (hz : a0.tmps.size = 63) (B s B2 : Nat) (h1 : B + 2 * s = B2) (h2 : B2 ≤ 9223372036854775807) (e8 : a0.eval (.tmp 8) = .int .i64 (B : Int)) (e6 : a0.eval (.tmp 6) = .int .i64 (s : Int)) (hend : ∀ ac wz, After [8, 45, 46, 47, 48] a0 ac → ac.eval (.tmp 8) = .int .i64 (B2 : Int) → Gr w wz → Q .normal ac wz) : (Code.region 12 q41_12 false).wp Try.prog Q a0 w := by
  refine seq_by (by kernel_rfl) 4 (by decide) [45, 46, 47, 48] (fun | 45 => .val (.int .i64 (B : Int)) | 46 => .val (.int .i64 (s : Int)) | 47 => .val (.int .i64 ((2 * s : Nat) : Int)) | 48 => .val (.int .i64 (B2 : Int)) | _ => .any) (by kernel_rfl) (List.forall_mem_cons.2 ⟨?s0, List.forall_mem_cons.2 ⟨?s1, List.forall_mem_cons.2 ⟨?s2, List.forall_mem_cons.2 ⟨?s3, fun o ho => nomatch ho⟩⟩⟩⟩) ?e
  case s0 => exact sa_move (.tmp 8) 45 (.val (.int .i64 (B : Int))) (.inl rfl) rfl rfl (.old 8 _ (by decide) e8) rfl
  case s1 => exact sa_move (.tmp 6) 46 (.val (.int .i64 (s : Int))) (.inl rfl) rfl rfl (.old 6 _ (by decide) e6) rfl
  case s2 => exact sa_bin .mul 3 (.const _) (.tmp 46) 3 47 (.int .i64 2) (.int .i64 (s : Int)) (.int .i64 ((2 * s : Nat) : Int)) rfl rfl rfl (.const _) (.new 46 (by kernel_rfl) (by rw [hz]; decide)) guard_int (bin_mul (by omega) (by omega) (by omega)) rfl
  case s3 => exact sa_bin .add 3 (.tmp 45) (.tmp 47) 3 48 (.int .i64 (B : Int)) (.int .i64 ((2 * s : Nat) : Int)) (.int .i64 (B2 : Int)) rfl rfl rfl (.new 45 (by kernel_rfl) (by rw [hz]; decide)) (.new 47 (by kernel_rfl) (by rw [hz]; decide)) guard_int (bin_add (by omega) (by omega) (by omega)) rfl
  case e =>
  intro ac wz hA hgr hv
  have o48 : ac.eval (.tmp 48) = .int .i64 (B2 : Int) := hv 48 (by kernel_rfl) (by rw [hz]; decide)
  refine wl_of rfl (op_move (.tmp 48) (.inr rfl) (wl_end ?_))
  exact hend _ wz (hA.put 8 _)  ((ev_put (by rw [hA.size, hz]; decide)).trans ((if_pos rfl).trans o48)) hgr
set_option maxRecDepth 100000 in
theorem r41_13 {Q : Exit → Act → World → Prop} {a0 : Act} {w : World} (hz : a0.tmps.size = 63) (A s M : Nat) (h1 : A + s = M) (h2 : M ≤ 9223372036854775807) (e7 : a0.eval (.tmp 7) = .int .i64 (A : Int)) (e6 : a0.eval (.tmp 6) = .int .i64 (s : Int)) (hend : ∀ ac wz, After [49, 50, 51, 9] a0 ac → ac.eval (.tmp 9) = .int .i64 (M : Int) → Gr w wz → Q .normal ac wz) : (Code.region 13 q41_13 false).wp Try.prog Q a0 w := by
  refine seq_by (by kernel_rfl) 4 (by decide) [49, 50, 51, 9] (fun | 49 => .val (.int .i64 (A : Int)) | 50 => .val (.int .i64 (s : Int)) | 51 => .val (.int .i64 (M : Int)) | 9 => .val (.int .i64 (M : Int)) | _ => .any) (by kernel_rfl) (List.forall_mem_cons.2 ⟨?s0, List.forall_mem_cons.2 ⟨?s1, List.forall_mem_cons.2 ⟨?s2, List.forall_mem_cons.2 ⟨?s3, fun o ho => nomatch ho⟩⟩⟩⟩) ?e
  case s0 => exact sa_move (.tmp 7) 49 (.val (.int .i64 (A : Int))) (.inl rfl) rfl rfl (.old 7 _ (by decide) e7) rfl
  case s1 => exact sa_move (.tmp 6) 50 (.val (.int .i64 (s : Int))) (.inl rfl) rfl rfl (.old 6 _ (by decide) e6) rfl
  case s2 => exact sa_bin .add 3 (.tmp 49) (.tmp 50) 3 51 (.int .i64 (A : Int)) (.int .i64 (s : Int)) (.int .i64 (M : Int)) rfl rfl rfl (.new 49 (by kernel_rfl) (by rw [hz]; decide)) (.new 50 (by kernel_rfl) (by rw [hz]; decide)) guard_int (bin_add (by omega) (by omega) (by omega)) rfl
  case s3 => exact sa_move (.tmp 51) 9 (.val (.int .i64 (M : Int))) (.inr rfl) rfl rfl (.new 51 (by kernel_rfl) (by rw [hz]; decide)) rfl
  case e =>
  intro ac wz hA hgr hv
  exact wl_end (hend ac wz hA (hv 9 (by kernel_rfl) (by rw [hz]; decide)) hgr)
set_option maxRecDepth 100000 in
theorem r41_14 {Q : Exit → Act → World → Prop} {a0 : Act} {w : World} (hz : a0.tmps.size = 63) (M N : Nat) (e9 : a0.eval (.tmp 9) = .int .i64 (M : Int)) (e1 : a0.eval (.tmp 1) = .int .i64 (N : Int)) (hend : ∀ ac wz, After [52, 53, 54] a0 ac → ac.eval (.tmp 54) = .bool (decide ((M : Int) < (N : Int))) → Gr w wz → Q .normal ac wz) : (Code.region 14 q41_14 false).wp Try.prog Q a0 w := by
  refine seq_by (by kernel_rfl) 3 (by decide) [52, 53, 54] (fun | 52 => .val (.int .i64 (M : Int)) | 53 => .val (.int .i64 (N : Int)) | 54 => .val (.bool (decide ((M : Int) < (N : Int)))) | _ => .any) (by kernel_rfl) (List.forall_mem_cons.2 ⟨?s0, List.forall_mem_cons.2 ⟨?s1, List.forall_mem_cons.2 ⟨?s2, fun o ho => nomatch ho⟩⟩⟩) ?e
  case s0 => exact sa_move (.tmp 9) 52 (.val (.int .i64 (M : Int))) (.inl rfl) rfl rfl (.old 9 _ (by decide) e9) rfl
  case s1 => exact sa_move (.tmp 1) 53 (.val (.int .i64 (N : Int))) (.inl rfl) rfl rfl (.old 1 _ (by decide) e1) rfl
  case s2 => exact sa_bin .lss 3 (.tmp 52) (.tmp 53) 3 54 (.int .i64 (M : Int)) (.int .i64 (N : Int)) (.bool (decide ((M : Int) < (N : Int)))) rfl rfl rfl (.new 52 (by kernel_rfl) (by rw [hz]; decide)) (.new 53 (by kernel_rfl) (by rw [hz]; decide)) guard_int (bin_lss rfl) rfl
  case e =>
  intro ac wz hA hgr hv
  exact wl_end (hend ac wz hA (hv 54 (by kernel_rfl) (by rw [hz]; decide)) hgr)
set_option maxRecDepth 100000 in
theorem r41_15 {Q : Exit → Act → World → Prop} {a0 : Act} {w : World} (hz : a0.tmps.size = 63) (bk N cap c A M : Nat) (e0 : a0.eval (.tmp 0) = .slice (some ⟨bk, 0, none⟩) N cap) (e7 : a0.eval (.tmp 7) = .int .i64 (A : Int)) (e9 : a0.eval (.tmp 9) = .int .i64 (M : Int)) (e1 : a0.eval (.tmp 1) = .int .i64 (N : Int)) (e2 : a0.eval (.tmp 2) = .func (.func 36) #[] #[.pointer (some ⟨c, 0, none⟩)]) {R : Value → World → Prop} (hc : ∀ wy, Gr w wy → Calls Try.prog 55 #[.slice (some ⟨bk, 0, none⟩) N cap, .int .i64 (A : Int), .int .i64 (M : Int), .int .i64 (N : Int), .func (.func 36) #[] #[.pointer (some ⟨c, 0, none⟩)]] wy fun er wz => ∃ u, er = .returned u ∧ R u wz) (hend : ∀ ac wz u, After [60, 55, 56, 57, 58, 59] a0 ac → ac.eval (.tmp 60) = u → R u wz → Q .normal ac wz) : (Code.region 15 q41_15 false).wp Try.prog Q a0 w := by
  refine seq_by (by kernel_rfl) 5 (by decide) [55, 56, 57, 58, 59] (fun | 55 => .val (.slice (some ⟨bk, 0, none⟩) N cap) | 56 => .val (.int .i64 (A : Int)) | 57 => .val (.int .i64 (M : Int)) | 58 => .val (.int .i64 (N : Int)) | 59 => .val (.func (.func 36) #[] #[.pointer (some ⟨c, 0, none⟩)]) | _ => .any) (by kernel_rfl) (List.forall_mem_cons.2 ⟨?s0, List.forall_mem_cons.2 ⟨?s1, List.forall_mem_cons.2 ⟨?s2, List.forall_mem_cons.2 ⟨?s3, List.forall_mem_cons.2 ⟨?s4, fun o ho => nomatch ho⟩⟩⟩⟩⟩) ?e
  case s0 => exact sa_move (.tmp 0) 55 (.val (.slice (some ⟨bk, 0, none⟩) N cap)) (.inl rfl) rfl rfl (.old 0 _ (by decide) e0) rfl
  case s1 => exact sa_move (.tmp 7) 56 (.val (.int .i64 (A : Int))) (.inl rfl) rfl rfl (.old 7 _ (by decide) e7) rfl
  case s2 => exact sa_move (.tmp 9) 57 (.val (.int .i64 (M : Int))) (.inl rfl) rfl rfl (.old 9 _ (by decide) e9) rfl
  case s3 => exact sa_move (.tmp 1) 58 (.val (.int .i64 (N : Int))) (.inl rfl) rfl rfl (.old 1 _ (by decide) e1) rfl
  case s4 => exact sa_move (.tmp 2) 59 (.val (.func (.func 36) #[] #[.pointer (some ⟨c, 0, none⟩)])) (.inl rfl) rfl rfl (.old 2 _ (by decide) e2) rfl
  case e =>
  intro ac wz hA hgr hv
  have o55 : ac.eval (.tmp 55) = .slice (some ⟨bk, 0, none⟩) N cap := hv 55 (by kernel_rfl) (by rw [hz]; decide)
  have o56 : ac.eval (.tmp 56) = .int .i64 (A : Int) := hv 56 (by kernel_rfl) (by rw [hz]; decide)
  have o57 : ac.eval (.tmp 57) = .int .i64 (M : Int) := hv 57 (by kernel_rfl) (by rw [hz]; decide)
  have o58 : ac.eval (.tmp 58) = .int .i64 (N : Int) := hv 58 (by kernel_rfl) (by rw [hz]; decide)
  have o59 : ac.eval (.tmp 59) = .func (.func 36) #[] #[.pointer (some ⟨c, 0, none⟩)] := hv 59 (by kernel_rfl) (by rw [hz]; decide)
  refine wl_of rfl (op_call 55 #[.tmp 55, .tmp 56, .tmp 57, .tmp 58, .tmp 59] #[24, 3, 3, 3, 56] rfl #[.slice (some ⟨bk, 0, none⟩) N cap, .int .i64 (A : Int), .int .i64 (M : Int), .int .i64 (N : Int), .func (.func 36) #[] #[.pointer (some ⟨c, 0, none⟩)]] (by simp [o55, o56, o57, o58, o59]) (enters_of Try.func55 (by kernel_rfl) rfl) ?_)
  refine (hc wz hgr).mono fun er wy ⟨u, e1, e2⟩ => ⟨u, e1, wl_end ?_⟩
  exact hend _ wy u (hA.put 60 u) ((ev_put (by rw [hA.size, hz]; decide)).trans (if_pos rfl)) e2
set_option maxRecDepth 100000 in
theorem r41_16 {Q : Exit → Act → World → Prop} {a0 : Act} {w : World} (hz : a0.tmps.size = 63) (s s2 : Nat) (h1 : s * 2 = s2) (h2 : s2 ≤ 9223372036854775807) (e6 : a0.eval (.tmp 6) = .int .i64 (s : Int)) (hend : ∀ ac wz, After [6, 61, 62] a0 ac → ac.eval (.tmp 6) = .int .i64 (s2 : Int) → Gr w wz → Q .normal ac wz) : (Code.region 16 q41_16 false).wp Try.prog Q a0 w := by
  refine seq_by (by kernel_rfl) 2 (by decide) [61, 62] (fun | 61 => .val (.int .i64 (s : Int)) | 62 => .val (.int .i64 (s2 : Int)) | _ => .any) (by kernel_rfl) (List.forall_mem_cons.2 ⟨?s0, List.forall_mem_cons.2 ⟨?s1, fun o ho => nomatch ho⟩⟩) ?e
  case s0 => exact sa_move (.tmp 6) 61 (.val (.int .i64 (s : Int))) (.inl rfl) rfl rfl (.old 6 _ (by decide) e6) rfl
  case s1 => exact sa_bin .mul 3 (.tmp 61) (.const _) 3 62 (.int .i64 (s : Int)) (.int .i64 2) (.int .i64 (s2 : Int)) rfl rfl rfl (.new 61 (by kernel_rfl) (by rw [hz]; decide)) (.const _) guard_int (bin_mul (by omega) (by omega) (by omega)) rfl
  case e =>
  intro ac wz hA hgr hv
  have o62 : ac.eval (.tmp 62) = .int .i64 (s2 : Int) := hv 62 (by kernel_rfl) (by rw [hz]; decide)
  refine wl_of rfl (op_move (.tmp 62) (.inr rfl) (wl_end ?_))
  exact hend _ wz (hA.put 6 _)  ((ev_put (by rw [hA.size, hz]; decide)).trans ((if_pos rfl).trans o62)) hgr
def c41_ra : Code := (((Code.region 2 q41_2 false).seq (Code.cond (Operand.tmp 13) Code.skip (Code.exit 0))).seq (Code.block 1 ((Code.region 3 q41_3 false).seq ((Code.region 4 q41_4 false).seq (Code.region 5 q41_5 false)))))
def c41_la : Code := (Code.block 0 (c41_ra.loop))
def c41_rc : Code := (((Code.region 9 q41_9 false).seq (Code.cond (Operand.tmp 35) Code.skip (Code.exit 4))).seq (Code.block 5 ((Code.region 10 q41_10 false).seq ((Code.region 11 q41_11 false).seq (Code.region 12 q41_12 false)))))
def c41_lc : Code := (Code.block 4 (c41_rc.loop))
def c41_m : Code := ((Code.region 13 q41_13 false).seq ((Code.region 14 q41_14 false).seq (Code.cond (Operand.tmp 54) (Code.region 15 q41_15 false) Code.skip)))
def c41_b3 : Code := ((Code.region 8 q41_8 false).seq (c41_lc.seq (c41_m.seq (Code.region 16 q41_16 false))))
def c41_rb : Code := (((Code.region 7 q41_7 false).seq (Code.cond (Operand.tmp 30) Code.skip (Code.exit 2))).seq (Code.block 3 c41_b3))
def c41_lb : Code := (Code.block 2 (c41_rb.loop))
def c41 : Code := ((Code.region 0 q41_0 false).seq ((Code.region 1 q41_1 false).seq (c41_la.seq ((Code.region 6 q41_6 false).seq c41_lb))))
structure T3 (bk N cap c : Nat) (ac : Act) : Prop where
  z : ac.tmps.size = 63
  df : ac.defers = []
  e0 : ac.eval (.tmp 0) = .slice (some ⟨bk, 0, none⟩) N cap
  e1 : ac.eval (.tmp 1) = .int .i64 (N : Int)
  e2 : ac.eval (.tmp 2) = .func (.func 36) #[] #[.pointer (some ⟨c, 0, none⟩)]
theorem T3.next {bk N cap c : Nat} {ac ad : Act} {D : List Nat} (h : T3 bk N cap c ac) (hA : After D ac ad) (hD : (D.all fun s => decide (3 ≤ s)) = true) : T3 bk N cap c ad :=
  ⟨hA.size.trans h.z, hA.defers.trans h.df, hA.keep hD (by omega) h.e0, hA.keep hD (by omega) h.e1, hA.keep hD (by omega) h.e2⟩
/-- A row in the making. -/
structure Rw (bk N : Nat) (w : World) (f : Nat → Nat) (y : World) : Prop where
  h : Holds y bk (rowN N f) 3
  u : Upd bk w y
theorem Rw.gr {bk N : Nat} {w y z : World} {f : Nat → Nat} (h : Rw bk N w f y) (g : Gr y z) : Rw bk N w f z := ⟨h.h.below g h.h.lt, h.u.trans g.upd⟩
theorem stab_la {Q : Exit → Act → World → Prop} {bk N cap c g : Nat} {t : List Int} {w x : World} {ac : Act} (h : T3 bk N cap c ac) (e6 : ac.eval (.tmp 6) = .int .i64 ((20 : Nat) : Int)) (e7 : ac.eval (.tmp 7) = .int .i64 ((20 * 0 : Nat) : Int)) (e8 : ac.eval (.tmp 8) = .int .i64 ((20 * 0 + 20 : Nat) : Int)) (hR : Rw bk N w (fun k => k) x) (hB : By c g N t w) (hc : c ≠ bk) (hg : g ≠ bk) (hN : N ≤ 17592186043904) (h0 : 0 < N)
    (hend : ∀ ad y r f, T3 bk N cap c ad → ad.eval (.tmp 6) = .int .i64 ((20 : Nat) : Int) → ad.eval (.tmp 7) = .int .i64 ((20 * r : Nat) : Int) → 20 * r ≤ N → N < 20 * r + 20 → Ahead t N 20 r f → Rw bk N w f y → Q .normal ad y) : c41_la.wp Try.prog Q ac x := by
  unfold c41_la
  refine wp_block ?_
  refine wp_loop (fun ad y => ∃ r f, T3 bk N cap c ad ∧ ad.eval (.tmp 6) = .int .i64 ((20 : Nat) : Int) ∧ ad.eval (.tmp 7) = .int .i64 ((20 * r : Nat) : Int) ∧ ad.eval (.tmp 8) = .int .i64 ((20 * r + 20 : Nat) : Int) ∧ 20 * r ≤ N ∧ Ahead t N 20 r f ∧ Rw bk N w f y) (fun ad _ => N - (intOf (ad.eval (.tmp 7))).toNat)
    ⟨0, _, h, e6, e7, e8, by omega, Ahead.start t N 20, hR⟩ (fun a0 x0 ⟨r, f, h0', f6, f7, f8, hr, hA, hW⟩ => ?_)
  unfold c41_ra
  refine wp_seq (wp_seq (r41_2 h0'.z (20 * r + 20) N f8 h0'.e1 (fun a1 x1 A1 o1 G1 => ?_)))
  have h1 := h0'.next A1 (by decide)
  have W1 := hW.gr G1
  have g6 := A1.get f6 (by decide)
  have g7 := A1.get f7 (by decide)
  have g8 := A1.get f8 (by decide)
  show Code.wp Try.prog (Code.cond _ _ _) _ a1 x1
  refine wp_cond_split o1 (fun q => ?_) (fun q => ?_)
  · have q : ((20 * r + 20 : Nat) : Int) ≤ (N : Int) := of_decide_eq_true q
    refine wp_skip ?_
    show Code.wp Try.prog (Code.block 1 _) _ a1 x1
    refine wp_block ?_
    refine wp_seq (r41_3 h1.z bk N cap c (20 * r) (20 * r + 20) h1.e0 g7 g8 h1.e2 (R := fun _ z => ∃ f', Ahead t N 20 (r + 1) f' ∧ Rw bk N w f' z) (fun y G => ?_) (fun a2 x2 u A2 _ ⟨f', hA2, W2⟩ => ?_))
    · have Wy := W1.gr G
      refine (ins_any c g t bk N cap (20 * r) (20 * r + 20) f y Wy.h (hB.upd Wy.u hc hg) hc hg hA.wh.low (fun p q' p1 p2 p3 => by rw [hA.left p p1, hA.left q' (by omega)]; exact p2) (by omega) (by omega) hN h0).mono fun er z ⟨p1, f', p2, p3, p4, p5⟩ => ⟨_, p1, f', ?_, p2, Wy.u.trans p3⟩
      exact hA.step (b := 20 * r + 20) (by omega) (by omega) p5 p4
    · have h2 := h1.next A2 (by decide)
      show Code.wp Try.prog (Code.seq _ _) _ a2 x2
      refine wp_seq (r41_4 h2.z (20 * r + 20) (A2.get g8 (by decide)) (fun a3 x3 A3 o7 G3 => ?_))
      have h3 := h2.next A3 (by decide)
      show Code.wp Try.prog (Code.region 5 q41_5 false) _ a3 x3
      refine r41_5 h3.z (20 * r + 20) 20 (20 * (r + 1) + 20) (by omega) (by omega) (A3.get (A2.get g8 (by decide)) (by decide)) (A3.get (A2.get g6 (by decide)) (by decide)) (fun a4 x4 A4 o8 G4 => ?_)
      refine ⟨⟨r + 1, f', h3.next A4 (by decide), A4.get (A3.get (A2.get g6 (by decide)) (by decide)) (by decide), (A4.get o7 (by decide)).trans (by congr 1), o8, by omega, hA2, (W2.gr G3).gr G4⟩, ?_⟩
      show N - (intOf (a4.eval (.tmp 7))).toNat < N - (intOf (a0.eval (.tmp 7))).toNat
      rw [A4.get o7 (by decide), f7]
      simp only [intOf]
      omega
  · have q : ¬ ((20 * r + 20 : Nat) : Int) ≤ (N : Int) := of_decide_eq_false q
    exact wp_exit (hend a1 x1 r f h1 g6 g7 hr (by omega) hA W1)
theorem stab_lc {Q : Exit → Act → World → Prop} {bk N cap c g s : Nat} {t : List Int} {w x : World} {ac : Act} {f : Nat → Nat} (h : T3 bk N cap c ac) (e6 : ac.eval (.tmp 6) = .int .i64 (s : Int)) (e7 : ac.eval (.tmp 7) = .int .i64 ((2 * s * 0 : Nat) : Int)) (e8 : ac.eval (.tmp 8) = .int .i64 ((2 * s * 0 + 2 * s : Nat) : Int)) (hP : Pass t N s 0 f) (hR : Rw bk N w f x) (hB : By c g N t w) (hc : c ≠ bk) (hg : g ≠ bk) (hN : N ≤ 17592186043904) (h0 : 0 < s) (hs : s < N)
    (hend : ∀ ad y r f, T3 bk N cap c ad → ad.eval (.tmp 6) = .int .i64 (s : Int) → ad.eval (.tmp 7) = .int .i64 ((2 * s * r : Nat) : Int) → 2 * s * r ≤ N → N < 2 * s * r + 2 * s → Pass t N s r f → Rw bk N w f y → Q .normal ad y) : c41_lc.wp Try.prog Q ac x := by
  unfold c41_lc
  refine wp_block ?_
  refine wp_loop (fun ad y => ∃ r f, T3 bk N cap c ad ∧ ad.eval (.tmp 6) = .int .i64 (s : Int) ∧ ad.eval (.tmp 7) = .int .i64 ((2 * s * r : Nat) : Int) ∧ ad.eval (.tmp 8) = .int .i64 ((2 * s * r + 2 * s : Nat) : Int) ∧ 2 * s * r ≤ N ∧ Pass t N s r f ∧ Rw bk N w f y) (fun ad _ => N - (intOf (ad.eval (.tmp 7))).toNat)
    ⟨0, f, h, e6, e7, e8, by omega, hP, hR⟩ (fun a0 x0 ⟨r, f, h0', f6, f7, f8, hr, hA, hW⟩ => ?_)
  obtain ⟨A, hAe⟩ : ∃ A, 2 * s * r = A := ⟨_, rfl⟩
  have e1 : s * (2 * r) = A := by rw [← hAe, ← Nat.mul_assoc, Nat.mul_comm s 2]
  have e2 : s * (2 * r + 1) = A + s := by rw [Nat.mul_add, e1, Nat.mul_one]
  have e3 : 2 * s * (r + 1) = A + 2 * s := by rw [Nat.mul_add, hAe, Nat.mul_one]
  have r1 := hA.left (2 * r) (Nat.le_refl _)
  have r2 := hA.left (2 * r + 1) (by omega)
  have hstep := fun b f' => @Pass.step t N s r b f f' hA
  rw [e1] at r1
  rw [e2] at r2
  rw [hAe] at f7 f8 hr hstep
  unfold c41_rc
  refine wp_seq (wp_seq (r41_9 h0'.z (A + 2 * s) N f8 h0'.e1 (fun a1 x1 A1 o1 G1 => ?_)))
  have h1 := h0'.next A1 (by decide)
  have W1 := hW.gr G1
  have g6 := A1.get f6 (by decide)
  have g7 := A1.get f7 (by decide)
  have g8 := A1.get f8 (by decide)
  show Code.wp Try.prog (Code.cond _ _ _) _ a1 x1
  refine wp_cond_split o1 (fun q => ?_) (fun q => ?_)
  · have q : ((A + 2 * s : Nat) : Int) ≤ (N : Int) := of_decide_eq_true q
    refine wp_skip ?_
    show Code.wp Try.prog (Code.block 5 _) _ a1 x1
    refine wp_block ?_
    refine wp_seq (r41_10 h1.z bk N cap c A s (A + s) (A + 2 * s) rfl (by omega) h1.e0 g7 g6 g8 h1.e2 (R := fun _ z => ∃ f', Pass t N s (r + 1) f' ∧ Rw bk N w f' z) (fun y G => ?_) (fun a2 x2 u A2 _ ⟨f', hA2, W2⟩ => ?_))
    · have Wy := W1.gr G
      refine (sym_any c g t bk N cap hc hg hN (A + 2 * s - A + 1) A (A + s) (A + 2 * s) f y (by omega) (by omega) (by omega) (by omega) Wy.h (hB.upd Wy.u hc hg) hA.wh.low (r1.lr r2 (by omega)) (r1.left (by omega)) (r2.right (by omega))).mono fun er z ⟨p1, f', p2, p3, p4, p5⟩ => ⟨_, p1, f', ?_, p2, Wy.u.trans p3⟩
      exact hstep (A + 2 * s) f' (by omega) (by omega) p5 p4
    · have h2 := h1.next A2 (by decide)
      show Code.wp Try.prog (Code.seq _ _) _ a2 x2
      refine wp_seq (r41_11 h2.z (A + 2 * s) (A2.get g8 (by decide)) (fun a3 x3 A3 o7 G3 => ?_))
      have h3 := h2.next A3 (by decide)
      show Code.wp Try.prog (Code.region 12 q41_12 false) _ a3 x3
      refine r41_12 h3.z (A + 2 * s) s (A + 2 * s + 2 * s) (by omega) (by omega) (A3.get (A2.get g8 (by decide)) (by decide)) (A3.get (A2.get g6 (by decide)) (by decide)) (fun a4 x4 A4 o8 G4 => ?_)
      refine ⟨⟨r + 1, f', h3.next A4 (by decide), A4.get (A3.get (A2.get g6 (by decide)) (by decide)) (by decide), (A4.get o7 (by decide)).trans (by rw [e3]), o8.trans (by rw [e3]), by omega, hA2, (W2.gr G3).gr G4⟩, ?_⟩
      show N - (intOf (a4.eval (.tmp 7))).toNat < N - (intOf (a0.eval (.tmp 7))).toNat
      rw [A4.get o7 (by decide), f7]
      simp only [intOf]
      omega
  · have q : ¬ ((A + 2 * s : Nat) : Int) ≤ (N : Int) := of_decide_eq_false q
    exact wp_exit (hend a1 x1 r f h1 g6 (by rw [hAe]; exact g7) (by omega) (by omega) hA W1)
theorem stab_m {Q : Exit → Act → World → Prop} {Kn : Act → World → Prop} {bk N cap c g s r : Nat} {t : List Int} {w x : World} {ac : Act} {f : Nat → Nat} (h : T3 bk N cap c ac) (e6 : ac.eval (.tmp 6) = .int .i64 (s : Int)) (e7 : ac.eval (.tmp 7) = .int .i64 ((2 * s * r : Nat) : Int)) (hr : 2 * s * r ≤ N) (hrN : N < 2 * s * r + 2 * s) (hA : Pass t N s r f) (hW : Rw bk N w f x) (hB : By c g N t w) (hc : c ≠ bk) (hg : g ≠ bk) (hN : N ≤ 17592186043904) (h0 : 0 < s) (hs : s < N)
    (hend : ∀ ad y f', T3 bk N cap c ad → ad.eval (.tmp 6) = .int .i64 (s : Int) → Wh N f' → (∀ q, Run t N (2 * s * q) (2 * s) f') → Rw bk N w f' y → Kn ad y) : c41_m.wp Try.prog (Exit.then Kn Q) ac x := by
  obtain ⟨A, hAe⟩ : ∃ A, 2 * s * r = A := ⟨_, rfl⟩
  have e1 : s * (2 * r) = A := by rw [← hAe, ← Nat.mul_assoc, Nat.mul_comm s 2]
  have e2 : s * (2 * r + 1) = A + s := by rw [Nat.mul_add, e1, Nat.mul_one]
  have e3 : 2 * s * (r + 1) = A + 2 * s := by rw [Nat.mul_add, hAe, Nat.mul_one]
  have r1 := hA.left (2 * r) (Nat.le_refl _)
  have r2 := hA.left (2 * r + 1) (by omega)
  have hstep := fun b f' => @Pass.step t N s r b f f' hA
  have hlast := @Pass.last t N s r f hA
  rw [e1] at r1
  rw [e2] at r2
  rw [hAe] at e7 hr hrN hstep hlast
  unfold c41_m
  refine wp_seq (r41_13 h.z A s (A + s) rfl (by omega) e7 e6 (fun a1 x1 A1 o9 G1 => ?_))
  have h1 := h.next A1 (by decide)
  have W1 := hW.gr G1
  show Code.wp Try.prog (Code.seq _ _) _ a1 x1
  refine wp_seq (r41_14 h1.z (A + s) N o9 h1.e1 (fun a2 x2 A2 o54 G2 => ?_))
  have h2 := h1.next A2 (by decide)
  have W2 := W1.gr G2
  have g6 := A2.get (A1.get e6 (by decide)) (by decide)
  have g7 := A2.get (A1.get e7 (by decide)) (by decide)
  show Code.wp Try.prog (Code.cond _ _ _) _ a2 x2
  refine wp_cond_split o54 (fun q => ?_) (fun q => ?_)
  · have q : ((A + s : Nat) : Int) < (N : Int) := of_decide_eq_true q
    refine r41_15 h2.z bk N cap c A (A + s) h2.e0 g7 (A2.get o9 (by decide)) h2.e1 h2.e2 (R := fun _ z => ∃ f', Pass t N s (r + 1) f' ∧ Rw bk N w f' z) (fun y G => ?_) (fun a3 x3 u A3 _ ⟨f', hA3, W3⟩ => ?_)
    · have Wy := W2.gr G
      refine (sym_any c g t bk N cap hc hg hN (N - A + 1) A (A + s) N f y (by omega) (by omega) (by omega) (by omega) Wy.h (hB.upd Wy.u hc hg) hA.wh.low (r1.lr r2 (by omega)) (r1.left (by omega)) (r2.right (by omega))).mono fun er z ⟨p1, f', p2, p3, p4, p5⟩ => ⟨_, p1, f', ?_, p2, Wy.u.trans p3⟩
      exact hstep N f' (by omega) (by omega) p5 p4
    · exact hend a3 x3 f' (h2.next A3 (by decide)) (A3.get g6 (by decide)) hA3.wh (hA3.over (by omega)) W3
  · have q : ¬ ((A + s : Nat) : Int) < (N : Int) := of_decide_eq_false q
    refine wp_skip ?_
    exact hend a2 x2 f h2 g6 hA.wh (hlast (by omega)) W2
theorem stab_lb {Q : Exit → Act → World → Prop} {bk N cap c g : Nat} {t : List Int} {w x : World} {ac : Act} {f : Nat → Nat} (h : T3 bk N cap c ac) (e6 : ac.eval (.tmp 6) = .int .i64 ((20 : Nat) : Int)) (hw : Wh N f) (hq : ∀ q, Run t N (20 * q) 20 f) (hR : Rw bk N w f x) (hB : By c g N t w) (hc : c ≠ bk) (hg : g ≠ bk) (hN : N ≤ 17592186043904)
    (hend : ∀ ad y f, T3 bk N cap c ad → Wh N f → Sm.Sorted (ltT t) f 0 N → Rw bk N w f y → Q .normal ad y) : c41_lb.wp Try.prog Q ac x := by
  unfold c41_lb
  refine wp_block ?_
  refine wp_loop (fun ad y => ∃ (s : Nat) (f : Nat → Nat), T3 bk N cap c ad ∧ ad.eval (.tmp 6) = .int .i64 (s : Int) ∧ 0 < s ∧ s ≤ 2 * N + 20 ∧ Wh N f ∧ (∀ q, Run t N (s * q) s f) ∧ Rw bk N w f y) (fun ad _ => N - (intOf (ad.eval (.tmp 6))).toNat)
    ⟨20, f, h, e6, by omega, by omega, hw, hq, hR⟩ (fun a0 x0 ⟨s, f, h0', f6, hs0, hsN, hwh, hrun, hW⟩ => ?_)
  unfold c41_rb
  refine wp_seq (wp_seq (r41_7 h0'.z s N f6 h0'.e1 (fun a1 x1 A1 o1 G1 => ?_)))
  have h1 := h0'.next A1 (by decide)
  have W1 := hW.gr G1
  have g6 := A1.get f6 (by decide)
  show Code.wp Try.prog (Code.cond _ _ _) _ a1 x1
  refine wp_cond_split o1 (fun q => ?_) (fun q => ?_)
  · have q : (s : Int) < (N : Int) := of_decide_eq_true q
    refine wp_skip ?_
    show Code.wp Try.prog (Code.block 3 c41_b3) _ a1 x1
    refine wp_block ?_
    unfold c41_b3
    refine wp_seq (r41_8 h1.z s (2 * s) rfl (by omega) g6 (fun a2 x2 A2 o7 o8 G2 => ?_))
    have h2 := h1.next A2 (by decide)
    show Code.wp Try.prog (Code.seq c41_lc _) _ a2 x2
    refine wp_seq (stab_lc h2 (A2.get g6 (by decide)) (o7.trans (by rw [Nat.mul_zero]; rfl)) (o8.trans (by rw [Nat.mul_zero, Nat.zero_add])) (Pass.start hwh hrun) (W1.gr G2) hB hc hg hN hs0 (by omega) (fun a3 x3 r f3 h3 k6 k7 k1 k2 P3 W3 => ?_))
    show Code.wp Try.prog (Code.seq c41_m _) _ a3 x3
    refine wp_seq (stab_m h3 k6 k7 k1 k2 P3 W3 hB hc hg hN hs0 (by omega) (fun a4 x4 f4 h4 l6 w4 r4 W4 => ?_))
    show Code.wp Try.prog (Code.region 16 q41_16 false) _ a4 x4
    refine r41_16 h4.z s (s * 2) rfl (by omega) l6 (fun a5 x5 A5 o6 G5 => ?_)
    refine ⟨⟨s * 2, f4, h4.next A5 (by decide), o6, by omega, by omega, w4, fun q => by rw [Nat.mul_comm s 2]; exact r4 q, W4.gr G5⟩, ?_⟩
    show N - (intOf (a5.eval (.tmp 6))).toNat < N - (intOf (a0.eval (.tmp 6))).toNat
    rw [o6, f6]
    simp only [intOf]
    omega
  · have q : ¬ (s : Int) < (N : Int) := of_decide_eq_false q
    exact wp_exit (hend a1 x1 f h1 hwh (runs_sorted hrun (by omega)) W1)
theorem stab_any (c g : Nat) (t : List Int) (bk N cap : Nat) (w : World) (h : Holds w bk (rowN N (fun k => k)) 3) (hB : By c g N t w) (hc : c ≠ bk) (hg : g ≠ bk) (hN : N ≤ 17592186043904) (h0 : 0 < N) :
    Calls Try.prog 41 #[.slice (some ⟨bk, 0, none⟩) N cap, .int .i64 (N : Int), .func (.func 36) #[] #[.pointer (some ⟨c, 0, none⟩)]] w fun e w' => e = .returned (.tuple #[]) ∧ ∃ f, Wh N f ∧ Sm.Sorted (ltT t) f 0 N ∧ Holds w' bk (rowN N f) 3 ∧ Upd bk w w' := by
  refine calls_by (c := c41) Try.func41 (by kernel_rfl) 63 (by rw [Try.ntmps41]; rfl) (fun ac z df hv => ?_)
  have h0' : T3 bk N cap c ac := ⟨z, df, hv 0 _ rfl, hv 1 _ rfl, hv 2 _ rfl⟩
  clear hv
  have hR : Rw bk N w (fun k => k) w := ⟨h, Upd.refl _ _⟩
  unfold c41
  refine wp_seq (r41_0 h0'.z (fun a1 x1 A1 o6 G1 => ?_))
  have h1 := h0'.next A1 (by decide)
  show Code.wp Try.prog (Code.seq _ _) _ a1 x1
  refine wp_seq (r41_1 h1.z 20 o6 (fun a2 x2 A2 o7 o8 G2 => ?_))
  have h2 := h1.next A2 (by decide)
  show Code.wp Try.prog (Code.seq c41_la _) _ a2 x2
  refine wp_seq (stab_la h2 (A2.get o6 (by decide)) o7 o8 ((hR.gr G1).gr G2) hB hc hg hN h0 (fun a3 x3 r f h3 e6 e7 k1 k2 hA W3 => ?_))
  show Code.wp Try.prog (Code.seq _ c41_lb) _ a3 x3
  refine wp_seq (r41_6 h3.z bk N cap c (20 * r) h3.e0 e7 h3.e1 h3.e2 (R := fun _ z => ∃ f', Ahead t N 20 (r + 1) f' ∧ Rw bk N w f' z) (fun y G => ?_) (fun a4 x4 u A4 _ ⟨f', hA4, W4⟩ => ?_))
  · have Wy := W3.gr G
    refine (ins_any c g t bk N cap (20 * r) N f y Wy.h (hB.upd Wy.u hc hg) hc hg hA.wh.low (fun p q' p1 p2 p3 => by rw [hA.left p p1, hA.left q' (by omega)]; exact p2) k1 (Nat.le_refl _) hN h0).mono fun er z ⟨p1, f', p2, p3, p4, p5⟩ => ⟨_, p1, f', ?_, p2, Wy.u.trans p3⟩
    exact hA.step (b := N) (by omega) k1 p5 p4
  · refine stab_lb (h3.next A4 (by decide)) (A4.get e6 (by decide)) hA4.wh (hA4.over (by omega)) W4 hB hc hg hN (fun a5 x5 f5 h5 w5 s5 W5 => ?_)
    exact bodyPost_end (results_none rfl _ _ _) h5.df ⟨rfl, f5, w5, s5, W5.h, W5.u⟩
end Go.Proofs.Ytlliijodilnlgaa
