/- The document's Read (32): regions and code by tools/gen_gread.py. -/
import Derived.Test.YthmnjebmnocoiaaGreatZGsRdB
namespace Go.Proofs.YthmnjebmnocoiaaGreat.En
open Go.RowKit
def q32_0 : Array Oper := #[{ dst := some 2, op := Op.alloc 28, type := 0, pos := "ref.go:196", after := #[], guard := none }, { dst := some 3, op := Op.assign (Operand.const (Value.int IntKind.i64 0)), type := 48, pos := "ref.go:196", after := #[], guard := none }]
def q32_1 : Array Oper := #[{ dst := some 9, op := Op.move (Operand.tmp 0), type := 9, pos := "ref.go:197", after := #[], guard := none }, { dst := some 10, op := Op.build 86 #[(0, Operand.tmp 9)], type := 86, pos := "ref.go:197", after := #[{ on := 0, ground := Ground.data }], guard := none }, { dst := some 11, op := Op.box 86 (Operand.tmp 10), type := 84, pos := "ref.go:197", after := #[{ on := 1, ground := Ground.data }], guard := none }, { dst := some 4, op := Op.assign (Operand.tmp 11), type := 84, pos := "ref.go:197", after := #[{ on := 2, ground := Ground.data }, { on := 0, ground := Ground.phase }, { on := 1, ground := Ground.phase }, { on := 2, ground := Ground.phase }], guard := none }]
def q32_2 : Array Oper := #[{ dst := some 5, op := Op.alloc 28, type := 0, pos := "ref.go:198", after := #[], guard := none }]
def q32_3 : Array Oper := #[{ dst := some 12, op := Op.move (Operand.tmp 4), type := 84, pos := "ref.go:199", after := #[], guard := none }, { dst := some 13, op := Op.call { callee := Callee.value (Operand.func 57), args := #[Operand.tmp 12, Operand.const (Value.int IntKind.i64 3)], argTypes := #[84, 3] }, type := 3, pos := "ref.go:199", after := #[{ on := 0, ground := Ground.data }], guard := none }, { dst := some 6, op := Op.assign (Operand.tmp 13), type := 3, pos := "ref.go:199", after := #[{ on := 1, ground := Ground.data }, { on := 1, ground := Ground.chain }, { on := 0, ground := Ground.phase }, { on := 1, ground := Ground.phase }], guard := none }]
def q32_4 : Array Oper := #[{ dst := some 7, op := Op.assign (Operand.const (Value.int IntKind.i64 0)), type := 3, pos := "ref.go:200", after := #[], guard := none }]
def q32_5 : Array Oper := #[{ dst := some 14, op := Op.move (Operand.tmp 7), type := 3, pos := "ref.go:200", after := #[], guard := none }, { dst := some 15, op := Op.move (Operand.tmp 6), type := 3, pos := "ref.go:200", after := #[], guard := none }, { dst := some 16, op := Op.binOp BinOp.lss 3 (Operand.tmp 14) (Operand.tmp 15) 3, type := 4, pos := "ref.go:200", after := #[{ on := 0, ground := Ground.data }, { on := 1, ground := Ground.data }], guard := none }]
def q32_6 : Array Oper := #[{ dst := some 17, op := Op.move (Operand.tmp 7), type := 3, pos := "ref.go:200", after := #[], guard := none }, { dst := some 18, op := Op.binOp BinOp.add 3 (Operand.tmp 17) (Operand.const (Value.int IntKind.i64 1)) 3, type := 3, pos := "ref.go:200", after := #[{ on := 0, ground := Ground.data }], guard := none }, { dst := some 7, op := Op.assign (Operand.tmp 18), type := 3, pos := "ref.go:200", after := #[{ on := 1, ground := Ground.data }, { on := 0, ground := Ground.phase }, { on := 1, ground := Ground.phase }], guard := none }]
def q32_7 : Array Oper := #[{ dst := some 19, op := Op.fieldAddr 28 (Operand.tmp 5) 0, type := 0, pos := "ref.go:201", after := #[], guard := none }, { dst := some 20, op := Op.load 22 (Operand.tmp 19), type := 22, pos := "ref.go:201", after := #[{ on := 0, ground := Ground.data }], guard := none }, { dst := some 21, op := Op.move (Operand.tmp 4), type := 84, pos := "ref.go:201", after := #[], guard := none }, { dst := some 22, op := Op.call { callee := Callee.value (Operand.func 58), args := #[Operand.tmp 21], argTypes := #[84] }, type := 2, pos := "ref.go:201", after := #[{ on := 2, ground := Ground.data }], guard := none }, { dst := some 23, op := Op.move (Operand.tmp 4), type := 84, pos := "ref.go:201", after := #[], guard := none }, { dst := some 24, op := Op.call { callee := Callee.value (Operand.func 58), args := #[Operand.tmp 23], argTypes := #[84] }, type := 2, pos := "ref.go:201", after := #[{ on := 4, ground := Ground.data }, { on := 3, ground := Ground.chain }], guard := none }, { dst := some 25, op := Op.move (Operand.tmp 4), type := 84, pos := "ref.go:201", after := #[], guard := none }, { dst := some 26, op := Op.call { callee := Callee.value (Operand.func 59), args := #[Operand.tmp 25], argTypes := #[84] }, type := 23, pos := "ref.go:201", after := #[{ on := 6, ground := Ground.data }, { on := 5, ground := Ground.chain }], guard := none }, { dst := some 27, op := Op.build 53 #[(0, Operand.tmp 22), (1, Operand.tmp 24), (2, Operand.tmp 26)], type := 53, pos := "ref.go:201", after := #[{ on := 3, ground := Ground.data }, { on := 5, ground := Ground.data }, { on := 7, ground := Ground.data }], guard := none }, { dst := some 28, op := Op.buildSlice 22 1 #[(0, Operand.tmp 27)], type := 22, pos := "ref.go:201", after := #[{ on := 8, ground := Ground.data }], guard := none }, { dst := some 29, op := Op.call { callee := Callee.builtin Builtin.append, args := #[Operand.tmp 20, Operand.tmp 28], argTypes := #[22, 22] }, type := 22, pos := "ref.go:201", after := #[{ on := 1, ground := Ground.data }, { on := 9, ground := Ground.data }, { on := 7, ground := Ground.chain }], guard := none }, { dst := some 30, op := Op.fieldAddr 28 (Operand.tmp 5) 0, type := 0, pos := "ref.go:201", after := #[{ on := 0, ground := Ground.phase }, { on := 1, ground := Ground.phase }, { on := 2, ground := Ground.phase }, { on := 3, ground := Ground.phase }, { on := 4, ground := Ground.phase }, { on := 5, ground := Ground.phase }, { on := 6, ground := Ground.phase }, { on := 7, ground := Ground.phase }, { on := 8, ground := Ground.phase }, { on := 9, ground := Ground.phase }, { on := 10, ground := Ground.phase }], guard := none }, { dst := none, op := Op.store 22 (Operand.tmp 30) (Operand.tmp 29), type := 0, pos := "ref.go:201", after := #[{ on := 11, ground := Ground.data }, { on := 10, ground := Ground.data }, { on := 10, ground := Ground.chain }, { on := 0, ground := Ground.phase }, { on := 1, ground := Ground.phase }, { on := 2, ground := Ground.phase }, { on := 3, ground := Ground.phase }, { on := 4, ground := Ground.phase }, { on := 5, ground := Ground.phase }, { on := 6, ground := Ground.phase }, { on := 7, ground := Ground.phase }, { on := 8, ground := Ground.phase }, { on := 9, ground := Ground.phase }, { on := 10, ground := Ground.phase }], guard := none }]
def q32_8 : Array Oper := #[{ dst := some 8, op := Op.assign (Operand.const (Value.int IntKind.i64 0)), type := 3, pos := "ref.go:203", after := #[], guard := none }]
def q32_9 : Array Oper := #[{ dst := some 31, op := Op.move (Operand.tmp 8), type := 3, pos := "ref.go:203", after := #[], guard := none }, { dst := some 32, op := Op.binOp BinOp.lss 3 (Operand.tmp 31) (Operand.const (Value.int IntKind.i64 8)) 3, type := 4, pos := "ref.go:203", after := #[{ on := 0, ground := Ground.data }], guard := none }]
def q32_10 : Array Oper := #[{ dst := some 33, op := Op.move (Operand.tmp 8), type := 3, pos := "ref.go:203", after := #[], guard := none }, { dst := some 34, op := Op.binOp BinOp.add 3 (Operand.tmp 33) (Operand.const (Value.int IntKind.i64 1)) 3, type := 3, pos := "ref.go:203", after := #[{ on := 0, ground := Ground.data }], guard := none }, { dst := some 8, op := Op.assign (Operand.tmp 34), type := 3, pos := "ref.go:203", after := #[{ on := 1, ground := Ground.data }, { on := 0, ground := Ground.phase }, { on := 1, ground := Ground.phase }], guard := none }]
def q32_11 : Array Oper := #[{ dst := some 35, op := Op.move (Operand.tmp 8), type := 3, pos := "ref.go:204", after := #[], guard := none }, { dst := some 36, op := Op.move (Operand.tmp 4), type := 84, pos := "ref.go:204", after := #[], guard := none }, { dst := some 37, op := Op.call { callee := Callee.value (Operand.func 58), args := #[Operand.tmp 36], argTypes := #[84] }, type := 2, pos := "ref.go:204", after := #[{ on := 1, ground := Ground.data }], guard := none }, { dst := some 38, op := Op.move (Operand.tmp 4), type := 84, pos := "ref.go:204", after := #[], guard := none }, { dst := some 39, op := Op.call { callee := Callee.value (Operand.func 59), args := #[Operand.tmp 38], argTypes := #[84] }, type := 23, pos := "ref.go:204", after := #[{ on := 3, ground := Ground.data }, { on := 2, ground := Ground.chain }], guard := none }, { dst := some 40, op := Op.build 25 #[(0, Operand.tmp 37), (1, Operand.tmp 39)], type := 25, pos := "ref.go:204", after := #[{ on := 2, ground := Ground.data }, { on := 4, ground := Ground.data }], guard := none }, { dst := some 41, op := Op.fieldAddr 28 (Operand.tmp 5) 1, type := 0, pos := "ref.go:204", after := #[], guard := none }, { dst := some 42, op := Op.indexAddr 26 (Operand.tmp 41) (Operand.tmp 35), type := 0, pos := "ref.go:204", after := #[{ on := 6, ground := Ground.data }, { on := 0, ground := Ground.data }, { on := 0, ground := Ground.phase }, { on := 1, ground := Ground.phase }, { on := 2, ground := Ground.phase }, { on := 3, ground := Ground.phase }, { on := 4, ground := Ground.phase }, { on := 5, ground := Ground.phase }], guard := none }, { dst := none, op := Op.store 25 (Operand.tmp 42) (Operand.tmp 40), type := 0, pos := "ref.go:204", after := #[{ on := 7, ground := Ground.data }, { on := 5, ground := Ground.data }, { on := 4, ground := Ground.chain }, { on := 0, ground := Ground.phase }, { on := 1, ground := Ground.phase }, { on := 2, ground := Ground.phase }, { on := 3, ground := Ground.phase }, { on := 4, ground := Ground.phase }, { on := 5, ground := Ground.phase }], guard := none }]
def q32_12 : Array Oper := #[{ dst := some 43, op := Op.move (Operand.tmp 4), type := 84, pos := "ref.go:206", after := #[], guard := none }, { dst := some 44, op := Op.call { callee := Callee.value (Operand.func 60), args := #[Operand.tmp 43], argTypes := #[84] }, type := 48, pos := "ref.go:206", after := #[{ on := 0, ground := Ground.data }], guard := none }, { dst := some 45, op := Op.binOp BinOp.neq 48 (Operand.tmp 44) (Operand.const (Value.int IntKind.i64 0)) 48, type := 4, pos := "ref.go:206", after := #[{ on := 1, ground := Ground.data }], guard := none }, { dst := some 46, op := Op.move (Operand.tmp 45), type := 4, pos := "ref.go:206", after := #[{ on := 2, ground := Ground.data }, { on := 1, ground := Ground.chain }], guard := none }, { dst := some 47, op := Op.load 28 (Operand.tmp 5), type := 28, pos := "ref.go:206", after := #[{ on := 3, ground := Ground.guard }], guard := some (3, false) }, { dst := some 48, op := Op.call { callee := Callee.value (Operand.func 30), args := #[Operand.tmp 47], argTypes := #[28] }, type := 9, pos := "ref.go:206", after := #[{ on := 4, ground := Ground.data }, { on := 3, ground := Ground.chain }, { on := 3, ground := Ground.guard }], guard := some (3, false) }, { dst := some 49, op := Op.move (Operand.tmp 0), type := 9, pos := "ref.go:206", after := #[{ on := 3, ground := Ground.guard }], guard := some (3, false) }, { dst := some 50, op := Op.binOp BinOp.neq 9 (Operand.tmp 48) (Operand.tmp 49) 9, type := 4, pos := "ref.go:206", after := #[{ on := 5, ground := Ground.data }, { on := 6, ground := Ground.data }, { on := 3, ground := Ground.guard }], guard := some (3, false) }, { dst := some 51, op := Op.pick (Operand.tmp 46) (Operand.const (Value.bool true)) (Operand.tmp 50), type := 4, pos := "ref.go:206", after := #[{ on := 3, ground := Ground.data }, { on := 7, ground := Ground.data }], guard := none }]
def q32_13 : Array Oper := #[{ dst := some 52, op := Op.build 28 #[], type := 28, pos := "ref.go:207", after := #[], guard := none }, { dst := none, op := Op.store 28 (Operand.tmp 2) (Operand.tmp 52), type := 0, pos := "ref.go:207", after := #[{ on := 0, ground := Ground.data }, { on := 0, ground := Ground.phase }], guard := none }, { dst := some 3, op := Op.assign (Operand.const (Value.int IntKind.i64 11)), type := 48, pos := "ref.go:207", after := #[{ on := 1, ground := Ground.chain }, { on := 0, ground := Ground.phase }, { on := 1, ground := Ground.phase }], guard := none }]
def q32_14 : Array Oper := #[{ dst := some 53, op := Op.load 28 (Operand.tmp 5), type := 28, pos := "ref.go:209", after := #[], guard := none }, { dst := none, op := Op.store 28 (Operand.tmp 2) (Operand.tmp 53), type := 0, pos := "ref.go:209", after := #[{ on := 0, ground := Ground.data }, { on := 0, ground := Ground.phase }], guard := none }, { dst := some 3, op := Op.assign (Operand.const (Value.int IntKind.i64 0)), type := 48, pos := "ref.go:209", after := #[{ on := 1, ground := Ground.chain }, { on := 0, ground := Ground.phase }, { on := 1, ground := Ground.phase }], guard := none }]
set_option maxRecDepth 100000 in
theorem r32_7 {Q : Exit → Act → World → Prop} {a0 : Act} {w : World} (hz : a0.tmps.size = 54) {b c m M : Nat} {w0 : World} {v : Value} {ms : List Mb} {os : List Ow} {st : Rd.St} (H : Mem simK b c m M w0 w v ms os st) (hl : ms.length + 1 ≤ 1000000000) (e5 : a0.eval (.tmp 5) = .pointer (some ⟨c, 0, none⟩)) (e4 : a0.eval (.tmp 4) = .pointer (some ⟨m, 0, none⟩)) (hend : ∀ ac y v', After [30, 29, 19, 20, 21, 22, 23, 24, 25, 26, 27, 28] a0 ac → Mem simK b c m M w0 y v' (ms ++ [(Rd.rdM st).1]) os (Rd.rdM st).2 → Q .normal ac y) : (Code.region 7 q32_7 true).wp Tryz.prog Q a0 w := by
  refine drawn_ph (R := Upd m) (fun h k => h.trans k) (fun h => Gr.upd h) (by kernel_rfl) (by kernel_rfl) (by kernel_rfl) 10 (by decide) (by kernel_rfl) (by kernel_rfl) [19, 20, 21, 22, 23, 24, 25, 26, 27, 28] [22, 24, 26] (by decide) (fun | 19 => .val (.pointer (some ⟨c, 0, none⟩)) | 20 => .val v | 21 => .val (.pointer (some ⟨m, 0, none⟩)) | 22 => .val (.int .i64 (Rd.rdI st).1) | 23 => .val (.pointer (some ⟨m, 0, none⟩)) | 24 => .val (.int .i64 (Rd.rdI (Rd.rdI st).2).1) | 25 => .val (.pointer (some ⟨m, 0, none⟩)) | 26 => .val (.int .u64 ((Rd.rdN (Rd.rdI (Rd.rdI st).2).2).1 : Int)) | 27 => .val (mbA (Rd.rdM st).1) | 28 => rowR m (Rd.rdM st).1 | _ => .any) (fun k x => simK.here x m (stM st k)) (by kernel_rfl) (by kernel_rfl) H.rd (fun {k x y} h g => simK.keep (M := x.heap.size) h (by obtain ⟨E, _, q, _⟩ := h; exact Holds.lt q) g) (List.forall_mem_cons.2 ⟨?s0, List.forall_mem_cons.2 ⟨?s1, List.forall_mem_cons.2 ⟨?s2, List.forall_mem_cons.2 ⟨?s3, List.forall_mem_cons.2 ⟨?s4, List.forall_mem_cons.2 ⟨?s5, List.forall_mem_cons.2 ⟨?s6, List.forall_mem_cons.2 ⟨?s7, List.forall_mem_cons.2 ⟨?s8, List.forall_mem_cons.2 ⟨?s9, fun o ho => nomatch ho⟩⟩⟩⟩⟩⟩⟩⟩⟩⟩) ?e
  case s0 => exact Or.inl ⟨sr_fa 28 (.tmp 5) 0 19 (.pointer (some ⟨c, 0, none⟩)) (.pointer (some ⟨c, 0, none⟩)) rfl rfl rfl (.old 5 _ (by decide) e5) (by intro w; kernel_rfl) rfl, fun d hd => by cases hd; rfl⟩
  case s1 => exact Or.inl ⟨sr_loadc 22 (.tmp 19) 20 c 0 v rfl rfl rfl (by intro w; kernel_rfl) (.new 19 (by kernel_rfl) (by rw [hz]; decide)) (fun y u => (H.h4.upd u H.cm).at 0 _ rfl) rfl, fun d hd => by cases hd; rfl⟩
  case s2 => exact Or.inl ⟨sr_move (.tmp 4) 21 (.val (.pointer (some ⟨m, 0, none⟩))) (.inl rfl) rfl rfl (.old 4 _ (by decide) e4) rfl, fun d hd => by cases hd; rfl⟩
  case s3 => exact Or.inr ⟨0, 22, rfl, rfl, Or.inl rfl, sc_call1 0 58 (.tmp 21) _ 22 (.pointer (some ⟨m, 0, none⟩)) (.int .i64 (Rd.rdI st).1) rfl rfl rfl (.new 21 (by kernel_rfl) (by rw [hz]; decide)) (enters_of Tryz.func58 (by kernel_rfl) rfl) (fun y hS => (Rd.rint_sim m st y hS).mono fun e z ⟨e1, e2, e3⟩ => ⟨e1, e3, e2⟩) rfl⟩
  case s4 => exact Or.inl ⟨sr_move (.tmp 4) 23 (.val (.pointer (some ⟨m, 0, none⟩))) (.inl rfl) rfl rfl (.old 4 _ (by decide) e4) rfl, fun d hd => by cases hd; rfl⟩
  case s5 => exact Or.inr ⟨1, 24, rfl, rfl, Or.inr ⟨22, rfl, by kernel_rfl⟩, sc_call1 1 58 (.tmp 23) _ 24 (.pointer (some ⟨m, 0, none⟩)) (.int .i64 (Rd.rdI (Rd.rdI st).2).1) rfl rfl rfl (.new 23 (by kernel_rfl) (by rw [hz]; decide)) (enters_of Tryz.func58 (by kernel_rfl) rfl) (fun y hS => (Rd.rint_sim m (Rd.rdI st).2 y hS).mono fun e z ⟨e1, e2, e3⟩ => ⟨e1, e3, e2⟩) rfl⟩
  case s6 => exact Or.inl ⟨sr_move (.tmp 4) 25 (.val (.pointer (some ⟨m, 0, none⟩))) (.inl rfl) rfl rfl (.old 4 _ (by decide) e4) rfl, fun d hd => by cases hd; rfl⟩
  case s7 => exact Or.inr ⟨2, 26, rfl, rfl, Or.inr ⟨24, rfl, by kernel_rfl⟩, sc_call1 2 59 (.tmp 25) _ 26 (.pointer (some ⟨m, 0, none⟩)) (.int .u64 ((Rd.rdN (Rd.rdI (Rd.rdI st).2).2).1 : Int)) rfl rfl rfl (.new 25 (by kernel_rfl) (by rw [hz]; decide)) (enters_of Tryz.func59 (by kernel_rfl) rfl) (fun y hS => (Rd.rnum_sim m (Rd.rdI (Rd.rdI st).2).2 y hS).mono fun e z ⟨e1, e2, e3⟩ => ⟨e1, e3, e2⟩) rfl⟩
  case s8 => exact Or.inl ⟨sr_bd3 53 0 1 2 (.tmp 22) (.tmp 24) (.tmp 26) 27 _ _ _ (mbA (Rd.rdM st).1) rfl rfl rfl (.new 22 (by kernel_rfl) (by rw [hz]; decide)) (.new 24 (by kernel_rfl) (by rw [hz]; decide)) (.new 26 (by kernel_rfl) (by rw [hz]; decide)) (fun y => run_mb _ _ _ y) rfl, fun d hd => by cases hd; rfl⟩
  case s9 => exact Or.inl ⟨sr_bs1 22 1 (.tmp 27) 28 (mbA (Rd.rdM st).1) rfl rfl rfl (.new 27 (by kernel_rfl) (by rw [hz]; decide)) (fun y u => mem_row (Rd.rdM st).1 (Nat.lt_of_lt_of_le H.mM H.MN) u), fun d hd => by cases hd; rfl⟩
  case e =>
  intro ac x hA hU hS hv
  have o20 : ac.eval (.tmp 20) = v := hv 20 (by kernel_rfl) (by rw [hz]; decide)
  have o28 := hv 28 (by kernel_rfl) (by rw [hz]; decide)
  have o5 : ac.eval (.tmp 5) = .pointer (some ⟨c, 0, none⟩) := (hA.old 5 (by decide)).trans e5
  show wpList Tryz.prog _ Q [_, _, _] ac x
  refine mem_tail (d1 := 29) (d2 := 30) (s1 := 20) (s2 := 28) (s4 := 5) (H.read hU hS) hl rfl rfl rfl rfl rfl rfl rfl rfl rfl (by rw [hA.size, hz]; decide) (by rw [hA.size, hz]; decide) (by decide) (by decide) o20 o28 o5 (fun v' y hM => ?_)
  exact hend _ y v' ((hA.put 29 _).put 30 _) hM
set_option maxRecDepth 100000 in
set_option maxHeartbeats 4000000 in
theorem r32_11 {Q : Exit → Act → World → Prop} {a0 : Act} {w : World} (hz : a0.tmps.size = 54) {b c m M : Nat} {w0 : World} {v : Value} {ms : List Mb} {os : List Ow} {st : Rd.St} {k : Nat} (H : Mem simK b c m M w0 w v ms os st) (hk : k < 8) (h8 : os.length = 8) (e8 : a0.eval (.tmp 8) = .int .i64 (k : Int)) (e5 : a0.eval (.tmp 5) = .pointer (some ⟨c, 0, none⟩)) (e4 : a0.eval (.tmp 4) = .pointer (some ⟨m, 0, none⟩)) (hend : ∀ ac y, After [42, 41, 40, 39, 38, 37, 36, 35] a0 ac → Mem simK b c m M w0 y v ms (os.set k (Rd.rdO st).1) (Rd.rdO st).2 → Q .normal ac y) : (Code.region 11 q32_11 false).wp Tryz.prog Q a0 w := by
  refine wp_region_list ?_
  refine wl_of rfl (op_mv (.tmp 8) _ (.inl rfl) e8 35 rfl ?_)
  refine wl_of rfl (op_mv (.tmp 4) (.pointer (some ⟨m, 0, none⟩)) (.inl rfl) (by simp [ev_put, hz, e4]) 36 rfl ?_)
  refine wl_of rfl (op_call 58 #[.tmp 36] #[84] rfl #[.pointer (some ⟨m, 0, none⟩)] (by simp [ev_put, put_size, hz]) (enters_of Tryz.func58 (by kernel_rfl) rfl) ((Rd.rint_sim m st w H.rd).mono ?_))
  rintro e y1 ⟨rfl, q1, q2⟩
  refine ⟨_, rfl, ?_⟩
  have H1 := H.read q2 q1
  show wpList Tryz.prog _ Q _ (((a0.put (some 35) _).put (some 36) _).put (some 37) _) y1
  refine wl_of rfl (op_mv (.tmp 4) (.pointer (some ⟨m, 0, none⟩)) (.inl rfl) (by simp [ev_put, put_size, hz, e4]) 38 rfl ?_)
  refine wl_of rfl (op_call 59 #[.tmp 38] #[84] rfl #[.pointer (some ⟨m, 0, none⟩)] (by simp [ev_put, put_size, hz]) (enters_of Tryz.func59 (by kernel_rfl) rfl) ((Rd.rnum_sim m (Rd.rdI st).2 y1 H1.rd).mono ?_))
  rintro e y2 ⟨rfl, q3, q4⟩
  refine ⟨_, rfl, ?_⟩
  have H2 : Mem simK b c m M w0 y2 v ms os (Rd.rdO st).2 := H1.read q4 q3
  have hz2 : (((((a0.put (some 35) (.int .i64 (k : Int))).put (some 36) (.pointer (some ⟨m, 0, none⟩))).put (some 37) (.int .i64 (Rd.rdI st).1)).put (some 38) (.pointer (some ⟨m, 0, none⟩))).put (some 39) (.int .u64 ((Rd.rdN (Rd.rdI st).2).1 : Int))).tmps.size = 54 := by simp [put_size, hz]
  have hA : After [39, 38, 37, 36, 35] a0 (((((a0.put (some 35) (.int .i64 (k : Int))).put (some 36) (.pointer (some ⟨m, 0, none⟩))).put (some 37) (.int .i64 (Rd.rdI st).1)).put (some 38) (.pointer (some ⟨m, 0, none⟩))).put (some 39) (.int .u64 ((Rd.rdN (Rd.rdI st).2).1 : Int))) := ((((After.self a0 |>.put 35 _).put 36 _).put 37 _).put 38 _).put 39 _
  have f1 : (((((a0.put (some 35) (.int .i64 (k : Int))).put (some 36) (.pointer (some ⟨m, 0, none⟩))).put (some 37) (.int .i64 (Rd.rdI st).1)).put (some 38) (.pointer (some ⟨m, 0, none⟩))).put (some 39) (.int .u64 ((Rd.rdN (Rd.rdI st).2).1 : Int))).eval (.tmp 37) = .int .i64 (Rd.rdI st).1 := by simp [ev_put, put_size, hz]
  have f2 : (((((a0.put (some 35) (.int .i64 (k : Int))).put (some 36) (.pointer (some ⟨m, 0, none⟩))).put (some 37) (.int .i64 (Rd.rdI st).1)).put (some 38) (.pointer (some ⟨m, 0, none⟩))).put (some 39) (.int .u64 ((Rd.rdN (Rd.rdI st).2).1 : Int))).eval (.tmp 39) = .int .u64 ((Rd.rdN (Rd.rdI st).2).1 : Int) := by simp [ev_put, put_size, hz]
  have f4 : (((((a0.put (some 35) (.int .i64 (k : Int))).put (some 36) (.pointer (some ⟨m, 0, none⟩))).put (some 37) (.int .i64 (Rd.rdI st).1)).put (some 38) (.pointer (some ⟨m, 0, none⟩))).put (some 39) (.int .u64 ((Rd.rdN (Rd.rdI st).2).1 : Int))).eval (.tmp 35) = .int .i64 (k : Int) := by simp [ev_put, put_size, hz]
  have f3 := hA.get e5 (by decide)
  show wpList Tryz.prog _ Q [_, _, _, _] (((((a0.put (some 35) _).put (some 36) _).put (some 37) _).put (some 38) _).put (some 39) _) y2
  generalize ((((a0.put (some 35) (.int .i64 (k : Int))).put (some 36) (.pointer (some ⟨m, 0, none⟩))).put (some 37) (.int .i64 (Rd.rdI st).1)).put (some 38) (.pointer (some ⟨m, 0, none⟩))).put (some 39) (.int .u64 ((Rd.rdN (Rd.rdI st).2).1 : Int)) = a5 at *
  refine own_tail 37 39 5 35 40 41 42 (Rd.rdI st).1 (Rd.rdN (Rd.rdI st).2).1 k H2 hk h8 ⟨rfl, rfl, rfl⟩ ⟨rfl, rfl, rfl⟩ ⟨rfl, rfl, rfl⟩ ⟨rfl, rfl, rfl⟩ (by rw [hz2]; decide) (by decide) f1 f2 f3 f4 (fun y a6 A6 M6 => ?_)
  exact hend a6 y ((hA.trans A6).mono (by decide)) M6
set_option maxRecDepth 100000 in
theorem r32_4 {Q : Exit → Act → World → Prop} {a0 : Act} {w : World} (hz : a0.tmps.size = 54)   (hend : ∀ ac wz, After [7] a0 ac → ac.eval (.tmp 7) = .int .i64 0 → Gr w wz → Q .normal ac wz) : (Code.region 4 q32_4 false).wp Tryz.prog Q a0 w := by
  refine seq_by (by kernel_rfl) 1 (by decide) [7] (fun | 7 => .val (.int .i64 0) | _ => .any) (by kernel_rfl) (List.forall_mem_cons.2 ⟨?s0, fun o ho => nomatch ho⟩) ?e
  case s0 => exact sa_move (.const _) 7 (.val (.int .i64 0)) (.inr rfl) rfl rfl (.const _) rfl
  case e =>
  intro ac wz hA hgr hv
  exact wl_end (hend ac wz hA (hv 7 (by kernel_rfl) (by rw [hz]; decide)) hgr)
set_option maxRecDepth 100000 in
theorem r32_5 {Q : Exit → Act → World → Prop} {a0 : Act} {w : World} (hz : a0.tmps.size = 54) (k n : Nat) (e7 : a0.eval (.tmp 7) = .int .i64 (k : Int)) (e6 : a0.eval (.tmp 6) = .int .i64 (n : Int)) (hend : ∀ ac wz, After [14, 15, 16] a0 ac → ac.eval (.tmp 16) = .bool (decide ((k : Int) < (n : Int))) → Gr w wz → Q .normal ac wz) : (Code.region 5 q32_5 false).wp Tryz.prog Q a0 w := by
  refine seq_by (by kernel_rfl) 3 (by decide) [14, 15, 16] (fun | 14 => .val (.int .i64 (k : Int)) | 15 => .val (.int .i64 (n : Int)) | 16 => .val (.bool (decide ((k : Int) < (n : Int)))) | _ => .any) (by kernel_rfl) (List.forall_mem_cons.2 ⟨?s0, List.forall_mem_cons.2 ⟨?s1, List.forall_mem_cons.2 ⟨?s2, fun o ho => nomatch ho⟩⟩⟩) ?e
  case s0 => exact sa_move (.tmp 7) 14 (.val (.int .i64 (k : Int))) (.inl rfl) rfl rfl (.old 7 _ (by decide) e7) rfl
  case s1 => exact sa_move (.tmp 6) 15 (.val (.int .i64 (n : Int))) (.inl rfl) rfl rfl (.old 6 _ (by decide) e6) rfl
  case s2 => exact sa_bin .lss 3 (.tmp 14) (.tmp 15) 3 16 (.int .i64 (k : Int)) (.int .i64 (n : Int)) (.bool (decide ((k : Int) < (n : Int)))) rfl rfl rfl (.new 14 (by kernel_rfl) (by rw [hz]; decide)) (.new 15 (by kernel_rfl) (by rw [hz]; decide)) guard_int (bin_lss rfl) rfl
  case e =>
  intro ac wz hA hgr hv
  exact wl_end (hend ac wz hA (hv 16 (by kernel_rfl) (by rw [hz]; decide)) hgr)
set_option maxRecDepth 100000 in
theorem r32_6 {Q : Exit → Act → World → Prop} {a0 : Act} {w : World} (hz : a0.tmps.size = 54) (k : Nat) (hk : k ≤ 900000000) (e7 : a0.eval (.tmp 7) = .int .i64 (k : Int)) (hend : ∀ ac wz, After [7, 17, 18] a0 ac → ac.eval (.tmp 7) = .int .i64 ((k + 1 : Nat) : Int) → Gr w wz → Q .normal ac wz) : (Code.region 6 q32_6 false).wp Tryz.prog Q a0 w := by
  refine seq_by (by kernel_rfl) 2 (by decide) [17, 18] (fun | 17 => .val (.int .i64 (k : Int)) | 18 => .val (.int .i64 ((k + 1 : Nat) : Int)) | _ => .any) (by kernel_rfl) (List.forall_mem_cons.2 ⟨?s0, List.forall_mem_cons.2 ⟨?s1, fun o ho => nomatch ho⟩⟩) ?e
  case s0 => exact sa_move (.tmp 7) 17 (.val (.int .i64 (k : Int))) (.inl rfl) rfl rfl (.old 7 _ (by decide) e7) rfl
  case s1 => exact sa_bin .add 3 (.tmp 17) (.const _) 3 18 (.int .i64 (k : Int)) (.int .i64 1) (.int .i64 ((k + 1 : Nat) : Int)) rfl rfl rfl (.new 17 (by kernel_rfl) (by rw [hz]; decide)) (.const _) guard_int (bin_add (by omega) (by omega) (by omega)) rfl
  case e =>
  intro ac wz hA hgr hv
  have o18 : ac.eval (.tmp 18) = .int .i64 ((k + 1 : Nat) : Int) := hv 18 (by kernel_rfl) (by rw [hz]; decide)
  refine wl_of rfl (op_move (.tmp 18) (.inr rfl) (wl_end ?_))
  exact hend _ wz (hA.put 7 _)  ((ev_put (by rw [hA.size, hz]; decide)).trans ((if_pos rfl).trans o18)) hgr
set_option maxRecDepth 100000 in
theorem r32_8 {Q : Exit → Act → World → Prop} {a0 : Act} {w : World} (hz : a0.tmps.size = 54)   (hend : ∀ ac wz, After [8] a0 ac → ac.eval (.tmp 8) = .int .i64 0 → Gr w wz → Q .normal ac wz) : (Code.region 8 q32_8 false).wp Tryz.prog Q a0 w := by
  refine seq_by (by kernel_rfl) 1 (by decide) [8] (fun | 8 => .val (.int .i64 0) | _ => .any) (by kernel_rfl) (List.forall_mem_cons.2 ⟨?s0, fun o ho => nomatch ho⟩) ?e
  case s0 => exact sa_move (.const _) 8 (.val (.int .i64 0)) (.inr rfl) rfl rfl (.const _) rfl
  case e =>
  intro ac wz hA hgr hv
  exact wl_end (hend ac wz hA (hv 8 (by kernel_rfl) (by rw [hz]; decide)) hgr)
set_option maxRecDepth 100000 in
theorem r32_9 {Q : Exit → Act → World → Prop} {a0 : Act} {w : World} (hz : a0.tmps.size = 54) (k : Nat) (e8 : a0.eval (.tmp 8) = .int .i64 (k : Int)) (hend : ∀ ac wz, After [31, 32] a0 ac → ac.eval (.tmp 32) = .bool (decide ((k : Int) < 8)) → Gr w wz → Q .normal ac wz) : (Code.region 9 q32_9 false).wp Tryz.prog Q a0 w := by
  refine seq_by (by kernel_rfl) 2 (by decide) [31, 32] (fun | 31 => .val (.int .i64 (k : Int)) | 32 => .val (.bool (decide ((k : Int) < 8))) | _ => .any) (by kernel_rfl) (List.forall_mem_cons.2 ⟨?s0, List.forall_mem_cons.2 ⟨?s1, fun o ho => nomatch ho⟩⟩) ?e
  case s0 => exact sa_move (.tmp 8) 31 (.val (.int .i64 (k : Int))) (.inl rfl) rfl rfl (.old 8 _ (by decide) e8) rfl
  case s1 => exact sa_bin .lss 3 (.tmp 31) (.const _) 3 32 (.int .i64 (k : Int)) (.int .i64 8) (.bool (decide ((k : Int) < 8))) rfl rfl rfl (.new 31 (by kernel_rfl) (by rw [hz]; decide)) (.const _) guard_int (bin_lss rfl) rfl
  case e =>
  intro ac wz hA hgr hv
  exact wl_end (hend ac wz hA (hv 32 (by kernel_rfl) (by rw [hz]; decide)) hgr)
set_option maxRecDepth 100000 in
theorem r32_10 {Q : Exit → Act → World → Prop} {a0 : Act} {w : World} (hz : a0.tmps.size = 54) (k : Nat) (hk : k ≤ 900000000) (e8 : a0.eval (.tmp 8) = .int .i64 (k : Int)) (hend : ∀ ac wz, After [8, 33, 34] a0 ac → ac.eval (.tmp 8) = .int .i64 ((k + 1 : Nat) : Int) → Gr w wz → Q .normal ac wz) : (Code.region 10 q32_10 false).wp Tryz.prog Q a0 w := by
  refine seq_by (by kernel_rfl) 2 (by decide) [33, 34] (fun | 33 => .val (.int .i64 (k : Int)) | 34 => .val (.int .i64 ((k + 1 : Nat) : Int)) | _ => .any) (by kernel_rfl) (List.forall_mem_cons.2 ⟨?s0, List.forall_mem_cons.2 ⟨?s1, fun o ho => nomatch ho⟩⟩) ?e
  case s0 => exact sa_move (.tmp 8) 33 (.val (.int .i64 (k : Int))) (.inl rfl) rfl rfl (.old 8 _ (by decide) e8) rfl
  case s1 => exact sa_bin .add 3 (.tmp 33) (.const _) 3 34 (.int .i64 (k : Int)) (.int .i64 1) (.int .i64 ((k + 1 : Nat) : Int)) rfl rfl rfl (.new 33 (by kernel_rfl) (by rw [hz]; decide)) (.const _) guard_int (bin_add (by omega) (by omega) (by omega)) rfl
  case e =>
  intro ac wz hA hgr hv
  have o34 : ac.eval (.tmp 34) = .int .i64 ((k + 1 : Nat) : Int) := hv 34 (by kernel_rfl) (by rw [hz]; decide)
  refine wl_of rfl (op_move (.tmp 34) (.inr rfl) (wl_end ?_))
  exact hend _ wz (hA.put 8 _)  ((ev_put (by rw [hA.size, hz]; decide)).trans ((if_pos rfl).trans o34)) hgr
set_option maxRecDepth 100000 in
theorem r32_12f {Q : Exit → Act → World → Prop} {a0 : Act} {w : World} (hz : a0.tmps.size = 54) (m c : Nat) (D : Int) (v : Value) (r : Rg) (s S : ByteArray) (hD0 : D = 0) (hrl : (ringC v r).length = 17) (hc : Holds w c (ringC v r) 28) (hDn : ∀ y, Gr w y → Calls Tryz.prog 60 #[.pointer (some ⟨m, 0, none⟩)] y fun e z => e = .returned (.int .i64 D) ∧ Gr y z) (hBy : ∀ y, Gr w y → Calls Tryz.prog 30 #[.agg (ringC v r).toArray] y fun e z => e = .returned (.string S) ∧ Gr y z) (e4 : a0.eval (.tmp 4) = .pointer (some ⟨m, 0, none⟩)) (e5 : a0.eval (.tmp 5) = .pointer (some ⟨c, 0, none⟩)) (e0 : a0.eval (.tmp 0) = .string s) (hend : ∀ ac wz, After [43, 44, 45, 46, 47, 48, 49, 50, 51] a0 ac → ac.eval (.tmp 51) = .bool (!(S.toList == s.toList)) → Gr w wz → Q .normal ac wz) : (Code.region 12 q32_12 false).wp Tryz.prog Q a0 w := by
  refine seq_by (by kernel_rfl) 9 (by decide) [43, 44, 45, 46, 47, 48, 49, 50, 51] (fun | 43 => .val (.pointer (some ⟨m, 0, none⟩)) | 44 => .val (.int .i64 D) | 45 => .val (.bool false) | 46 => .val (.bool false) | 47 => .val (.agg (ringC v r).toArray) | 48 => .val (.string S) | 49 => .val (.string s) | 50 => .val (.bool (!(S.toList == s.toList))) | 51 => .val (.bool (!(S.toList == s.toList))) | _ => .any) (by kernel_rfl) (List.forall_mem_cons.2 ⟨?s0, List.forall_mem_cons.2 ⟨?s1, List.forall_mem_cons.2 ⟨?s2, List.forall_mem_cons.2 ⟨?s3, List.forall_mem_cons.2 ⟨?s4, List.forall_mem_cons.2 ⟨?s5, List.forall_mem_cons.2 ⟨?s6, List.forall_mem_cons.2 ⟨?s7, List.forall_mem_cons.2 ⟨?s8, fun o ho => nomatch ho⟩⟩⟩⟩⟩⟩⟩⟩⟩) ?e
  case s0 => exact sa_move (.tmp 4) 43 (.val (.pointer (some ⟨m, 0, none⟩))) (.inl rfl) rfl rfl (.old 4 _ (by decide) e4) rfl
  case s1 => exact sa_call1 60 (.tmp 43) _ 44 (.val (.pointer (some ⟨m, 0, none⟩))) rfl rfl rfl (.new 43 (by kernel_rfl) (by rw [hz]; decide)) (enters_of Tryz.func60 (by kernel_rfl) rfl) (fun v0 y hgy q0 => by rw [show v0 = _ from q0]; exact (hDn y hgy).mono fun e z ⟨e1, e2⟩ => ⟨_, e1, e2, rfl⟩)
  case s2 => exact sa_bin .neq 48 (.tmp 44) (.const _) 48 45 (.int .i64 D) (.int .i64 0) (.bool false) rfl rfl rfl (.new 44 (by kernel_rfl) (by rw [hz]; decide)) (.const _) guard_int (bin_neq (decide_eq_false (by omega))) rfl
  case s3 => exact sa_move (.tmp 45) 46 (.val (.bool false)) (.inl rfl) rfl rfl (.new 45 (by kernel_rfl) (by rw [hz]; decide)) rfl
  case s4 => exact sa_guardF 3 46 rfl rfl (by kernel_rfl) (by rw [hz]; decide) rfl (sa_row 28 (.tmp 5) 47 c (0) 17 _ (ringC v r) rfl rfl rfl Tryz.underlying28 rfl siz28 hrl (.old 5 _ (by decide) e5) (fun y hy => range_of (hc.below hy hc.lt)) rfl)
  case s5 => exact sa_guardF 3 46 rfl rfl (by kernel_rfl) (by rw [hz]; decide) rfl (sa_call1 30 (.tmp 47) _ 48 (.val (.agg (ringC v r).toArray)) rfl rfl rfl (.new 47 (by kernel_rfl) (by rw [hz]; decide)) (enters_of Tryz.func30 (by kernel_rfl) rfl) (fun v0 y hgy q0 => by rw [show v0 = _ from q0]; exact (hBy y hgy).mono fun e z ⟨e1, e2⟩ => ⟨_, e1, e2, rfl⟩))
  case s6 => exact sa_guardF 3 46 rfl rfl (by kernel_rfl) (by rw [hz]; decide) rfl (sa_move (.tmp 0) 49 (.val (.string s)) (.inl rfl) rfl rfl (.old 0 _ (by decide) e0) rfl)
  case s7 => exact sa_guardF 3 46 rfl rfl (by kernel_rfl) (by rw [hz]; decide) rfl (sa_bin .neq 9 (.tmp 48) (.tmp 49) 9 50 (.string S) (.string s) (.bool (!(S.toList == s.toList))) rfl rfl rfl (.new 48 (by kernel_rfl) (by rw [hz]; decide)) (.new 49 (by kernel_rfl) (by rw [hz]; decide)) (fun w => guard9 _ _ _ _ w) (fun w => neq9 _ _ w) rfl)
  case s8 => exact sa_pickF (.tmp 46) (.const _) (.tmp 50) 51 (.val (.bool (!(S.toList == s.toList)))) rfl rfl rfl (.new 46 (by kernel_rfl) (by rw [hz]; decide)) (.new 50 (by kernel_rfl) (by rw [hz]; decide)) rfl
  case e =>
  intro ac wz hA hgr hv
  exact wl_end (hend ac wz hA (hv 51 (by kernel_rfl) (by rw [hz]; decide)) hgr)
set_option maxRecDepth 100000 in
theorem r32_12t {Q : Exit → Act → World → Prop} {a0 : Act} {w : World} (hz : a0.tmps.size = 54) (m : Nat) (D : Int) (hD0 : ¬ D = 0) (hDn : ∀ y, Gr w y → Calls Tryz.prog 60 #[.pointer (some ⟨m, 0, none⟩)] y fun e z => e = .returned (.int .i64 D) ∧ Gr y z) (e4 : a0.eval (.tmp 4) = .pointer (some ⟨m, 0, none⟩)) (hend : ∀ ac wz, After [43, 44, 45, 46, 47, 48, 49, 50, 51] a0 ac → ac.eval (.tmp 51) = .bool true → Gr w wz → Q .normal ac wz) : (Code.region 12 q32_12 false).wp Tryz.prog Q a0 w := by
  refine seq_by (by kernel_rfl) 9 (by decide) [43, 44, 45, 46, 47, 48, 49, 50, 51] (fun | 43 => .val (.pointer (some ⟨m, 0, none⟩)) | 44 => .val (.int .i64 D) | 45 => .val (.bool true) | 46 => .val (.bool true) | 51 => .val (.bool true) | _ => .any) (by kernel_rfl) (List.forall_mem_cons.2 ⟨?s0, List.forall_mem_cons.2 ⟨?s1, List.forall_mem_cons.2 ⟨?s2, List.forall_mem_cons.2 ⟨?s3, List.forall_mem_cons.2 ⟨?s4, List.forall_mem_cons.2 ⟨?s5, List.forall_mem_cons.2 ⟨?s6, List.forall_mem_cons.2 ⟨?s7, List.forall_mem_cons.2 ⟨?s8, fun o ho => nomatch ho⟩⟩⟩⟩⟩⟩⟩⟩⟩) ?e
  case s0 => exact sa_move (.tmp 4) 43 (.val (.pointer (some ⟨m, 0, none⟩))) (.inl rfl) rfl rfl (.old 4 _ (by decide) e4) rfl
  case s1 => exact sa_call1 60 (.tmp 43) _ 44 (.val (.pointer (some ⟨m, 0, none⟩))) rfl rfl rfl (.new 43 (by kernel_rfl) (by rw [hz]; decide)) (enters_of Tryz.func60 (by kernel_rfl) rfl) (fun v0 y hgy q0 => by rw [show v0 = _ from q0]; exact (hDn y hgy).mono fun e z ⟨e1, e2⟩ => ⟨_, e1, e2, rfl⟩)
  case s2 => exact sa_bin .neq 48 (.tmp 44) (.const _) 48 45 (.int .i64 D) (.int .i64 0) (.bool true) rfl rfl rfl (.new 44 (by kernel_rfl) (by rw [hz]; decide)) (.const _) guard_int (bin_neq (decide_eq_true (by omega))) rfl
  case s3 => exact sa_move (.tmp 45) 46 (.val (.bool true)) (.inl rfl) rfl rfl (.new 45 (by kernel_rfl) (by rw [hz]; decide)) rfl
  case s4 => exact so_guardF 3 46 rfl rfl (by kernel_rfl) (by rw [hz]; decide) rfl (fun d hd => by cases hd; rfl)
  case s5 => exact so_guardF 3 46 rfl rfl (by kernel_rfl) (by rw [hz]; decide) rfl (fun d hd => by cases hd; rfl)
  case s6 => exact so_guardF 3 46 rfl rfl (by kernel_rfl) (by rw [hz]; decide) rfl (fun d hd => by cases hd; rfl)
  case s7 => exact so_guardF 3 46 rfl rfl (by kernel_rfl) (by rw [hz]; decide) rfl (fun d hd => by cases hd; rfl)
  case s8 => exact sa_pick (.tmp 46) (.const _) (.tmp 50) 51 (.val (.bool true)) rfl rfl rfl (.new 46 (by kernel_rfl) (by rw [hz]; decide)) (.const _) rfl
  case e =>
  intro ac wz hA hgr hv
  exact wl_end (hend ac wz hA (hv 51 (by kernel_rfl) (by rw [hz]; decide)) hgr)

def c32_a : Code := (((Code.region 5 q32_5 false).seq (Code.cond (Operand.tmp 16) Code.skip (Code.exit 0))).seq ((Code.block 1 (Code.region 7 q32_7 true)).seq (Code.region 6 q32_6 false)))
def c32_l : Code := (Code.block 0 (c32_a.loop))
def c32_b : Code := (((Code.region 9 q32_9 false).seq (Code.cond (Operand.tmp 32) Code.skip (Code.exit 2))).seq ((Code.block 3 (Code.region 11 q32_11 false)).seq (Code.region 10 q32_10 false)))
def c32_m : Code := (Code.block 2 (c32_b.loop))
def c32_f : Code := (((Code.region 12 q32_12 false).seq (Code.cond (Operand.tmp 51) ((Code.region 13 q32_13 false).seq Code.ret) Code.skip)).seq ((Code.region 14 q32_14 false).seq Code.ret))
def c32 : Code := ((Code.region 0 q32_0 false).seq ((Code.region 1 q32_1 false).seq ((Code.region 2 q32_2 false).seq ((Code.region 3 q32_3 false).seq (((Code.region 4 q32_4 false).seq c32_l).seq (((Code.region 8 q32_8 false).seq c32_m).seq c32_f))))))
set_option maxRecDepth 100000 in
theorem r32_0 {Q : Exit → Act → World → Prop} {a0 : Act} {w : World} (hz : a0.tmps.size = 54) (b : Nat) (hb : w.heap.size = b) (hend : ∀ ac wz, After [3, 2] a0 ac → ac.eval (.tmp 2) = .pointer (some ⟨b, 0, none⟩) → Anew b w wz (ringC (.slice none 0 0) ([], noOs)) 28 → Q .normal ac wz) : (Code.region 0 q32_0 false).wp Tryz.prog Q a0 w := by
  refine wp_region_list ?_
  refine wpList_alloc_new 2 rfl rfl 28 rfl b hb _ zero28 ?_
  intro w1 h1
  refine wl_of rfl (op_mv (.const (.int .i64 0)) (.int .i64 0) (.inr rfl) rfl 3 rfl (wl_end (hend _ w1 (((After.self a0).put 2 _).put 3 _) ?_ h1)))
  simp [ev_put, put_size, hz]
set_option maxRecDepth 100000 in
theorem r32_2 {Q : Exit → Act → World → Prop} {a0 : Act} {w : World} (hz : a0.tmps.size = 54) (b : Nat) (hb : w.heap.size = b) (hend : ∀ ac wz, After [5] a0 ac → ac.eval (.tmp 5) = .pointer (some ⟨b, 0, none⟩) → Anew b w wz (ringC (.slice none 0 0) ([], noOs)) 28 → Q .normal ac wz) : (Code.region 2 q32_2 false).wp Tryz.prog Q a0 w := by
  refine wp_region_list ?_
  refine wpList_alloc_new 5 rfl rfl 28 rfl b hb _ zero28 ?_
  intro w1 h1
  refine wl_end (hend _ w1 ((After.self a0).put 5 _) ?_ h1)
  simp [ev_put, hz]
theorem siz86 : (Tryz.prog.info? 86).map (·.size) = some 2 := by kernel_rfl
theorem bd86 (s : ByteArray) (w : World) : (Instr.build 86 #[(0, .string s)]).run Tryz.prog w = .ok (.agg #[.string s, .int .i64 0]) w := by kernel_rfl
theorem op_bd1 {P : Program} {Q : Exit → Act → World → Prop} {o : Oper} {a : Act} {w : World} {K : Act → World → Prop} (t i : Nat) (u : Operand) (s q : Value) (ho : o.op = .build t #[(i, u)]) (e1 : a.eval u = s) (hr : ∀ y, (Instr.build t #[(i, s)]).run P y = .ok q y) (h : K (a.put o.dst q) w) : o.wp P a w K Q := by
  refine op_val q (y := w) ?_ h
  unfold execOp
  simp only [ho, List.map_toArray, List.map_cons, List.map_nil, e1, Sem.run_bind, hr, Sem.run_pure, Result.andThen_ok]
set_option maxRecDepth 100000 in
theorem r32_1 {Q : Exit → Act → World → Prop} {a0 : Act} {w : World} (hz : a0.tmps.size = 54) (m : Nat) (hm : w.heap.size = m) (s : ByteArray) (e0 : a0.eval (.tmp 0) = .string s) (hend : ∀ ac y, After [4, 11, 10, 9] a0 ac → ac.eval (.tmp 4) = .pointer (some ⟨m, 0, none⟩) → Anew m w y [.string s, .int .i64 0] 86 → Q .normal ac y) : (Code.region 1 q32_1 false).wp Tryz.prog Q a0 w := by
  refine wp_region_list ?_
  refine wl_of rfl (op_mv (.tmp 0) (.string s) (.inl rfl) e0 9 rfl ?_)
  refine wl_of rfl (op_bd1 86 0 (.tmp 9) (.string s) _ rfl (by simp [ev_put, hz]) (fun y => bd86 s y) ?_)
  show wpList Tryz.prog _ Q _ ((a0.put (some 9) _).put (some 10) _) w
  refine wpList_box_new 11 rfl rfl 86 (.tmp 10) rfl m hm [.string s, .int .i64 0] (by simp [ev_put, put_size, hz]) ?_
  intro y h
  refine wl_of rfl (op_mv (.tmp 11) (.pointer (some ⟨m, 0, none⟩)) (.inr rfl) (by simp [ev_put, put_size, hz]) 4 rfl (wl_end (hend _ y (((((After.self a0).put 9 _).put 10 _).put 11 _).put 4 _) ?_ h)))
  simp [ev_put, put_size, hz]
set_option maxRecDepth 100000 in
theorem r32_3 {Q : Exit → Act → World → Prop} {a0 : Act} {w : World} (hz : a0.tmps.size = 54) (m : Nat) (s : ByteArray) (hs : s.size < 9223372036854775808) (hr : Rd.Rq w m s 0) (e4 : a0.eval (.tmp 4) = .pointer (some ⟨m, 0, none⟩)) (hend : ∀ ac y, After [6, 13, 12] a0 ac → ac.eval (.tmp 6) = .int .i64 (Pk.mnV s 3 : Int) → Rd.Sim y m (Rd.rdMany s) → Upd m w y → Q .normal ac y) : (Code.region 3 q32_3 false).wp Tryz.prog Q a0 w := by
  refine wp_region_list ?_
  refine wl_of rfl (op_mv (.tmp 4) (.pointer (some ⟨m, 0, none⟩)) (.inl rfl) e4 12 rfl ?_)
  refine wl_of rfl (op_call 57 #[.tmp 12, .const (.int .i64 3)] #[84, 3] rfl #[.pointer (some ⟨m, 0, none⟩), .int .i64 3] (by simp [ev_put, hz, ev_const]) (enters_of Tryz.func57 (by kernel_rfl) rfl) ((Rd.rmany_three m s hs w hr).mono ?_))
  rintro e y ⟨rfl, q1, q2⟩
  refine ⟨_, rfl, ?_⟩
  show wpList Tryz.prog _ Q _ ((a0.put (some 12) _).put (some 13) _) y
  refine wl_of rfl (op_mv (.tmp 13) (.int .i64 (Pk.mnV s 3 : Int)) (.inr rfl) (by simp [ev_put, put_size, hz]) 6 rfl (wl_end (hend _ y ((((After.self a0).put 12 _).put 13 _).put 6 _) ?_ q1 q2)))
  simp [ev_put, put_size, hz]
def doneQ (s : ByteArray) (E : Int) : Int := if E = 0 then (if s.size = 0 then 0 else 11) else E
set_option maxRecDepth 100000 in
set_option maxHeartbeats 1000000 in
theorem rdone_rq (b : Nat) (s : ByteArray) (E : Int) (w : World) (hq : Rd.Rq w b s E) : Calls Tryz.prog 60 #[.pointer (some ⟨b, 0, none⟩)] w fun e z => e = .returned (.int .i64 (doneQ s E)) ∧ Gr w z := by
  have c0 : w.cell? ⟨b, 0, none⟩ = some (.string s) := hq.at 0 _ rfl
  have c1 : w.cell? ⟨b, 1, none⟩ = some (.int .i64 E) := hq.at 1 _ rfl
  unfold doneQ
  by_cases h : E = 0
  · subst h
    rw [if_pos rfl]
    by_cases h2 : s.size = 0
    · have h3 := Pk.emp_true h2
      rw [if_pos h2]
      clear hq
      go_enter Tryz.func60, Tryz.ntmps60
      go_wp2
      go_ret
      exact ⟨rfl, Gr.refl _⟩
    · have h3 := Pk.emp_false h2
      rw [if_neg h2]
      clear hq
      go_enter Tryz.func60, Tryz.ntmps60
      go_wp2
      go_ret
      exact ⟨rfl, Gr.refl _⟩
  · have hEb : (E == 0) = false := beq_eq_false_iff_ne.2 h
    rw [if_neg h]
    clear hq
    go_enter Tryz.func60, Tryz.ntmps60
    go_wp2
    go_ret
    exact ⟨rfl, Gr.refl _⟩
theorem strL_eq' (l : List UInt8) (s : ByteArray) : ((strL l).toList == s.toList) = decide (l = s.data.toList) := strL_eq l s
set_option maxRecDepth 100000 in
theorem r32_13 {Q : Exit → Act → World → Prop} {a0 : Act} {w : World} (hz : a0.tmps.size = 54) (b : Nat) (old : List Value) (hb : Holds w b old 28) (hol : old.length = 17) (e2 : a0.eval (.tmp 2) = .pointer (some ⟨b, 0, none⟩)) (hend : ∀ ac y, After [3, 52] a0 ac → ac.eval (.tmp 3) = .int .i64 11 → Turned b w y (ringC (.slice none 0 0) ([], noOs)) 28 → Q .normal ac y) : (Code.region 13 q32_13 false).wp Tryz.prog Q a0 w := by
  refine wp_region_list ?_
  refine wl_of rfl (op_bd0' 28 _ rfl (fun w => bd28 w) ?_)
  show wpList Tryz.prog _ Q _ (a0.put (some 52) _) w
  refine wpList_store_all rfl 28 (.tmp 2) (.tmp 52) rfl b (by simp [ev_put, hz, e2]) _ (by simp [ev_put, hz]) 28 old hb (siz28.trans (by rw [noC_len])) (by rw [hol, noC_len]) noC_one' ?_
  intro y h
  show wpList Tryz.prog _ Q _ (a0.put (some 52) _) y
  refine wl_of rfl (op_mv (.const (.int .i64 11)) (.int .i64 11) (.inr rfl) rfl 3 rfl (wl_end (hend _ y (((After.self a0).put 52 _).put 3 _) ?_ h)))
  simp [ev_put, put_size, hz]
set_option maxRecDepth 100000 in
theorem r32_14 {Q : Exit → Act → World → Prop} {a0 : Act} {w : World} (hz : a0.tmps.size = 54) (b c : Nat) (v : Value) (r : Rg) (old : List Value) (hR : RingAt w.heap.size w v r) (hc : Holds w c (ringC v r) 28) (hb : Holds w b old 28) (hol : old.length = 17) (e2 : a0.eval (.tmp 2) = .pointer (some ⟨b, 0, none⟩)) (e5 : a0.eval (.tmp 5) = .pointer (some ⟨c, 0, none⟩)) (hend : ∀ ac y, After [3, 53] a0 ac → ac.eval (.tmp 3) = .int .i64 0 → Turned b w y (ringC v r) 28 → Q .normal ac y) : (Code.region 14 q32_14 false).wp Tryz.prog Q a0 w := by
  refine wp_region_list ?_
  refine wl_of rfl (op_row 28 (.tmp 5) 17 _ (ringC v r) rfl c 0 e5 Tryz.underlying28 rfl siz28 (ringC_len hR) (range_of hc) ?_)
  show wpList Tryz.prog _ Q _ (a0.put (some 53) _) w
  refine wpList_store_all rfl 28 (.tmp 2) (.tmp 53) rfl b (by simp [ev_put, hz, e2]) (ringC v r) (by simp [ev_put, hz]) 28 old hb (siz28.trans (by rw [ringC_len hR])) (by rw [hol, ringC_len hR]) (ringC_one hR) ?_
  intro y h
  show wpList Tryz.prog _ Q _ (a0.put (some 53) _) y
  refine wl_of rfl (op_mv (.const (.int .i64 0)) (.int .i64 0) (.inr rfl) rfl 3 rfl (wl_end (hend _ y (((After.self a0).put 53 _).put 3 _) ?_ h)))
  simp [ev_put, put_size, hz]
/-- The slots and the memory while a ring is read. -/
structure Lr (b c m M : Nat) (w : World) (s : ByteArray) (ac : Act) (x : World) (v : Value) (ms : List Mb) (os : List Ow) (st : Rd.St) : Prop where
  z : ac.tmps.size = 54
  df : ac.defers = []
  e0 : ac.eval (.tmp 0) = .string s
  e2 : ac.eval (.tmp 2) = .pointer (some ⟨b, 0, none⟩)
  e4 : ac.eval (.tmp 4) = .pointer (some ⟨m, 0, none⟩)
  e5 : ac.eval (.tmp 5) = .pointer (some ⟨c, 0, none⟩)
  mem : Mem simK b c m M w x v ms os st
theorem Lr.to {b c m M : Nat} {w x y : World} {s : ByteArray} {ac ad : Act} {D : List Nat} {v v' : Value} {ms ms' : List Mb} {os os' : List Ow} {st st' : Rd.St} (h : Lr b c m M w s ac x v ms os st) (hA : After D ac ad) (hD : (D.all fun s => decide (6 ≤ s)) = true) (hm : Mem simK b c m M w y v' ms' os' st') : Lr b c m M w s ad y v' ms' os' st' :=
  ⟨hA.size.trans h.z, hA.defers.trans h.df, hA.keep hD (by omega) h.e0, hA.keep hD (by omega) h.e2, hA.keep hD (by omega) h.e4, hA.keep hD (by omega) h.e5, hm⟩
theorem Lr.gr {b c m M : Nat} {w x y : World} {s : ByteArray} {ac ad : Act} {D : List Nat} {v : Value} {ms : List Mb} {os : List Ow} {st : Rd.St} (h : Lr b c m M w s ac x v ms os st) (hA : After D ac ad) (hD : (D.all fun s => decide (6 ≤ s)) = true) (g : Gr x y) : Lr b c m M w s ad y v ms os st := h.to hA hD (h.mem.gr g)
theorem read32_l {Q : Exit → Act → World → Prop} {b c m M n : Nat} {w x : World} {s : ByteArray} {ac : Act} {v : Value} {os : List Ow} {st : Rd.St} (hn : n ≤ 900000000) (h : Lr b c m M w s ac x v [] os st) (e6 : ac.eval (.tmp 6) = .int .i64 (n : Int)) (e7 : ac.eval (.tmp 7) = .int .i64 ((0 : Nat) : Int))
    (hend : ∀ ad y v', Lr b c m M w s ad y v' (Rd.rdMs n st).1 os (Rd.rdMs n st).2 → Q .normal ad y) : c32_l.wp Tryz.prog Q ac x := by
  unfold c32_l
  refine wp_block ?_
  refine wp_loop (fun ad y => ∃ (k : Nat) (v' : Value), Lr b c m M w s ad y v' (Rd.rdMs k st).1 os (Rd.rdMs k st).2 ∧ k ≤ n ∧ ad.eval (.tmp 6) = .int .i64 (n : Int) ∧ ad.eval (.tmp 7) = .int .i64 (k : Int)) (fun ad _ => n - (intOf (ad.eval (.tmp 7))).toNat)
    ⟨0, v, h, Nat.zero_le _, e6, e7⟩ (fun a0 x0 ⟨k, v', h0, hk, f6, f7⟩ => ?_)
  unfold c32_a
  refine wp_seq (wp_seq (r32_5 h0.z k n f7 f6 (fun a2 x2 A2 o2 G2 => ?_)))
  have h2 := h0.gr A2 (by decide) G2
  have g6 := A2.get f6 (by decide)
  have g7 := A2.get f7 (by decide)
  show Code.wp Tryz.prog (Code.cond _ _ _) _ a2 x2
  refine wp_cond_split o2 (fun q => ?_) (fun q => ?_)
  · have q : (k : Int) < n := of_decide_eq_true q
    refine wp_skip ?_
    show Code.wp Tryz.prog (Code.seq _ _) _ a2 x2
    refine wp_seq (wp_block ?_)
    refine r32_7 h2.z h2.mem (by rw [Rd.rdMs_len]; omega) h2.e5 h2.e4 (fun a3 x3 v3 A3 M3 => ?_)
    have h3 := h2.to A3 (by decide) M3
    have i7 := A3.get g7 (by decide)
    have i6 := A3.get g6 (by decide)
    show Code.wp Tryz.prog (Code.region 6 q32_6 false) _ a3 x3
    refine r32_6 h3.z k (by omega) i7 (fun a4 x4 A4 o4 G4 => ?_)
    refine ⟨⟨k + 1, v3, h3.gr A4 (by decide) G4, by omega, A4.get i6 (by decide), o4⟩, ?_⟩
    rw [o4, f7]
    simp only [intOf]
    omega
  · have q : ¬ (k : Int) < n := of_decide_eq_false q
    obtain rfl : k = n := by omega
    exact wp_exit (hend a2 x2 v' h2)
theorem read32_m {Q : Exit → Act → World → Prop} {b c m M : Nat} {w x : World} {s : ByteArray} {ac : Act} {v : Value} {ms : List Mb} {st : Rd.St} (h : Lr b c m M w s ac x v ms noOs st) (e8 : ac.eval (.tmp 8) = .int .i64 ((0 : Nat) : Int))
    (hend : ∀ ad y, Lr b c m M w s ad y v ms (Rd.rdOs 8 st).1 (Rd.rdOs 8 st).2 → Q .normal ad y) : c32_m.wp Tryz.prog Q ac x := by
  unfold c32_m
  refine wp_block ?_
  refine wp_loop (fun ad y => ∃ (k : Nat), Lr b c m M w s ad y v ms (osK (Rd.rdOs k st).1 k) (Rd.rdOs k st).2 ∧ k ≤ 8 ∧ ad.eval (.tmp 8) = .int .i64 (k : Int)) (fun ad _ => 8 - (intOf (ad.eval (.tmp 8))).toNat)
    ⟨0, h, by omega, e8⟩ (fun a0 x0 ⟨k, h0, hk, f8⟩ => ?_)
  unfold c32_b
  refine wp_seq (wp_seq (r32_9 h0.z k f8 (fun a2 x2 A2 o2 G2 => ?_)))
  have h2 := h0.gr A2 (by decide) G2
  have g8 := A2.get f8 (by decide)
  show Code.wp Tryz.prog (Code.cond _ _ _) _ a2 x2
  refine wp_cond_split o2 (fun q => ?_) (fun q => ?_)
  · have q : (k : Int) < 8 := of_decide_eq_true q
    have hk8 : k < 8 := by omega
    refine wp_skip ?_
    show Code.wp Tryz.prog (Code.seq _ _) _ a2 x2
    refine wp_seq (wp_block ?_)
    refine r32_11 h2.z h2.mem hk8 (osK_len (Rd.rdOs_len k st) hk) g8 h2.e5 h2.e4 (fun a4 x4 A4 M4 => ?_)
    rw [osK_set (Rd.rdOs_len k st) hk8] at M4
    have h4 := h2.to A4 (by decide) M4
    have j8 := A4.get g8 (by decide)
    show Code.wp Tryz.prog (Code.region 10 q32_10 false) _ a4 x4
    refine r32_10 h4.z k (by omega) j8 (fun a5 x5 A5 o5 G5 => ?_)
    refine ⟨⟨k + 1, h4.gr A5 (by decide) G5, by omega, o5⟩, ?_⟩
    rw [o5, f8]
    simp only [intOf]
    omega
  · have q : ¬ (k : Int) < 8 := of_decide_eq_false q
    obtain rfl : k = 8 := by omega
    rw [osK_all] at h2
    exact wp_exit (hend a2 x2 h2)
/-- What the document's Read tells. -/
def readQ (s : ByteArray) : Rg × Int := if (Rd.rdB s).2.2 = 0 ∧ (Rd.rdB s).2.1.size = 0 ∧ bytesR (normL (Rd.readR s)) = s.data.toList then (Rd.readR s, 0) else (([], noOs), 11)
set_option maxHeartbeats 1000000 in
theorem read32_any (s : ByteArray) (hs : s.size ≤ 1000000000) (w : World) : Calls Tryz.prog 32 #[.string s] w (RetR w (readQ s).1 (readQ s).2) := by
  obtain ⟨b, hwb⟩ : ∃ b, w.heap.size = b := ⟨_, rfl⟩
  have hmn := Rd.mnV_le s
  refine calls_by (c := c32) Tryz.func32 (by kernel_rfl) 54 (by rw [Tryz.ntmps32]; rfl) (fun ac z df hv => ?_)
  have e0 := hv 0 _ rfl
  clear hv
  unfold c32
  refine wp_seq (r32_0 z b hwb (fun a1 x1 A1 o2 N1 => ?_))
  have z1 := A1.size.trans z
  have s1 : x1.heap.size = b + 1 := N1.size
  show Code.wp Tryz.prog (Code.seq _ _) _ a1 x1
  refine wp_seq (r32_1 z1 (b + 1) s1 s (A1.get e0 (by decide)) (fun a2 x2 A2 o4 N2 => ?_))
  have z2 := A2.size.trans z1
  have s2 : x2.heap.size = b + 2 := N2.size
  show Code.wp Tryz.prog (Code.seq _ _) _ a2 x2
  refine wp_seq (r32_2 z2 (b + 2) s2 (fun a3 x3 A3 o5 N3 => ?_))
  have z3 := A3.size.trans z2
  have s3 : x3.heap.size = b + 3 := N3.size
  have R3 : Rd.Rq x3 (b + 1) s 0 := N2.holds.below N3.below (by omega)
  show Code.wp Tryz.prog (Code.seq _ _) _ a3 x3
  refine wp_seq (r32_3 z3 (b + 1) s (by omega) R3 (A3.get o4 (by decide)) (fun a4 x4 A4 o6 R4 U4 => ?_))
  have hH3 : Holds x3 b (ringC (.slice none 0 0) ([], noOs)) 28 := (N1.holds.below N2.below (by omega)).below N3.below (by omega)
  have hB3 : Below b w x3 := (N1.below.trans (N2.below.mono (by omega))).trans (N3.below.mono (by omega))
  have s4 : x3.heap.size ≤ x4.heap.size := U4.size
  have g2 : a4.eval (.tmp 2) = .pointer (some ⟨b, 0, none⟩) := A4.get (A3.get (A2.get o2 (by decide)) (by decide)) (by decide)
  have g4 : a4.eval (.tmp 4) = .pointer (some ⟨b + 1, 0, none⟩) := A4.get (A3.get o4 (by decide)) (by decide)
  have g5 : a4.eval (.tmp 5) = .pointer (some ⟨b + 2, 0, none⟩) := A4.get o5 (by decide)
  have g0 : a4.eval (.tmp 0) = .string s := A4.get (A3.get (A2.get (A1.get e0 (by decide)) (by decide)) (by decide)) (by decide)
  have hM : Mem simK b (b + 2) (b + 1) x4.heap.size w x4 (.slice none 0 0) [] noOs (Rd.rdMany s) :=
    ⟨hH3.upd U4 (by omega), N3.holds.upd U4 (by omega), ⟨rfl, .inl ⟨rfl, rfl⟩⟩, R4, hB3.trans (U4.below (by omega) (by omega)), by omega, by omega, by omega, by omega, by omega, Nat.le_refl _⟩
  have hL : Lr b (b + 2) (b + 1) x4.heap.size w s a4 x4 (.slice none 0 0) [] noOs (Rd.rdMany s) := ⟨A4.size.trans z3, A4.defers.trans (A3.defers.trans (A2.defers.trans (A1.defers.trans df))), g0, g2, g4, g5, hM⟩
  show Code.wp Tryz.prog (Code.seq (Code.seq _ c32_l) _) _ a4 x4
  refine wp_seq (wp_seq (r32_4 hL.z (fun a40 x40 A40 o7 G40 => ?_)))
  have h40 := hL.gr A40 (by decide) G40
  show Code.wp Tryz.prog c32_l _ a40 x40
  refine read32_l (n := Pk.mnV s 3) (by omega) h40 (A40.get o6 (by decide)) o7 (fun a5 x5 v5 h5 => ?_)
  show Code.wp Tryz.prog (Code.seq (Code.seq _ c32_m) c32_f) _ a5 x5
  refine wp_seq (wp_seq (r32_8 h5.z (fun a6 x6 A6 o8 G6 => ?_)))
  have h6 := h5.gr A6 (by decide) G6
  show Code.wp Tryz.prog c32_m _ a6 x6
  refine read32_m h6 o8 (fun a7 x7 h7 => ?_)
  have h7 : Lr b (b + 2) (b + 1) x4.heap.size w s a7 x7 v5 (Rd.readR s).1 (Rd.readR s).2 (Rd.rdB s).2 := h7
  have hRG : (readQ s) = if (Rd.rdB s).2.2 = 0 ∧ (Rd.rdB s).2.1.size = 0 ∧ bytesR (normL (Rd.readR s)) = s.data.toList then (Rd.readR s, 0) else (([], noOs), 11) := rfl
  generalize (Rd.rdB s).2 = st7 at *
  have hfit := readR_fit s
  have hlen : (Rd.readR s).2.length = 8 := Rd.rdOs_len _ _
  generalize readQ s = rg at *
  generalize Rd.readR s = r at *
  have hRA : RingAt x7.heap.size x7 v5 r := h7.mem.ring hlen
  obtain ⟨E, hE, hq, hz⟩ : Rd.Sim x7 (b + 1) st7 := h7.mem.rd
  have hDn : ∀ y, Gr x7 y → Calls Tryz.prog 60 #[.pointer (some ⟨b + 1, 0, none⟩)] y fun e z => e = .returned (.int .i64 (doneQ st7.1 E)) ∧ Gr y z := fun y hy => rdone_rq (b + 1) st7.1 E y (hq.below hy hq.lt)
  have hBy : ∀ y, Gr x7 y → Calls Tryz.prog 30 #[.agg (ringC v5 r).toArray] y fun e z => e = .returned (.string (strL (bytesR (normL r)))) ∧ Gr y z := fun y hy => refBytes_any v5 r hfit y ((hRA.below hy).mono hy.size)
  have hD : (doneQ st7.1 E = 0) ↔ (st7.2 = 0 ∧ st7.1.size = 0) := by
    unfold doneQ
    by_cases h0 : E = 0
    · rw [if_pos h0]
      have := hE.1 h0
      by_cases h1 : st7.1.size = 0 <;> simp [h1, this]
    · rw [if_neg h0]
      have : ¬ st7.2 = 0 := fun q => h0 (hE.2 q)
      simp [h0, this]
  generalize doneQ st7.1 E = D at *
  show Code.wp Tryz.prog c32_f _ a7 x7
  unfold c32_f
  have bad : ∀ (K : Act → World → Prop) a8 x8, Lr b (b + 2) (b + 1) x4.heap.size w s a8 x8 v5 r.1 r.2 st7 → rg = (([], noOs), 11) → ((Code.region 13 q32_13 false).seq Code.ret).wp Tryz.prog (Exit.then K (bodyPost Tryz.prog Tryz.f32 (RetR w rg.1 rg.2))) a8 x8 := fun K a8 x8 h8 hrg => by
    subst hrg
    refine wp_seq (r32_13 h8.z b _ h8.mem.h2 noC_len h8.e2 (fun a9 x9 A9 o3 T9 => ?_))
    refine wp_ret (bodyPost_ret (results_ring2 (p := 2) (u := 3) (by kernel_rfl) _ x9 b _ (A9.get h8.e2 (by decide)) T9.holds noC_len) (A9.defers.trans h8.df) ⟨.slice none 0 0, ?_, noR_at x9.heap.size x9, hwb ▸ h8.mem.bl.trans (T9.below (Nat.le_refl _))⟩)
    show Ending.returned (.tuple #[.agg _, a9.eval (.tmp 3)]) = _
    rw [o3]
    rfl
  by_cases hD0 : D = 0
  · refine wp_seq (wp_seq (r32_12f h7.z (b + 1) (b + 2) D v5 r s (strL (bytesR (normL r))) hD0 (ringC_len hRA) h7.mem.h4 hDn hBy h7.e4 h7.e5 h7.e0 (fun a8 x8 A8 o51 G8 => ?_)))
    have h8 := h7.gr A8 (by decide) G8
    rw [strL_eq'] at o51
    have hRB : RingAt x8.heap.size x8 v5 r := h8.mem.ring hlen
    show Code.wp Tryz.prog (Code.cond _ _ _) _ a8 x8
    refine wp_cond_split o51 (fun q => ?_) (fun q => ?_)
    · have q : ¬ bytesR (normL r) = s.data.toList := by simpa using q
      rw [if_neg (fun p => q p.2.2)] at hRG
      exact bad _ a8 x8 h8 hRG
    · have q : bytesR (normL r) = s.data.toList := by simpa using q
      rw [if_pos ⟨(hD.1 hD0).1, (hD.1 hD0).2, q⟩] at hRG
      subst hRG
      refine wp_skip ?_
      show Code.wp Tryz.prog (Code.seq _ _) _ a8 x8
      refine wp_seq (r32_14 h8.z b (b + 2) v5 r _ hRB h8.mem.h4 h8.mem.h2 noC_len h8.e2 h8.e5 (fun a9 x9 A9 o3 T9 => ?_))
      have hn : ∀ cs fr, x8.heap[b]? ≠ some (.cells cs 53 fr) := fun cs fr e => by
        have := h8.mem.h2
        unfold Holds at this
        rw [this] at e
        simp at e
      have own9 := own_upd h8.mem.own (Turned.upd T9) hn
      refine wp_ret (bodyPost_ret (results_ring2 (p := 2) (u := 3) (by kernel_rfl) _ x9 b _ (A9.get h8.e2 (by decide)) T9.holds (ringC_len hRB)) (A9.defers.trans h8.df) ⟨v5, ?_, ⟨mems_of_row own9, hlen⟩, hwb ▸ h8.mem.bl.trans (T9.below (Nat.le_refl _))⟩)
      show Ending.returned (.tuple #[.agg _, a9.eval (.tmp 3)]) = _
      rw [o3]
      rfl
  · refine wp_seq (wp_seq (r32_12t h7.z (b + 1) D hD0 hDn h7.e4 (fun a8 x8 A8 o51 G8 => ?_)))
    have h8 := h7.gr A8 (by decide) G8
    rw [if_neg (fun p => hD0 (hD.2 ⟨p.1, p.2.1⟩))] at hRG
    show Code.wp Tryz.prog (Code.cond _ _ _) _ a8 x8
    refine wp_cond_split o51 (fun _ => bad _ a8 x8 h8 hRG) (fun q => by cases q)

end Go.Proofs.YthmnjebmnocoiaaGreat.En
