/- QuorumMeets (4), walked from where its number of nodes is known. (By tools/gen_qmmeet.py.) -/
import Derived.Test.YtmhpfncbbboamaaGreatQmAw
import Derived.Test.YtmhpfncbbboamaaGreatQmMeetP
namespace Go.Proofs.YtmhpfncbbboamaaGreat
open Go.RowKit Go.Maps

def mTail : Code := ((Code.region 7 #[{ dst := some 9, op := Op.assign (Operand.const (Value.slice none 0 0)), type := 51, pos := "law.go:160", after := #[], guard := none }] false).seq (((Code.region 8 #[{ dst := some 10, op := Op.assign (Operand.const (Value.int IntKind.i64 0)), type := 3, pos := "law.go:161", after := #[], guard := none }] false).seq (Code.block 0 (((Code.region 9 #[{ dst := some 26, op := Op.move (Operand.tmp 10), type := 3, pos := "law.go:161", after := #[], guard := none }, { dst := some 27, op := Op.move (Operand.tmp 8), type := 3, pos := "law.go:161", after := #[], guard := none }, { dst := some 28, op := Op.binOp BinOp.lss 3 (Operand.tmp 26) (Operand.tmp 27) 3, type := 4, pos := "law.go:161", after := #[{ on := 0, ground := Ground.data }, { on := 1, ground := Ground.data }], guard := none }] false).seq (Code.cond (Operand.tmp 28) Code.skip (Code.exit 0))).seq ((Code.block 1 (Code.region 11 #[{ dst := some 31, op := Op.move (Operand.tmp 9), type := 51, pos := "law.go:162", after := #[], guard := none }, { dst := some 32, op := Op.move (Operand.tmp 10), type := 3, pos := "law.go:162", after := #[], guard := none }, { dst := some 33, op := Op.binOp BinOp.add 3 (Operand.tmp 32) (Operand.const (Value.int IntKind.i64 1)) 3, type := 3, pos := "law.go:162", after := #[{ on := 1, ground := Ground.data }], guard := none }, { dst := some 34, op := Op.move (Operand.tmp 10), type := 3, pos := "law.go:162", after := #[], guard := none }, { dst := some 35, op := Op.binOp BinOp.add 3 (Operand.tmp 34) (Operand.const (Value.int IntKind.i64 1)) 3, type := 3, pos := "law.go:162", after := #[{ on := 3, ground := Ground.data }], guard := none }, { dst := some 36, op := Op.build 53 #[(0, Operand.tmp 33), (1, Operand.tmp 35)], type := 53, pos := "law.go:162", after := #[{ on := 2, ground := Ground.data }, { on := 4, ground := Ground.data }], guard := none }, { dst := some 37, op := Op.buildSlice 51 1 #[(0, Operand.tmp 36)], type := 51, pos := "law.go:162", after := #[{ on := 5, ground := Ground.data }], guard := none }, { dst := some 38, op := Op.call { callee := Callee.builtin Builtin.append, args := #[Operand.tmp 31, Operand.tmp 37], argTypes := #[51, 51] }, type := 51, pos := "law.go:162", after := #[{ on := 0, ground := Ground.data }, { on := 6, ground := Ground.data }], guard := none }, { dst := some 9, op := Op.assign (Operand.tmp 38), type := 51, pos := "law.go:162", after := #[{ on := 7, ground := Ground.data }, { on := 7, ground := Ground.chain }, { on := 0, ground := Ground.phase }, { on := 1, ground := Ground.phase }, { on := 2, ground := Ground.phase }, { on := 3, ground := Ground.phase }, { on := 4, ground := Ground.phase }, { on := 5, ground := Ground.phase }, { on := 6, ground := Ground.phase }, { on := 7, ground := Ground.phase }], guard := none }] false)).seq (Code.region 10 #[{ dst := some 29, op := Op.move (Operand.tmp 10), type := 3, pos := "law.go:161", after := #[], guard := none }, { dst := some 30, op := Op.binOp BinOp.add 3 (Operand.tmp 29) (Operand.const (Value.int IntKind.i64 1)) 3, type := 3, pos := "law.go:161", after := #[{ on := 0, ground := Ground.data }], guard := none }, { dst := some 10, op := Op.assign (Operand.tmp 30), type := 3, pos := "law.go:161", after := #[{ on := 1, ground := Ground.data }, { on := 0, ground := Ground.phase }, { on := 1, ground := Ground.phase }], guard := none }] false))).loop)).seq ((Code.region 12 #[{ dst := some 39, op := Op.move (Operand.tmp 9), type := 51, pos := "law.go:164", after := #[], guard := none }, { dst := some 40, op := Op.indexAddr 49 (Operand.tmp 3) (Operand.const (Value.int IntKind.i64 0)), type := 0, pos := "law.go:164", after := #[], guard := none }, { dst := some 41, op := Op.load 3 (Operand.tmp 40), type := 3, pos := "law.go:164", after := #[{ on := 1, ground := Ground.data }], guard := none }, { dst := some 42, op := Op.call { callee := Callee.value (Operand.func 15), args := #[Operand.tmp 39, Operand.tmp 41, Operand.const (Value.int IntKind.i64 0)], argTypes := #[51, 3, 3] }, type := 22, pos := "law.go:164", after := #[{ on := 0, ground := Ground.data }, { on := 2, ground := Ground.data }], guard := none }, { dst := some 11, op := Op.assign (Operand.tmp 42), type := 22, pos := "law.go:164", after := #[{ on := 3, ground := Ground.data }, { on := 3, ground := Ground.chain }, { on := 0, ground := Ground.phase }, { on := 1, ground := Ground.phase }, { on := 2, ground := Ground.phase }, { on := 3, ground := Ground.phase }], guard := none }] false).seq ((Code.region 13 #[{ dst := some 43, op := Op.move (Operand.tmp 9), type := 51, pos := "law.go:165", after := #[], guard := none }, { dst := some 44, op := Op.indexAddr 49 (Operand.tmp 3) (Operand.const (Value.int IntKind.i64 1)), type := 0, pos := "law.go:165", after := #[], guard := none }, { dst := some 45, op := Op.load 3 (Operand.tmp 44), type := 3, pos := "law.go:165", after := #[{ on := 1, ground := Ground.data }], guard := none }, { dst := some 46, op := Op.call { callee := Callee.value (Operand.func 15), args := #[Operand.tmp 43, Operand.tmp 45, Operand.const (Value.int IntKind.i64 0)], argTypes := #[51, 3, 3] }, type := 22, pos := "law.go:165", after := #[{ on := 0, ground := Ground.data }, { on := 2, ground := Ground.data }], guard := none }, { dst := some 12, op := Op.assign (Operand.tmp 46), type := 22, pos := "law.go:165", after := #[{ on := 3, ground := Ground.data }, { on := 3, ground := Ground.chain }, { on := 0, ground := Ground.phase }, { on := 1, ground := Ground.phase }, { on := 2, ground := Ground.phase }, { on := 3, ground := Ground.phase }], guard := none }] false).seq (((Code.region 14 #[{ dst := some 47, op := Op.move (Operand.tmp 11), type := 22, pos := "law.go:166", after := #[], guard := none }, { dst := some 48, op := Op.binOp BinOp.eql 22 (Operand.tmp 47) (Operand.const (Value.pointer none)) 22, type := 4, pos := "law.go:166", after := #[{ on := 0, ground := Ground.data }], guard := none }, { dst := some 49, op := Op.move (Operand.tmp 48), type := 4, pos := "law.go:166", after := #[{ on := 1, ground := Ground.data }], guard := none }, { dst := some 50, op := Op.move (Operand.tmp 12), type := 22, pos := "law.go:166", after := #[{ on := 2, ground := Ground.guard }], guard := some (2, false) }, { dst := some 51, op := Op.binOp BinOp.eql 22 (Operand.tmp 50) (Operand.const (Value.pointer none)) 22, type := 4, pos := "law.go:166", after := #[{ on := 3, ground := Ground.data }, { on := 2, ground := Ground.guard }], guard := some (2, false) }, { dst := some 52, op := Op.pick (Operand.tmp 49) (Operand.const (Value.bool true)) (Operand.tmp 51), type := 4, pos := "law.go:166", after := #[{ on := 2, ground := Ground.data }, { on := 4, ground := Ground.data }], guard := none }] false).seq (Code.cond (Operand.tmp 52) ((Code.region 15 #[{ dst := some 6, op := Op.assign (Operand.const (Value.bool false)), type := 4, pos := "law.go:167", after := #[], guard := none }] false).seq Code.ret) Code.skip)).seq ((Code.region 16 #[{ dst := some 13, op := Op.assign (Operand.const (Value.bool false)), type := 4, pos := "law.go:169", after := #[], guard := none }] false).seq (((Code.region 17 #[{ dst := some 14, op := Op.assign (Operand.const (Value.int IntKind.i64 0)), type := 3, pos := "law.go:170", after := #[], guard := none }] false).seq (Code.block 2 (((Code.region 18 #[{ dst := some 53, op := Op.move (Operand.tmp 14), type := 3, pos := "law.go:170", after := #[], guard := none }, { dst := some 54, op := Op.move (Operand.tmp 8), type := 3, pos := "law.go:170", after := #[], guard := none }, { dst := some 55, op := Op.binOp BinOp.lss 3 (Operand.tmp 53) (Operand.tmp 54) 3, type := 4, pos := "law.go:170", after := #[{ on := 0, ground := Ground.data }, { on := 1, ground := Ground.data }], guard := none }] false).seq (Code.cond (Operand.tmp 55) Code.skip (Code.exit 2))).seq ((Code.block 3 (((Code.region 20 #[{ dst := some 58, op := Op.move (Operand.tmp 1), type := 50, pos := "law.go:171", after := #[], guard := none }, { dst := some 59, op := Op.move (Operand.tmp 14), type := 3, pos := "law.go:171", after := #[], guard := none }, { dst := some 60, op := Op.indexAddr 50 (Operand.tmp 58) (Operand.tmp 59), type := 0, pos := "law.go:171", after := #[{ on := 0, ground := Ground.data }, { on := 1, ground := Ground.data }], guard := none }, { dst := some 61, op := Op.load 4 (Operand.tmp 60), type := 4, pos := "law.go:171", after := #[{ on := 2, ground := Ground.data }], guard := none }] false).seq (Code.cond (Operand.tmp 61) (Code.region 21 #[{ dst := some 62, op := Op.move (Operand.tmp 11), type := 22, pos := "law.go:172", after := #[], guard := none }, { dst := some 63, op := Op.move (Operand.tmp 14), type := 3, pos := "law.go:172", after := #[], guard := none }, { dst := some 64, op := Op.binOp BinOp.add 3 (Operand.tmp 63) (Operand.const (Value.int IntKind.i64 1)) 3, type := 3, pos := "law.go:172", after := #[{ on := 1, ground := Ground.data }], guard := none }, { dst := some 65, op := Op.buildSlice 46 1 #[(0, Operand.tmp 64)], type := 46, pos := "law.go:172", after := #[{ on := 2, ground := Ground.data }], guard := none }, { dst := some 66, op := Op.call { callee := Callee.value (Operand.func 10), args := #[Operand.tmp 62, Operand.tmp 65], argTypes := #[22, 46] }, type := 4, pos := "law.go:172", after := #[{ on := 0, ground := Ground.data }, { on := 3, ground := Ground.data }], guard := none }] false) Code.skip)).seq (((Code.region 22 #[{ dst := some 67, op := Op.move (Operand.tmp 2), type := 50, pos := "law.go:174", after := #[], guard := none }, { dst := some 68, op := Op.move (Operand.tmp 14), type := 3, pos := "law.go:174", after := #[], guard := none }, { dst := some 69, op := Op.indexAddr 50 (Operand.tmp 67) (Operand.tmp 68), type := 0, pos := "law.go:174", after := #[{ on := 0, ground := Ground.data }, { on := 1, ground := Ground.data }], guard := none }, { dst := some 70, op := Op.load 4 (Operand.tmp 69), type := 4, pos := "law.go:174", after := #[{ on := 2, ground := Ground.data }], guard := none }] false).seq (Code.cond (Operand.tmp 70) (Code.region 23 #[{ dst := some 71, op := Op.move (Operand.tmp 12), type := 22, pos := "law.go:175", after := #[], guard := none }, { dst := some 72, op := Op.move (Operand.tmp 14), type := 3, pos := "law.go:175", after := #[], guard := none }, { dst := some 73, op := Op.binOp BinOp.add 3 (Operand.tmp 72) (Operand.const (Value.int IntKind.i64 1)) 3, type := 3, pos := "law.go:175", after := #[{ on := 1, ground := Ground.data }], guard := none }, { dst := some 74, op := Op.buildSlice 46 1 #[(0, Operand.tmp 73)], type := 46, pos := "law.go:175", after := #[{ on := 2, ground := Ground.data }], guard := none }, { dst := some 75, op := Op.call { callee := Callee.value (Operand.func 10), args := #[Operand.tmp 71, Operand.tmp 74], argTypes := #[22, 46] }, type := 4, pos := "law.go:175", after := #[{ on := 0, ground := Ground.data }, { on := 3, ground := Ground.data }], guard := none }] false) Code.skip)).seq (Code.region 24 #[{ dst := some 76, op := Op.move (Operand.tmp 13), type := 4, pos := "law.go:177", after := #[], guard := none }, { dst := some 77, op := Op.move (Operand.tmp 76), type := 4, pos := "law.go:177", after := #[{ on := 0, ground := Ground.data }], guard := none }, { dst := some 78, op := Op.move (Operand.tmp 1), type := 50, pos := "law.go:177", after := #[{ on := 1, ground := Ground.guard }], guard := some (1, false) }, { dst := some 79, op := Op.move (Operand.tmp 14), type := 3, pos := "law.go:177", after := #[{ on := 1, ground := Ground.guard }], guard := some (1, false) }, { dst := some 80, op := Op.indexAddr 50 (Operand.tmp 78) (Operand.tmp 79), type := 0, pos := "law.go:177", after := #[{ on := 2, ground := Ground.data }, { on := 3, ground := Ground.data }, { on := 1, ground := Ground.guard }], guard := some (1, false) }, { dst := some 81, op := Op.load 4 (Operand.tmp 80), type := 4, pos := "law.go:177", after := #[{ on := 4, ground := Ground.data }, { on := 1, ground := Ground.guard }], guard := some (1, false) }, { dst := some 82, op := Op.move (Operand.tmp 81), type := 4, pos := "law.go:177", after := #[{ on := 5, ground := Ground.data }, { on := 1, ground := Ground.chain }, { on := 1, ground := Ground.guard }], guard := some (1, false) }, { dst := some 83, op := Op.move (Operand.tmp 2), type := 50, pos := "law.go:177", after := #[{ on := 6, ground := Ground.guard }], guard := some (6, true) }, { dst := some 84, op := Op.move (Operand.tmp 14), type := 3, pos := "law.go:177", after := #[{ on := 6, ground := Ground.guard }], guard := some (6, true) }, { dst := some 85, op := Op.indexAddr 50 (Operand.tmp 83) (Operand.tmp 84), type := 0, pos := "law.go:177", after := #[{ on := 7, ground := Ground.data }, { on := 8, ground := Ground.data }, { on := 6, ground := Ground.guard }], guard := some (6, true) }, { dst := some 86, op := Op.load 4 (Operand.tmp 85), type := 4, pos := "law.go:177", after := #[{ on := 9, ground := Ground.data }, { on := 6, ground := Ground.guard }], guard := some (6, true) }, { dst := some 87, op := Op.pick (Operand.tmp 82) (Operand.tmp 86) (Operand.const (Value.bool false)), type := 4, pos := "law.go:177", after := #[{ on := 6, ground := Ground.data }, { on := 10, ground := Ground.data }, { on := 1, ground := Ground.guard }], guard := some (1, false) }, { dst := some 88, op := Op.pick (Operand.tmp 77) (Operand.const (Value.bool true)) (Operand.tmp 87), type := 4, pos := "law.go:177", after := #[{ on := 1, ground := Ground.data }, { on := 11, ground := Ground.data }], guard := none }, { dst := some 13, op := Op.assign (Operand.tmp 88), type := 4, pos := "law.go:177", after := #[{ on := 12, ground := Ground.data }, { on := 6, ground := Ground.chain }, { on := 0, ground := Ground.phase }, { on := 1, ground := Ground.phase }, { on := 2, ground := Ground.phase }, { on := 3, ground := Ground.phase }, { on := 4, ground := Ground.phase }, { on := 5, ground := Ground.phase }, { on := 6, ground := Ground.phase }, { on := 7, ground := Ground.phase }, { on := 8, ground := Ground.phase }, { on := 9, ground := Ground.phase }, { on := 10, ground := Ground.phase }, { on := 11, ground := Ground.phase }, { on := 12, ground := Ground.phase }], guard := none }] false)))).seq (Code.region 19 #[{ dst := some 56, op := Op.move (Operand.tmp 14), type := 3, pos := "law.go:170", after := #[], guard := none }, { dst := some 57, op := Op.binOp BinOp.add 3 (Operand.tmp 56) (Operand.const (Value.int IntKind.i64 1)) 3, type := 3, pos := "law.go:170", after := #[{ on := 0, ground := Ground.data }], guard := none }, { dst := some 14, op := Op.assign (Operand.tmp 57), type := 3, pos := "law.go:170", after := #[{ on := 1, ground := Ground.data }, { on := 0, ground := Ground.phase }, { on := 1, ground := Ground.phase }], guard := none }] false))).loop)).seq (((Code.region 25 #[{ dst := some 89, op := Op.indexAddr 49 (Operand.tmp 3) (Operand.const (Value.int IntKind.i64 0)), type := 0, pos := "law.go:179", after := #[], guard := none }, { dst := some 90, op := Op.load 3 (Operand.tmp 89), type := 3, pos := "law.go:179", after := #[{ on := 0, ground := Ground.data }], guard := none }, { dst := some 91, op := Op.binOp BinOp.lss 3 (Operand.tmp 90) (Operand.const (Value.int IntKind.i64 1)) 3, type := 4, pos := "law.go:179", after := #[{ on := 1, ground := Ground.data }], guard := none }, { dst := some 92, op := Op.move (Operand.tmp 91), type := 4, pos := "law.go:179", after := #[{ on := 2, ground := Ground.data }], guard := none }, { dst := some 93, op := Op.indexAddr 49 (Operand.tmp 3) (Operand.const (Value.int IntKind.i64 1)), type := 0, pos := "law.go:179", after := #[{ on := 3, ground := Ground.guard }], guard := some (3, false) }, { dst := some 94, op := Op.load 3 (Operand.tmp 93), type := 3, pos := "law.go:179", after := #[{ on := 4, ground := Ground.data }, { on := 3, ground := Ground.guard }], guard := some (3, false) }, { dst := some 95, op := Op.binOp BinOp.lss 3 (Operand.tmp 94) (Operand.const (Value.int IntKind.i64 1)) 3, type := 4, pos := "law.go:179", after := #[{ on := 5, ground := Ground.data }, { on := 3, ground := Ground.guard }], guard := some (3, false) }, { dst := some 96, op := Op.pick (Operand.tmp 92) (Operand.const (Value.bool true)) (Operand.tmp 95), type := 4, pos := "law.go:179", after := #[{ on := 3, ground := Ground.data }, { on := 6, ground := Ground.data }], guard := none }, { dst := some 97, op := Op.move (Operand.tmp 96), type := 4, pos := "law.go:179", after := #[{ on := 7, ground := Ground.data }, { on := 3, ground := Ground.chain }], guard := none }, { dst := some 98, op := Op.indexAddr 49 (Operand.tmp 3) (Operand.const (Value.int IntKind.i64 0)), type := 0, pos := "law.go:179", after := #[{ on := 8, ground := Ground.guard }], guard := some (8, false) }, { dst := some 99, op := Op.load 3 (Operand.tmp 98), type := 3, pos := "law.go:179", after := #[{ on := 9, ground := Ground.data }, { on := 8, ground := Ground.guard }], guard := some (8, false) }, { dst := some 100, op := Op.binOp BinOp.gtr 3 (Operand.tmp 99) (Operand.const (Value.int IntKind.i64 12)) 3, type := 4, pos := "law.go:179", after := #[{ on := 10, ground := Ground.data }, { on := 8, ground := Ground.guard }], guard := some (8, false) }, { dst := some 101, op := Op.pick (Operand.tmp 97) (Operand.const (Value.bool true)) (Operand.tmp 100), type := 4, pos := "law.go:179", after := #[{ on := 8, ground := Ground.data }, { on := 11, ground := Ground.data }], guard := none }, { dst := some 102, op := Op.move (Operand.tmp 101), type := 4, pos := "law.go:179", after := #[{ on := 12, ground := Ground.data }, { on := 8, ground := Ground.chain }], guard := none }, { dst := some 103, op := Op.indexAddr 49 (Operand.tmp 3) (Operand.const (Value.int IntKind.i64 1)), type := 0, pos := "law.go:179", after := #[{ on := 13, ground := Ground.guard }], guard := some (13, false) }, { dst := some 104, op := Op.load 3 (Operand.tmp 103), type := 3, pos := "law.go:179", after := #[{ on := 14, ground := Ground.data }, { on := 13, ground := Ground.guard }], guard := some (13, false) }, { dst := some 105, op := Op.binOp BinOp.gtr 3 (Operand.tmp 104) (Operand.const (Value.int IntKind.i64 12)) 3, type := 4, pos := "law.go:179", after := #[{ on := 15, ground := Ground.data }, { on := 13, ground := Ground.guard }], guard := some (13, false) }, { dst := some 106, op := Op.pick (Operand.tmp 102) (Operand.const (Value.bool true)) (Operand.tmp 105), type := 4, pos := "law.go:179", after := #[{ on := 13, ground := Ground.data }, { on := 16, ground := Ground.data }], guard := none }, { dst := some 107, op := Op.move (Operand.tmp 106), type := 4, pos := "law.go:179", after := #[{ on := 17, ground := Ground.data }, { on := 13, ground := Ground.chain }], guard := none }, { dst := some 108, op := Op.indexAddr 49 (Operand.tmp 3) (Operand.const (Value.int IntKind.i64 0)), type := 0, pos := "law.go:179", after := #[{ on := 18, ground := Ground.guard }], guard := some (18, false) }, { dst := some 109, op := Op.load 3 (Operand.tmp 108), type := 3, pos := "law.go:179", after := #[{ on := 19, ground := Ground.data }, { on := 18, ground := Ground.guard }], guard := some (18, false) }, { dst := some 110, op := Op.indexAddr 49 (Operand.tmp 3) (Operand.const (Value.int IntKind.i64 1)), type := 0, pos := "law.go:179", after := #[{ on := 18, ground := Ground.guard }], guard := some (18, false) }, { dst := some 111, op := Op.load 3 (Operand.tmp 110), type := 3, pos := "law.go:179", after := #[{ on := 21, ground := Ground.data }, { on := 18, ground := Ground.guard }], guard := some (18, false) }, { dst := some 112, op := Op.binOp BinOp.add 3 (Operand.tmp 109) (Operand.tmp 111) 3, type := 3, pos := "law.go:179", after := #[{ on := 20, ground := Ground.data }, { on := 22, ground := Ground.data }, { on := 18, ground := Ground.guard }], guard := some (18, false) }, { dst := some 113, op := Op.move (Operand.tmp 8), type := 3, pos := "law.go:179", after := #[{ on := 18, ground := Ground.guard }], guard := some (18, false) }, { dst := some 114, op := Op.binOp BinOp.leq 3 (Operand.tmp 112) (Operand.tmp 113) 3, type := 4, pos := "law.go:179", after := #[{ on := 23, ground := Ground.data }, { on := 24, ground := Ground.data }, { on := 18, ground := Ground.guard }], guard := some (18, false) }, { dst := some 115, op := Op.pick (Operand.tmp 107) (Operand.const (Value.bool true)) (Operand.tmp 114), type := 4, pos := "law.go:179", after := #[{ on := 18, ground := Ground.data }, { on := 25, ground := Ground.data }], guard := none }, { dst := some 116, op := Op.move (Operand.tmp 115), type := 4, pos := "law.go:179", after := #[{ on := 26, ground := Ground.data }, { on := 18, ground := Ground.chain }], guard := none }, { dst := some 117, op := Op.move (Operand.tmp 11), type := 22, pos := "law.go:179", after := #[{ on := 27, ground := Ground.guard }], guard := some (27, false) }, { dst := some 118, op := Op.call { callee := Callee.value (Operand.func 9), args := #[Operand.tmp 117], argTypes := #[22] }, type := 3, pos := "law.go:179", after := #[{ on := 28, ground := Ground.data }, { on := 27, ground := Ground.chain }, { on := 27, ground := Ground.guard }], guard := some (27, false) }, { dst := some 119, op := Op.binOp BinOp.neq 3 (Operand.tmp 118) (Operand.const (Value.int IntKind.i64 1)) 3, type := 4, pos := "law.go:179", after := #[{ on := 29, ground := Ground.data }, { on := 27, ground := Ground.guard }], guard := some (27, false) }, { dst := some 120, op := Op.pick (Operand.tmp 116) (Operand.const (Value.bool true)) (Operand.tmp 119), type := 4, pos := "law.go:179", after := #[{ on := 27, ground := Ground.data }, { on := 30, ground := Ground.data }], guard := none }, { dst := some 121, op := Op.move (Operand.tmp 120), type := 4, pos := "law.go:179", after := #[{ on := 31, ground := Ground.data }, { on := 29, ground := Ground.chain }], guard := none }, { dst := some 122, op := Op.move (Operand.tmp 12), type := 22, pos := "law.go:179", after := #[{ on := 32, ground := Ground.guard }], guard := some (32, false) }, { dst := some 123, op := Op.call { callee := Callee.value (Operand.func 9), args := #[Operand.tmp 122], argTypes := #[22] }, type := 3, pos := "law.go:179", after := #[{ on := 33, ground := Ground.data }, { on := 32, ground := Ground.chain }, { on := 32, ground := Ground.guard }], guard := some (32, false) }, { dst := some 124, op := Op.binOp BinOp.neq 3 (Operand.tmp 123) (Operand.const (Value.int IntKind.i64 1)) 3, type := 4, pos := "law.go:179", after := #[{ on := 34, ground := Ground.data }, { on := 32, ground := Ground.guard }], guard := some (32, false) }, { dst := some 125, op := Op.pick (Operand.tmp 121) (Operand.const (Value.bool true)) (Operand.tmp 124), type := 4, pos := "law.go:179", after := #[{ on := 32, ground := Ground.data }, { on := 35, ground := Ground.data }], guard := none }] false).seq (Code.cond (Operand.tmp 125) ((Code.region 26 #[{ dst := some 126, op := Op.move (Operand.tmp 7), type := 4, pos := "law.go:180", after := #[], guard := none }, { dst := some 6, op := Op.assign (Operand.tmp 126), type := 4, pos := "law.go:180", after := #[{ on := 0, ground := Ground.data }, { on := 0, ground := Ground.phase }], guard := none }] false).seq Code.ret) Code.skip)).seq ((Code.region 27 #[{ dst := some 127, op := Op.move (Operand.tmp 7), type := 4, pos := "law.go:182", after := #[], guard := none }, { dst := some 128, op := Op.move (Operand.tmp 127), type := 4, pos := "law.go:182", after := #[{ on := 0, ground := Ground.data }], guard := none }, { dst := some 129, op := Op.move (Operand.tmp 13), type := 4, pos := "law.go:182", after := #[{ on := 1, ground := Ground.guard }], guard := some (1, true) }, { dst := some 130, op := Op.pick (Operand.tmp 128) (Operand.tmp 129) (Operand.const (Value.bool false)), type := 4, pos := "law.go:182", after := #[{ on := 1, ground := Ground.data }, { on := 2, ground := Ground.data }], guard := none }, { dst := some 6, op := Op.assign (Operand.tmp 130), type := 4, pos := "law.go:182", after := #[{ on := 3, ground := Ground.data }, { on := 1, ground := Ground.chain }, { on := 0, ground := Ground.phase }, { on := 1, ground := Ground.phase }, { on := 2, ground := Ground.phase }, { on := 3, ground := Ground.phase }], guard := none }] false).seq Code.ret)))))))))
/-- Yes or no, in a row in memory below B. -/
def BlAt (B : Nat) (w : World) (a : Option Addr) (R : List Bool) : Prop := R = [] ∨ ∃ g o, a = some ⟨g, o, none⟩ ∧ g < B ∧ ∀ i b, R[i]? = some b → w.cell? ⟨g, o + i, none⟩ = some (.bool b)
theorem BlAt.below {B : Nat} {w w' : World} {a : Option Addr} {R : List Bool} (h : BlAt B w a R) (hb : Below B w w') : BlAt B w' a R := by
  rcases h with h0 | ⟨g, o, rfl, hg, hc⟩
  · exact .inl h0
  · exact .inr ⟨g, o, rfl, hg, fun i b hi => (World.cell?_of_block (a := ⟨g, o + i, none⟩) (hb.block g hg)).trans (hc i b hi)⟩
theorem BlAt.cell {B : Nat} {w : World} {a : Option Addr} {R : List Bool} (h : BlAt B w a R) (i : Nat) (b : Bool) (hi : R[i]? = some b) : ∃ g o, a = some ⟨g, o, none⟩ ∧ w.cell? ⟨g, o + i, none⟩ = some (.bool b) := by
  rcases h with h0 | ⟨g, o, rfl, hg, hc⟩
  · subst h0; simp at hi
  · exact ⟨g, o, rfl, hc i b hi⟩
def rdB (R : List Bool) (i : Nat) : Bool := (R[i]?).getD false
theorem und51 : Tryz.prog.underlying 51 = some (.slice 53) := by kernel_rfl
theorem info53x : ∃ i, Tryz.prog.info? 53 = some i ∧ i.zero = some (.agg #[.int .i64 0, .int .i64 0]) ∧ i.size = 2 ∧ i.bytes = 16 := by
  have : (Tryz.prog.info? 53).map (fun i => (i.zero, i.size, i.bytes)) = some (some (.agg #[.int .i64 0, .int .i64 0]), 2, 16) := by kernel_rfl
  cases h : Tryz.prog.info? 53 with
  | none => rw [h] at this; cases this
  | some i =>
    rw [h] at this
    simp at this
    exact ⟨i, rfl, this⟩
def tgF (ts : List (Int × Int)) : List Value := ts.flatMap fun p => [.int .i64 p.1, .int .i64 p.2]
theorem tgF_app (a b : List (Int × Int)) : tgF (a ++ b) = tgF a ++ tgF b := by simp [tgF]
theorem tgF_at {l : List (Int × Int)} {i : Nat} {p : Int × Int} (h : l[i]? = some p) : (tgF l)[i * 2]? = some (.int .i64 p.1) ∧ (tgF l)[i * 2 + 1]? = some (.int .i64 p.2) := by
  induction l generalizing i with
  | nil => simp at h
  | cons t l ih =>
    cases i with
    | zero => simp at h; subst h; exact ⟨rfl, rfl⟩
    | succ i =>
      have := ih (i := i) (by simpa using h)
      have e : tgF (t :: l) = .int .i64 t.1 :: .int .i64 t.2 :: tgF l := rfl
      rw [e, show (i + 1) * 2 = i * 2 + 1 + 1 by omega]
      exact ⟨by simpa using this.1, by simpa using this.2⟩
theorem tg_of_row {w : World} {base n : Nat} {v : Value} {ts : List (Int × Int)} (hn : n = ts.length) (h : w.ownsRow base 53 2 v n (tgF ts)) : TgAt w.heap.size w v ts := by
  subst hn
  obtain ⟨h1, ⟨rfl, h0⟩ | ⟨g, cap, cur, rfl, hb, hg, hc, hc2, hz, ht⟩⟩ := h
  · exact ⟨none, 0, by rw [h0], .inl (List.eq_nil_of_length_eq_zero h0)⟩
  · refine ⟨_, cap, rfl, .inr ⟨g, 0, rfl, (Array.getElem?_eq_some_iff.1 hg).1, fun i p hp => ?_⟩⟩
    have hil := (List.getElem?_eq_some_iff.1 hp).1
    have hH : Holds w g cur.toList 53 := by unfold Holds; simpa using hg
    obtain ⟨q1, q2⟩ := tgF_at hp
    rw [← ht, List.getElem?_take_of_lt (by omega)] at q1 q2
    exact ⟨by rw [Nat.zero_add]; exact hH.at _ _ q1, by rw [Nat.zero_add]; exact hH.at _ _ q2⟩
theorem gr_grown2 {w x y : World} {N e s : Nat} {v : Value} {n : Nat} {xs : List Value} (h : Gr w x) (hN : w.heap.size = N) (hR : x.ownsRow N e s v n xs) (hg : x.grownBy y v.ownBlock) : Gr w y := by
  refine Below.trans h ⟨hg.os, hg.tape, hg.output, hg.size, fun k hk => hg.block k (Nat.lt_of_lt_of_le hk h.size) (fun e => ?_)⟩
  obtain ⟨_, ⟨rfl, _⟩ | ⟨g, cap, cur, rfl, hb, _⟩⟩ := hR
  · cases e
  · have e2 : g = k := (Option.some.inj e).symm
    omega
/-- How things stand in the second loop: two tallies; B is where all that came in ends. -/
structure MSt (B : Nat) (n0 n1 : Int) (W0 W : World) (b1 b2 : Nat) (A C : Ses) : Prop where
  two : ∃ p1 h1 p2 h2, B ≤ p1 ∧ h1 ≤ p2 ∧ TyAt p1 h1 [] 30 n0 0 W b1 A ∧ TyAt p2 h2 [] 30 n1 0 W b2 C
  lo : Below B W0 W
theorem MSt.gr {B : Nat} {n0 n1 : Int} {W0 W W' : World} {b1 b2 : Nat} {A C : Ses} (h : MSt B n0 n1 W0 W b1 b2 A C) (hg : Gr W W') : MSt B n0 n1 W0 W' b1 b2 A C := by
  obtain ⟨⟨p1, h1, p2, h2, q1, q2, q3, q4⟩, q5⟩ := h
  exact ⟨⟨p1, h1, p2, h2, q1, q2, q3.gr hg, q4.gr hg⟩, q5.trans (Below.mono hg (by have := q3.n_le; omega))⟩
theorem MSt.yes1 {B : Nat} {n0 n1 : Int} {W0 W : World} {b1 b2 : Nat} {A C : Ses} (h : MSt B n0 n1 W0 W b1 b2 A C) (x : Int) (hx : I64 x) : Calls Tryz.prog 10 #[.pointer (some ⟨b1, 0, none⟩), .slice (some ⟨W.heap.size, 0, none⟩) 1 1] (W.alloc (.cells #[.int .i64 x] 3)) fun e w' => (∃ t, e = .returned (.bool t)) ∧ MSt B n0 n1 W0 w' b1 b2 (sayS 1 A x) C := by
  obtain ⟨⟨p1, h1, p2, h2, q1, q2, q3, q4⟩, q5⟩ := h.gr (al1 (o := .cells #[.int .i64 x] 3))
  have := q3.n_le
  exact (yes_any q3 W.heap.size 0 1 x hx ((holds_new W [.int .i64 x] 3).at 0 _ rfl)).mono fun _ _ ⟨e1, e2, e3⟩ => ⟨⟨_, e1⟩, ⟨p1, h1, p2, h2, q1, q2, e2, q4.mid e3 (.inr q2)⟩, q5.trans (mid_low e3 q1 (by omega))⟩
theorem MSt.yes2 {B : Nat} {n0 n1 : Int} {W0 W : World} {b1 b2 : Nat} {A C : Ses} (h : MSt B n0 n1 W0 W b1 b2 A C) (x : Int) (hx : I64 x) : Calls Tryz.prog 10 #[.pointer (some ⟨b2, 0, none⟩), .slice (some ⟨W.heap.size, 0, none⟩) 1 1] (W.alloc (.cells #[.int .i64 x] 3)) fun e w' => (∃ t, e = .returned (.bool t)) ∧ MSt B n0 n1 W0 w' b1 b2 A (sayS 1 C x) := by
  obtain ⟨⟨p1, h1, p2, h2, q1, q2, q3, q4⟩, q5⟩ := h.gr (al1 (o := .cells #[.int .i64 x] 3))
  have := q3.n_le
  have := q4.n_le
  exact (yes_any q4 W.heap.size 0 1 x hx ((holds_new W [.int .i64 x] 3).at 0 _ rfl)).mono fun _ _ ⟨e1, e2, e3⟩ => ⟨⟨_, e1⟩, ⟨p1, h1, p2, h2, q1, q2, q3.mid e3 (.inl q2), e2⟩, q5.trans (mid_low e3 (by omega) (by omega))⟩
theorem MSt.ver1 {B : Nat} {n0 n1 : Int} {W0 W : World} {b1 b2 : Nat} {A C : Ses} (h : MSt B n0 n1 W0 W b1 b2 A C) : Calls Tryz.prog 9 #[.pointer (some ⟨b1, 0, none⟩)] W fun e w' => e = .returned (.int .i64 (verd n0 0 A : Int)) ∧ MSt B n0 n1 W0 w' b1 b2 A C := by
  have h0 := h
  obtain ⟨⟨p1, h1, p2, h2, q1, q2, q3, q4⟩, q5⟩ := h
  exact (verdict_any q3).mono fun _ _ ⟨e1, e2⟩ => ⟨e1, h0.gr e2⟩
theorem MSt.ver2 {B : Nat} {n0 n1 : Int} {W0 W : World} {b1 b2 : Nat} {A C : Ses} (h : MSt B n0 n1 W0 W b1 b2 A C) : Calls Tryz.prog 9 #[.pointer (some ⟨b2, 0, none⟩)] W fun e w' => e = .returned (.int .i64 (verd n1 0 C : Int)) ∧ MSt B n0 n1 W0 w' b1 b2 A C := by
  have h0 := h
  obtain ⟨⟨p1, h1, p2, h2, q1, q2, q3, q4⟩, q5⟩ := h
  exact (verdict_any q4).mono fun _ _ ⟨e1, e2⟩ => ⟨e1, h0.gr e2⟩
theorem tgN64 (n : Nat) (hn : n ≤ 12) : ∀ p ∈ tgN n, I64 p.1 := by
  intro p hp
  simp [tgN] at hp
  obtain ⟨j, hj, rfl⟩ := hp
  unfold I64
  show -9223372036854775808 ≤ (j : Int) + 1 ∧ (j : Int) + 1 ≤ 9223372036854775807
  omega
theorem mst_made {B n : Nat} {n0 n1 : Int} {W0 W : World} {v : Value} (hn : n ≤ 12) (hlo : Below B W0 W) (hB : B ≤ W.heap.size) (hT : TgAt W.heap.size W v (tgN n)) : Calls Tryz.prog 15 #[v, .int .i64 n0, .int .i64 0] W fun e w' => ∃ b1, e = .returned (.pointer (some ⟨b1, 0, none⟩)) ∧ Below B W0 w' ∧ ∀ b, Calls Tryz.prog 15 #[v, .int .i64 n1, .int .i64 0] w' fun e w2 => b = b1 → ∃ b2, e = .returned (.pointer (some ⟨b2, 0, none⟩)) ∧ MSt B n0 n1 W0 w2 b1 b2 (seats (tgN n)) (seats (tgN n)) := by
  refine (new_any v (tgN n) n0 0 W (by rw [tgN_len]; omega) (tgN64 n hn) hT).mono fun e w' ⟨e1, e2, e3⟩ => ⟨_, e1, hlo.trans (e3.mono hB), fun b => ?_⟩
  refine (new_any v (tgN n) n1 0 w' (by rw [tgN_len]; omega) (tgN64 n hn) ((hT.below e3).mono e3.size)).mono fun e w2 ⟨f1, f2, f3⟩ _ => ⟨_, f1, ⟨W.heap.size, w'.heap.size, w'.heap.size, w2.heap.size, hB, Nat.le_refl _, e2.keep f3 (Nat.le_refl _), f2⟩, (hlo.trans (e3.mono hB)).trans (f3.mono (by have := e3.size; omega))⟩
theorem verd_three (a b : Int) (l : Ses) : verd a b l = 0 ∨ verd a b l = 1 ∨ verd a b l = 2 := by
  unfold verd
  split
  · exact .inr (.inl rfl)
  · split
    · exact .inl rfl
    · exact .inr (.inr rfl)
set_option maxRecDepth 100000 in
set_option maxHeartbeats 8000000 in
theorem meets_tail (s16 s17 s18 s19 s20 s21 s22 s23 s24 s25 v0 : Value) (n rn rc wn wc g3 : Nat) (ra wa : Option Addr) (R S : List Bool) (n0 n1 : Int) (w W : World) (hn : n ≤ 12) (hR : n ≤ R.length) (hS : n ≤ S.length) (hrn : R.length = rn) (hsn : S.length = wn) (i0 : I64 n0) (i1 : I64 n1)
    (bR : BlAt w.heap.size W ra R) (bS : BlAt w.heap.size W wa S) (h3 : Holds W g3 [.int .i64 n0, .int .i64 n1] 49) (hW : Gr w W) :
    mTail.wp Tryz.prog (bodyPost Tryz.prog Tryz.f4 fun e w' => e = .returned (.bool true) ∧ Gr w w') ⟨#[v0, .slice ra rn rc, .slice wa wn wc, .pointer (some ⟨g3, 0, none⟩), undef, undef, .bool false, .bool true, .int .i64 (n : Int), undef, undef, undef, undef, undef, undef, .bool true, s16, s17, s18, s19, s20, s21, s22, s23, s24, s25, undef, undef, undef, undef, undef, undef, undef, undef, undef, undef, undef, undef, undef, undef, undef, undef, undef, undef, undef, undef, undef, undef, undef, undef, undef, undef, undef, undef, undef, undef, undef, undef, undef, undef, undef, undef, undef, undef, undef, undef, undef, undef, undef, undef, undef, undef, undef, undef, undef, undef, undef, undef, undef, undef, undef, undef, undef, undef, undef, undef, undef, undef, undef, undef, undef, undef, undef, undef, undef, undef, undef, undef, undef, undef, undef, undef, undef, undef, undef, undef, undef, undef, undef, undef, undef, undef, undef, undef, undef, undef, undef, undef, undef, undef, undef, undef, undef, undef, undef, undef, undef, undef, undef, undef, undef], []⟩ W := by
  obtain ⟨j0, hj0, hz0, hsz0, hby0⟩ := info53x
  have F0 : Hid (Tryz.prog.info? 53 = some j0) := hj0
  obtain ⟨B, hB⟩ : ∃ B, W.heap.size = B := ⟨_, rfl⟩
  have HB : Hid (W.heap.size = B) := hB
  have HW : Hid (Gr w W) := hW
  have H3 : Hid (Holds W g3 [.int .i64 n0, .int .i64 n1] 49) := h3
  have BR : Hid (BlAt w.heap.size W ra R) := bR
  have BS : Hid (BlAt w.heap.size W wa S) := bS
  have HI : Hid (I64 n0 ∧ I64 n1) := ⟨i0, i1⟩
  have HL : Hid (n ≤ R.length ∧ n ≤ S.length) := ⟨hR, hS⟩
  clear hj0 hB hW h3 bR bS i0 i1
  unfold mTail
  go_wp2
  go_loopw [9, 10] (fun v c wr => ∃ i : Nat, c = .int .i64 (i : Int) ∧ i ≤ n ∧ Hid (wr.ownsRow B 53 2 v i (tgF (tgN i)) ∧ Gr W wr)) (fun _ c _ => n - (intOf c).toNat)
  case atStart => exact ⟨0, rfl, Nat.zero_le _, ⟨rfl, .inl ⟨rfl, rfl⟩⟩, Gr.refl W⟩
  case round =>
    obtain ⟨i, rfl, hi, hRel⟩ := hrel
    by_cases hlt : i < n
    · obtain ⟨ax, cx, rfl⟩ := row_slice hRel.out.1
      have HO : Hid ((wr.alloc (.cells #[.int .i64 ((i : Int) + 1), .int .i64 ((i : Int) + 1)] 53)).ownsRow B 53 2 (.slice ax i cx) i (tgF (tgN i))) := owns_same hRel.out.1 fun g' q => Below.block (al1 (o := .cells #[.int .i64 ((i : Int) + 1), .int .i64 ((i : Int) + 1)] 53)) g' (owns_lt hRel.out.1 q)
      have HG : Hid (Gr W (wr.alloc (.cells #[.int .i64 ((i : Int) + 1), .int .i64 ((i : Int) + 1)] 53))) := hRel.out.2.trans al1
      have HNC : Hid (∀ (j : Nat) (u : Value), [Value.int .i64 ((i : Int) + 1), .int .i64 ((i : Int) + 1)][j]? = some u → (wr.alloc (.cells #[.int .i64 ((i : Int) + 1), .int .i64 ((i : Int) + 1)] 53)).cell? (Addr.add ⟨wr.heap.size, 0, none⟩ j) = some u) := fun j u hu => World.news_of_block (heap_alloc_new wr _) j u hu
      have hBw : B ≤ wr.heap.size := by rw [← HB.out]; exact hRel.out.2.size
      clear hRel
      go_wp2_with (first
        | (at_builtin; refine wpList_append_src rfl (.tmp 31) (.tmp 37) 51 rfl B 53 j0 _ 2 16 und51 F0.out hz0 hsz0 hby0 (by rfl) (by omega) _ _ _ HO.out rfl [.int .i64 ((i : Int) + 1), .int .i64 ((i : Int) + 1)] _ 1 1 rfl (by rfl) (fun _ => ⟨_, rfl, fun j u hu => HNC.out j u (by simpa using hu)⟩) (by intro v hv; simp at hv; subst hv; rfl) (by unfold maxLen; omega) (by omega) (by simp; omega) ?_; intro v3 w4 own3 gr3 _)
        | go_in)
      refine ⟨⟨i + 1, by simp, by omega, ?_⟩, by simp [intOf]; omega⟩
      rw [tgN_succ, tgF_app]
      exact ⟨own3, gr_grown2 HG.out HB.out HO.out gr3⟩
    · obtain rfl : i = n := by omega
      obtain ⟨ax, cx, rfl⟩ := row_slice hRel.out.1
      have hTg := tg_of_row (tgN_len i).symm hRel.out.1
      have hBw : B ≤ wr.heap.size := by rw [← HB.out]; exact hRel.out.2.size
      have hlo : Below B W wr := HB.out ▸ hRel.out.2
      have hNew : Hid (Calls Tryz.prog 15 #[.slice ax i cx, .int .i64 n0, .int .i64 0] wr fun e w' => ∃ b1, e = .returned (.pointer (some ⟨b1, 0, none⟩)) ∧ Hid (Below B W w' ∧ ∀ b, Calls Tryz.prog 15 #[.slice ax i cx, .int .i64 n1, .int .i64 0] w' fun e w2 => b = b1 → ∃ b2, e = .returned (.pointer (some ⟨b2, 0, none⟩)) ∧ Hid (MSt B n0 n1 W w2 b1 b2 (seats (tgN i)) (seats (tgN i))))) := mst_made hn hlo hBw hTg
      have H3b : Hid (∀ w', Below B W w' → w'.cell? ⟨g3, 0, none⟩ = some (.int .i64 n0) ∧ w'.cell? ⟨g3, 1, none⟩ = some (.int .i64 n1)) := fun w' hb => by
        have := H3.out.below hb (by rw [← HB.out]; exact H3.out.lt)
        exact ⟨this.at 0 _ rfl, this.at 1 _ rfl⟩
      have q0 := (H3b.out wr hlo).1
      clear hRel hTg hlo H3
      go_upto_region 14 with (first
        | (go_at_call 15; refine hNew.out.mono ?_; rintro e w5 ⟨b1, rfl, h5⟩; have q1 := (H3b.out w5 h5.out.1).2; clear hNew q0)
        | (go_at_call 15; refine (h5.out.2 b1).mono ?_; rintro e w6 h6; obtain ⟨b2, rfl, h7⟩ := h6 rfl; clear h6 h5 q1))
      obtain ⟨SS, hSS⟩ : ∃ SS, seats (tgN i) = SS := ⟨_, rfl⟩
      have HSS : Hid (seats (tgN i) = SS) := hSS
      have hWB : Hid (w.heap.size ≤ B) := by show w.heap.size ≤ B; rw [← HB.out]; exact HW.out.size
      have HC : Hid (∀ k rb sb W', R[k]? = some rb → S[k]? = some sb → Below B W W' → ∃ gr orr gs os, ra = some ⟨gr, orr, none⟩ ∧ wa = some ⟨gs, os, none⟩ ∧ W'.cell? ⟨gr, orr + k, none⟩ = some (.bool rb) ∧ W'.cell? ⟨gs, os + k, none⟩ = some (.bool sb)) := fun k rb sb W' h1 h2 hb => by
        obtain ⟨gr, orr, e1, e2⟩ := (BR.out.below (hb.mono hWB.out)).cell k rb h1
        obtain ⟨gs, os, f1, f2⟩ := (BS.out.below (hb.mono hWB.out)).cell k sb h2
        exact ⟨gr, orr, gs, os, e1, f1, e2, f2⟩
      have H7 : Hid (MSt B n0 n1 W w6 b1 b2 SS SS) := hSS ▸ h7.out
      clear h7 hSS BR BS hBw
      go_wp2
      go_loopw [13, 14] (fun bt c wr => ∃ k : Nat, c = .int .i64 (k : Int) ∧ k ≤ i ∧ bt = .bool ((List.range k).any fun j => rdB R j && rdB S j) ∧ Hid (MSt B n0 n1 W wr b1 b2 (upTo (rdB R) k SS) (upTo (rdB S) k SS))) (fun _ c _ => i - (intOf c).toNat)
      case atStart => exact ⟨0, rfl, Nat.zero_le _, rfl, H7⟩
      case round =>
        obtain ⟨k, rfl, hk, rfl, hF⟩ := hrel
        by_cases hkl : k < i
        · have hkR : k < R.length := Nat.lt_of_lt_of_le hkl HL.out.1
          have hkS : k < S.length := Nat.lt_of_lt_of_le hkl HL.out.2
          obtain ⟨rb, hrb⟩ : ∃ rb, R[k]? = some rb := ⟨_, List.getElem?_eq_getElem hkR⟩
          obtain ⟨sb, hsb⟩ : ∃ sb, S[k]? = some sb := ⟨_, List.getElem?_eq_getElem hkS⟩
          have hrd : rdB R k = rb := by unfold rdB; rw [hrb]; rfl
          have hsd : rdB S k = sb := by unfold rdB; rw [hsb]; rfl
          obtain ⟨gr, orr, gs, os, rfl, rfl, cR, cS⟩ := HC.out k rb sb wr hrb hsb hF.out.lo
          have HCk : Hid (∀ W', Below B W W' → W'.cell? ⟨gr, orr + k, none⟩ = some (.bool rb) ∧ W'.cell? ⟨gs, os + k, none⟩ = some (.bool sb)) := fun W' hb => by
            obtain ⟨gr', or', gs', os', e1, e2, e3, e4⟩ := HC.out k rb sb W' hrb hsb hb
            cases e1; cases e2
            exact ⟨e3, e4⟩
          have hx : I64 ((k : Int) + 1) := by unfold I64; omega
          have hrn' : k < rn := by omega
          have hsn' : k < wn := by omega
          have hE : Hid (((List.range (k + 1)).any fun j => rdB R j && rdB S j) = (((List.range k).any fun j => rdB R j && rdB S j) || (rb && sb))) := by
            show ((List.range (k + 1)).any fun j => rdB R j && rdB S j) = _
            rw [any_snoc, hrd, hsd]
          have hA : Hid (upTo (rdB R) (k + 1) SS = if rb then sayS 1 (upTo (rdB R) k SS) ((k : Int) + 1) else upTo (rdB R) k SS) := by
            show (if rdB R k then _ else _) = _
            rw [hrd]
          have hC : Hid (upTo (rdB S) (k + 1) SS = if sb then sayS 1 (upTo (rdB S) k SS) ((k : Int) + 1) else upTo (rdB S) k SS) := by
            show (if rdB S k then _ else _) = _
            rw [hsd]
          generalize upTo (rdB R) k SS = A at *
          generalize upTo (rdB S) k SS = C at *
          generalize ((List.range k).any fun j => rdB R j && rdB S j) = bb at *
          have Y1 : Hid (∀ W', MSt B n0 n1 W W' b1 b2 A C → Calls Tryz.prog 10 #[.pointer (some ⟨b1, 0, none⟩), .slice (some ⟨W'.heap.size, 0, none⟩) 1 1] (W'.alloc (.cells #[.int .i64 ((k : Int) + 1)] 3)) fun e w' => (∃ t, e = .returned (.bool t)) ∧ Hid (MSt B n0 n1 W w' b1 b2 (sayS 1 A ((k : Int) + 1)) C)) := fun W' h => h.yes1 _ hx
          have Y2 : Hid (∀ A' W', MSt B n0 n1 W W' b1 b2 A' C → Calls Tryz.prog 10 #[.pointer (some ⟨b2, 0, none⟩), .slice (some ⟨W'.heap.size, 0, none⟩) 1 1] (W'.alloc (.cells #[.int .i64 ((k : Int) + 1)] 3)) fun e w' => (∃ t, e = .returned (.bool t)) ∧ Hid (MSt B n0 n1 W w' b1 b2 A' (sayS 1 C ((k : Int) + 1)))) := fun A' W' h => h.yes2 _ hx
          clear hrb hsb hrd hsd hkR hkS hx
          cases bb <;> cases rb <;> cases sb <;> (
            go_wp2_with (first
              | (go_at_call 10; refine (Y1.out _ hF.out).mono ?_; rintro e w2 ⟨⟨t1, rfl⟩, hF⟩; have cR := (HCk.out w2 hF.out.lo).1; have cS := (HCk.out w2 hF.out.lo).2; clear Y1)
              | (go_at_call 10; refine (Y2.out _ _ hF.out).mono ?_; rintro e w3 ⟨⟨t2, rfl⟩, hF⟩; have cR := (HCk.out w3 hF.out.lo).1; have cS := (HCk.out w3 hF.out.lo).2; clear Y2))
            refine ⟨⟨k + 1, by simp, by omega, by rw [hE.out]; rfl, ?_⟩, by simp [intOf]; omega⟩
            rw [hA.out, hC.out]
            exact hF)
        · obtain rfl : k = i := by omega
          have hSt : ∀ t : Nat → Bool, upTo t k SS = stN k k t := fun t => by rw [← HSS.out, seats_tgN k t]; exact upTo_st k t k (Nat.le_refl _)
          rw [hSt, hSt] at hF
          have hGw : Hid (∀ W', Below B W W' → Gr w W') := fun W' hb => HW.out.trans (show Below W.heap.size W W' by rw [HB.out]; exact hb)
          obtain ⟨q0, q1⟩ := H3b.out wr hF.out.lo
          have hP : Hid (verd n0 0 (stN k k (rdB R)) = 1 → verd n1 0 (stN k k (rdB S)) = 1 → (k : Int) < n0 + n1 → ((List.range k).any fun j => rdB R j && rdB S j) = true) := fun a b c => meets_pure a b c
          have V1 : Hid (Calls Tryz.prog 9 #[.pointer (some ⟨b1, 0, none⟩)] wr fun e w' => e = .returned (.int .i64 (verd n0 0 (stN k k (rdB R)) : Int)) ∧ Hid (MSt B n0 n1 W w' b1 b2 (stN k k (rdB R)) (stN k k (rdB S)))) := hF.out.ver1
          have V2 : Hid (∀ W', MSt B n0 n1 W W' b1 b2 (stN k k (rdB R)) (stN k k (rdB S)) → Calls Tryz.prog 9 #[.pointer (some ⟨b2, 0, none⟩)] W' fun e w' => e = .returned (.int .i64 (verd n1 0 (stN k k (rdB S)) : Int)) ∧ Hid (MSt B n0 n1 W w' b1 b2 (stN k k (rdB R)) (stN k k (rdB S)))) := fun W' h => h.ver2
          have hG0 : Hid (Gr w wr) := hGw.out wr hF.out.lo
          have hp1 := verd_three n0 0 (stN k k (rdB R))
          have hp2 := verd_three n1 0 (stN k k (rdB S))
          generalize verd n0 0 (stN k k (rdB R)) = p1 at *
          generalize verd n1 0 (stN k k (rdB S)) = p2 at *
          generalize ((List.range k).any fun j => rdB R j && rdB S j) = bb at *
          clear hSt hF HC H7 HSS hlt
          obtain ⟨j0a, j0b⟩ := HI.out.1
          obtain ⟨j1a, j1b⟩ := HI.out.2
          by_cases c1 : n0 < 1
          · clear V1 V2 hP
            go_wp2
            go_ret
            exact ⟨rfl, hG0.out⟩
          by_cases c2 : n1 < 1
          · clear V1 V2 hP
            go_wp2
            go_ret
            exact ⟨rfl, hG0.out⟩
          by_cases c3 : 12 < n0
          · clear V1 V2 hP
            go_wp2
            go_ret
            exact ⟨rfl, hG0.out⟩
          by_cases c4 : 12 < n1
          · clear V1 V2 hP
            go_wp2
            go_ret
            exact ⟨rfl, hG0.out⟩
          by_cases c5 : n0 + n1 ≤ (k : Int)
          · clear V1 V2 hP
            go_wp2
            go_ret
            exact ⟨rfl, hG0.out⟩
          have hG1 : Hid (∀ W', MSt B n0 n1 W W' b1 b2 (stN k k (rdB R)) (stN k k (rdB S)) → Gr w W') := fun W' h => hGw.out W' h.lo
          rcases hp1 with rfl | rfl | rfl
          · clear V2 hP
            go_wp2_with (go_at_call 9; refine V1.out.mono ?_; rintro e w8 ⟨rfl, h8⟩; clear V1)
            go_ret
            exact ⟨rfl, hG1.out _ h8.out⟩
          · rcases hp2 with rfl | rfl | rfl
            · clear hP
              go_wp2_with (first
                | (go_at_call 9; refine V1.out.mono ?_; rintro e w8 ⟨rfl, h8⟩; clear V1)
                | (go_at_call 9; refine (V2.out _ h8.out).mono ?_; rintro e w9 ⟨rfl, h9⟩; clear V2))
              go_ret
              exact ⟨rfl, hG1.out _ h9.out⟩
            · have hb : bb = true := hP.out rfl rfl (by omega)
              subst hb
              clear hP
              go_wp2_with (first
                | (go_at_call 9; refine V1.out.mono ?_; rintro e w8 ⟨rfl, h8⟩; clear V1)
                | (go_at_call 9; refine (V2.out _ h8.out).mono ?_; rintro e w9 ⟨rfl, h9⟩; clear V2))
              go_ret
              exact ⟨rfl, hG1.out _ h9.out⟩
            · clear hP
              go_wp2_with (first
                | (go_at_call 9; refine V1.out.mono ?_; rintro e w8 ⟨rfl, h8⟩; clear V1)
                | (go_at_call 9; refine (V2.out _ h8.out).mono ?_; rintro e w9 ⟨rfl, h9⟩; clear V2))
              go_ret
              exact ⟨rfl, hG1.out _ h9.out⟩
          · clear V2 hP
            go_wp2_with (go_at_call 9; refine V1.out.mono ?_; rintro e w8 ⟨rfl, h8⟩; clear V1)
            go_ret
            exact ⟨rfl, hG1.out _ h8.out⟩
end Go.Proofs.YtmhpfncbbboamaaGreat
