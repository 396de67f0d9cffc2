/- The document's own Claim (11): regions and code by tools/gen_rclaim.py. -/
import Derived.Test.YtlliijodilnlgaaRgRcQ
namespace Go.Proofs.Ytlliijodilnlgaa
open Go.RowKit
def intsF (M : List Int) : Fact := ⟨fun v y => Ints y.heap.size y v M, fun h g => (h.below g).mono g.size⟩
def ownF (B n : Nat) (cs : List Value) : Fact := ⟨fun v y => y.ownsRow B 3 1 v n cs, fun h g => owns_gr h g⟩
theorem sa_callF1 {P : Program} {ops : Array Oper} {Q : Exit → Act → World → Prop} {D : List Nat} {T : Nat → Fact} {a0 : Act} {w : World} {o : Oper} (n : Nat) (u1 : Operand) (tys : Array TypeId) (d : Nat) (v1 : Value) (kf : Fact) (ho : o.op = .call { callee := .value (.func n), args := #[u1], argTypes := tys }) (hd : o.dst = some d) (hg : o.guard = none) (h1 : Has ops D T a0 o u1 (Fact.val v1))
    (he : ∀ args w, (callFunc n args).run P w = .ok (.enter n args) w) (hc : ∀ y, Gr w y → Calls P n #[v1] y fun e z => ∃ u, e = .returned u ∧ Gr y z ∧ kf.holds u z) (hT : T d = kf) : StepAt P ops D T a0 w Q o :=
  sa_call1 n u1 tys d _ ho hd hg h1 he (fun x1 y hy q1 => by rw [show x1 = v1 from q1, hT]; exact hc y hy)
def q11_0 : Array Oper := #[{ dst := some 2, op := Op.box 23 (Operand.tmp 0), type := 0, pos := "ref.go:132", after := #[], guard := none }, { dst := some 4, op := Op.alloc 23, type := 0, pos := "ref.go:132", after := #[], guard := none }]
def q11_1 : Array Oper := #[{ dst := some 12, op := Op.move (Operand.tmp 1), type := 24, pos := "ref.go:133", after := #[], guard := none }, { dst := some 13, op := Op.call { callee := Callee.value (Operand.func 24), args := #[Operand.tmp 12], argTypes := #[24] }, type := 24, pos := "ref.go:133", after := #[{ on := 0, ground := Ground.data }], guard := none }, { dst := some 5, op := Op.assign (Operand.tmp 13), type := 24, pos := "ref.go:133", after := #[{ on := 1, ground := Ground.data }, { on := 1, ground := Ground.chain }, { on := 0, ground := Ground.phase }, { on := 1, ground := Ground.phase }], guard := none }]
def q11_2 : Array Oper := #[{ dst := some 6, op := Op.alloc 23, type := 0, pos := "ref.go:134", after := #[], guard := none }]
def q11_3 : Array Oper := #[{ dst := some 14, op := Op.move (Operand.tmp 5), type := 24, pos := "ref.go:135", after := #[], guard := none }, { dst := some 15, op := Op.call { callee := Callee.builtin Builtin.len, args := #[Operand.tmp 14], argTypes := #[24] }, type := 3, pos := "ref.go:135", after := #[{ on := 0, ground := Ground.data }], guard := none }, { dst := some 16, op := Op.binOp BinOp.eql 3 (Operand.tmp 15) (Operand.const (Value.int IntKind.i64 0)) 3, type := 4, pos := "ref.go:135", after := #[{ on := 1, ground := Ground.data }], guard := none }]
def q11_4 : Array Oper := #[{ dst := some 17, op := Op.load 23 (Operand.tmp 6), type := 23, pos := "ref.go:136", after := #[], guard := none }, { dst := none, op := Op.store 23 (Operand.tmp 4) (Operand.tmp 17), type := 0, pos := "ref.go:136", after := #[{ on := 0, ground := Ground.data }, { on := 0, ground := Ground.phase }], guard := none }]
def q11_5 : Array Oper := #[{ dst := some 18, op := Op.load 23 (Operand.tmp 2), type := 23, pos := "ref.go:138", after := #[], guard := none }, { dst := some 19, op := Op.move (Operand.tmp 5), type := 24, pos := "ref.go:138", after := #[], guard := none }, { dst := some 20, op := Op.call { callee := Callee.value (Operand.func 25), args := #[Operand.tmp 18, Operand.tmp 19], argTypes := #[23, 24] }, type := 24, pos := "ref.go:138", after := #[{ on := 0, ground := Ground.data }, { on := 1, ground := Ground.data }], guard := none }, { dst := some 7, op := Op.assign (Operand.tmp 20), type := 24, pos := "ref.go:138", after := #[{ on := 2, ground := Ground.data }, { on := 2, ground := Ground.chain }, { on := 0, ground := Ground.phase }, { on := 1, ground := Ground.phase }, { on := 2, ground := Ground.phase }], guard := none }]
def q11_6 : Array Oper := #[{ dst := some 8, op := Op.assign (Operand.const (Value.int IntKind.i64 0)), type := 3, pos := "ref.go:139", after := #[], guard := none }]
def q11_7 : Array Oper := #[{ dst := some 21, op := Op.move (Operand.tmp 8), type := 3, pos := "ref.go:139", after := #[], guard := none }, { dst := some 22, op := Op.binOp BinOp.lss 3 (Operand.tmp 21) (Operand.const (Value.int IntKind.i64 8)) 3, type := 4, pos := "ref.go:139", after := #[{ on := 0, ground := Ground.data }], guard := none }]
def q11_8 : Array Oper := #[{ dst := some 23, op := Op.move (Operand.tmp 8), type := 3, pos := "ref.go:139", after := #[], guard := none }, { dst := some 24, op := Op.binOp BinOp.add 3 (Operand.tmp 23) (Operand.const (Value.int IntKind.i64 1)) 3, type := 3, pos := "ref.go:139", after := #[{ on := 0, ground := Ground.data }], guard := none }, { dst := some 8, op := Op.assign (Operand.tmp 24), type := 3, pos := "ref.go:139", after := #[{ on := 1, ground := Ground.data }, { on := 0, ground := Ground.phase }, { on := 1, ground := Ground.phase }], guard := none }]
def q11_9 : Array Oper := #[{ dst := some 9, op := Op.assign (Operand.const (Value.int IntKind.i64 0)), type := 3, pos := "ref.go:140", after := #[], guard := none }]
def q11_10 : Array Oper := #[{ dst := some 25, op := Op.move (Operand.tmp 9), type := 3, pos := "ref.go:140", after := #[], guard := none }, { dst := some 26, op := Op.move (Operand.tmp 5), type := 24, pos := "ref.go:140", after := #[], guard := none }, { dst := some 27, op := Op.call { callee := Callee.builtin Builtin.len, args := #[Operand.tmp 26], argTypes := #[24] }, type := 3, pos := "ref.go:140", after := #[{ on := 1, ground := Ground.data }], guard := none }, { dst := some 28, op := Op.binOp BinOp.lss 3 (Operand.tmp 25) (Operand.tmp 27) 3, type := 4, pos := "ref.go:140", after := #[{ on := 0, ground := Ground.data }, { on := 2, ground := Ground.data }], guard := none }]
def q11_11 : Array Oper := #[{ dst := some 29, op := Op.move (Operand.tmp 9), type := 3, pos := "ref.go:140", after := #[], guard := none }, { dst := some 30, op := Op.binOp BinOp.add 3 (Operand.tmp 29) (Operand.const (Value.int IntKind.i64 1)) 3, type := 3, pos := "ref.go:140", after := #[{ on := 0, ground := Ground.data }], guard := none }, { dst := some 9, op := Op.assign (Operand.tmp 30), type := 3, pos := "ref.go:140", after := #[{ on := 1, ground := Ground.data }, { on := 0, ground := Ground.phase }, { on := 1, ground := Ground.phase }], guard := none }]
def q11_12 : Array Oper := #[{ dst := some 31, op := Op.move (Operand.tmp 8), type := 3, pos := "ref.go:141", after := #[], guard := none }, { dst := some 32, op := Op.indexAddr 23 (Operand.tmp 2) (Operand.tmp 31), type := 0, pos := "ref.go:141", after := #[{ on := 0, ground := Ground.data }], guard := none }, { dst := some 33, op := Op.load 3 (Operand.tmp 32), type := 3, pos := "ref.go:141", after := #[{ on := 1, ground := Ground.data }], guard := none }, { dst := some 34, op := Op.move (Operand.tmp 5), type := 24, pos := "ref.go:141", after := #[], guard := none }, { dst := some 35, op := Op.move (Operand.tmp 9), type := 3, pos := "ref.go:141", after := #[], guard := none }, { dst := some 36, op := Op.indexAddr 24 (Operand.tmp 34) (Operand.tmp 35), type := 0, pos := "ref.go:141", after := #[{ on := 3, ground := Ground.data }, { on := 4, ground := Ground.data }], guard := none }, { dst := some 37, op := Op.load 3 (Operand.tmp 36), type := 3, pos := "ref.go:141", after := #[{ on := 5, ground := Ground.data }], guard := none }, { dst := some 38, op := Op.binOp BinOp.eql 3 (Operand.tmp 33) (Operand.tmp 37) 3, type := 4, pos := "ref.go:141", after := #[{ on := 2, ground := Ground.data }, { on := 6, ground := Ground.data }], guard := none }, { dst := some 39, op := Op.move (Operand.tmp 38), type := 4, pos := "ref.go:141", after := #[{ on := 7, ground := Ground.data }], guard := none }, { dst := some 40, op := Op.move (Operand.tmp 7), type := 24, pos := "ref.go:141", after := #[{ on := 8, ground := Ground.guard }], guard := some (8, true) }, { dst := some 41, op := Op.move (Operand.tmp 9), type := 3, pos := "ref.go:141", after := #[{ on := 8, ground := Ground.guard }], guard := some (8, true) }, { dst := some 42, op := Op.indexAddr 24 (Operand.tmp 40) (Operand.tmp 41), type := 0, pos := "ref.go:141", after := #[{ on := 9, ground := Ground.data }, { on := 10, ground := Ground.data }, { on := 8, ground := Ground.guard }], guard := some (8, true) }, { dst := some 43, op := Op.load 3 (Operand.tmp 42), type := 3, pos := "ref.go:141", after := #[{ on := 11, ground := Ground.data }, { on := 8, ground := Ground.guard }], guard := some (8, true) }, { dst := some 44, op := Op.binOp BinOp.gtr 3 (Operand.tmp 43) (Operand.const (Value.int IntKind.i64 0)) 3, type := 4, pos := "ref.go:141", after := #[{ on := 12, ground := Ground.data }, { on := 8, ground := Ground.guard }], guard := some (8, true) }, { dst := some 45, op := Op.pick (Operand.tmp 39) (Operand.tmp 44) (Operand.const (Value.bool false)), type := 4, pos := "ref.go:141", after := #[{ on := 8, ground := Ground.data }, { on := 13, ground := Ground.data }], guard := none }]
def q11_13 : Array Oper := #[{ dst := some 46, op := Op.move (Operand.tmp 8), type := 3, pos := "ref.go:142", after := #[], guard := none }, { dst := some 47, op := Op.move (Operand.tmp 5), type := 24, pos := "ref.go:142", after := #[], guard := none }, { dst := some 48, op := Op.move (Operand.tmp 9), type := 3, pos := "ref.go:142", after := #[], guard := none }, { dst := some 49, op := Op.indexAddr 24 (Operand.tmp 47) (Operand.tmp 48), type := 0, pos := "ref.go:142", after := #[{ on := 1, ground := Ground.data }, { on := 2, ground := Ground.data }], guard := none }, { dst := some 50, op := Op.load 3 (Operand.tmp 49), type := 3, pos := "ref.go:142", after := #[{ on := 3, ground := Ground.data }], guard := none }, { dst := some 51, op := Op.indexAddr 23 (Operand.tmp 6) (Operand.tmp 46), type := 0, pos := "ref.go:142", after := #[{ on := 0, ground := Ground.data }, { on := 0, ground := Ground.phase }, { on := 1, ground := Ground.phase }, { on := 2, ground := Ground.phase }, { on := 3, ground := Ground.phase }, { on := 4, ground := Ground.phase }], guard := none }, { dst := none, op := Op.store 3 (Operand.tmp 51) (Operand.tmp 50), type := 0, pos := "ref.go:142", after := #[{ on := 5, ground := Ground.data }, { on := 4, ground := Ground.data }, { on := 0, ground := Ground.phase }, { on := 1, ground := Ground.phase }, { on := 2, ground := Ground.phase }, { on := 3, ground := Ground.phase }, { on := 4, ground := Ground.phase }], guard := none }]
def q11_14 : Array Oper := #[{ dst := some 52, op := Op.move (Operand.tmp 7), type := 24, pos := "ref.go:143", after := #[], guard := none }, { dst := some 53, op := Op.move (Operand.tmp 9), type := 3, pos := "ref.go:143", after := #[], guard := none }, { dst := some 54, op := Op.indexAddr 24 (Operand.tmp 52) (Operand.tmp 53), type := 0, pos := "ref.go:143", after := #[{ on := 0, ground := Ground.data }, { on := 1, ground := Ground.data }], guard := none }, { dst := some 55, op := Op.load 3 (Operand.tmp 54), type := 3, pos := "ref.go:143", after := #[{ on := 2, ground := Ground.data }], guard := none }, { dst := some 56, op := Op.binOp BinOp.sub 3 (Operand.tmp 55) (Operand.const (Value.int IntKind.i64 1)) 3, type := 3, pos := "ref.go:143", after := #[{ on := 3, ground := Ground.data }], guard := none }, { dst := some 57, op := Op.indexAddr 24 (Operand.tmp 52) (Operand.tmp 53), type := 0, pos := "ref.go:143", after := #[{ on := 0, ground := Ground.data }, { on := 1, ground := Ground.data }, { on := 0, ground := Ground.phase }, { on := 1, ground := Ground.phase }, { on := 2, ground := Ground.phase }, { on := 3, ground := Ground.phase }, { on := 4, ground := Ground.phase }], guard := none }, { dst := none, op := Op.store 3 (Operand.tmp 57) (Operand.tmp 56), type := 0, pos := "ref.go:143", after := #[{ on := 5, ground := Ground.data }, { on := 4, ground := Ground.data }, { on := 0, ground := Ground.phase }, { on := 1, ground := Ground.phase }, { on := 2, ground := Ground.phase }, { on := 3, ground := Ground.phase }, { on := 4, ground := Ground.phase }], guard := none }]
def q11_15 : Array Oper := #[{ dst := some 10, op := Op.assign (Operand.const (Value.int IntKind.i64 0)), type := 3, pos := "ref.go:147", after := #[], guard := none }]
def q11_16 : Array Oper := #[{ dst := some 58, op := Op.move (Operand.tmp 10), type := 3, pos := "ref.go:147", after := #[], guard := none }, { dst := some 59, op := Op.binOp BinOp.lss 3 (Operand.tmp 58) (Operand.const (Value.int IntKind.i64 8)) 3, type := 4, pos := "ref.go:147", after := #[{ on := 0, ground := Ground.data }], guard := none }]
def q11_17 : Array Oper := #[{ dst := some 60, op := Op.move (Operand.tmp 10), type := 3, pos := "ref.go:147", after := #[], guard := none }, { dst := some 61, op := Op.binOp BinOp.add 3 (Operand.tmp 60) (Operand.const (Value.int IntKind.i64 1)) 3, type := 3, pos := "ref.go:147", after := #[{ on := 0, ground := Ground.data }], guard := none }, { dst := some 10, op := Op.assign (Operand.tmp 61), type := 3, pos := "ref.go:147", after := #[{ on := 1, ground := Ground.data }, { on := 0, ground := Ground.phase }, { on := 1, ground := Ground.phase }], guard := none }]
def q11_18 : Array Oper := #[{ dst := some 11, op := Op.assign (Operand.const (Value.int IntKind.i64 0)), type := 3, pos := "ref.go:148", after := #[], guard := none }]
def q11_19 : Array Oper := #[{ dst := some 62, op := Op.move (Operand.tmp 11), type := 3, pos := "ref.go:148", after := #[], guard := none }, { dst := some 63, op := Op.move (Operand.tmp 5), type := 24, pos := "ref.go:148", after := #[], guard := none }, { dst := some 64, op := Op.call { callee := Callee.builtin Builtin.len, args := #[Operand.tmp 63], argTypes := #[24] }, type := 3, pos := "ref.go:148", after := #[{ on := 1, ground := Ground.data }], guard := none }, { dst := some 65, op := Op.binOp BinOp.lss 3 (Operand.tmp 62) (Operand.tmp 64) 3, type := 4, pos := "ref.go:148", after := #[{ on := 0, ground := Ground.data }, { on := 2, ground := Ground.data }], guard := none }, { dst := some 66, op := Op.move (Operand.tmp 65), type := 4, pos := "ref.go:148", after := #[{ on := 3, ground := Ground.data }], guard := none }, { dst := some 67, op := Op.move (Operand.tmp 10), type := 3, pos := "ref.go:148", after := #[{ on := 4, ground := Ground.guard }], guard := some (4, true) }, { dst := some 68, op := Op.indexAddr 23 (Operand.tmp 6) (Operand.tmp 67), type := 0, pos := "ref.go:148", after := #[{ on := 5, ground := Ground.data }, { on := 4, ground := Ground.guard }], guard := some (4, true) }, { dst := some 69, op := Op.load 3 (Operand.tmp 68), type := 3, pos := "ref.go:148", after := #[{ on := 6, ground := Ground.data }, { on := 4, ground := Ground.guard }], guard := some (4, true) }, { dst := some 70, op := Op.binOp BinOp.eql 3 (Operand.tmp 69) (Operand.const (Value.int IntKind.i64 0)) 3, type := 4, pos := "ref.go:148", after := #[{ on := 7, ground := Ground.data }, { on := 4, ground := Ground.guard }], guard := some (4, true) }, { dst := some 71, op := Op.pick (Operand.tmp 66) (Operand.tmp 70) (Operand.const (Value.bool false)), type := 4, pos := "ref.go:148", after := #[{ on := 4, ground := Ground.data }, { on := 8, ground := Ground.data }], guard := none }]
def q11_20 : Array Oper := #[{ dst := some 72, op := Op.move (Operand.tmp 11), type := 3, pos := "ref.go:148", after := #[], guard := none }, { dst := some 73, op := Op.binOp BinOp.add 3 (Operand.tmp 72) (Operand.const (Value.int IntKind.i64 1)) 3, type := 3, pos := "ref.go:148", after := #[{ on := 0, ground := Ground.data }], guard := none }, { dst := some 11, op := Op.assign (Operand.tmp 73), type := 3, pos := "ref.go:148", after := #[{ on := 1, ground := Ground.data }, { on := 0, ground := Ground.phase }, { on := 1, ground := Ground.phase }], guard := none }]
def q11_21 : Array Oper := #[{ dst := some 74, op := Op.move (Operand.tmp 7), type := 24, pos := "ref.go:149", after := #[], guard := none }, { dst := some 75, op := Op.move (Operand.tmp 11), type := 3, pos := "ref.go:149", after := #[], guard := none }, { dst := some 76, op := Op.indexAddr 24 (Operand.tmp 74) (Operand.tmp 75), type := 0, pos := "ref.go:149", after := #[{ on := 0, ground := Ground.data }, { on := 1, ground := Ground.data }], guard := none }, { dst := some 77, op := Op.load 3 (Operand.tmp 76), type := 3, pos := "ref.go:149", after := #[{ on := 2, ground := Ground.data }], guard := none }, { dst := some 78, op := Op.binOp BinOp.gtr 3 (Operand.tmp 77) (Operand.const (Value.int IntKind.i64 0)) 3, type := 4, pos := "ref.go:149", after := #[{ on := 3, ground := Ground.data }], guard := none }]
def q11_22 : Array Oper := #[{ dst := some 79, op := Op.move (Operand.tmp 10), type := 3, pos := "ref.go:150", after := #[], guard := none }, { dst := some 80, op := Op.move (Operand.tmp 5), type := 24, pos := "ref.go:150", after := #[], guard := none }, { dst := some 81, op := Op.move (Operand.tmp 11), type := 3, pos := "ref.go:150", after := #[], guard := none }, { dst := some 82, op := Op.indexAddr 24 (Operand.tmp 80) (Operand.tmp 81), type := 0, pos := "ref.go:150", after := #[{ on := 1, ground := Ground.data }, { on := 2, ground := Ground.data }], guard := none }, { dst := some 83, op := Op.load 3 (Operand.tmp 82), type := 3, pos := "ref.go:150", after := #[{ on := 3, ground := Ground.data }], guard := none }, { dst := some 84, op := Op.indexAddr 23 (Operand.tmp 6) (Operand.tmp 79), type := 0, pos := "ref.go:150", after := #[{ on := 0, ground := Ground.data }, { on := 0, ground := Ground.phase }, { on := 1, ground := Ground.phase }, { on := 2, ground := Ground.phase }, { on := 3, ground := Ground.phase }, { on := 4, ground := Ground.phase }], guard := none }, { dst := none, op := Op.store 3 (Operand.tmp 84) (Operand.tmp 83), type := 0, pos := "ref.go:150", after := #[{ on := 5, ground := Ground.data }, { on := 4, ground := Ground.data }, { on := 0, ground := Ground.phase }, { on := 1, ground := Ground.phase }, { on := 2, ground := Ground.phase }, { on := 3, ground := Ground.phase }, { on := 4, ground := Ground.phase }], guard := none }]
def q11_23 : Array Oper := #[{ dst := some 85, op := Op.move (Operand.tmp 7), type := 24, pos := "ref.go:151", after := #[], guard := none }, { dst := some 86, op := Op.move (Operand.tmp 11), type := 3, pos := "ref.go:151", after := #[], guard := none }, { dst := some 87, op := Op.indexAddr 24 (Operand.tmp 85) (Operand.tmp 86), type := 0, pos := "ref.go:151", after := #[{ on := 0, ground := Ground.data }, { on := 1, ground := Ground.data }], guard := none }, { dst := some 88, op := Op.load 3 (Operand.tmp 87), type := 3, pos := "ref.go:151", after := #[{ on := 2, ground := Ground.data }], guard := none }, { dst := some 89, op := Op.binOp BinOp.sub 3 (Operand.tmp 88) (Operand.const (Value.int IntKind.i64 1)) 3, type := 3, pos := "ref.go:151", after := #[{ on := 3, ground := Ground.data }], guard := none }, { dst := some 90, op := Op.indexAddr 24 (Operand.tmp 85) (Operand.tmp 86), type := 0, pos := "ref.go:151", after := #[{ on := 0, ground := Ground.data }, { on := 1, ground := Ground.data }, { on := 0, ground := Ground.phase }, { on := 1, ground := Ground.phase }, { on := 2, ground := Ground.phase }, { on := 3, ground := Ground.phase }, { on := 4, ground := Ground.phase }], guard := none }, { dst := none, op := Op.store 3 (Operand.tmp 90) (Operand.tmp 89), type := 0, pos := "ref.go:151", after := #[{ on := 5, ground := Ground.data }, { on := 4, ground := Ground.data }, { on := 0, ground := Ground.phase }, { on := 1, ground := Ground.phase }, { on := 2, ground := Ground.phase }, { on := 3, ground := Ground.phase }, { on := 4, ground := Ground.phase }], guard := none }]
def q11_24 : Array Oper := #[{ dst := some 91, op := Op.load 23 (Operand.tmp 6), type := 23, pos := "ref.go:155", after := #[], guard := none }, { dst := none, op := Op.store 23 (Operand.tmp 4) (Operand.tmp 91), type := 0, pos := "ref.go:155", after := #[{ on := 0, ground := Ground.data }, { on := 0, ground := Ground.phase }], guard := none }]
theorem r11_0 {Q : Exit → Act → World → Prop} {a0 : Act} {w : World} (hz : a0.tmps.size = 92) (b : Nat) (hb : w.heap.size = b) (ol : List Int) (e0 : a0.eval (.tmp 0) = .agg (intV ol).toArray) (hend : ∀ ac w1 wz, After [4, 2] a0 ac → ac.eval (.tmp 2) = .pointer (some ⟨b, 0, none⟩) → ac.eval (.tmp 4) = .pointer (some ⟨b + 1, 0, none⟩) → Anew b w w1 (intV ol) 23 → Anew (b + 1) w1 wz (intV zl) 23 → Q .normal ac wz) : (Code.region 0 q11_0 false).wp Try.prog Q a0 w := by
  refine wp_region_list ?_
  refine wpList_box_new 2 rfl rfl 23 (.tmp 0) rfl b hb _ e0 ?_
  intro w1 h1
  refine wpList_alloc_new 4 rfl rfl 23 rfl (b + 1) h1.size _ zero23 ?_
  intro w2 h2
  refine wl_end (hend _ w1 w2 (((After.self a0).put 2 _).put 4 _) ?_ ?_ h1 h2)
  · exact (ev_put (by rw [put_size, hz]; decide)).trans ((if_neg (by decide)).trans ((ev_put (by rw [hz]; decide)).trans (if_pos rfl)))
  · exact (ev_put (by rw [put_size, hz]; decide)).trans (if_pos rfl)
set_option maxRecDepth 100000 in
theorem r11_1 {Q : Exit → Act → World → Prop} {a0 : Act} {w : World} (hz : a0.tmps.size = 92) (v1 : Value) (M : List Int) (hC : ∀ y, Gr w y → Calls Try.prog 24 #[v1] y fun e z => ∃ u, e = .returned u ∧ Gr y z ∧ (intsF M).holds u z) (e1 : a0.eval (.tmp 1) = v1) (hend : ∀ ac wz, After [12, 13, 5] a0 ac → (intsF M).holds (ac.eval (.tmp 5)) wz → Gr w wz → Q .normal ac wz) : (Code.region 1 q11_1 false).wp Try.prog Q a0 w := by
  refine seq_by (by kernel_rfl) 3 (by decide) [12, 13, 5] (fun | 12 => .val (v1) | 13 => intsF M | 5 => intsF M | _ => .any) (by kernel_rfl) (List.forall_mem_cons.2 ⟨?s0, List.forall_mem_cons.2 ⟨?s1, List.forall_mem_cons.2 ⟨?s2, fun o ho => nomatch ho⟩⟩⟩) ?e
  case s0 => exact sa_move (.tmp 1) 12 (.val (v1)) (.inl rfl) rfl rfl (.old 1 _ (by decide) e1) rfl
  case s1 => exact sa_callF1 24 (.tmp 12) _ 13 (v1) (intsF M) rfl rfl rfl (.new 12 (by kernel_rfl) (by rw [hz]; decide)) (enters_of Try.func24 (by kernel_rfl) rfl) hC rfl
  case s2 => exact sa_move (.tmp 13) 5 (intsF M) (.inr rfl) rfl rfl (.new 13 (by kernel_rfl) (by rw [hz]; decide)) rfl
  case e =>
  intro ac wz hA hgr hv
  exact wl_end (hend ac wz hA (hv 5 (by kernel_rfl) (by rw [hz]; decide)) hgr)
theorem r11_2 {Q : Exit → Act → World → Prop} {a0 : Act} {w : World} (hz : a0.tmps.size = 92) (b : Nat) (hb : w.heap.size = b) (hend : ∀ ac wz, After [6] a0 ac → ac.eval (.tmp 6) = .pointer (some ⟨b, 0, none⟩) → Anew b w wz (intV zl) 23 → Q .normal ac wz) : (Code.region 2 q11_2 false).wp Try.prog Q a0 w := by
  refine wp_region_list ?_
  refine wpList_alloc_new 6 rfl rfl 23 rfl b hb _ zero23 ?_
  intro w1 h1
  exact wl_end (hend _ w1 ((After.self a0).put 6 _) ((ev_put (by rw [hz]; decide)).trans (if_pos rfl)) h1)
set_option maxRecDepth 100000 in
theorem r11_3 {Q : Exit → Act → World → Prop} {a0 : Act} {w : World} (hz : a0.tmps.size = 92) (n cap : Nat) (ad : Option Addr) (e5 : a0.eval (.tmp 5) = .slice ad n cap) (hend : ∀ ac wz, After [14, 15, 16] a0 ac → ac.eval (.tmp 16) = .bool (decide ((n : Int) = 0)) → Gr w wz → Q .normal ac wz) : (Code.region 3 q11_3 false).wp Try.prog Q a0 w := by
  refine seq_by (by kernel_rfl) 3 (by decide) [14, 15, 16] (fun | 14 => .val (.slice ad n cap) | 15 => .val (.int .i64 (n : Int)) | 16 => .val (.bool (decide ((n : Int) = 0))) | _ => .any) (by kernel_rfl) (List.forall_mem_cons.2 ⟨?s0, List.forall_mem_cons.2 ⟨?s1, List.forall_mem_cons.2 ⟨?s2, fun o ho => nomatch ho⟩⟩⟩) ?e
  case s0 => exact sa_move (.tmp 5) 14 (.val (.slice ad n cap)) (.inl rfl) rfl rfl (.old 5 _ (by decide) e5) rfl
  case s1 => exact sa_len 24 (.tmp 14) 15 (.slice ad n cap) (.int .i64 (n : Int)) rfl rfl rfl (.new 14 (by kernel_rfl) (by rw [hz]; decide)) (by intro w; kernel_rfl) rfl
  case s2 => exact sa_bin .eql 3 (.tmp 15) (.const _) 3 16 (.int .i64 (n : Int)) (.int .i64 0) (.bool (decide ((n : Int) = 0))) rfl rfl rfl (.new 15 (by kernel_rfl) (by rw [hz]; decide)) (.const _) guard_int (bin_eql rfl) rfl
  case e =>
  intro ac wz hA hgr hv
  exact wl_end (hend ac wz hA (hv 16 (by kernel_rfl) (by rw [hz]; decide)) hgr)
set_option maxRecDepth 100000 in
theorem r11_4 {Q : Exit → Act → World → Prop} {a0 : Act} {w : World} (hz : a0.tmps.size = 92) (b4 b6 : Nat) (ol old : List Int) (hol : (intV ol).length = 8) (hold : (intV old).length = 8) (hHol : Holds w b6 (intV ol) 23) (hH4 : Holds w b4 (intV old) 23) (e6 : a0.eval (.tmp 6) = .pointer (some ⟨b6, 0, none⟩)) (e4 : a0.eval (.tmp 4) = .pointer (some ⟨b4, 0, none⟩)) (hend : ∀ ac wz, After [17] a0 ac → Holds wz b4 (intV ol) 23 → Below b4 w wz → Q .normal ac wz) : (Code.region 4 q11_4 false).wp Try.prog Q a0 w := by
  refine seq_by (by kernel_rfl) 1 (by decide) [17] (fun | 17 => .val (.agg (intV ol).toArray) | _ => .any) (by kernel_rfl) (List.forall_mem_cons.2 ⟨?s0, fun o ho => nomatch ho⟩) ?e
  case s0 => exact sa_row 23 (.tmp 6) 17 b6 (0) 8 _ (intV ol) rfl rfl rfl Try.underlying23 rfl siz23 hol (.old 6 _ (by decide) e6) (fun y hy => range_of (hHol.below hy hHol.lt)) rfl
  case e =>
  intro ac wz hA hgr hv
  have o17 : ac.eval (.tmp 17) = .agg (intV ol).toArray := hv 17 (by kernel_rfl) (by rw [hz]; decide)
  have o4 : ac.eval (.tmp 4) = .pointer (some ⟨b4, 0, none⟩) := (hA.old 4 (by decide)).trans e4
  refine wpList_store_all rfl 23 (.tmp 4) (.tmp 17) rfl b4 o4 (intV ol) o17 23 _ (hH4.below hgr hH4.lt) (by rw [siz23, hol]) (by rw [hol, hold]) (intV_one _) ?_
  intro w3 h3
  exact wl_end (hend _ w3 hA h3.holds ((hgr.mono (Nat.le_of_lt hH4.lt)).trans (h3.below (Nat.le_refl _))))
set_option maxRecDepth 100000 in
theorem r11_24 {Q : Exit → Act → World → Prop} {a0 : Act} {w : World} (hz : a0.tmps.size = 92) (b4 b6 : Nat) (ol old : List Int) (hol : (intV ol).length = 8) (hold : (intV old).length = 8) (hHol : Holds w b6 (intV ol) 23) (hH4 : Holds w b4 (intV old) 23) (e6 : a0.eval (.tmp 6) = .pointer (some ⟨b6, 0, none⟩)) (e4 : a0.eval (.tmp 4) = .pointer (some ⟨b4, 0, none⟩)) (hend : ∀ ac wz, After [91] a0 ac → Holds wz b4 (intV ol) 23 → Below b4 w wz → Q .normal ac wz) : (Code.region 24 q11_24 false).wp Try.prog Q a0 w := by
  refine seq_by (by kernel_rfl) 1 (by decide) [91] (fun | 91 => .val (.agg (intV ol).toArray) | _ => .any) (by kernel_rfl) (List.forall_mem_cons.2 ⟨?s0, fun o ho => nomatch ho⟩) ?e
  case s0 => exact sa_row 23 (.tmp 6) 91 b6 (0) 8 _ (intV ol) rfl rfl rfl Try.underlying23 rfl siz23 hol (.old 6 _ (by decide) e6) (fun y hy => range_of (hHol.below hy hHol.lt)) rfl
  case e =>
  intro ac wz hA hgr hv
  have o91 : ac.eval (.tmp 91) = .agg (intV ol).toArray := hv 91 (by kernel_rfl) (by rw [hz]; decide)
  have o4 : ac.eval (.tmp 4) = .pointer (some ⟨b4, 0, none⟩) := (hA.old 4 (by decide)).trans e4
  refine wpList_store_all rfl 23 (.tmp 4) (.tmp 91) rfl b4 o4 (intV ol) o91 23 _ (hH4.below hgr hH4.lt) (by rw [siz23, hol]) (by rw [hol, hold]) (intV_one _) ?_
  intro w3 h3
  exact wl_end (hend _ w3 hA h3.holds ((hgr.mono (Nat.le_of_lt hH4.lt)).trans (h3.below (Nat.le_refl _))))
set_option maxRecDepth 100000 in
theorem r11_5 {Q : Exit → Act → World → Prop} {a0 : Act} {w : World} (hz : a0.tmps.size = 92) (b : Nat) (v5 : Value) (n : Nat) (cs : List Value) (ol : List Int) (hol : (intV ol).length = 8) (hHol : Holds w b (intV ol) 23) (hC : ∀ y, Gr w y → Calls Try.prog 25 #[.agg (intV ol).toArray, v5] y fun e z => ∃ u, e = .returned u ∧ Gr y z ∧ (ownF w.heap.size n cs).holds u z) (e2 : a0.eval (.tmp 2) = .pointer (some ⟨b, 0, none⟩)) (e5 : a0.eval (.tmp 5) = v5) (hend : ∀ ac wz, After [18, 19, 20, 7] a0 ac → (ownF w.heap.size n cs).holds (ac.eval (.tmp 7)) wz → Gr w wz → Q .normal ac wz) : (Code.region 5 q11_5 false).wp Try.prog Q a0 w := by
  refine seq_by (by kernel_rfl) 4 (by decide) [18, 19, 20, 7] (fun | 18 => .val (.agg (intV ol).toArray) | 19 => .val (v5) | 20 => ownF w.heap.size n cs | 7 => ownF w.heap.size n cs | _ => .any) (by kernel_rfl) (List.forall_mem_cons.2 ⟨?s0, List.forall_mem_cons.2 ⟨?s1, List.forall_mem_cons.2 ⟨?s2, List.forall_mem_cons.2 ⟨?s3, fun o ho => nomatch ho⟩⟩⟩⟩) ?e
  case s0 => exact sa_row 23 (.tmp 2) 18 b (0) 8 _ (intV ol) rfl rfl rfl Try.underlying23 rfl siz23 hol (.old 2 _ (by decide) e2) (fun y hy => range_of (hHol.below hy hHol.lt)) rfl
  case s1 => exact sa_move (.tmp 5) 19 (.val (v5)) (.inl rfl) rfl rfl (.old 5 _ (by decide) e5) rfl
  case s2 => exact sa_callF2 25 (.tmp 18) (.tmp 19) _ 20 (.agg (intV ol).toArray) (v5) (ownF w.heap.size n cs) rfl rfl rfl (.new 18 (by kernel_rfl) (by rw [hz]; decide)) (.new 19 (by kernel_rfl) (by rw [hz]; decide)) (enters_of Try.func25 (by kernel_rfl) rfl) hC rfl
  case s3 => exact sa_move (.tmp 20) 7 (ownF w.heap.size n cs) (.inr rfl) rfl rfl (.new 20 (by kernel_rfl) (by rw [hz]; decide)) rfl
  case e =>
  intro ac wz hA hgr hv
  exact wl_end (hend ac wz hA (hv 7 (by kernel_rfl) (by rw [hz]; decide)) hgr)
set_option maxRecDepth 100000 in
theorem r11_6 {Q : Exit → Act → World → Prop} {a0 : Act} {w : World} (hz : a0.tmps.size = 92)   (hend : ∀ ac wz, After [8] a0 ac → ac.eval (.tmp 8) = .int .i64 0 → Gr w wz → Q .normal ac wz) : (Code.region 6 q11_6 false).wp Try.prog Q a0 w := by
  refine seq_by (by kernel_rfl) 1 (by decide) [8] (fun | 8 => .val (.int .i64 0) | _ => .any) (by kernel_rfl) (List.forall_mem_cons.2 ⟨?s0, fun o ho => nomatch ho⟩) ?e
  case s0 => exact sa_move (.const _) 8 (.val (.int .i64 0)) (.inr rfl) rfl rfl (.const _) rfl
  case e =>
  intro ac wz hA hgr hv
  exact wl_end (hend ac wz hA (hv 8 (by kernel_rfl) (by rw [hz]; decide)) hgr)
set_option maxRecDepth 100000 in
theorem r11_9 {Q : Exit → Act → World → Prop} {a0 : Act} {w : World} (hz : a0.tmps.size = 92)   (hend : ∀ ac wz, After [9] a0 ac → ac.eval (.tmp 9) = .int .i64 0 → Gr w wz → Q .normal ac wz) : (Code.region 9 q11_9 false).wp Try.prog Q a0 w := by
  refine seq_by (by kernel_rfl) 1 (by decide) [9] (fun | 9 => .val (.int .i64 0) | _ => .any) (by kernel_rfl) (List.forall_mem_cons.2 ⟨?s0, fun o ho => nomatch ho⟩) ?e
  case s0 => exact sa_move (.const _) 9 (.val (.int .i64 0)) (.inr rfl) rfl rfl (.const _) rfl
  case e =>
  intro ac wz hA hgr hv
  exact wl_end (hend ac wz hA (hv 9 (by kernel_rfl) (by rw [hz]; decide)) hgr)
set_option maxRecDepth 100000 in
theorem r11_15 {Q : Exit → Act → World → Prop} {a0 : Act} {w : World} (hz : a0.tmps.size = 92)   (hend : ∀ ac wz, After [10] a0 ac → ac.eval (.tmp 10) = .int .i64 0 → Gr w wz → Q .normal ac wz) : (Code.region 15 q11_15 false).wp Try.prog Q a0 w := by
  refine seq_by (by kernel_rfl) 1 (by decide) [10] (fun | 10 => .val (.int .i64 0) | _ => .any) (by kernel_rfl) (List.forall_mem_cons.2 ⟨?s0, fun o ho => nomatch ho⟩) ?e
  case s0 => exact sa_move (.const _) 10 (.val (.int .i64 0)) (.inr rfl) rfl rfl (.const _) rfl
  case e =>
  intro ac wz hA hgr hv
  exact wl_end (hend ac wz hA (hv 10 (by kernel_rfl) (by rw [hz]; decide)) hgr)
set_option maxRecDepth 100000 in
theorem r11_18 {Q : Exit → Act → World → Prop} {a0 : Act} {w : World} (hz : a0.tmps.size = 92)   (hend : ∀ ac wz, After [11] a0 ac → ac.eval (.tmp 11) = .int .i64 0 → Gr w wz → Q .normal ac wz) : (Code.region 18 q11_18 false).wp Try.prog Q a0 w := by
  refine seq_by (by kernel_rfl) 1 (by decide) [11] (fun | 11 => .val (.int .i64 0) | _ => .any) (by kernel_rfl) (List.forall_mem_cons.2 ⟨?s0, fun o ho => nomatch ho⟩) ?e
  case s0 => exact sa_move (.const _) 11 (.val (.int .i64 0)) (.inr rfl) rfl rfl (.const _) rfl
  case e =>
  intro ac wz hA hgr hv
  exact wl_end (hend ac wz hA (hv 11 (by kernel_rfl) (by rw [hz]; decide)) hgr)
set_option maxRecDepth 100000 in
theorem r11_7 {Q : Exit → Act → World → Prop} {a0 : Act} {w : World} (hz : a0.tmps.size = 92) (k : Nat) (e8 : a0.eval (.tmp 8) = .int .i64 (k : Int)) (hend : ∀ ac wz, After [21, 22] a0 ac → ac.eval (.tmp 22) = .bool (decide ((k : Int) < 8)) → Gr w wz → Q .normal ac wz) : (Code.region 7 q11_7 false).wp Try.prog Q a0 w := by
  refine seq_by (by kernel_rfl) 2 (by decide) [21, 22] (fun | 21 => .val (.int .i64 (k : Int)) | 22 => .val (.bool (decide ((k : Int) < 8))) | _ => .any) (by kernel_rfl) (List.forall_mem_cons.2 ⟨?s0, List.forall_mem_cons.2 ⟨?s1, fun o ho => nomatch ho⟩⟩) ?e
  case s0 => exact sa_move (.tmp 8) 21 (.val (.int .i64 (k : Int))) (.inl rfl) rfl rfl (.old 8 _ (by decide) e8) rfl
  case s1 => exact sa_bin .lss 3 (.tmp 21) (.const _) 3 22 (.int .i64 (k : Int)) (.int .i64 8) (.bool (decide ((k : Int) < 8))) rfl rfl rfl (.new 21 (by kernel_rfl) (by rw [hz]; decide)) (.const _) guard_int (bin_lss rfl) rfl
  case e =>
  intro ac wz hA hgr hv
  exact wl_end (hend ac wz hA (hv 22 (by kernel_rfl) (by rw [hz]; decide)) hgr)
set_option maxRecDepth 100000 in
theorem r11_16 {Q : Exit → Act → World → Prop} {a0 : Act} {w : World} (hz : a0.tmps.size = 92) (k : Nat) (e10 : a0.eval (.tmp 10) = .int .i64 (k : Int)) (hend : ∀ ac wz, After [58, 59] a0 ac → ac.eval (.tmp 59) = .bool (decide ((k : Int) < 8)) → Gr w wz → Q .normal ac wz) : (Code.region 16 q11_16 false).wp Try.prog Q a0 w := by
  refine seq_by (by kernel_rfl) 2 (by decide) [58, 59] (fun | 58 => .val (.int .i64 (k : Int)) | 59 => .val (.bool (decide ((k : Int) < 8))) | _ => .any) (by kernel_rfl) (List.forall_mem_cons.2 ⟨?s0, List.forall_mem_cons.2 ⟨?s1, fun o ho => nomatch ho⟩⟩) ?e
  case s0 => exact sa_move (.tmp 10) 58 (.val (.int .i64 (k : Int))) (.inl rfl) rfl rfl (.old 10 _ (by decide) e10) rfl
  case s1 => exact sa_bin .lss 3 (.tmp 58) (.const _) 3 59 (.int .i64 (k : Int)) (.int .i64 8) (.bool (decide ((k : Int) < 8))) rfl rfl rfl (.new 58 (by kernel_rfl) (by rw [hz]; decide)) (.const _) guard_int (bin_lss rfl) rfl
  case e =>
  intro ac wz hA hgr hv
  exact wl_end (hend ac wz hA (hv 59 (by kernel_rfl) (by rw [hz]; decide)) hgr)
set_option maxRecDepth 100000 in
theorem r11_10 {Q : Exit → Act → World → Prop} {a0 : Act} {w : World} (hz : a0.tmps.size = 92) (k n cap : Nat) (ad : Option Addr) (e9 : a0.eval (.tmp 9) = .int .i64 (k : Int)) (e5 : a0.eval (.tmp 5) = .slice ad n cap) (hend : ∀ ac wz, After [25, 26, 27, 28] a0 ac → ac.eval (.tmp 28) = .bool (decide ((k : Int) < (n : Int))) → Gr w wz → Q .normal ac wz) : (Code.region 10 q11_10 false).wp Try.prog Q a0 w := by
  refine seq_by (by kernel_rfl) 4 (by decide) [25, 26, 27, 28] (fun | 25 => .val (.int .i64 (k : Int)) | 26 => .val (.slice ad n cap) | 27 => .val (.int .i64 (n : Int)) | 28 => .val (.bool (decide ((k : Int) < (n : Int)))) | _ => .any) (by kernel_rfl) (List.forall_mem_cons.2 ⟨?s0, List.forall_mem_cons.2 ⟨?s1, List.forall_mem_cons.2 ⟨?s2, List.forall_mem_cons.2 ⟨?s3, fun o ho => nomatch ho⟩⟩⟩⟩) ?e
  case s0 => exact sa_move (.tmp 9) 25 (.val (.int .i64 (k : Int))) (.inl rfl) rfl rfl (.old 9 _ (by decide) e9) rfl
  case s1 => exact sa_move (.tmp 5) 26 (.val (.slice ad n cap)) (.inl rfl) rfl rfl (.old 5 _ (by decide) e5) rfl
  case s2 => exact sa_len 24 (.tmp 26) 27 (.slice ad n cap) (.int .i64 (n : Int)) rfl rfl rfl (.new 26 (by kernel_rfl) (by rw [hz]; decide)) (by intro w; kernel_rfl) rfl
  case s3 => exact sa_bin .lss 3 (.tmp 25) (.tmp 27) 3 28 (.int .i64 (k : Int)) (.int .i64 (n : Int)) (.bool (decide ((k : Int) < (n : Int)))) rfl rfl rfl (.new 25 (by kernel_rfl) (by rw [hz]; decide)) (.new 27 (by kernel_rfl) (by rw [hz]; decide)) guard_int (bin_lss rfl) rfl
  case e =>
  intro ac wz hA hgr hv
  exact wl_end (hend ac wz hA (hv 28 (by kernel_rfl) (by rw [hz]; decide)) hgr)
set_option maxRecDepth 100000 in
theorem r11_8 {Q : Exit → Act → World → Prop} {a0 : Act} {w : World} (hz : a0.tmps.size = 92) (k : Nat) (hk : k ≤ 17592186043904) (e8 : a0.eval (.tmp 8) = .int .i64 (k : Int)) (hend : ∀ ac wz, After [8, 23, 24] a0 ac → ac.eval (.tmp 8) = .int .i64 ((k + 1 : Nat) : Int) → Gr w wz → Q .normal ac wz) : (Code.region 8 q11_8 false).wp Try.prog Q a0 w := by
  refine seq_by (by kernel_rfl) 2 (by decide) [23, 24] (fun | 23 => .val (.int .i64 (k : Int)) | 24 => .val (.int .i64 ((k + 1 : Nat) : Int)) | _ => .any) (by kernel_rfl) (List.forall_mem_cons.2 ⟨?s0, List.forall_mem_cons.2 ⟨?s1, fun o ho => nomatch ho⟩⟩) ?e
  case s0 => exact sa_move (.tmp 8) 23 (.val (.int .i64 (k : Int))) (.inl rfl) rfl rfl (.old 8 _ (by decide) e8) rfl
  case s1 => exact sa_bin .add 3 (.tmp 23) (.const _) 3 24 (.int .i64 (k : Int)) (.int .i64 1) (.int .i64 ((k + 1 : Nat) : Int)) rfl rfl rfl (.new 23 (by kernel_rfl) (by rw [hz]; decide)) (.const _) guard_int (bin_add (by omega) (by omega) (by omega)) rfl
  case e =>
  intro ac wz hA hgr hv
  have o24 : ac.eval (.tmp 24) = .int .i64 ((k + 1 : Nat) : Int) := hv 24 (by kernel_rfl) (by rw [hz]; decide)
  refine wl_of rfl (op_move (.tmp 24) (.inr rfl) (wl_end ?_))
  exact hend _ wz (hA.put 8 _)  ((ev_put (by rw [hA.size, hz]; decide)).trans ((if_pos rfl).trans o24)) hgr
set_option maxRecDepth 100000 in
theorem r11_11 {Q : Exit → Act → World → Prop} {a0 : Act} {w : World} (hz : a0.tmps.size = 92) (k : Nat) (hk : k ≤ 17592186043904) (e9 : a0.eval (.tmp 9) = .int .i64 (k : Int)) (hend : ∀ ac wz, After [9, 29, 30] a0 ac → ac.eval (.tmp 9) = .int .i64 ((k + 1 : Nat) : Int) → Gr w wz → Q .normal ac wz) : (Code.region 11 q11_11 false).wp Try.prog Q a0 w := by
  refine seq_by (by kernel_rfl) 2 (by decide) [29, 30] (fun | 29 => .val (.int .i64 (k : Int)) | 30 => .val (.int .i64 ((k + 1 : Nat) : Int)) | _ => .any) (by kernel_rfl) (List.forall_mem_cons.2 ⟨?s0, List.forall_mem_cons.2 ⟨?s1, fun o ho => nomatch ho⟩⟩) ?e
  case s0 => exact sa_move (.tmp 9) 29 (.val (.int .i64 (k : Int))) (.inl rfl) rfl rfl (.old 9 _ (by decide) e9) rfl
  case s1 => exact sa_bin .add 3 (.tmp 29) (.const _) 3 30 (.int .i64 (k : Int)) (.int .i64 1) (.int .i64 ((k + 1 : Nat) : Int)) rfl rfl rfl (.new 29 (by kernel_rfl) (by rw [hz]; decide)) (.const _) guard_int (bin_add (by omega) (by omega) (by omega)) rfl
  case e =>
  intro ac wz hA hgr hv
  have o30 : ac.eval (.tmp 30) = .int .i64 ((k + 1 : Nat) : Int) := hv 30 (by kernel_rfl) (by rw [hz]; decide)
  refine wl_of rfl (op_move (.tmp 30) (.inr rfl) (wl_end ?_))
  exact hend _ wz (hA.put 9 _)  ((ev_put (by rw [hA.size, hz]; decide)).trans ((if_pos rfl).trans o30)) hgr
set_option maxRecDepth 100000 in
theorem r11_17 {Q : Exit → Act → World → Prop} {a0 : Act} {w : World} (hz : a0.tmps.size = 92) (k : Nat) (hk : k ≤ 17592186043904) (e10 : a0.eval (.tmp 10) = .int .i64 (k : Int)) (hend : ∀ ac wz, After [10, 60, 61] a0 ac → ac.eval (.tmp 10) = .int .i64 ((k + 1 : Nat) : Int) → Gr w wz → Q .normal ac wz) : (Code.region 17 q11_17 false).wp Try.prog Q a0 w := by
  refine seq_by (by kernel_rfl) 2 (by decide) [60, 61] (fun | 60 => .val (.int .i64 (k : Int)) | 61 => .val (.int .i64 ((k + 1 : Nat) : Int)) | _ => .any) (by kernel_rfl) (List.forall_mem_cons.2 ⟨?s0, List.forall_mem_cons.2 ⟨?s1, fun o ho => nomatch ho⟩⟩) ?e
  case s0 => exact sa_move (.tmp 10) 60 (.val (.int .i64 (k : Int))) (.inl rfl) rfl rfl (.old 10 _ (by decide) e10) rfl
  case s1 => exact sa_bin .add 3 (.tmp 60) (.const _) 3 61 (.int .i64 (k : Int)) (.int .i64 1) (.int .i64 ((k + 1 : Nat) : Int)) rfl rfl rfl (.new 60 (by kernel_rfl) (by rw [hz]; decide)) (.const _) guard_int (bin_add (by omega) (by omega) (by omega)) rfl
  case e =>
  intro ac wz hA hgr hv
  have o61 : ac.eval (.tmp 61) = .int .i64 ((k + 1 : Nat) : Int) := hv 61 (by kernel_rfl) (by rw [hz]; decide)
  refine wl_of rfl (op_move (.tmp 61) (.inr rfl) (wl_end ?_))
  exact hend _ wz (hA.put 10 _)  ((ev_put (by rw [hA.size, hz]; decide)).trans ((if_pos rfl).trans o61)) hgr
set_option maxRecDepth 100000 in
theorem r11_20 {Q : Exit → Act → World → Prop} {a0 : Act} {w : World} (hz : a0.tmps.size = 92) (k : Nat) (hk : k ≤ 17592186043904) (e11 : a0.eval (.tmp 11) = .int .i64 (k : Int)) (hend : ∀ ac wz, After [11, 72, 73] a0 ac → ac.eval (.tmp 11) = .int .i64 ((k + 1 : Nat) : Int) → Gr w wz → Q .normal ac wz) : (Code.region 20 q11_20 false).wp Try.prog Q a0 w := by
  refine seq_by (by kernel_rfl) 2 (by decide) [72, 73] (fun | 72 => .val (.int .i64 (k : Int)) | 73 => .val (.int .i64 ((k + 1 : Nat) : Int)) | _ => .any) (by kernel_rfl) (List.forall_mem_cons.2 ⟨?s0, List.forall_mem_cons.2 ⟨?s1, fun o ho => nomatch ho⟩⟩) ?e
  case s0 => exact sa_move (.tmp 11) 72 (.val (.int .i64 (k : Int))) (.inl rfl) rfl rfl (.old 11 _ (by decide) e11) rfl
  case s1 => exact sa_bin .add 3 (.tmp 72) (.const _) 3 73 (.int .i64 (k : Int)) (.int .i64 1) (.int .i64 ((k + 1 : Nat) : Int)) rfl rfl rfl (.new 72 (by kernel_rfl) (by rw [hz]; decide)) (.const _) guard_int (bin_add (by omega) (by omega) (by omega)) rfl
  case e =>
  intro ac wz hA hgr hv
  have o73 : ac.eval (.tmp 73) = .int .i64 ((k + 1 : Nat) : Int) := hv 73 (by kernel_rfl) (by rw [hz]; decide)
  refine wl_of rfl (op_move (.tmp 73) (.inr rfl) (wl_end ?_))
  exact hend _ wz (hA.put 11 _)  ((ev_put (by rw [hA.size, hz]; decide)).trans ((if_pos rfl).trans o73)) hgr
set_option maxRecDepth 100000 in
theorem r11_12t {Q : Exit → Act → World → Prop} {a0 : Act} {w : World} (hz : a0.tmps.size = 92) (g of n cap k : Nat) (x : Int) (hk : k < n) (hX : ∀ y, Gr w y → y.cell? ⟨g, of + k, none⟩ = some (.int .i64 x)) (b i : Nat) (y0 : Int) (hi : i < 8) (hO : ∀ y, Gr w y → y.cell? ⟨b, i, none⟩ = some (.int .i64 y0)) (g7 cap7 : Nat) (r : Int) (hR : ∀ y, Gr w y → y.cell? ⟨g7, k, none⟩ = some (.int .i64 r)) (he : y0 = x) (e8 : a0.eval (.tmp 8) = .int .i64 (i : Int)) (e2 : a0.eval (.tmp 2) = .pointer (some ⟨b, 0, none⟩)) (e5 : a0.eval (.tmp 5) = .slice (some ⟨g, of, none⟩) n cap) (e9 : a0.eval (.tmp 9) = .int .i64 (k : Int)) (e7 : a0.eval (.tmp 7) = .slice (some ⟨g7, 0, none⟩) n cap7) (hend : ∀ ac wz, After [31, 32, 33, 34, 35, 36, 37, 38, 39, 40, 41, 42, 43, 44, 45] a0 ac → ac.eval (.tmp 45) = .bool (decide (r > 0)) → Gr w wz → Q .normal ac wz) : (Code.region 12 q11_12 true).wp Try.prog Q a0 w := by
  refine drawn_by (by kernel_rfl) (by kernel_rfl) (by kernel_rfl) [31, 32, 33, 34, 35, 36, 37, 38, 39, 40, 41, 42, 43, 44, 45] (fun | 31 => .val (.int .i64 (i : Int)) | 32 => .val (.pointer (some ⟨b, i, none⟩)) | 33 => .val (.int .i64 y0) | 34 => .val (.slice (some ⟨g, of, none⟩) n cap) | 35 => .val (.int .i64 (k : Int)) | 36 => .val (.pointer (some ⟨g, of + k, none⟩)) | 37 => .val (.int .i64 x) | 38 => .val (.bool true) | 39 => .val (.bool true) | 40 => .val (.slice (some ⟨g7, 0, none⟩) n cap7) | 41 => .val (.int .i64 (k : Int)) | 42 => .val (.pointer (some ⟨g7, k, none⟩)) | 43 => .val (.int .i64 r) | 44 => .val (.bool (decide (r > 0))) | 45 => .val (.bool (decide (r > 0))) | _ => .any) (by kernel_rfl) (List.forall_mem_cons.2 ⟨?s0, List.forall_mem_cons.2 ⟨?s1, List.forall_mem_cons.2 ⟨?s2, List.forall_mem_cons.2 ⟨?s3, List.forall_mem_cons.2 ⟨?s4, List.forall_mem_cons.2 ⟨?s5, List.forall_mem_cons.2 ⟨?s6, List.forall_mem_cons.2 ⟨?s7, List.forall_mem_cons.2 ⟨?s8, List.forall_mem_cons.2 ⟨?s9, List.forall_mem_cons.2 ⟨?s10, List.forall_mem_cons.2 ⟨?s11, List.forall_mem_cons.2 ⟨?s12, List.forall_mem_cons.2 ⟨?s13, List.forall_mem_cons.2 ⟨?s14, fun o ho => nomatch ho⟩⟩⟩⟩⟩⟩⟩⟩⟩⟩⟩⟩⟩⟩⟩) ?e
  case s0 => exact sa_move (.tmp 8) 31 (.val (.int .i64 (i : Int))) (.inl rfl) rfl rfl (.old 8 _ (by decide) e8) rfl
  case s1 => exact sa_ixa 23 (.tmp 2) (.tmp 31) 32 (.pointer (some ⟨b, 0, none⟩)) (.int .i64 (i : Int)) (.pointer (some ⟨b, i, none⟩)) rfl rfl rfl (.old 2 _ (by decide) e2) (.new 31 (by kernel_rfl) (by rw [hz]; decide)) (ix_array (sz := 1) und23 (by intro w; kernel_rfl) (by omega) (by omega)) rfl
  case s2 => exact sa_loadc 3 (.tmp 32) 33 (b) (i) (.int .i64 y0) rfl rfl rfl (by intro w; kernel_rfl) (.new 32 (by kernel_rfl) (by rw [hz]; decide)) hO rfl
  case s3 => exact sa_move (.tmp 5) 34 (.val (.slice (some ⟨g, of, none⟩) n cap)) (.inl rfl) rfl rfl (.old 5 _ (by decide) e5) rfl
  case s4 => exact sa_move (.tmp 9) 35 (.val (.int .i64 (k : Int))) (.inl rfl) rfl rfl (.old 9 _ (by decide) e9) rfl
  case s5 => exact sa_ixa 24 (.tmp 34) (.tmp 35) 36 (.slice (some ⟨g, of, none⟩) n cap) (.int .i64 (k : Int)) (.pointer (some ⟨g, of + k, none⟩)) rfl rfl rfl (.new 34 (by kernel_rfl) (by rw [hz]; decide)) (.new 35 (by kernel_rfl) (by rw [hz]; decide)) (ix_slice (sz := 1) Try.underlying24 (by intro w; kernel_rfl) (by omega) (by omega)) rfl
  case s6 => exact sa_loadc 3 (.tmp 36) 37 (g) (of + k) (.int .i64 x) rfl rfl rfl (by intro w; kernel_rfl) (.new 36 (by kernel_rfl) (by rw [hz]; decide)) hX rfl
  case s7 => exact sa_bin .eql 3 (.tmp 33) (.tmp 37) 3 38 (.int .i64 y0) (.int .i64 x) (.bool true) rfl rfl rfl (.new 33 (by kernel_rfl) (by rw [hz]; decide)) (.new 37 (by kernel_rfl) (by rw [hz]; decide)) guard_int (bin_eql (decide_eq_true (by omega))) rfl
  case s8 => exact sa_move (.tmp 38) 39 (.val (.bool true)) (.inl rfl) rfl rfl (.new 38 (by kernel_rfl) (by rw [hz]; decide)) rfl
  case s9 => exact sa_guard 8 39 rfl rfl (by kernel_rfl) (by rw [hz]; decide) rfl (sa_move (.tmp 7) 40 (.val (.slice (some ⟨g7, 0, none⟩) n cap7)) (.inl rfl) rfl rfl (.old 7 _ (by decide) e7) rfl)
  case s10 => exact sa_guard 8 39 rfl rfl (by kernel_rfl) (by rw [hz]; decide) rfl (sa_move (.tmp 9) 41 (.val (.int .i64 (k : Int))) (.inl rfl) rfl rfl (.old 9 _ (by decide) e9) rfl)
  case s11 => exact sa_guard 8 39 rfl rfl (by kernel_rfl) (by rw [hz]; decide) rfl (sa_ixa 24 (.tmp 40) (.tmp 41) 42 (.slice (some ⟨g7, 0, none⟩) n cap7) (.int .i64 (k : Int)) (.pointer (some ⟨g7, k, none⟩)) rfl rfl rfl (.new 40 (by kernel_rfl) (by rw [hz]; decide)) (.new 41 (by kernel_rfl) (by rw [hz]; decide)) (ix_slice (sz := 1) Try.underlying24 (by intro w; kernel_rfl) (by omega) (by omega)) rfl)
  case s12 => exact sa_guard 8 39 rfl rfl (by kernel_rfl) (by rw [hz]; decide) rfl (sa_loadc 3 (.tmp 42) 43 (g7) (k) (.int .i64 r) rfl rfl rfl (by intro w; kernel_rfl) (.new 42 (by kernel_rfl) (by rw [hz]; decide)) hR rfl)
  case s13 => exact sa_guard 8 39 rfl rfl (by kernel_rfl) (by rw [hz]; decide) rfl (sa_bin .gtr 3 (.tmp 43) (.const _) 3 44 (.int .i64 r) (.int .i64 0) (.bool (decide (r > 0))) rfl rfl rfl (.new 43 (by kernel_rfl) (by rw [hz]; decide)) (.const _) guard_int (bin_gtr rfl) rfl)
  case s14 => exact sa_pick (.tmp 39) (.tmp 44) (.const _) 45 (.val (.bool (decide (r > 0)))) rfl rfl rfl (.new 39 (by kernel_rfl) (by rw [hz]; decide)) (.new 44 (by kernel_rfl) (by rw [hz]; decide)) rfl
  case e =>
  intro ac wz hA hgr hv
  exact hend ac wz hA (hv 45 (by kernel_rfl) (by rw [hz]; decide)) hgr
set_option maxRecDepth 100000 in
theorem r11_12f {Q : Exit → Act → World → Prop} {a0 : Act} {w : World} (hz : a0.tmps.size = 92) (g of n cap k : Nat) (x : Int) (hk : k < n) (hX : ∀ y, Gr w y → y.cell? ⟨g, of + k, none⟩ = some (.int .i64 x)) (b i : Nat) (y0 : Int) (hi : i < 8) (hO : ∀ y, Gr w y → y.cell? ⟨b, i, none⟩ = some (.int .i64 y0)) (he : ¬ y0 = x) (e8 : a0.eval (.tmp 8) = .int .i64 (i : Int)) (e2 : a0.eval (.tmp 2) = .pointer (some ⟨b, 0, none⟩)) (e5 : a0.eval (.tmp 5) = .slice (some ⟨g, of, none⟩) n cap) (e9 : a0.eval (.tmp 9) = .int .i64 (k : Int)) (hend : ∀ ac wz, After [31, 32, 33, 34, 35, 36, 37, 38, 39, 40, 41, 42, 43, 44, 45] a0 ac → ac.eval (.tmp 45) = .bool false → Gr w wz → Q .normal ac wz) : (Code.region 12 q11_12 true).wp Try.prog Q a0 w := by
  refine drawn_by (by kernel_rfl) (by kernel_rfl) (by kernel_rfl) [31, 32, 33, 34, 35, 36, 37, 38, 39, 40, 41, 42, 43, 44, 45] (fun | 31 => .val (.int .i64 (i : Int)) | 32 => .val (.pointer (some ⟨b, i, none⟩)) | 33 => .val (.int .i64 y0) | 34 => .val (.slice (some ⟨g, of, none⟩) n cap) | 35 => .val (.int .i64 (k : Int)) | 36 => .val (.pointer (some ⟨g, of + k, none⟩)) | 37 => .val (.int .i64 x) | 38 => .val (.bool false) | 39 => .val (.bool false) | 40 => .val (undef) | 41 => .val (undef) | 42 => .val (undef) | 43 => .val (undef) | 44 => .val (undef) | 45 => .val (.bool false) | _ => .any) (by kernel_rfl) (List.forall_mem_cons.2 ⟨?s0, List.forall_mem_cons.2 ⟨?s1, List.forall_mem_cons.2 ⟨?s2, List.forall_mem_cons.2 ⟨?s3, List.forall_mem_cons.2 ⟨?s4, List.forall_mem_cons.2 ⟨?s5, List.forall_mem_cons.2 ⟨?s6, List.forall_mem_cons.2 ⟨?s7, List.forall_mem_cons.2 ⟨?s8, List.forall_mem_cons.2 ⟨?s9, List.forall_mem_cons.2 ⟨?s10, List.forall_mem_cons.2 ⟨?s11, List.forall_mem_cons.2 ⟨?s12, List.forall_mem_cons.2 ⟨?s13, List.forall_mem_cons.2 ⟨?s14, fun o ho => nomatch ho⟩⟩⟩⟩⟩⟩⟩⟩⟩⟩⟩⟩⟩⟩⟩) ?e
  case s0 => exact sa_move (.tmp 8) 31 (.val (.int .i64 (i : Int))) (.inl rfl) rfl rfl (.old 8 _ (by decide) e8) rfl
  case s1 => exact sa_ixa 23 (.tmp 2) (.tmp 31) 32 (.pointer (some ⟨b, 0, none⟩)) (.int .i64 (i : Int)) (.pointer (some ⟨b, i, none⟩)) rfl rfl rfl (.old 2 _ (by decide) e2) (.new 31 (by kernel_rfl) (by rw [hz]; decide)) (ix_array (sz := 1) und23 (by intro w; kernel_rfl) (by omega) (by omega)) rfl
  case s2 => exact sa_loadc 3 (.tmp 32) 33 (b) (i) (.int .i64 y0) rfl rfl rfl (by intro w; kernel_rfl) (.new 32 (by kernel_rfl) (by rw [hz]; decide)) hO rfl
  case s3 => exact sa_move (.tmp 5) 34 (.val (.slice (some ⟨g, of, none⟩) n cap)) (.inl rfl) rfl rfl (.old 5 _ (by decide) e5) rfl
  case s4 => exact sa_move (.tmp 9) 35 (.val (.int .i64 (k : Int))) (.inl rfl) rfl rfl (.old 9 _ (by decide) e9) rfl
  case s5 => exact sa_ixa 24 (.tmp 34) (.tmp 35) 36 (.slice (some ⟨g, of, none⟩) n cap) (.int .i64 (k : Int)) (.pointer (some ⟨g, of + k, none⟩)) rfl rfl rfl (.new 34 (by kernel_rfl) (by rw [hz]; decide)) (.new 35 (by kernel_rfl) (by rw [hz]; decide)) (ix_slice (sz := 1) Try.underlying24 (by intro w; kernel_rfl) (by omega) (by omega)) rfl
  case s6 => exact sa_loadc 3 (.tmp 36) 37 (g) (of + k) (.int .i64 x) rfl rfl rfl (by intro w; kernel_rfl) (.new 36 (by kernel_rfl) (by rw [hz]; decide)) hX rfl
  case s7 => exact sa_bin .eql 3 (.tmp 33) (.tmp 37) 3 38 (.int .i64 y0) (.int .i64 x) (.bool false) rfl rfl rfl (.new 33 (by kernel_rfl) (by rw [hz]; decide)) (.new 37 (by kernel_rfl) (by rw [hz]; decide)) guard_int (bin_eql (decide_eq_false (by omega))) rfl
  case s8 => exact sa_move (.tmp 38) 39 (.val (.bool false)) (.inl rfl) rfl rfl (.new 38 (by kernel_rfl) (by rw [hz]; decide)) rfl
  case s9 => exact so_guardN 8 39 rfl rfl (by kernel_rfl) (by rw [hz]; decide) rfl (fun d hd => by cases hd; rfl)
  case s10 => exact so_guardN 8 39 rfl rfl (by kernel_rfl) (by rw [hz]; decide) rfl (fun d hd => by cases hd; rfl)
  case s11 => exact so_guardN 8 39 rfl rfl (by kernel_rfl) (by rw [hz]; decide) rfl (fun d hd => by cases hd; rfl)
  case s12 => exact so_guardN 8 39 rfl rfl (by kernel_rfl) (by rw [hz]; decide) rfl (fun d hd => by cases hd; rfl)
  case s13 => exact so_guardN 8 39 rfl rfl (by kernel_rfl) (by rw [hz]; decide) rfl (fun d hd => by cases hd; rfl)
  case s14 => exact sa_pickF (.tmp 39) (.tmp 44) (.const _) 45 (.val (.bool false)) rfl rfl rfl (.new 39 (by kernel_rfl) (by rw [hz]; decide)) (.const _) rfl
  case e =>
  intro ac wz hA hgr hv
  exact hend ac wz hA (hv 45 (by kernel_rfl) (by rw [hz]; decide)) hgr
set_option maxRecDepth 100000 in
theorem r11_13 {Q : Exit → Act → World → Prop} {a0 : Act} {w : World} (hz : a0.tmps.size = 92) (g of n cap k : Nat) (x : Int) (hk : k < n) (hX : ∀ y, Gr w y → y.cell? ⟨g, of + k, none⟩ = some (.int .i64 x)) (b i : Nat) (hi : i < 8) (old : Value) (hO : ∀ y, Gr w y → y.cell? ⟨b, i, none⟩ = some old ∧ y.frozen? ⟨b, i, none⟩ = false) (e8 : a0.eval (.tmp 8) = .int .i64 (i : Int)) (e5 : a0.eval (.tmp 5) = .slice (some ⟨g, of, none⟩) n cap) (e9 : a0.eval (.tmp 9) = .int .i64 (k : Int)) (e6 : a0.eval (.tmp 6) = .pointer (some ⟨b, 0, none⟩)) (hend : ∀ ac y, After [46, 47, 48, 49, 50, 51] a0 ac → Gr w y → Q .normal ac (y.setCell ⟨b, i, none⟩ (.int .i64 x))) : (Code.region 13 q11_13 false).wp Try.prog Q a0 w := by
  refine seq_by (by kernel_rfl) 6 (by decide) [46, 47, 48, 49, 50, 51] (fun | 46 => .val (.int .i64 (i : Int)) | 47 => .val (.slice (some ⟨g, of, none⟩) n cap) | 48 => .val (.int .i64 (k : Int)) | 49 => .val (.pointer (some ⟨g, of + k, none⟩)) | 50 => .val (.int .i64 x) | 51 => .val (.pointer (some ⟨b, i, none⟩)) | _ => .any) (by kernel_rfl) (List.forall_mem_cons.2 ⟨?s0, List.forall_mem_cons.2 ⟨?s1, List.forall_mem_cons.2 ⟨?s2, List.forall_mem_cons.2 ⟨?s3, List.forall_mem_cons.2 ⟨?s4, List.forall_mem_cons.2 ⟨?s5, fun o ho => nomatch ho⟩⟩⟩⟩⟩⟩) ?e
  case s0 => exact sa_move (.tmp 8) 46 (.val (.int .i64 (i : Int))) (.inl rfl) rfl rfl (.old 8 _ (by decide) e8) rfl
  case s1 => exact sa_move (.tmp 5) 47 (.val (.slice (some ⟨g, of, none⟩) n cap)) (.inl rfl) rfl rfl (.old 5 _ (by decide) e5) rfl
  case s2 => exact sa_move (.tmp 9) 48 (.val (.int .i64 (k : Int))) (.inl rfl) rfl rfl (.old 9 _ (by decide) e9) rfl
  case s3 => exact sa_ixa 24 (.tmp 47) (.tmp 48) 49 (.slice (some ⟨g, of, none⟩) n cap) (.int .i64 (k : Int)) (.pointer (some ⟨g, of + k, none⟩)) rfl rfl rfl (.new 47 (by kernel_rfl) (by rw [hz]; decide)) (.new 48 (by kernel_rfl) (by rw [hz]; decide)) (ix_slice (sz := 1) Try.underlying24 (by intro w; kernel_rfl) (by omega) (by omega)) rfl
  case s4 => exact sa_loadc 3 (.tmp 49) 50 (g) (of + k) (.int .i64 x) rfl rfl rfl (by intro w; kernel_rfl) (.new 49 (by kernel_rfl) (by rw [hz]; decide)) hX rfl
  case s5 => exact sa_ixa 23 (.tmp 6) (.tmp 46) 51 (.pointer (some ⟨b, 0, none⟩)) (.int .i64 (i : Int)) (.pointer (some ⟨b, i, none⟩)) rfl rfl rfl (.old 6 _ (by decide) e6) (.new 46 (by kernel_rfl) (by rw [hz]; decide)) (ix_array (sz := 1) und23 (by intro w; kernel_rfl) (by omega) (by omega)) rfl
  case e =>
  intro ac wz hA hgr hv
  have o50 : ac.eval (.tmp 50) = .int .i64 x := hv 50 (by kernel_rfl) (by rw [hz]; decide)
  have o51 : ac.eval (.tmp 51) = .pointer (some ⟨b, i, none⟩) := hv 51 (by kernel_rfl) (by rw [hz]; decide)
  exact wl_of rfl (op_store1 3 (.tmp 51) (.tmp 50) rfl b i o51 _ o50 rfl rfl (by intro w; kernel_rfl) (hO wz hgr).1 (hO wz hgr).2 (wl_end (hend _ wz hA hgr)))
set_option maxRecDepth 100000 in
theorem r11_22 {Q : Exit → Act → World → Prop} {a0 : Act} {w : World} (hz : a0.tmps.size = 92) (g of n cap k : Nat) (x : Int) (hk : k < n) (hX : ∀ y, Gr w y → y.cell? ⟨g, of + k, none⟩ = some (.int .i64 x)) (b i : Nat) (hi : i < 8) (old : Value) (hO : ∀ y, Gr w y → y.cell? ⟨b, i, none⟩ = some old ∧ y.frozen? ⟨b, i, none⟩ = false) (e10 : a0.eval (.tmp 10) = .int .i64 (i : Int)) (e5 : a0.eval (.tmp 5) = .slice (some ⟨g, of, none⟩) n cap) (e11 : a0.eval (.tmp 11) = .int .i64 (k : Int)) (e6 : a0.eval (.tmp 6) = .pointer (some ⟨b, 0, none⟩)) (hend : ∀ ac y, After [79, 80, 81, 82, 83, 84] a0 ac → Gr w y → Q .normal ac (y.setCell ⟨b, i, none⟩ (.int .i64 x))) : (Code.region 22 q11_22 false).wp Try.prog Q a0 w := by
  refine seq_by (by kernel_rfl) 6 (by decide) [79, 80, 81, 82, 83, 84] (fun | 79 => .val (.int .i64 (i : Int)) | 80 => .val (.slice (some ⟨g, of, none⟩) n cap) | 81 => .val (.int .i64 (k : Int)) | 82 => .val (.pointer (some ⟨g, of + k, none⟩)) | 83 => .val (.int .i64 x) | 84 => .val (.pointer (some ⟨b, i, none⟩)) | _ => .any) (by kernel_rfl) (List.forall_mem_cons.2 ⟨?s0, List.forall_mem_cons.2 ⟨?s1, List.forall_mem_cons.2 ⟨?s2, List.forall_mem_cons.2 ⟨?s3, List.forall_mem_cons.2 ⟨?s4, List.forall_mem_cons.2 ⟨?s5, fun o ho => nomatch ho⟩⟩⟩⟩⟩⟩) ?e
  case s0 => exact sa_move (.tmp 10) 79 (.val (.int .i64 (i : Int))) (.inl rfl) rfl rfl (.old 10 _ (by decide) e10) rfl
  case s1 => exact sa_move (.tmp 5) 80 (.val (.slice (some ⟨g, of, none⟩) n cap)) (.inl rfl) rfl rfl (.old 5 _ (by decide) e5) rfl
  case s2 => exact sa_move (.tmp 11) 81 (.val (.int .i64 (k : Int))) (.inl rfl) rfl rfl (.old 11 _ (by decide) e11) rfl
  case s3 => exact sa_ixa 24 (.tmp 80) (.tmp 81) 82 (.slice (some ⟨g, of, none⟩) n cap) (.int .i64 (k : Int)) (.pointer (some ⟨g, of + k, none⟩)) rfl rfl rfl (.new 80 (by kernel_rfl) (by rw [hz]; decide)) (.new 81 (by kernel_rfl) (by rw [hz]; decide)) (ix_slice (sz := 1) Try.underlying24 (by intro w; kernel_rfl) (by omega) (by omega)) rfl
  case s4 => exact sa_loadc 3 (.tmp 82) 83 (g) (of + k) (.int .i64 x) rfl rfl rfl (by intro w; kernel_rfl) (.new 82 (by kernel_rfl) (by rw [hz]; decide)) hX rfl
  case s5 => exact sa_ixa 23 (.tmp 6) (.tmp 79) 84 (.pointer (some ⟨b, 0, none⟩)) (.int .i64 (i : Int)) (.pointer (some ⟨b, i, none⟩)) rfl rfl rfl (.old 6 _ (by decide) e6) (.new 79 (by kernel_rfl) (by rw [hz]; decide)) (ix_array (sz := 1) und23 (by intro w; kernel_rfl) (by omega) (by omega)) rfl
  case e =>
  intro ac wz hA hgr hv
  have o83 : ac.eval (.tmp 83) = .int .i64 x := hv 83 (by kernel_rfl) (by rw [hz]; decide)
  have o84 : ac.eval (.tmp 84) = .pointer (some ⟨b, i, none⟩) := hv 84 (by kernel_rfl) (by rw [hz]; decide)
  exact wl_of rfl (op_store1 3 (.tmp 84) (.tmp 83) rfl b i o84 _ o83 rfl rfl (by intro w; kernel_rfl) (hO wz hgr).1 (hO wz hgr).2 (wl_end (hend _ wz hA hgr)))
set_option maxRecDepth 100000 in
theorem r11_14 {Q : Exit → Act → World → Prop} {a0 : Act} {w : World} (hz : a0.tmps.size = 92) (g7 n cap7 k : Nat) (hk : k < n) (r : Int) (hr : 0 ≤ r ∧ r ≤ 8) (hR : ∀ y, Gr w y → y.cell? ⟨g7, k, none⟩ = some (.int .i64 r) ∧ y.frozen? ⟨g7, k, none⟩ = false) (e7 : a0.eval (.tmp 7) = .slice (some ⟨g7, 0, none⟩) n cap7) (e9 : a0.eval (.tmp 9) = .int .i64 (k : Int)) (hend : ∀ ac y, After [52, 53, 54, 55, 56, 57] a0 ac → Gr w y → Q .normal ac (y.setCell ⟨g7, k, none⟩ (.int .i64 (r - 1)))) : (Code.region 14 q11_14 false).wp Try.prog Q a0 w := by
  refine seq_by (by kernel_rfl) 6 (by decide) [52, 53, 54, 55, 56, 57] (fun | 52 => .val (.slice (some ⟨g7, 0, none⟩) n cap7) | 53 => .val (.int .i64 (k : Int)) | 54 => .val (.pointer (some ⟨g7, k, none⟩)) | 55 => .val (.int .i64 r) | 56 => .val (.int .i64 (r - 1)) | 57 => .val (.pointer (some ⟨g7, k, none⟩)) | _ => .any) (by kernel_rfl) (List.forall_mem_cons.2 ⟨?s0, List.forall_mem_cons.2 ⟨?s1, List.forall_mem_cons.2 ⟨?s2, List.forall_mem_cons.2 ⟨?s3, List.forall_mem_cons.2 ⟨?s4, List.forall_mem_cons.2 ⟨?s5, fun o ho => nomatch ho⟩⟩⟩⟩⟩⟩) ?e
  case s0 => exact sa_move (.tmp 7) 52 (.val (.slice (some ⟨g7, 0, none⟩) n cap7)) (.inl rfl) rfl rfl (.old 7 _ (by decide) e7) rfl
  case s1 => exact sa_move (.tmp 9) 53 (.val (.int .i64 (k : Int))) (.inl rfl) rfl rfl (.old 9 _ (by decide) e9) rfl
  case s2 => exact sa_ixa 24 (.tmp 52) (.tmp 53) 54 (.slice (some ⟨g7, 0, none⟩) n cap7) (.int .i64 (k : Int)) (.pointer (some ⟨g7, k, none⟩)) rfl rfl rfl (.new 52 (by kernel_rfl) (by rw [hz]; decide)) (.new 53 (by kernel_rfl) (by rw [hz]; decide)) (ix_slice (sz := 1) Try.underlying24 (by intro w; kernel_rfl) (by omega) (by omega)) rfl
  case s3 => exact sa_loadc 3 (.tmp 54) 55 (g7) (k) (.int .i64 r) rfl rfl rfl (by intro w; kernel_rfl) (.new 54 (by kernel_rfl) (by rw [hz]; decide)) (fun y hy => (hR y hy).1) rfl
  case s4 => exact sa_bin .sub 3 (.tmp 55) (.const _) 3 56 (.int .i64 r) (.int .i64 1) (.int .i64 (r - 1)) rfl rfl rfl (.new 55 (by kernel_rfl) (by rw [hz]; decide)) (.const _) guard_int (bin_sub rfl (by omega) (by omega)) rfl
  case s5 => exact sa_ixa 24 (.tmp 52) (.tmp 53) 57 (.slice (some ⟨g7, 0, none⟩) n cap7) (.int .i64 (k : Int)) (.pointer (some ⟨g7, k, none⟩)) rfl rfl rfl (.new 52 (by kernel_rfl) (by rw [hz]; decide)) (.new 53 (by kernel_rfl) (by rw [hz]; decide)) (ix_slice (sz := 1) Try.underlying24 (by intro w; kernel_rfl) (by omega) (by omega)) rfl
  case e =>
  intro ac wz hA hgr hv
  have o56 : ac.eval (.tmp 56) = .int .i64 (r - 1) := hv 56 (by kernel_rfl) (by rw [hz]; decide)
  have o57 : ac.eval (.tmp 57) = .pointer (some ⟨g7, k, none⟩) := hv 57 (by kernel_rfl) (by rw [hz]; decide)
  exact wl_of rfl (op_store1 3 (.tmp 57) (.tmp 56) rfl g7 k o57 _ o56 rfl rfl (by intro w; kernel_rfl) (hR wz hgr).1 (hR wz hgr).2 (wl_end (hend _ wz hA hgr)))
set_option maxRecDepth 100000 in
theorem r11_23 {Q : Exit → Act → World → Prop} {a0 : Act} {w : World} (hz : a0.tmps.size = 92) (g7 n cap7 k : Nat) (hk : k < n) (r : Int) (hr : 0 ≤ r ∧ r ≤ 8) (hR : ∀ y, Gr w y → y.cell? ⟨g7, k, none⟩ = some (.int .i64 r) ∧ y.frozen? ⟨g7, k, none⟩ = false) (e7 : a0.eval (.tmp 7) = .slice (some ⟨g7, 0, none⟩) n cap7) (e11 : a0.eval (.tmp 11) = .int .i64 (k : Int)) (hend : ∀ ac y, After [85, 86, 87, 88, 89, 90] a0 ac → Gr w y → Q .normal ac (y.setCell ⟨g7, k, none⟩ (.int .i64 (r - 1)))) : (Code.region 23 q11_23 false).wp Try.prog Q a0 w := by
  refine seq_by (by kernel_rfl) 6 (by decide) [85, 86, 87, 88, 89, 90] (fun | 85 => .val (.slice (some ⟨g7, 0, none⟩) n cap7) | 86 => .val (.int .i64 (k : Int)) | 87 => .val (.pointer (some ⟨g7, k, none⟩)) | 88 => .val (.int .i64 r) | 89 => .val (.int .i64 (r - 1)) | 90 => .val (.pointer (some ⟨g7, k, none⟩)) | _ => .any) (by kernel_rfl) (List.forall_mem_cons.2 ⟨?s0, List.forall_mem_cons.2 ⟨?s1, List.forall_mem_cons.2 ⟨?s2, List.forall_mem_cons.2 ⟨?s3, List.forall_mem_cons.2 ⟨?s4, List.forall_mem_cons.2 ⟨?s5, fun o ho => nomatch ho⟩⟩⟩⟩⟩⟩) ?e
  case s0 => exact sa_move (.tmp 7) 85 (.val (.slice (some ⟨g7, 0, none⟩) n cap7)) (.inl rfl) rfl rfl (.old 7 _ (by decide) e7) rfl
  case s1 => exact sa_move (.tmp 11) 86 (.val (.int .i64 (k : Int))) (.inl rfl) rfl rfl (.old 11 _ (by decide) e11) rfl
  case s2 => exact sa_ixa 24 (.tmp 85) (.tmp 86) 87 (.slice (some ⟨g7, 0, none⟩) n cap7) (.int .i64 (k : Int)) (.pointer (some ⟨g7, k, none⟩)) rfl rfl rfl (.new 85 (by kernel_rfl) (by rw [hz]; decide)) (.new 86 (by kernel_rfl) (by rw [hz]; decide)) (ix_slice (sz := 1) Try.underlying24 (by intro w; kernel_rfl) (by omega) (by omega)) rfl
  case s3 => exact sa_loadc 3 (.tmp 87) 88 (g7) (k) (.int .i64 r) rfl rfl rfl (by intro w; kernel_rfl) (.new 87 (by kernel_rfl) (by rw [hz]; decide)) (fun y hy => (hR y hy).1) rfl
  case s4 => exact sa_bin .sub 3 (.tmp 88) (.const _) 3 89 (.int .i64 r) (.int .i64 1) (.int .i64 (r - 1)) rfl rfl rfl (.new 88 (by kernel_rfl) (by rw [hz]; decide)) (.const _) guard_int (bin_sub rfl (by omega) (by omega)) rfl
  case s5 => exact sa_ixa 24 (.tmp 85) (.tmp 86) 90 (.slice (some ⟨g7, 0, none⟩) n cap7) (.int .i64 (k : Int)) (.pointer (some ⟨g7, k, none⟩)) rfl rfl rfl (.new 85 (by kernel_rfl) (by rw [hz]; decide)) (.new 86 (by kernel_rfl) (by rw [hz]; decide)) (ix_slice (sz := 1) Try.underlying24 (by intro w; kernel_rfl) (by omega) (by omega)) rfl
  case e =>
  intro ac wz hA hgr hv
  have o89 : ac.eval (.tmp 89) = .int .i64 (r - 1) := hv 89 (by kernel_rfl) (by rw [hz]; decide)
  have o90 : ac.eval (.tmp 90) = .pointer (some ⟨g7, k, none⟩) := hv 90 (by kernel_rfl) (by rw [hz]; decide)
  exact wl_of rfl (op_store1 3 (.tmp 90) (.tmp 89) rfl g7 k o90 _ o89 rfl rfl (by intro w; kernel_rfl) (hR wz hgr).1 (hR wz hgr).2 (wl_end (hend _ wz hA hgr)))
set_option maxRecDepth 100000 in
theorem r11_19f {Q : Exit → Act → World → Prop} {a0 : Act} {w : World} (hz : a0.tmps.size = 92) (k n cap : Nat) (ad : Option Addr) (hk : ¬ k < n) (e11 : a0.eval (.tmp 11) = .int .i64 (k : Int)) (e5 : a0.eval (.tmp 5) = .slice ad n cap) (hend : ∀ ac wz, After [62, 63, 64, 65, 66, 67, 68, 69, 70, 71] a0 ac → ac.eval (.tmp 71) = .bool false → Gr w wz → Q .normal ac wz) : (Code.region 19 q11_19 false).wp Try.prog Q a0 w := by
  refine seq_by (by kernel_rfl) 10 (by decide) [62, 63, 64, 65, 66, 67, 68, 69, 70, 71] (fun | 62 => .val (.int .i64 (k : Int)) | 63 => .val (.slice ad n cap) | 64 => .val (.int .i64 (n : Int)) | 65 => .val (.bool false) | 66 => .val (.bool false) | 67 => .val (undef) | 68 => .val (undef) | 69 => .val (undef) | 70 => .val (undef) | 71 => .val (.bool false) | _ => .any) (by kernel_rfl) (List.forall_mem_cons.2 ⟨?s0, List.forall_mem_cons.2 ⟨?s1, List.forall_mem_cons.2 ⟨?s2, List.forall_mem_cons.2 ⟨?s3, List.forall_mem_cons.2 ⟨?s4, List.forall_mem_cons.2 ⟨?s5, List.forall_mem_cons.2 ⟨?s6, List.forall_mem_cons.2 ⟨?s7, List.forall_mem_cons.2 ⟨?s8, List.forall_mem_cons.2 ⟨?s9, fun o ho => nomatch ho⟩⟩⟩⟩⟩⟩⟩⟩⟩⟩) ?e
  case s0 => exact sa_move (.tmp 11) 62 (.val (.int .i64 (k : Int))) (.inl rfl) rfl rfl (.old 11 _ (by decide) e11) rfl
  case s1 => exact sa_move (.tmp 5) 63 (.val (.slice ad n cap)) (.inl rfl) rfl rfl (.old 5 _ (by decide) e5) rfl
  case s2 => exact sa_len 24 (.tmp 63) 64 (.slice ad n cap) (.int .i64 (n : Int)) rfl rfl rfl (.new 63 (by kernel_rfl) (by rw [hz]; decide)) (by intro w; kernel_rfl) rfl
  case s3 => exact sa_bin .lss 3 (.tmp 62) (.tmp 64) 3 65 (.int .i64 (k : Int)) (.int .i64 (n : Int)) (.bool false) rfl rfl rfl (.new 62 (by kernel_rfl) (by rw [hz]; decide)) (.new 64 (by kernel_rfl) (by rw [hz]; decide)) guard_int (bin_lss (decide_eq_false (by omega))) rfl
  case s4 => exact sa_move (.tmp 65) 66 (.val (.bool false)) (.inl rfl) rfl rfl (.new 65 (by kernel_rfl) (by rw [hz]; decide)) rfl
  case s5 => exact so_guardN 4 66 rfl rfl (by kernel_rfl) (by rw [hz]; decide) rfl (fun d hd => by cases hd; rfl)
  case s6 => exact so_guardN 4 66 rfl rfl (by kernel_rfl) (by rw [hz]; decide) rfl (fun d hd => by cases hd; rfl)
  case s7 => exact so_guardN 4 66 rfl rfl (by kernel_rfl) (by rw [hz]; decide) rfl (fun d hd => by cases hd; rfl)
  case s8 => exact so_guardN 4 66 rfl rfl (by kernel_rfl) (by rw [hz]; decide) rfl (fun d hd => by cases hd; rfl)
  case s9 => exact sa_pickF (.tmp 66) (.tmp 70) (.const _) 71 (.val (.bool false)) rfl rfl rfl (.new 66 (by kernel_rfl) (by rw [hz]; decide)) (.const _) rfl
  case e =>
  intro ac wz hA hgr hv
  exact wl_end (hend ac wz hA (hv 71 (by kernel_rfl) (by rw [hz]; decide)) hgr)
set_option maxRecDepth 100000 in
theorem r11_19t {Q : Exit → Act → World → Prop} {a0 : Act} {w : World} (hz : a0.tmps.size = 92) (k n cap : Nat) (ad : Option Addr) (hk : k < n) (b i : Nat) (y0 : Int) (hi : i < 8) (hO : ∀ y, Gr w y → y.cell? ⟨b, i, none⟩ = some (.int .i64 y0)) (e11 : a0.eval (.tmp 11) = .int .i64 (k : Int)) (e5 : a0.eval (.tmp 5) = .slice ad n cap) (e10 : a0.eval (.tmp 10) = .int .i64 (i : Int)) (e6 : a0.eval (.tmp 6) = .pointer (some ⟨b, 0, none⟩)) (hend : ∀ ac wz, After [62, 63, 64, 65, 66, 67, 68, 69, 70, 71] a0 ac → ac.eval (.tmp 71) = .bool (decide (y0 = 0)) → Gr w wz → Q .normal ac wz) : (Code.region 19 q11_19 false).wp Try.prog Q a0 w := by
  refine seq_by (by kernel_rfl) 10 (by decide) [62, 63, 64, 65, 66, 67, 68, 69, 70, 71] (fun | 62 => .val (.int .i64 (k : Int)) | 63 => .val (.slice ad n cap) | 64 => .val (.int .i64 (n : Int)) | 65 => .val (.bool true) | 66 => .val (.bool true) | 67 => .val (.int .i64 (i : Int)) | 68 => .val (.pointer (some ⟨b, i, none⟩)) | 69 => .val (.int .i64 y0) | 70 => .val (.bool (decide (y0 = 0))) | 71 => .val (.bool (decide (y0 = 0))) | _ => .any) (by kernel_rfl) (List.forall_mem_cons.2 ⟨?s0, List.forall_mem_cons.2 ⟨?s1, List.forall_mem_cons.2 ⟨?s2, List.forall_mem_cons.2 ⟨?s3, List.forall_mem_cons.2 ⟨?s4, List.forall_mem_cons.2 ⟨?s5, List.forall_mem_cons.2 ⟨?s6, List.forall_mem_cons.2 ⟨?s7, List.forall_mem_cons.2 ⟨?s8, List.forall_mem_cons.2 ⟨?s9, fun o ho => nomatch ho⟩⟩⟩⟩⟩⟩⟩⟩⟩⟩) ?e
  case s0 => exact sa_move (.tmp 11) 62 (.val (.int .i64 (k : Int))) (.inl rfl) rfl rfl (.old 11 _ (by decide) e11) rfl
  case s1 => exact sa_move (.tmp 5) 63 (.val (.slice ad n cap)) (.inl rfl) rfl rfl (.old 5 _ (by decide) e5) rfl
  case s2 => exact sa_len 24 (.tmp 63) 64 (.slice ad n cap) (.int .i64 (n : Int)) rfl rfl rfl (.new 63 (by kernel_rfl) (by rw [hz]; decide)) (by intro w; kernel_rfl) rfl
  case s3 => exact sa_bin .lss 3 (.tmp 62) (.tmp 64) 3 65 (.int .i64 (k : Int)) (.int .i64 (n : Int)) (.bool true) rfl rfl rfl (.new 62 (by kernel_rfl) (by rw [hz]; decide)) (.new 64 (by kernel_rfl) (by rw [hz]; decide)) guard_int (bin_lss (decide_eq_true (by omega))) rfl
  case s4 => exact sa_move (.tmp 65) 66 (.val (.bool true)) (.inl rfl) rfl rfl (.new 65 (by kernel_rfl) (by rw [hz]; decide)) rfl
  case s5 => exact sa_guard 4 66 rfl rfl (by kernel_rfl) (by rw [hz]; decide) rfl (sa_move (.tmp 10) 67 (.val (.int .i64 (i : Int))) (.inl rfl) rfl rfl (.old 10 _ (by decide) e10) rfl)
  case s6 => exact sa_guard 4 66 rfl rfl (by kernel_rfl) (by rw [hz]; decide) rfl (sa_ixa 23 (.tmp 6) (.tmp 67) 68 (.pointer (some ⟨b, 0, none⟩)) (.int .i64 (i : Int)) (.pointer (some ⟨b, i, none⟩)) rfl rfl rfl (.old 6 _ (by decide) e6) (.new 67 (by kernel_rfl) (by rw [hz]; decide)) (ix_array (sz := 1) und23 (by intro w; kernel_rfl) (by omega) (by omega)) rfl)
  case s7 => exact sa_guard 4 66 rfl rfl (by kernel_rfl) (by rw [hz]; decide) rfl (sa_loadc 3 (.tmp 68) 69 (b) (i) (.int .i64 y0) rfl rfl rfl (by intro w; kernel_rfl) (.new 68 (by kernel_rfl) (by rw [hz]; decide)) hO rfl)
  case s8 => exact sa_guard 4 66 rfl rfl (by kernel_rfl) (by rw [hz]; decide) rfl (sa_bin .eql 3 (.tmp 69) (.const _) 3 70 (.int .i64 y0) (.int .i64 0) (.bool (decide (y0 = 0))) rfl rfl rfl (.new 69 (by kernel_rfl) (by rw [hz]; decide)) (.const _) guard_int (bin_eql rfl) rfl)
  case s9 => exact sa_pick (.tmp 66) (.tmp 70) (.const _) 71 (.val (.bool (decide (y0 = 0)))) rfl rfl rfl (.new 66 (by kernel_rfl) (by rw [hz]; decide)) (.new 70 (by kernel_rfl) (by rw [hz]; decide)) rfl
  case e =>
  intro ac wz hA hgr hv
  exact wl_end (hend ac wz hA (hv 71 (by kernel_rfl) (by rw [hz]; decide)) hgr)
set_option maxRecDepth 100000 in
theorem r11_21 {Q : Exit → Act → World → Prop} {a0 : Act} {w : World} (hz : a0.tmps.size = 92) (n k : Nat) (hk : k < n) (g7 cap7 : Nat) (r : Int) (hR : ∀ y, Gr w y → y.cell? ⟨g7, k, none⟩ = some (.int .i64 r)) (e7 : a0.eval (.tmp 7) = .slice (some ⟨g7, 0, none⟩) n cap7) (e11 : a0.eval (.tmp 11) = .int .i64 (k : Int)) (hend : ∀ ac wz, After [74, 75, 76, 77, 78] a0 ac → ac.eval (.tmp 78) = .bool (decide (r > 0)) → Gr w wz → Q .normal ac wz) : (Code.region 21 q11_21 false).wp Try.prog Q a0 w := by
  refine seq_by (by kernel_rfl) 5 (by decide) [74, 75, 76, 77, 78] (fun | 74 => .val (.slice (some ⟨g7, 0, none⟩) n cap7) | 75 => .val (.int .i64 (k : Int)) | 76 => .val (.pointer (some ⟨g7, k, none⟩)) | 77 => .val (.int .i64 r) | 78 => .val (.bool (decide (r > 0))) | _ => .any) (by kernel_rfl) (List.forall_mem_cons.2 ⟨?s0, List.forall_mem_cons.2 ⟨?s1, List.forall_mem_cons.2 ⟨?s2, List.forall_mem_cons.2 ⟨?s3, List.forall_mem_cons.2 ⟨?s4, fun o ho => nomatch ho⟩⟩⟩⟩⟩) ?e
  case s0 => exact sa_move (.tmp 7) 74 (.val (.slice (some ⟨g7, 0, none⟩) n cap7)) (.inl rfl) rfl rfl (.old 7 _ (by decide) e7) rfl
  case s1 => exact sa_move (.tmp 11) 75 (.val (.int .i64 (k : Int))) (.inl rfl) rfl rfl (.old 11 _ (by decide) e11) rfl
  case s2 => exact sa_ixa 24 (.tmp 74) (.tmp 75) 76 (.slice (some ⟨g7, 0, none⟩) n cap7) (.int .i64 (k : Int)) (.pointer (some ⟨g7, k, none⟩)) rfl rfl rfl (.new 74 (by kernel_rfl) (by rw [hz]; decide)) (.new 75 (by kernel_rfl) (by rw [hz]; decide)) (ix_slice (sz := 1) Try.underlying24 (by intro w; kernel_rfl) (by omega) (by omega)) rfl
  case s3 => exact sa_loadc 3 (.tmp 76) 77 (g7) (k) (.int .i64 r) rfl rfl rfl (by intro w; kernel_rfl) (.new 76 (by kernel_rfl) (by rw [hz]; decide)) hR rfl
  case s4 => exact sa_bin .gtr 3 (.tmp 77) (.const _) 3 78 (.int .i64 r) (.int .i64 0) (.bool (decide (r > 0))) rfl rfl rfl (.new 77 (by kernel_rfl) (by rw [hz]; decide)) (.const _) guard_int (bin_gtr rfl) rfl
  case e =>
  intro ac wz hA hgr hv
  exact wl_end (hend ac wz hA (hv 78 (by kernel_rfl) (by rw [hz]; decide)) hgr)
def c11_ri : Code := (((Code.region 10 q11_10 false).seq (Code.cond (Operand.tmp 28) Code.skip (Code.exit 2))).seq ((Code.block 3 ((Code.region 12 q11_12 true).seq (Code.cond (Operand.tmp 45) ((Code.region 13 q11_13 false).seq (Code.region 14 q11_14 false)) Code.skip))).seq (Code.region 11 q11_11 false)))
def c11_li : Code := (Code.block 2 (c11_ri.loop))
def c11_ra : Code := (((Code.region 7 q11_7 false).seq (Code.cond (Operand.tmp 22) Code.skip (Code.exit 0))).seq ((Code.block 1 ((Code.region 9 q11_9 false).seq c11_li)).seq (Code.region 8 q11_8 false)))
def c11_la : Code := (Code.block 0 (c11_ra.loop))
def c11_rj : Code := (((Code.region 19 q11_19 false).seq (Code.cond (Operand.tmp 71) Code.skip (Code.exit 6))).seq ((Code.block 7 ((Code.region 21 q11_21 false).seq (Code.cond (Operand.tmp 78) ((Code.region 22 q11_22 false).seq (Code.region 23 q11_23 false)) Code.skip))).seq (Code.region 20 q11_20 false)))
def c11_lj : Code := (Code.block 6 (c11_rj.loop))
def c11_rb : Code := (((Code.region 16 q11_16 false).seq (Code.cond (Operand.tmp 59) Code.skip (Code.exit 4))).seq ((Code.block 5 ((Code.region 18 q11_18 false).seq c11_lj)).seq (Code.region 17 q11_17 false)))
def c11_lb : Code := (Code.block 4 (c11_rb.loop))
def c11_fin : Code := ((Code.region 24 q11_24 false).seq Code.ret)
def c11_c3 : Code := ((Code.region 3 q11_3 false).seq (Code.cond (Operand.tmp 16) ((Code.region 4 q11_4 false).seq Code.ret) Code.skip))
def c11 : Code := ((Code.region 0 q11_0 false).seq ((Code.region 1 q11_1 false).seq ((Code.region 2 q11_2 false).seq (c11_c3.seq ((Code.region 5 q11_5 false).seq (((Code.region 6 q11_6 false).seq c11_la).seq (((Code.region 15 q11_15 false).seq c11_lb).seq c11_fin)))))))
/-- What lies in memory while the document claims. -/
structure Cs (w : World) (b C b6 g7 cap7 : Nat) (tl : List Value) (v5 : Value) (o M out room : List Int) (ac : Act) (x : World) : Prop where
  z : ac.tmps.size = 92
  df : ac.defers = []
  e2 : ac.eval (.tmp 2) = .pointer (some ⟨b, 0, none⟩)
  e4 : ac.eval (.tmp 4) = .pointer (some ⟨b + 1, 0, none⟩)
  e5 : ac.eval (.tmp 5) = v5
  e6 : ac.eval (.tmp 6) = .pointer (some ⟨b6, 0, none⟩)
  e7 : ac.eval (.tmp 7) = .slice (some ⟨g7, 0, none⟩) M.length cap7
  bl : Below b w x
  h2 : Holds x b (intV o) 23
  h4 : Holds x (b + 1) (intV zl) 23
  i5 : Ints C x v5 M
  h6 : Holds x b6 (intV out) 23
  h7 : Holds x g7 (intV room ++ tl) 3
  c1 : b + 1 < C
  c2 : C ≤ b6
  c3 : b6 < g7
theorem Cs.gr {w x y : World} {b C b6 g7 cap7 : Nat} {tl : List Value} {v5 : Value} {o M out room : List Int} {ac ad : Act} {D : List Nat} (h : Cs w b C b6 g7 cap7 tl v5 o M out room ac x) (hA : After D ac ad) (hD : (D.all fun s => decide (8 ≤ s)) = true) (g : Gr x y) : Cs w b C b6 g7 cap7 tl v5 o M out room ad y :=
  ⟨hA.size.trans h.z, hA.defers.trans h.df, hA.keep hD (by omega) h.e2, hA.keep hD (by omega) h.e4, hA.keep hD (by omega) h.e5, hA.keep hD (by omega) h.e6, hA.keep hD (by omega) h.e7, h.bl.trans (g.mono (Nat.le_of_lt h.h2.lt)), h.h2.below g h.h2.lt, h.h4.below g h.h4.lt, h.i5.below (g.mono (by have := h.h6.lt; have := h.c2; omega)), h.h6.below g h.h6.lt, h.h7.below g h.h7.lt, h.c1, h.c2, h.c3⟩
theorem Cs.setOut {w x : World} {b C b6 g7 cap7 : Nat} {tl : List Value} {v5 : Value} {o M out room : List Int} {ac : Act} (h : Cs w b C b6 g7 cap7 tl v5 o M out room ac x) (i : Nat) (v : Int) : Cs w b C b6 g7 cap7 tl v5 o M (out.set i v) room ac (x.setCell ⟨b6, i, none⟩ (.int .i64 v)) := by
  have u := (Upd.refl b6 x).setCell i (.int .i64 v)
  have h1 := h.c1
  have h2 := h.c2
  have h3 := h.c3
  exact ⟨h.z, h.df, h.e2, h.e4, h.e5, h.e6, h.e7, h.bl.trans (setCell_below b x ⟨b6, i, none⟩ _ (by show b ≤ b6; omega)), h.h2.upd u (by omega), h.h4.upd u (by omega), h.i5.below (setCell_below C x ⟨b6, i, none⟩ _ h2), by rw [← intV_set]; exact h.h6.set i _, h.h7.upd u (by omega), h1, h2, h3⟩
theorem Cs.setRoom {w x : World} {b C b6 g7 cap7 : Nat} {tl : List Value} {v5 : Value} {o M out room : List Int} {ac : Act} (h : Cs w b C b6 g7 cap7 tl v5 o M out room ac x) (k : Nat) (hk : k < room.length) (v : Int) : Cs w b C b6 g7 cap7 tl v5 o M out (room.set k v) ac (x.setCell ⟨g7, k, none⟩ (.int .i64 v)) := by
  have u := (Upd.refl g7 x).setCell k (.int .i64 v)
  have h1 := h.c1
  have h2 := h.c2
  have h3 := h.c3
  have h7 := h.h7.set k (.int .i64 v)
  rw [List.set_append_left _ _ (by rw [intV_len]; exact hk), intV_set] at h7
  exact ⟨h.z, h.df, h.e2, h.e4, h.e5, h.e6, h.e7, h.bl.trans (setCell_below b x ⟨g7, k, none⟩ _ (by show b ≤ g7; omega)), h.h2.upd u (by omega), h.h4.upd u (by omega), h.i5.below (setCell_below C x ⟨g7, k, none⟩ _ (by show C ≤ g7; omega)), h.h6.upd u (by omega), h7, h1, h2, h3⟩
theorem Cs.oc {w x : World} {b C b6 g7 cap7 : Nat} {tl : List Value} {v5 : Value} {o M out room : List Int} {ac : Act} (h : Cs w b C b6 g7 cap7 tl v5 o M out room ac x) (i : Nat) (hi : i < o.length) : ∀ y, Gr x y → y.cell? ⟨b, i, none⟩ = some (.int .i64 (o.getD i 0)) := fun _ hy => (h.h2.below hy h.h2.lt).at i _ (intV_at o i hi)
theorem Cs.uc {w x : World} {b C b6 g7 cap7 : Nat} {tl : List Value} {v5 : Value} {o M out room : List Int} {ac : Act} (h : Cs w b C b6 g7 cap7 tl v5 o M out room ac x) (i : Nat) (hi : i < out.length) : ∀ y, Gr x y → y.cell? ⟨b6, i, none⟩ = some (.int .i64 (out.getD i 0)) ∧ y.frozen? ⟨b6, i, none⟩ = false := fun _ hy => ⟨(h.h6.below hy h.h6.lt).at i _ (intV_at out i hi), (h.h6.below hy h.h6.lt).frozen i⟩
theorem Cs.rc {w x : World} {b C b6 g7 cap7 : Nat} {tl : List Value} {v5 : Value} {o M out room : List Int} {ac : Act} (h : Cs w b C b6 g7 cap7 tl v5 o M out room ac x) (k : Nat) (hk : k < room.length) : ∀ y, Gr x y → y.cell? ⟨g7, k, none⟩ = some (.int .i64 (room.getD k 0)) ∧ y.frozen? ⟨g7, k, none⟩ = false := fun _ hy => ⟨(h.h7.below hy h.h7.lt).at k _ (by rw [List.getElem?_append_left (by rw [intV_len]; exact hk)]; exact intV_at room k hk), (h.h7.below hy h.h7.lt).frozen k⟩
theorem Cs.mc {w x : World} {b C b6 g7 cap7 : Nat} {tl : List Value} {v5 : Value} {o M out room : List Int} {ac : Act} (h : Cs w b C b6 g7 cap7 tl v5 o M out room ac x) (k : Nat) (hk : k < M.length) : ∃ g of cap, v5 = .slice (some ⟨g, of, none⟩) M.length cap ∧ ∀ y, Gr x y → y.cell? ⟨g, of + k, none⟩ = some (.int .i64 (M.getD k 0)) := by
  obtain ⟨g, of, cap, hv, hg, hc⟩ := ints_at h.i5 k hk
  exact ⟨g, of, cap, hv, fun y hy => cell_below (hy.mono (by have := h.h6.lt; have := h.c2; omega)) hg hc⟩
/-! Whom a partition stays with. -/
def kOut (M : List Int) (l : List (Option Nat)) (i : Nat) : List Int := keptV M l ++ List.replicate (8 - i) 0
theorem kOut_len (M : List Int) (l : List (Option Nat)) (i : Nat) (h : l.length = i) (hi : i ≤ 8) : (kOut M l i).length = 8 := by
  unfold kOut
  rw [List.length_append, keptV_len, h, List.length_replicate]; omega
/-- In the middle of a search for a partition's owner. -/
def KMid (M : List Int) (s : List (Option Nat) × List Int) (i k : Nat) (x : Option Nat) (out room : List Int) : Prop :=
  (∃ j, x = some j ∧ j < k ∧ out = kOut M (keepS s x).1 (i + 1) ∧ room = (keepS s x).2) ∨ ((∀ j, x = some j → k ≤ j) ∧ out = kOut M s.1 i ∧ room = s.2)
theorem rclaim_li {Q : Exit → Act → World → Prop} {w x : World} {b C b6 g7 cap7 i : Nat} {tl : List Value} {v5 : Value} {o M : List Int} {ac : Act} {s : List (Option Nat) × List Int} (ho : o.length = 8) (hi : i < 8) (hM : M.Pairwise (· < ·)) (hl : M.length ≤ 17592186043904) (hs1 : s.1.length = i) (hs2 : s.2.length = M.length) (hr8 : R8 s.2) (h : Cs w b C b6 g7 cap7 tl v5 o M (kOut M s.1 i) s.2 ac x) (e8 : ac.eval (.tmp 8) = .int .i64 (i : Int)) (e9 : ac.eval (.tmp 9) = .int .i64 ((0 : Nat) : Int))
    (hend : ∀ ad y, Cs w b C b6 g7 cap7 tl v5 o M (kOut M (keepS s (findI M (o.getD i 0))).1 (i + 1)) (keepS s (findI M (o.getD i 0))).2 ad y → ad.eval (.tmp 8) = .int .i64 (i : Int) → Q .normal ad y) : c11_li.wp Try.prog Q ac x := by
  obtain ⟨a5, cap5, hv5⟩ := h.i5.len
  have hkl := keepS_len s (findI M (o.getD i 0))
  have hkr := keepS_R8 (s := s) hr8 (findI M (o.getD i 0))
  unfold c11_li
  refine wp_block ?_
  refine wp_loop (fun ad y => ∃ (k : Nat) (out room : List Int), Cs w b C b6 g7 cap7 tl v5 o M out room ad y ∧ k ≤ M.length ∧ ad.eval (.tmp 8) = .int .i64 (i : Int) ∧ ad.eval (.tmp 9) = .int .i64 (k : Int) ∧ KMid M s i k (findI M (o.getD i 0)) out room) (fun ad _ => M.length - (intOf (ad.eval (.tmp 9))).toNat)
    ⟨0, _, _, h, Nat.zero_le _, e8, e9, .inr ⟨fun _ _ => Nat.zero_le _, rfl, rfl⟩⟩ (fun a0 x0 ⟨k, out, room, h0, hk, f8, f9, hmid⟩ => ?_)
  unfold c11_ri
  refine wp_seq (wp_seq (r11_10 h0.z k M.length cap5 a5 f9 (by rw [h0.e5, hv5]) (fun a2 x2 A2 o2 G2 => ?_)))
  have h2 := h0.gr A2 (by decide) G2
  have g8 := A2.get f8 (by decide)
  have g9 := A2.get f9 (by decide)
  show Code.wp Try.prog (Code.cond _ _ _) _ a2 x2
  refine wp_cond_split o2 (fun q => ?_) (fun q => ?_)
  · have q : (k : Int) < (M.length : Int) := of_decide_eq_true q
    have hkl' : k < M.length := by omega
    have holen : out.length = 8 ∧ room.length = M.length ∧ R8 room := by
      rcases hmid with ⟨j, _, _, rfl, rfl⟩ | ⟨_, rfl, rfl⟩
      · exact ⟨kOut_len _ _ _ (by rw [hkl.1, hs1]) (by omega), by rw [hkl.2, hs2], hkr⟩
      · exact ⟨kOut_len _ _ _ hs1 (by omega), hs2, hr8⟩
    obtain ⟨hol, hrl, hrr⟩ := holen
    obtain ⟨g, of, cap, hv, hX⟩ := h2.mc k hkl'
    have fiff := find_iff hM k hkl' (o.getD i 0)
    have fin : ∀ a4 x4 out' room', Cs w b C b6 g7 cap7 tl v5 o M out' room' a4 x4 → a4.eval (.tmp 8) = .int .i64 (i : Int) → a4.eval (.tmp 9) = .int .i64 (k : Int) → KMid M s i (k + 1) (findI M (o.getD i 0)) out' room' → (Code.region 11 q11_11 false).wp Try.prog (Exit.then (fun a' w' => (∃ (k : Nat) (out room : List Int), Cs w b C b6 g7 cap7 tl v5 o M out room a' w' ∧ k ≤ M.length ∧ a'.eval (.tmp 8) = .int .i64 (i : Int) ∧ a'.eval (.tmp 9) = .int .i64 (k : Int) ∧ KMid M s i k (findI M (o.getD i 0)) out room) ∧ M.length - (intOf (a'.eval (.tmp 9))).toNat < M.length - (intOf (a0.eval (.tmp 9))).toNat) (Exit.inBlock 2 Q)) a4 x4 := fun a4 x4 out' room' h4 m8 m9 hm4 => by
      refine r11_11 h4.z k (by omega) m9 (fun a5 x5 A5 o5 G5 => ?_)
      refine ⟨⟨k + 1, out', room', h4.gr A5 (by decide) G5, by omega, A5.get m8 (by decide), o5, hm4⟩, ?_⟩
      rw [o5, f9]
      simp only [intOf]
      omega
    refine wp_skip ?_
    show Code.wp Try.prog (Code.seq _ _) _ a2 x2
    refine wp_seq (wp_block ?_)
    by_cases he : o.getD i 0 = M.getD k 0
    · have hf : findI M (o.getD i 0) = some k := fiff.2 he.symm
      have hnot : out = kOut M s.1 i ∧ room = s.2 := by
        rcases hmid with ⟨j, hj, hjk, _, _⟩ | ⟨_, h1, h2⟩
        · rw [hf] at hj; cases hj; omega
        · exact ⟨h1, h2⟩
      obtain ⟨rfl, rfl⟩ := hnot
      refine wp_seq (r11_12t h2.z g of M.length cap k _ hkl' hX b i _ hi (h2.oc i (by omega)) g7 cap7 _ (fun y hy => (h2.rc k (by omega) y hy).1) he g8 h2.e2 (by rw [h2.e5, hv]) g9 h2.e7 (fun a3 x3 A3 o3 G3 => ?_))
      have h3 := h2.gr A3 (by decide) G3
      show Code.wp Try.prog (Code.cond _ _ _) _ a3 x3
      refine wp_cond_split o3 (fun q' => ?_) (fun q' => ?_)
      · have q' : s.2.getD k 0 > 0 := of_decide_eq_true q'
        have hks : keepS s (some k) = (s.1 ++ [some k], s.2.set k (s.2.getD k 0 - 1)) := by
          show (if 0 < s.2.getD k 0 then _ else _) = _
          rw [if_pos q']
        refine wp_seq (r11_13 h3.z g of M.length cap k _ hkl' (fun y hy => hX y (G3.trans hy)) b6 i hi _ (h3.uc i (by omega)) (A3.get g8 (by decide)) (by rw [h3.e5, hv]) (A3.get g9 (by decide)) h3.e6 (fun a4 x4 A4 G4 => ?_))
        have h4 := (h3.gr A4 (by decide) G4).setOut i (M.getD k 0)
        show Code.wp Try.prog (Code.region 14 q11_14 false) _ a4 _
        refine r11_14 h4.z g7 M.length cap7 k hkl' (s.2.getD k 0) (hr8 k) (h4.rc k (by omega)) h4.e7 (A4.get (A3.get g9 (by decide)) (by decide)) (fun a5 x5 A5 G5 => ?_)
        have h5 := (h4.gr A5 (by decide) G5).setRoom k (by omega) (s.2.getD k 0 - 1)
        refine fin a5 _ _ _ h5 (A5.get (A4.get (A3.get g8 (by decide)) (by decide)) (by decide)) (A5.get (A4.get (A3.get g9 (by decide)) (by decide)) (by decide)) (.inl ⟨k, hf, by omega, ?_, ?_⟩)
        · rw [hf, hks]
          exact (kept_some M s.1 k _ i hi hs1 rfl).symm
        · rw [hf, hks]
      · have q' : ¬ s.2.getD k 0 > 0 := of_decide_eq_false q'
        have hks : keepS s (some k) = (s.1 ++ [none], s.2) := by
          show (if 0 < s.2.getD k 0 then _ else _) = _
          rw [if_neg q']
        refine wp_skip ?_
        refine fin a3 x3 _ _ h3 (A3.get g8 (by decide)) (A3.get g9 (by decide)) (.inl ⟨k, hf, by omega, ?_, ?_⟩)
        · rw [hf, hks]
          exact (kept_none M s.1 i hi).symm
        · rw [hf, hks]
    · refine wp_seq (r11_12f h2.z g of M.length cap k _ hkl' hX b i _ hi (h2.oc i (by omega)) he g8 h2.e2 (by rw [h2.e5, hv]) g9 (fun a3 x3 A3 o3 G3 => ?_))
      have h3 := h2.gr A3 (by decide) G3
      show Code.wp Try.prog (Code.cond _ _ _) _ a3 x3
      refine wp_cond_split o3 (fun q' => by cases q') (fun _ => wp_skip ?_)
      refine fin a3 x3 _ _ h3 (A3.get g8 (by decide)) (A3.get g9 (by decide)) ?_
      rcases hmid with ⟨j, hj, hjk, h1, h2⟩ | ⟨hj, h1, h2⟩
      · exact .inl ⟨j, hj, by omega, h1, h2⟩
      · refine .inr ⟨fun j hj' => ?_, h1, h2⟩
        have h9 := hj j hj'
        have h8 : j ≠ k := fun e => by subst e; exact he (fiff.1 hj').symm
        omega
  · have q : ¬ (k : Int) < (M.length : Int) := of_decide_eq_false q
    refine wp_exit (hend a2 x2 ?_ g8)
    rcases hmid with ⟨j, hj, hjk, rfl, rfl⟩ | ⟨hj, rfl, rfl⟩
    · exact h2
    · have hn : findI M (o.getD i 0) = none := by
        cases hf : findI M (o.getD i 0) with
        | none => rfl
        | some j =>
          have h9 := hj j hf
          have h8 := (findI_some hM hf).1
          omega
      rw [hn]
      have e : kOut M (keepS s none).1 (i + 1) = kOut M s.1 i := kept_none M s.1 i hi
      rw [e]
      exact h2
def kpTo (M o : List Int) (room : List Int) (i : Nat) : List (Option Nat) × List Int := ((o.map (findI M)).take i).foldl keepS ([], room)
theorem kpTo_succ (M o room : List Int) (i : Nat) (hi : i < o.length) : kpTo M o room (i + 1) = keepS (kpTo M o room i) (findI M (o.getD i 0)) := by
  unfold kpTo
  rw [List.take_succ_eq_append_getElem (by simpa using hi), List.foldl_append]
  simp [List.getD_eq_getElem?_getD, hi]
theorem kpTo_facts (M o room : List Int) (hr : room.length = M.length) (hr8 : R8 room) : ∀ i, i ≤ o.length → (kpTo M o room i).1.length = i ∧ (kpTo M o room i).2.length = M.length ∧ R8 (kpTo M o room i).2
  | 0, _ => ⟨rfl, hr, hr8⟩
  | i + 1, h => by
    obtain ⟨a, b, c⟩ := kpTo_facts M o room hr hr8 i (by omega)
    rw [kpTo_succ M o room i (by omega)]
    have := keepS_len (kpTo M o room i) (findI M (o.getD i 0))
    exact ⟨by omega, by omega, keepS_R8 c _⟩
theorem rclaim_la {Q : Exit → Act → World → Prop} {w x : World} {b C b6 g7 cap7 : Nat} {tl : List Value} {v5 : Value} {o M room : List Int} {ac : Act} (ho : o.length = 8) (hM : M.Pairwise (· < ·)) (hl : M.length ≤ 17592186043904) (hr : room.length = M.length) (hr8 : R8 room) (h : Cs w b C b6 g7 cap7 tl v5 o M zl room ac x) (e8 : ac.eval (.tmp 8) = .int .i64 ((0 : Nat) : Int))
    (hend : ∀ ad y, Cs w b C b6 g7 cap7 tl v5 o M (keptV M (keepI (o.map (findI M)) room).1) (keepI (o.map (findI M)) room).2 ad y → Q .normal ad y) : c11_la.wp Try.prog Q ac x := by
  unfold c11_la
  refine wp_block ?_
  refine wp_loop (fun ad y => ∃ i : Nat, Cs w b C b6 g7 cap7 tl v5 o M (kOut M (kpTo M o room i).1 i) (kpTo M o room i).2 ad y ∧ i ≤ 8 ∧ ad.eval (.tmp 8) = .int .i64 (i : Int)) (fun ad _ => 8 - (intOf (ad.eval (.tmp 8))).toNat)
    ⟨0, h, by omega, e8⟩ (fun a0 x0 ⟨i, h0, hi, f8⟩ => ?_)
  obtain ⟨k1, k2, k3⟩ := kpTo_facts M o room hr hr8 i (by omega)
  unfold c11_ra
  refine wp_seq (wp_seq (r11_7 h0.z i f8 (fun a2 x2 A2 o2 G2 => ?_)))
  have h2 := h0.gr A2 (by decide) G2
  have g8 := A2.get f8 (by decide)
  show Code.wp Try.prog (Code.cond _ _ _) _ a2 x2
  refine wp_cond_split o2 (fun q => ?_) (fun q => ?_)
  · have q : (i : Int) < 8 := of_decide_eq_true q
    have hi8 : i < 8 := by omega
    refine wp_skip ?_
    show Code.wp Try.prog (Code.seq _ _) _ a2 x2
    refine wp_seq (wp_block ?_)
    refine wp_seq (r11_9 h2.z (fun a3 x3 A3 o9 G3 => ?_))
    have h3 := h2.gr A3 (by decide) G3
    show Code.wp Try.prog c11_li _ a3 x3
    refine rclaim_li ho hi8 hM hl k1 k2 k3 h3 (A3.get g8 (by decide)) o9 (fun a4 x4 h4 m8 => ?_)
    show Code.wp Try.prog (Code.region 8 q11_8 false) _ a4 x4
    refine r11_8 h4.z i (by omega) m8 (fun a5 x5 A5 o5 G5 => ?_)
    have h5 := h4.gr A5 (by decide) G5
    rw [← kpTo_succ M o room i (by omega)] at h5
    refine ⟨⟨i + 1, h5, by omega, o5⟩, ?_⟩
    rw [o5, f8]
    simp only [intOf]
    omega
  · have q : ¬ (i : Int) < 8 := of_decide_eq_false q
    obtain rfl : i = 8 := by omega
    have e1 : kpTo M o room 8 = keepI (o.map (findI M)) room := by
      unfold kpTo keepI
      rw [List.take_of_length_le (by simp [ho])]
    have e2 : kOut M (kpTo M o room 8).1 8 = keptV M (kpTo M o room 8).1 := by simp [kOut]
    rw [e2, e1] at h2
    exact wp_exit (hend a2 x2 h2)
/-! Whom the rest goes to. -/
theorem rclaim_lj {Q : Exit → Act → World → Prop} {w x : World} {b C b6 g7 cap7 i : Nat} {tl : List Value} {v5 : Value} {o M : List Int} {ac : Act} {s : List Nat × List Int × Nat} {y0 : Option Nat} {left : List (Option Nat)} (hi : i < 8) (hp : ∀ x ∈ M, 0 < x) (hl : M.length ≤ 17592186043904) (hM0 : 0 < M.length) (hs1 : s.1.length = i) (hll : (y0 :: left).length = 8 - i) (hin : ∀ j, y0 = some j → j < M.length) (hok : FillOk M.length s (y0 :: left)) (h : Cs w b C b6 g7 cap7 tl v5 o M (midV M s.1 (y0 :: left)) s.2.1 ac x) (e10 : ac.eval (.tmp 10) = .int .i64 (i : Int)) (e11 : ac.eval (.tmp 11) = .int .i64 ((0 : Nat) : Int))
    (hend : ∀ ad y, Cs w b C b6 g7 cap7 tl v5 o M (midV M (fillS s y0).1 left) (fillS s y0).2.1 ad y → ad.eval (.tmp 10) = .int .i64 (i : Int) → Q .normal ad y) : c11_lj.wp Try.prog Q ac x := by
  obtain ⟨a5, cap5, hv5⟩ := h.i5.len
  have hpos : ∀ j, j < M.length → 0 < M.getD j 0 := fun j hj => hp _ (by rw [List.getD_eq_getElem?_getD, List.getElem?_eq_getElem hj]; exact List.getElem_mem hj)
  have hml : (midV M s.1 (y0 :: left)).length = 8 := by rw [midV_len, hll, hs1]; omega
  have hat : (midV M s.1 (y0 :: left)).getD i 0 = valI M y0 := by
    unfold midV
    rw [List.getD_eq_getElem?_getD, List.getElem?_append_right (by rw [outV_len]; omega), outV_len, hs1, Nat.sub_self]
    rfl
  unfold c11_lj
  refine wp_block ?_
  cases y0 with
  | some j =>
    have hj := hin j rfl
    refine wp_loop (fun ad y => Cs w b C b6 g7 cap7 tl v5 o M (midV M s.1 (some j :: left)) s.2.1 ad y ∧ ad.eval (.tmp 10) = .int .i64 (i : Int) ∧ ad.eval (.tmp 11) = .int .i64 ((0 : Nat) : Int)) (fun _ _ => 0) ⟨h, e10, e11⟩ (fun a0 x0 ⟨h0, f10, f11⟩ => ?_)
    unfold c11_rj
    refine wp_seq (wp_seq (r11_19t h0.z 0 M.length cap5 a5 hM0 b6 i _ hi (fun y hy => (h0.uc i (by omega) y hy).1) f11 (by rw [h0.e5, hv5]) f10 h0.e6 (fun a2 x2 A2 o2 G2 => ?_)))
    rw [hat] at o2
    have h2 := h0.gr A2 (by decide) G2
    show Code.wp Try.prog (Code.cond _ _ _) _ a2 x2
    refine wp_cond_split o2 (fun q => ?_) (fun _ => ?_)
    · have q := of_decide_eq_true q
      have := hpos j hj
      exfalso
      have : M.getD j 0 = 0 := q
      omega
    · refine wp_exit (hend a2 x2 ?_ (A2.get f10 (by decide)))
      have e : midV M (fillS s (some j)).1 left = midV M s.1 (some j :: left) := midV_some M s.1 j left
      rw [e]
      exact h2
  | none =>
    have hsum : 0 < s.2.1.sum := by rw [hok.sum]; simp
    obtain ⟨k0, k1, k2, k3⟩ := skip_facts s.2.1 s.2.2 hok.zeros hsum
    have hlen := hok.len
    have hfs : fillS s none = (s.1 ++ [skipI s.2.1 s.2.2], s.2.1.set (skipI s.2.1 s.2.2) (s.2.1.getD (skipI s.2.1 s.2.2) 0 - 1), skipI s.2.1 s.2.2) := rfl
    generalize skipI s.2.1 s.2.2 = sk at *
    have hout : midV M (fillS s none).1 left = (midV M s.1 (none :: left)).set i (M.getD sk 0) := by
      rw [hfs]
      have := midV_none M s.1 sk left
      rw [hs1] at this
      exact this
    refine wp_loop (fun ad y => ∃ k : Nat, ad.eval (.tmp 10) = .int .i64 (i : Int) ∧ ad.eval (.tmp 11) = .int .i64 (k : Int) ∧ ((k ≤ sk ∧ Cs w b C b6 g7 cap7 tl v5 o M (midV M s.1 (none :: left)) s.2.1 ad y) ∨ (k = sk + 1 ∧ Cs w b C b6 g7 cap7 tl v5 o M (midV M (fillS s none).1 left) (fillS s none).2.1 ad y))) (fun ad _ => M.length + 1 - (intOf (ad.eval (.tmp 11))).toNat)
      ⟨0, e10, e11, .inl ⟨Nat.zero_le _, h⟩⟩ (fun a0 x0 ⟨k, f10, f11, hst⟩ => ?_)
    unfold c11_rj
    rcases hst with ⟨hk, h0⟩ | ⟨hk, h0⟩
    · have hkn : k < M.length := by omega
      refine wp_seq (wp_seq (r11_19t h0.z k M.length cap5 a5 hkn b6 i _ hi (fun y hy => (h0.uc i (by omega) y hy).1) f11 (by rw [h0.e5, hv5]) f10 h0.e6 (fun a2 x2 A2 o2 G2 => ?_)))
      rw [hat] at o2
      have h2 := h0.gr A2 (by decide) G2
      have g10 := A2.get f10 (by decide)
      have g11 := A2.get f11 (by decide)
      show Code.wp Try.prog (Code.cond _ _ _) _ a2 x2
      refine wp_cond_split o2 (fun _ => ?_) (fun q => absurd (show valI M none = 0 from rfl) (of_decide_eq_false q))
      refine wp_skip ?_
      show Code.wp Try.prog (Code.seq _ _) _ a2 x2
      refine wp_seq (wp_block ?_)
      refine wp_seq (r11_21 h2.z M.length k hkn g7 cap7 _ (fun y hy => (h2.rc k (by omega) y hy).1) h2.e7 g11 (fun a3 x3 A3 o3 G3 => ?_))
      have h3 := h2.gr A3 (by decide) G3
      have m10 := A3.get g10 (by decide)
      have m11 := A3.get g11 (by decide)
      show Code.wp Try.prog (Code.cond _ _ _) _ a3 x3
      refine wp_cond_split o3 (fun q => ?_) (fun q => ?_)
      · have q : s.2.1.getD k 0 > 0 := of_decide_eq_true q
        have hksk : k = sk := by
          rcases Nat.lt_or_ge k sk with q' | q'
          · have := k3 k q'; omega
          · omega
        subst hksk
        obtain ⟨g, of, cap, hv, hX⟩ := h3.mc k hkn
        refine wp_seq (r11_22 h3.z g of M.length cap k _ hkn hX b6 i hi _ (h3.uc i (by omega)) m10 (by rw [h3.e5, hv]) m11 h3.e6 (fun a4 x4 A4 G4 => ?_))
        have h4 := (h3.gr A4 (by decide) G4).setOut i (M.getD k 0)
        show Code.wp Try.prog (Code.region 23 q11_23 false) _ a4 _
        refine r11_23 h4.z g7 M.length cap7 k hkn (s.2.1.getD k 0) (hok.r8 k) (h4.rc k (by omega)) h4.e7 (A4.get m11 (by decide)) (fun a5 x5 A5 G5 => ?_)
        have h5 := (h4.gr A5 (by decide) G5).setRoom k (by omega) (s.2.1.getD k 0 - 1)
        show Code.wp Try.prog (Code.region 20 q11_20 false) _ a5 _
        refine r11_20 h5.z k (by omega) (A5.get (A4.get m11 (by decide)) (by decide)) (fun a6 x6 A6 o6 G6 => ?_)
        have h6 := h5.gr A6 (by decide) G6
        refine ⟨⟨k + 1, A6.get (A5.get (A4.get m10 (by decide)) (by decide)) (by decide), o6, .inr ⟨rfl, ?_⟩⟩, ?_⟩
        · rw [hout, hfs]; exact h6
        · show M.length + 1 - (intOf (a6.eval (.tmp 11))).toNat < M.length + 1 - (intOf (a0.eval (.tmp 11))).toNat
          rw [o6, f11]
          simp only [intOf]
          omega
      · have q : ¬ s.2.1.getD k 0 > 0 := of_decide_eq_false q
        have hlt : k < sk := by
          rcases Nat.lt_or_ge k sk with q' | q'
          · exact q'
          · have e : k = sk := by omega
            subst e
            have := hok.r8 k
            omega
        refine wp_skip ?_
        show Code.wp Try.prog (Code.region 20 q11_20 false) _ a3 x3
        refine r11_20 h3.z k (by omega) m11 (fun a6 x6 A6 o6 G6 => ?_)
        refine ⟨⟨k + 1, A6.get m10 (by decide), o6, .inl ⟨by omega, h3.gr A6 (by decide) G6⟩⟩, ?_⟩
        show M.length + 1 - (intOf (a6.eval (.tmp 11))).toNat < M.length + 1 - (intOf (a0.eval (.tmp 11))).toNat
        rw [o6, f11]
        simp only [intOf]
        omega
    · by_cases hkn : k < M.length
      · have hol : (midV M (fillS s none).1 left).length = 8 := by rw [hout, List.length_set]; exact hml
        refine wp_seq (wp_seq (r11_19t h0.z k M.length cap5 a5 hkn b6 i _ hi (fun y hy => (h0.uc i (by omega) y hy).1) f11 (by rw [h0.e5, hv5]) f10 h0.e6 (fun a2 x2 A2 o2 G2 => ?_)))
        have h2 := h0.gr A2 (by decide) G2
        show Code.wp Try.prog (Code.cond _ _ _) _ a2 x2
        refine wp_cond_split o2 (fun q => ?_) (fun _ => ?_)
        · have q := of_decide_eq_true q
          rw [hout, getD_set_eq, if_pos ⟨rfl, by omega⟩] at q
          have := hpos sk (by omega)
          omega
        · exact wp_exit (hend a2 x2 h2 (A2.get f10 (by decide)))
      · refine wp_seq (wp_seq (r11_19f h0.z k M.length cap5 a5 hkn f11 (by rw [h0.e5, hv5]) (fun a2 x2 A2 o2 G2 => ?_)))
        have h2 := h0.gr A2 (by decide) G2
        show Code.wp Try.prog (Code.cond _ _ _) _ a2 x2
        refine wp_cond_split o2 (fun q => by cases q) (fun _ => ?_)
        exact wp_exit (hend a2 x2 h2 (A2.get f10 (by decide)))
theorem rclaim_lb {Q : Exit → Act → World → Prop} {w x : World} {b C b6 g7 cap7 : Nat} {tl : List Value} {v5 : Value} {o M room : List Int} {kept : List (Option Nat)} {ac : Act} (hp : ∀ x ∈ M, 0 < x) (hl : M.length ≤ 17592186043904) (hM0 : 0 < M.length) (hk8 : kept.length = 8) (hin : ∀ i, some i ∈ kept → i < M.length) (hok : FillOk M.length ([], room, 0) kept) (h : Cs w b C b6 g7 cap7 tl v5 o M (keptV M kept) room ac x) (e10 : ac.eval (.tmp 10) = .int .i64 ((0 : Nat) : Int))
    (hend : ∀ ad y r', Cs w b C b6 g7 cap7 tl v5 o M (outV M (fillI kept room)) r' ad y → Q .normal ad y) : c11_lb.wp Try.prog Q ac x := by
  unfold c11_lb
  refine wp_block ?_
  refine wp_loop (fun ad y => ∃ i : Nat, Cs w b C b6 g7 cap7 tl v5 o M (midV M ((kept.take i).foldl fillS ([], room, 0)).1 (kept.drop i)) ((kept.take i).foldl fillS ([], room, 0)).2.1 ad y ∧ i ≤ 8 ∧ ad.eval (.tmp 10) = .int .i64 (i : Int)) (fun ad _ => 8 - (intOf (ad.eval (.tmp 10))).toNat)
    ⟨0, h, by omega, e10⟩ (fun a0 x0 ⟨i, h0, hi, f10⟩ => ?_)
  have hok' := fill_ok M.length kept i _ hok
  have hsl : ((kept.take i).foldl fillS ([], room, 0)).1.length = i := by rw [fold_len]; simp; omega
  unfold c11_rb
  refine wp_seq (wp_seq (r11_16 h0.z i f10 (fun a2 x2 A2 o2 G2 => ?_)))
  have h2 := h0.gr A2 (by decide) G2
  have g10 := A2.get f10 (by decide)
  show Code.wp Try.prog (Code.cond _ _ _) _ a2 x2
  refine wp_cond_split o2 (fun q => ?_) (fun q => ?_)
  · have q : (i : Int) < 8 := of_decide_eq_true q
    have hi8 : i < 8 := by omega
    have hik : i < kept.length := by omega
    have hdrop : kept.drop i = kept[i] :: kept.drop (i + 1) := List.drop_eq_getElem_cons hik
    have htake : (kept.take (i + 1)).foldl fillS ([], room, 0) = fillS ((kept.take i).foldl fillS ([], room, 0)) kept[i] := by
      rw [List.take_succ_eq_append_getElem hik, List.foldl_append]; rfl
    have hll : (kept[i] :: kept.drop (i + 1)).length = 8 - i := by rw [← hdrop, List.length_drop]; omega
    rw [hdrop] at h2 hok'
    refine wp_skip ?_
    show Code.wp Try.prog (Code.seq _ _) _ a2 x2
    refine wp_seq (wp_block ?_)
    refine wp_seq (r11_18 h2.z (fun a3 x3 A3 o11 G3 => ?_))
    have h3 := h2.gr A3 (by decide) G3
    show Code.wp Try.prog c11_lj _ a3 x3
    refine rclaim_lj hi8 hp hl hM0 hsl hll (fun j hj => hin j (by rw [← hj]; exact List.getElem_mem hik)) hok' h3 (A3.get g10 (by decide)) o11 (fun a4 x4 h4 m10 => ?_)
    show Code.wp Try.prog (Code.region 17 q11_17 false) _ a4 x4
    refine r11_17 h4.z i (by omega) m10 (fun a5 x5 A5 o5 G5 => ?_)
    have h5 := h4.gr A5 (by decide) G5
    rw [← htake] at h5
    refine ⟨⟨i + 1, h5, by omega, o5⟩, ?_⟩
    rw [o5, f10]
    simp only [intOf]
    omega
  · have q : ¬ (i : Int) < 8 := of_decide_eq_false q
    obtain rfl : i = 8 := by omega
    have e1 : kept.take 8 = kept := List.take_of_length_le (by omega)
    have e2 : kept.drop 8 = [] := List.drop_eq_nil_of_le (by omega)
    rw [e1, e2] at h2
    have e3 : midV M (kept.foldl fillS ([], room, 0)).1 [] = outV M (fillI kept room) := by simp [midV, keptV, fillI]
    rw [e3] at h2
    exact wp_exit (hend a2 x2 _ h2)
theorem owns_holds {w : World} {base n : Nat} {v : Value} {l : List Int} (h : w.ownsRow base 3 1 v n (intV l)) (hn : 0 < n) (hl : l.length = n) : ∃ g cap tl, v = .slice (some ⟨g, 0, none⟩) n cap ∧ base ≤ g ∧ Holds w g (intV l ++ tl) 3 := by
  rcases h.2 with ⟨_, h0⟩ | ⟨g, cap, cur, e, hng, hg, hc, _, hs, ht⟩
  · omega
  · refine ⟨g, cap, cur.toList.drop n, e, hng, ?_⟩
    unfold Holds
    rw [hg]
    congr 2
    rw [← ht, Nat.mul_one, List.take_append_drop, Array.toArray_toList]
theorem ret_row {x : World} {ac : Act} {b4 : Nat} {l : List Int} {R : Ending → World → Prop} (df : ac.defers = []) (e4 : ac.eval (.tmp 4) = .pointer (some ⟨b4, 0, none⟩)) (hl : l.length = 8) (h : Holds x b4 (intV l) 23) (hR : R (.returned (.agg (intV l).toArray)) x) : bodyPost Try.prog Try.f11 R .ret ac x :=
  bodyPost_ret (results_cell_row (p := 4) (by kernel_rfl) _ x b4 23 (intV l).toArray (0, 0) _ e4 h und23 rfl (by rw [siz23, List.size_toArray, intV_len, hl])) df hR
set_option maxHeartbeats 1000000 in
theorem rclaim_any (v1 : Value) (o ms : List Int) (w : World) (ho : o.length = 8) (hm : Ints w.heap.size w v1 ms) (hl : ms.length ≤ 17592186043904) :
    Calls Try.prog 11 #[.agg (intV o).toArray, v1] w fun e z => e = .returned (.agg (intV (claimL o ms)).toArray) ∧ Gr w z := by
  obtain ⟨b, hwb⟩ : ∃ b, w.heap.size = b := ⟨_, rfl⟩
  rw [hwb] at hm
  obtain ⟨hM, hmem⟩ := risen_facts ms
  have hp : ∀ x ∈ risenL ms, 0 < x := fun x hx => ((hmem x).1 hx).2
  have hml : (risenL ms).length ≤ 17592186043904 := by
    have h1 : (risenL ms).length ≤ (sortL (posL ms)).length := by
      unfold risenL Lib.compact Lib.compactUpTo
      rw [List.length_map]
      exact Nat.le_trans (List.length_filter_le ..) (by simp)
    have h2 := posL_len ms
    rw [sortL_len] at h1
    omega
  have hcl : claimL o ms = if (risenL ms).length = 0 then List.replicate 8 0 else outV (risenL ms) (claimI (risenL ms).length (o.map (findI (risenL ms)))) := rfl
  have hcm := fun hn => claim_mid (risenL ms) o hM ho hn
  have hth : ∀ y, Below b w y → b ≤ y.heap.size → Calls Try.prog 24 #[v1] y fun e z => ∃ u, e = .returned u ∧ Gr y z ∧ (intsF (risenL ms)).holds u z := fun y hy hb => (those_any v1 ms y ((hm.below hy).mono hb) hl).mono fun e z ⟨u, p1, p2, p3⟩ => ⟨u, p1, p3, p2⟩
  have hclen := claimL_len o ms ho
  generalize risenL ms = M at *
  generalize claimL o ms = CL at *
  refine calls_by (c := c11) Try.func11 (by kernel_rfl) 92 (by rw [Try.ntmps11]; rfl) (fun ac z df hv => ?_)
  have e0 := hv 0 _ rfl
  have e1 := hv 1 _ rfl
  clear hv
  have hol : (intV o).length = 8 := by rw [intV_len, ho]
  unfold c11
  refine wp_seq (r11_0 z b hwb o e0 (fun a1 w1 x1 A1 o2 o4 N1 N2 => ?_))
  have z1 := A1.size.trans z
  have hb1 : Below b w x1 := N1.below.trans (N2.below.mono (by omega))
  have hH2 : Holds x1 b (intV o) 23 := N1.holds.below N2.below (by omega)
  have hs1 : x1.heap.size = b + 2 := N2.size
  show Code.wp Try.prog (Code.seq _ _) _ a1 x1
  refine wp_seq (r11_1 z1 v1 M (fun y hy => hth y (hb1.trans (hy.mono (by omega))) (by have := hy.size; omega)) (A1.get e1 (by decide)) (fun a2 x2 A2 i5 G2 => ?_))
  have z2 := A2.size.trans z1
  have f2 := A2.get o2 (by decide)
  have f4 := A2.get o4 (by decide)
  generalize he5 : a2.eval (.tmp 5) = v5 at i5
  have i5' : Ints x2.heap.size x2 v5 M := i5
  have hs2 : b + 2 ≤ x2.heap.size := by have := G2.size; omega
  show Code.wp Try.prog (Code.seq _ _) _ a2 x2
  refine wp_seq (r11_2 z2 x2.heap.size rfl (fun a3 x3 A3 o6 N3 => ?_))
  have z3 := A3.size.trans z2
  have df3 : a3.defers = [] := A3.defers.trans (A2.defers.trans (A1.defers.trans df))
  have k2 := A3.get f2 (by decide)
  have k4 := A3.get f4 (by decide)
  have k5 := A3.get he5 (by decide)
  have H2 : Holds x3 b (intV o) 23 := (hH2.below G2 hH2.lt).below N3.below (by omega)
  have H4 : Holds x3 (b + 1) (intV zl) 23 := (N2.holds.below G2 N2.holds.lt).below N3.below (by omega)
  have B3 : Below b w x3 := (hb1.trans (Below.mono G2 (by omega))).trans (N3.below.mono (by omega))
  have I3 : Ints x2.heap.size x3 v5 M := i5'.below N3.below
  have hs3 : x3.heap.size = x2.heap.size + 1 := N3.size
  obtain ⟨a5, cap5, hv5⟩ := I3.len
  show Code.wp Try.prog (Code.seq c11_c3 _) _ a3 x3
  unfold c11_c3
  refine wp_seq (wp_seq (r11_3 z3 M.length cap5 a5 (by rw [k5, hv5]) (fun a4 x4 A4 o16 G4 => ?_)))
  have z4 := A4.size.trans z3
  have df4 : a4.defers = [] := A4.defers.trans df3
  show Code.wp Try.prog (Code.cond _ _ _) _ a4 x4
  refine wp_cond_split o16 (fun q => ?_) (fun q => ?_)
  · have q : (M.length : Int) = 0 := of_decide_eq_true q
    refine wp_seq (r11_4 z4 (b + 1) x2.heap.size zl zl rfl rfl (N3.holds.below G4 N3.holds.lt) (H4.below G4 H4.lt) (A4.get o6 (by decide)) (A4.get k4 (by decide)) (fun a5' x5 A5 H5 B5 => ?_))
    rw [hcl, if_pos (by omega)]
    refine wp_ret (show bodyPost Try.prog Try.f11 (fun e z => e = .returned (.agg (intV zl).toArray) ∧ Gr w z) .ret a5' x5 from ret_row (A5.defers.trans df4) (A5.get (A4.get k4 (by decide)) (by decide)) rfl H5 ⟨rfl, ?_⟩)
    unfold Gr
    rw [hwb]
    exact (B3.trans (Below.mono G4 (by omega))).trans (B5.mono (by omega))
  · have q : ¬ (M.length : Int) = 0 := of_decide_eq_false q
    have hM0 : 0 < M.length := by omega
    obtain ⟨c1, c2, c3⟩ := hcm hM0
    rw [if_neg (by omega)] at hcl
    have hsl : (shareI (tallyI M.length (o.map (findI M)))).length = M.length := by rw [shareI_len, tallyI_len]
    refine wp_skip ?_
    show Code.wp Try.prog (Code.seq _ _) _ a4 x4
    have I4 : Ints x2.heap.size x4 v5 M := I3.below (Below.mono G4 (by omega))
    have H2' := H2.below G4 H2.lt
    have hs4 : x2.heap.size + 1 ≤ x4.heap.size := by have := G4.size; omega
    refine wp_seq (r11_5 z4 b v5 M.length (intV (shareI (tallyI M.length (o.map (findI M))))) o hol H2' (fun y hy => (quotas_any v5 o M y ho ((I4.below (Below.mono hy (by omega))).mono (by have := hy.size; omega)) hM hp hml).mono fun e z ⟨u, p1, p2, p3⟩ => ⟨u, p1, p3, p2.mono hy.size⟩) (A4.get k2 (by decide)) (A4.get k5 (by decide)) (fun a6 x6 A6 own7 G6 => ?_))
    generalize he7 : a6.eval (.tmp 7) = v7 at own7
    have own7' : x6.ownsRow x4.heap.size 3 1 v7 M.length (intV (shareI (tallyI M.length (o.map (findI M))))) := own7
    obtain ⟨g7, cap7, tl, hv7, hg7, H7⟩ := owns_holds own7' hM0 hsl
    have G46 := G4.trans G6
    have hC : Cs w b x2.heap.size x2.heap.size g7 cap7 tl v5 o M zl (shareI (tallyI M.length (o.map (findI M)))) a6 x6 :=
      ⟨A6.size.trans z4, A6.defers.trans df4, A6.get (A4.get k2 (by decide)) (by decide), A6.get (A4.get k4 (by decide)) (by decide), A6.get (A4.get k5 (by decide)) (by decide), A6.get (A4.get o6 (by decide)) (by decide), he7.trans hv7, B3.trans (Below.mono G46 (by omega)), H2.below G46 H2.lt, H4.below G46 H4.lt, I4.below (Below.mono G6 (by omega)), N3.holds.below G46 N3.holds.lt, H7, by omega, Nat.le_refl _, by omega⟩
    show Code.wp Try.prog (Code.seq (Code.seq _ c11_la) _) _ a6 x6
    refine wp_seq (wp_seq (r11_6 hC.z (fun a7 x7 A7 o8 G7 => ?_)))
    show Code.wp Try.prog c11_la _ a7 x7
    refine rclaim_la ho hM hml hsl (shareI_R8 _) (hC.gr A7 (by decide) G7) o8 (fun a8 x8 h8 => ?_)
    show Code.wp Try.prog (Code.seq (Code.seq _ c11_lb) c11_fin) _ a8 x8
    refine wp_seq (wp_seq (r11_15 h8.z (fun a9 x9 A9 o10 G9 => ?_)))
    show Code.wp Try.prog c11_lb _ a9 x9
    refine rclaim_lb hp hml hM0 c1 c2 c3 (h8.gr A9 (by decide) G9) o10 (fun a10 x10 r' h10 => ?_)
    show Code.wp Try.prog c11_fin _ a10 x10
    have hCL : outV M (fillI (keepI (o.map (findI M)) (shareI (tallyI M.length (o.map (findI M))))).1 (keepI (o.map (findI M)) (shareI (tallyI M.length (o.map (findI M))))).2) = CL := hcl.symm
    rw [hCL] at h10
    unfold c11_fin
    refine wp_seq (r11_24 h10.z (b + 1) x2.heap.size CL zl (by rw [intV_len, hclen]) rfl h10.h6 h10.h4 h10.e6 h10.e4 (fun a11 x11 A11 H11 B11 => ?_))
    refine wp_ret (ret_row (A11.defers.trans h10.df) (A11.get h10.e4 (by decide)) hclen H11 ⟨rfl, ?_⟩)
    unfold Gr
    rw [hwb]
    exact h10.bl.trans (B11.mono (by omega))
end Go.Proofs.Ytlliijodilnlgaa
