/- GsMakeR, GsMakes. -/
import Derived.Test.YthmnjebmnocoiaaGreatYM6
/- GossipMakes: the law's regions and its walk. By tools/gen_makes.py. -/
namespace Go.Proofs.YthmnjebmnocoiaaGreat.En
open Go.RowKit
set_option maxRecDepth 100000
variable {Q : Exit → Act → World → Prop} {a0 : Act} {w : World}
def q3_0 : Array Oper := #[⟨some 3, .box 29 (.tmp 0), 0, "law.go:25", #[], none⟩, ⟨some 6, .assign (.const (.bool false)), 4, "law.go:25", #[], none⟩]
def q3_1 : Array Oper := #[⟨some 21, .call ⟨.value (.func 6), #[], #[]⟩, 4, "law.go:26", #[], none⟩, ⟨some 7, .assign (.tmp 21), 4, "law.go:26", #[⟨0, .data⟩, ⟨0, .chain⟩, ⟨0, .phase⟩], none⟩]
def q3_2 : Array Oper := #[⟨some 22, .indexAddr 29 (.tmp 3) (.const (.int .i64 0)), 0, "law.go:27", #[], none⟩, ⟨some 23, .load 28 (.tmp 22), 28, "law.go:27", #[⟨0, .data⟩], none⟩, ⟨some 8, .alloc 28, 0, "law.go:27", #[], none⟩, ⟨none, .store 28 (.tmp 8) (.tmp 23), 0, "law.go:27", #[⟨2, .data⟩, ⟨1, .data⟩, ⟨0, .phase⟩, ⟨1, .phase⟩, ⟨2, .phase⟩], none⟩]
def q3_3 : Array Oper := #[⟨some 24, .indexAddr 29 (.tmp 3) (.const (.int .i64 1)), 0, "law.go:28", #[], none⟩, ⟨some 25, .load 28 (.tmp 24), 28, "law.go:28", #[⟨0, .data⟩], none⟩, ⟨some 9, .alloc 28, 0, "law.go:28", #[], none⟩, ⟨none, .store 28 (.tmp 9) (.tmp 25), 0, "law.go:28", #[⟨2, .data⟩, ⟨1, .data⟩, ⟨0, .phase⟩, ⟨1, .phase⟩, ⟨2, .phase⟩], none⟩]
def q3_4 : Array Oper := #[⟨some 26, .load 28 (.tmp 8), 28, "law.go:29", #[], none⟩, ⟨some 27, .call ⟨.value (.func 8), #[.tmp 26], #[28]⟩, 28, "law.go:29", #[⟨0, .data⟩], none⟩, ⟨some 28, .load 28 (.tmp 8), 28, "law.go:29", #[], none⟩, ⟨some 29, .call ⟨.value (.func 9), #[.tmp 28], #[28]⟩, 28, "law.go:29", #[⟨2, .data⟩, ⟨1, .chain⟩], none⟩, ⟨some 30, .call ⟨.value (.func 7), #[.tmp 27, .tmp 29], #[28, 28]⟩, 4, "law.go:29", #[⟨1, .data⟩, ⟨3, .data⟩, ⟨3, .chain⟩], none⟩, ⟨some 10, .assign (.tmp 30), 4, "law.go:29", #[⟨4, .data⟩, ⟨4, .chain⟩, ⟨0, .phase⟩, ⟨1, .phase⟩, ⟨2, .phase⟩, ⟨3, .phase⟩, ⟨4, .phase⟩], none⟩]
def q3_5 : Array Oper := #[⟨some 31, .load 28 (.tmp 8), 28, "law.go:30", #[], none⟩, ⟨some 32, .load 28 (.tmp 9), 28, "law.go:30", #[], none⟩, ⟨some 33, .buildSlice 36 2 #[(0, .tmp 31), (1, .tmp 32)], 36, "law.go:30", #[⟨0, .data⟩, ⟨1, .data⟩], none⟩, ⟨some 34, .call ⟨.value (.func 10), #[.tmp 33], #[36]⟩, 28, "law.go:30", #[⟨2, .data⟩], none⟩, ⟨some 35, .load 28 (.tmp 8), 28, "law.go:30", #[], none⟩, ⟨some 36, .load 28 (.tmp 9), 28, "law.go:30", #[], none⟩, ⟨some 37, .buildSlice 36 2 #[(0, .tmp 35), (1, .tmp 36)], 36, "law.go:30", #[⟨4, .data⟩, ⟨5, .data⟩], none⟩, ⟨some 38, .call ⟨.value (.func 11), #[.tmp 37], #[36]⟩, 28, "law.go:30", #[⟨6, .data⟩, ⟨3, .chain⟩], none⟩, ⟨some 39, .call ⟨.value (.func 7), #[.tmp 34, .tmp 38], #[28, 28]⟩, 4, "law.go:30", #[⟨3, .data⟩, ⟨7, .data⟩, ⟨7, .chain⟩], none⟩, ⟨some 11, .assign (.tmp 39), 4, "law.go:30", #[⟨8, .data⟩, ⟨8, .chain⟩, ⟨0, .phase⟩, ⟨1, .phase⟩, ⟨2, .phase⟩, ⟨3, .phase⟩, ⟨4, .phase⟩, ⟨5, .phase⟩, ⟨6, .phase⟩, ⟨7, .phase⟩, ⟨8, .phase⟩], none⟩]
def q3_6 : Array Oper := #[⟨some 40, .load 28 (.tmp 8), 28, "law.go:31", #[], none⟩, ⟨some 41, .move (.tmp 1), 3, "law.go:31", #[], none⟩, ⟨some 42, .call ⟨.value (.func 12), #[.tmp 40, .tmp 41], #[28, 3]⟩, 28, "law.go:31", #[⟨0, .data⟩, ⟨1, .data⟩], none⟩, ⟨some 43, .load 28 (.tmp 8), 28, "law.go:31", #[], none⟩, ⟨some 44, .move (.tmp 1), 3, "law.go:31", #[], none⟩, ⟨some 45, .call ⟨.value (.func 13), #[.tmp 43, .tmp 44], #[28, 3]⟩, 28, "law.go:31", #[⟨3, .data⟩, ⟨4, .data⟩, ⟨2, .chain⟩], none⟩, ⟨some 46, .call ⟨.value (.func 7), #[.tmp 42, .tmp 45], #[28, 28]⟩, 4, "law.go:31", #[⟨2, .data⟩, ⟨5, .data⟩, ⟨5, .chain⟩], none⟩, ⟨some 12, .assign (.tmp 46), 4, "law.go:31", #[⟨6, .data⟩, ⟨6, .chain⟩, ⟨0, .phase⟩, ⟨1, .phase⟩, ⟨2, .phase⟩, ⟨3, .phase⟩, ⟨4, .phase⟩, ⟨5, .phase⟩, ⟨6, .phase⟩], none⟩]
def q3_7 : Array Oper := #[⟨some 47, .load 28 (.tmp 8), 28, "law.go:32", #[], none⟩, ⟨some 48, .move (.tmp 1), 3, "law.go:32", #[], none⟩, ⟨some 49, .call ⟨.value (.func 14), #[.tmp 47, .tmp 48], #[28, 3]⟩, 28, "law.go:32", #[⟨0, .data⟩, ⟨1, .data⟩], none⟩, ⟨some 50, .load 28 (.tmp 8), 28, "law.go:32", #[], none⟩, ⟨some 51, .move (.tmp 1), 3, "law.go:32", #[], none⟩, ⟨some 52, .call ⟨.value (.func 15), #[.tmp 50, .tmp 51], #[28, 3]⟩, 28, "law.go:32", #[⟨3, .data⟩, ⟨4, .data⟩, ⟨2, .chain⟩], none⟩, ⟨some 53, .call ⟨.value (.func 7), #[.tmp 49, .tmp 52], #[28, 28]⟩, 4, "law.go:32", #[⟨2, .data⟩, ⟨5, .data⟩, ⟨5, .chain⟩], none⟩, ⟨some 13, .assign (.tmp 53), 4, "law.go:32", #[⟨6, .data⟩, ⟨6, .chain⟩, ⟨0, .phase⟩, ⟨1, .phase⟩, ⟨2, .phase⟩, ⟨3, .phase⟩, ⟨4, .phase⟩, ⟨5, .phase⟩, ⟨6, .phase⟩], none⟩]
def q3_8 : Array Oper := #[⟨some 54, .load 28 (.tmp 8), 28, "law.go:33", #[], none⟩, ⟨some 55, .move (.tmp 1), 3, "law.go:33", #[], none⟩, ⟨some 56, .call ⟨.value (.func 16), #[.tmp 54, .tmp 55], #[28, 3]⟩, 28, "law.go:33", #[⟨0, .data⟩, ⟨1, .data⟩], none⟩, ⟨some 57, .load 28 (.tmp 8), 28, "law.go:33", #[], none⟩, ⟨some 58, .move (.tmp 1), 3, "law.go:33", #[], none⟩, ⟨some 59, .call ⟨.value (.func 17), #[.tmp 57, .tmp 58], #[28, 3]⟩, 28, "law.go:33", #[⟨3, .data⟩, ⟨4, .data⟩, ⟨2, .chain⟩], none⟩, ⟨some 60, .call ⟨.value (.func 7), #[.tmp 56, .tmp 59], #[28, 28]⟩, 4, "law.go:33", #[⟨2, .data⟩, ⟨5, .data⟩, ⟨5, .chain⟩], none⟩, ⟨some 14, .assign (.tmp 60), 4, "law.go:33", #[⟨6, .data⟩, ⟨6, .chain⟩, ⟨0, .phase⟩, ⟨1, .phase⟩, ⟨2, .phase⟩, ⟨3, .phase⟩, ⟨4, .phase⟩, ⟨5, .phase⟩, ⟨6, .phase⟩], none⟩]
def q3_9 : Array Oper := #[⟨some 61, .move (.tmp 1), 3, "law.go:34", #[], none⟩, ⟨some 62, .call ⟨.value (.func 18), #[.tmp 61], #[3]⟩, 28, "law.go:34", #[⟨0, .data⟩], none⟩, ⟨some 63, .move (.tmp 1), 3, "law.go:34", #[], none⟩, ⟨some 64, .call ⟨.value (.func 19), #[.tmp 63], #[3]⟩, 28, "law.go:34", #[⟨2, .data⟩, ⟨1, .chain⟩], none⟩, ⟨some 65, .call ⟨.value (.func 7), #[.tmp 62, .tmp 64], #[28, 28]⟩, 4, "law.go:34", #[⟨1, .data⟩, ⟨3, .data⟩, ⟨3, .chain⟩], none⟩, ⟨some 15, .assign (.tmp 65), 4, "law.go:34", #[⟨4, .data⟩, ⟨4, .chain⟩, ⟨0, .phase⟩, ⟨1, .phase⟩, ⟨2, .phase⟩, ⟨3, .phase⟩, ⟨4, .phase⟩], none⟩]
def q3_10 : Array Oper := #[⟨some 66, .load 28 (.tmp 8), 28, "law.go:35", #[], none⟩, ⟨some 67, .move (.tmp 2), 30, "law.go:35", #[], none⟩, ⟨some 68, .call ⟨.value (.func 20), #[.tmp 66, .tmp 67], #[28, 30]⟩, 30, "law.go:35", #[⟨0, .data⟩, ⟨1, .data⟩], none⟩, ⟨some 16, .assign (.tmp 68), 30, "law.go:35", #[⟨2, .data⟩, ⟨2, .chain⟩, ⟨0, .phase⟩, ⟨1, .phase⟩, ⟨2, .phase⟩], none⟩]
def q3_11 : Array Oper := #[⟨some 69, .load 28 (.tmp 8), 28, "law.go:36", #[], none⟩, ⟨some 70, .move (.tmp 2), 30, "law.go:36", #[], none⟩, ⟨some 71, .call ⟨.value (.func 21), #[.tmp 69, .tmp 70], #[28, 30]⟩, 30, "law.go:36", #[⟨0, .data⟩, ⟨1, .data⟩], none⟩, ⟨some 17, .assign (.tmp 71), 30, "law.go:36", #[⟨2, .data⟩, ⟨2, .chain⟩, ⟨0, .phase⟩, ⟨1, .phase⟩, ⟨2, .phase⟩], none⟩]
def q3_12 : Array Oper := #[⟨some 72, .move (.tmp 10), 4, "law.go:37", #[], none⟩, ⟨some 73, .unOp .not 4 (.tmp 72), 4, "law.go:37", #[⟨0, .data⟩], none⟩, ⟨some 74, .move (.tmp 73), 4, "law.go:37", #[⟨1, .data⟩], none⟩, ⟨some 75, .move (.tmp 11), 4, "law.go:37", #[⟨2, .guard⟩], some (2, false)⟩, ⟨some 76, .unOp .not 4 (.tmp 75), 4, "law.go:37", #[⟨3, .data⟩, ⟨2, .guard⟩], some (2, false)⟩, ⟨some 77, .pick (.tmp 74) (.const (.bool true)) (.tmp 76), 4, "law.go:37", #[⟨2, .data⟩, ⟨4, .data⟩], none⟩, ⟨some 78, .move (.tmp 77), 4, "law.go:37", #[⟨5, .data⟩, ⟨2, .chain⟩], none⟩, ⟨some 79, .move (.tmp 12), 4, "law.go:37", #[⟨6, .guard⟩], some (6, false)⟩, ⟨some 80, .unOp .not 4 (.tmp 79), 4, "law.go:37", #[⟨7, .data⟩, ⟨6, .guard⟩], some (6, false)⟩, ⟨some 81, .pick (.tmp 78) (.const (.bool true)) (.tmp 80), 4, "law.go:37", #[⟨6, .data⟩, ⟨8, .data⟩], none⟩, ⟨some 82, .move (.tmp 81), 4, "law.go:37", #[⟨9, .data⟩, ⟨6, .chain⟩], none⟩, ⟨some 83, .move (.tmp 13), 4, "law.go:37", #[⟨10, .guard⟩], some (10, false)⟩, ⟨some 84, .unOp .not 4 (.tmp 83), 4, "law.go:37", #[⟨11, .data⟩, ⟨10, .guard⟩], some (10, false)⟩, ⟨some 85, .pick (.tmp 82) (.const (.bool true)) (.tmp 84), 4, "law.go:37", #[⟨10, .data⟩, ⟨12, .data⟩], none⟩, ⟨some 86, .move (.tmp 85), 4, "law.go:37", #[⟨13, .data⟩, ⟨10, .chain⟩], none⟩, ⟨some 87, .move (.tmp 14), 4, "law.go:37", #[⟨14, .guard⟩], some (14, false)⟩, ⟨some 88, .unOp .not 4 (.tmp 87), 4, "law.go:37", #[⟨15, .data⟩, ⟨14, .guard⟩], some (14, false)⟩, ⟨some 89, .pick (.tmp 86) (.const (.bool true)) (.tmp 88), 4, "law.go:37", #[⟨14, .data⟩, ⟨16, .data⟩], none⟩, ⟨some 90, .move (.tmp 89), 4, "law.go:37", #[⟨17, .data⟩, ⟨14, .chain⟩], none⟩, ⟨some 91, .move (.tmp 15), 4, "law.go:37", #[⟨18, .guard⟩], some (18, false)⟩, ⟨some 92, .unOp .not 4 (.tmp 91), 4, "law.go:37", #[⟨19, .data⟩, ⟨18, .guard⟩], some (18, false)⟩, ⟨some 93, .pick (.tmp 90) (.const (.bool true)) (.tmp 92), 4, "law.go:37", #[⟨18, .data⟩, ⟨20, .data⟩], none⟩, ⟨some 94, .move (.tmp 93), 4, "law.go:37", #[⟨21, .data⟩, ⟨18, .chain⟩], none⟩, ⟨some 95, .move (.tmp 16), 30, "law.go:37", #[⟨22, .guard⟩], some (22, false)⟩, ⟨some 96, .call ⟨.builtin .len, #[.tmp 95], #[30]⟩, 3, "law.go:37", #[⟨23, .data⟩, ⟨22, .guard⟩], some (22, false)⟩, ⟨some 97, .move (.tmp 17), 30, "law.go:37", #[⟨22, .guard⟩], some (22, false)⟩, ⟨some 98, .call ⟨.builtin .len, #[.tmp 97], #[30]⟩, 3, "law.go:37", #[⟨25, .data⟩, ⟨22, .guard⟩], some (22, false)⟩, ⟨some 99, .binOp .neq 3 (.tmp 96) (.tmp 98) 3, 4, "law.go:37", #[⟨24, .data⟩, ⟨26, .data⟩, ⟨22, .guard⟩], some (22, false)⟩, ⟨some 100, .pick (.tmp 94) (.const (.bool true)) (.tmp 99), 4, "law.go:37", #[⟨22, .data⟩, ⟨27, .data⟩], none⟩]
def q3_13 : Array Oper := #[⟨some 6, .assign (.const (.bool false)), 4, "law.go:38", #[], none⟩]
def q3_14 : Array Oper := #[⟨some 18, .assign (.const (.int .i64 0)), 3, "law.go:40", #[], none⟩]
def q3_15 : Array Oper := #[⟨some 101, .move (.tmp 18), 3, "law.go:40", #[], none⟩, ⟨some 102, .move (.tmp 16), 30, "law.go:40", #[], none⟩, ⟨some 103, .call ⟨.builtin .len, #[.tmp 102], #[30]⟩, 3, "law.go:40", #[⟨1, .data⟩], none⟩, ⟨some 104, .binOp .lss 3 (.tmp 101) (.tmp 103) 3, 4, "law.go:40", #[⟨0, .data⟩, ⟨2, .data⟩], none⟩]
def q3_16 : Array Oper := #[⟨some 105, .move (.tmp 18), 3, "law.go:40", #[], none⟩, ⟨some 106, .binOp .add 3 (.tmp 105) (.const (.int .i64 1)) 3, 3, "law.go:40", #[⟨0, .data⟩], none⟩, ⟨some 18, .assign (.tmp 106), 3, "law.go:40", #[⟨1, .data⟩, ⟨0, .phase⟩, ⟨1, .phase⟩], none⟩]
def q3_17 : Array Oper := #[⟨some 107, .move (.tmp 16), 30, "law.go:41", #[], none⟩, ⟨some 108, .move (.tmp 18), 3, "law.go:41", #[], none⟩, ⟨some 109, .indexAddr 30 (.tmp 107) (.tmp 108), 0, "law.go:41", #[⟨0, .data⟩, ⟨1, .data⟩], none⟩, ⟨some 110, .load 3 (.tmp 109), 3, "law.go:41", #[⟨2, .data⟩], none⟩, ⟨some 111, .move (.tmp 17), 30, "law.go:41", #[], none⟩, ⟨some 112, .move (.tmp 18), 3, "law.go:41", #[], none⟩, ⟨some 113, .indexAddr 30 (.tmp 111) (.tmp 112), 0, "law.go:41", #[⟨4, .data⟩, ⟨5, .data⟩], none⟩, ⟨some 114, .load 3 (.tmp 113), 3, "law.go:41", #[⟨6, .data⟩], none⟩, ⟨some 115, .binOp .neq 3 (.tmp 110) (.tmp 114) 3, 4, "law.go:41", #[⟨3, .data⟩, ⟨7, .data⟩], none⟩]
def q3_18 : Array Oper := #[⟨some 6, .assign (.const (.bool false)), 4, "law.go:42", #[], none⟩]
def q3_19 : Array Oper := #[⟨some 116, .load 28 (.tmp 8), 28, "law.go:45", #[], none⟩, ⟨some 117, .call ⟨.value (.func 22), #[.tmp 116], #[28]⟩, 3, "law.go:45", #[⟨0, .data⟩], none⟩, ⟨some 19, .assign (.tmp 117), 3, "law.go:45", #[⟨1, .data⟩, ⟨1, .chain⟩, ⟨0, .phase⟩, ⟨1, .phase⟩], none⟩]
def q3_20 : Array Oper := #[⟨some 118, .load 28 (.tmp 8), 28, "law.go:46", #[], none⟩, ⟨some 119, .move (.tmp 19), 3, "law.go:46", #[], none⟩, ⟨some 120, .call ⟨.value (.func 16), #[.tmp 118, .tmp 119], #[28, 3]⟩, 28, "law.go:46", #[⟨0, .data⟩, ⟨1, .data⟩], none⟩, ⟨some 121, .load 28 (.tmp 8), 28, "law.go:46", #[], none⟩, ⟨some 122, .move (.tmp 19), 3, "law.go:46", #[], none⟩, ⟨some 123, .call ⟨.value (.func 17), #[.tmp 121, .tmp 122], #[28, 3]⟩, 28, "law.go:46", #[⟨3, .data⟩, ⟨4, .data⟩, ⟨2, .chain⟩], none⟩, ⟨some 124, .call ⟨.value (.func 7), #[.tmp 120, .tmp 123], #[28, 28]⟩, 4, "law.go:46", #[⟨2, .data⟩, ⟨5, .data⟩, ⟨5, .chain⟩], none⟩, ⟨some 20, .assign (.tmp 124), 4, "law.go:46", #[⟨6, .data⟩, ⟨6, .chain⟩, ⟨0, .phase⟩, ⟨1, .phase⟩, ⟨2, .phase⟩, ⟨3, .phase⟩, ⟨4, .phase⟩, ⟨5, .phase⟩, ⟨6, .phase⟩], none⟩]
def q3_21 : Array Oper := #[⟨some 125, .move (.tmp 7), 4, "law.go:47", #[], none⟩, ⟨some 126, .move (.tmp 125), 4, "law.go:47", #[⟨0, .data⟩], none⟩, ⟨some 127, .move (.tmp 20), 4, "law.go:47", #[⟨1, .guard⟩], some (1, true)⟩, ⟨some 128, .pick (.tmp 126) (.tmp 127) (.const (.bool false)), 4, "law.go:47", #[⟨1, .data⟩, ⟨2, .data⟩], none⟩, ⟨some 129, .move (.tmp 128), 4, "law.go:47", #[⟨3, .data⟩, ⟨1, .chain⟩], none⟩, ⟨some 130, .move (.tmp 19), 3, "law.go:47", #[⟨4, .guard⟩], some (4, true)⟩, ⟨some 131, .load 28 (.tmp 8), 28, "law.go:47", #[⟨4, .guard⟩], some (4, true)⟩, ⟨some 132, .call ⟨.value (.func 23), #[.tmp 131], #[28]⟩, 3, "law.go:47", #[⟨6, .data⟩, ⟨4, .chain⟩, ⟨4, .guard⟩], some (4, true)⟩, ⟨some 133, .binOp .eql 3 (.tmp 130) (.tmp 132) 3, 4, "law.go:47", #[⟨5, .data⟩, ⟨7, .data⟩, ⟨4, .guard⟩], some (4, true)⟩, ⟨some 134, .pick (.tmp 129) (.tmp 133) (.const (.bool false)), 4, "law.go:47", #[⟨4, .data⟩, ⟨8, .data⟩], none⟩, ⟨some 135, .move (.tmp 134), 4, "law.go:47", #[⟨9, .data⟩, ⟨7, .chain⟩], none⟩, ⟨some 136, .load 28 (.tmp 8), 28, "law.go:47", #[⟨10, .guard⟩], some (10, true)⟩, ⟨some 137, .call ⟨.value (.func 24), #[.tmp 136], #[28]⟩, 43, "law.go:47", #[⟨11, .data⟩, ⟨10, .chain⟩, ⟨10, .guard⟩], some (10, true)⟩, ⟨some 138, .load 28 (.tmp 8), 28, "law.go:47", #[⟨10, .guard⟩], some (10, true)⟩, ⟨some 139, .call ⟨.value (.func 25), #[.tmp 138], #[28]⟩, 43, "law.go:47", #[⟨13, .data⟩, ⟨12, .chain⟩, ⟨10, .guard⟩], some (10, true)⟩, ⟨some 140, .binOp .eql 43 (.tmp 137) (.tmp 139) 43, 4, "law.go:47", #[⟨12, .data⟩, ⟨14, .data⟩, ⟨10, .guard⟩], some (10, true)⟩, ⟨some 141, .pick (.tmp 135) (.tmp 140) (.const (.bool false)), 4, "law.go:47", #[⟨10, .data⟩, ⟨15, .data⟩], none⟩, ⟨some 142, .move (.tmp 141), 4, "law.go:47", #[⟨16, .data⟩, ⟨14, .chain⟩], none⟩, ⟨some 143, .load 28 (.tmp 8), 28, "law.go:47", #[⟨17, .guard⟩], some (17, true)⟩, ⟨some 144, .move (.tmp 1), 3, "law.go:47", #[⟨17, .guard⟩], some (17, true)⟩, ⟨some 145, .call ⟨.value (.func 26), #[.tmp 143, .tmp 144], #[28, 3]⟩, 3, "law.go:47", #[⟨18, .data⟩, ⟨19, .data⟩, ⟨17, .chain⟩, ⟨17, .guard⟩], some (17, true)⟩, ⟨some 146, .load 28 (.tmp 8), 28, "law.go:47", #[⟨17, .guard⟩], some (17, true)⟩, ⟨some 147, .move (.tmp 1), 3, "law.go:47", #[⟨17, .guard⟩], some (17, true)⟩, ⟨some 148, .call ⟨.value (.func 27), #[.tmp 146, .tmp 147], #[28, 3]⟩, 3, "law.go:47", #[⟨21, .data⟩, ⟨22, .data⟩, ⟨20, .chain⟩, ⟨17, .guard⟩], some (17, true)⟩, ⟨some 149, .binOp .eql 3 (.tmp 145) (.tmp 148) 3, 4, "law.go:47", #[⟨20, .data⟩, ⟨23, .data⟩, ⟨17, .guard⟩], some (17, true)⟩, ⟨some 150, .pick (.tmp 142) (.tmp 149) (.const (.bool false)), 4, "law.go:47", #[⟨17, .data⟩, ⟨24, .data⟩], none⟩, ⟨some 151, .move (.tmp 150), 4, "law.go:47", #[⟨25, .data⟩, ⟨23, .chain⟩], none⟩, ⟨some 152, .load 28 (.tmp 8), 28, "law.go:47", #[⟨26, .guard⟩], some (26, true)⟩, ⟨some 153, .load 28 (.tmp 9), 28, "law.go:47", #[⟨26, .guard⟩], some (26, true)⟩, ⟨some 154, .call ⟨.value (.func 28), #[.tmp 152, .tmp 153], #[28, 28]⟩, 4, "law.go:47", #[⟨27, .data⟩, ⟨28, .data⟩, ⟨26, .chain⟩, ⟨26, .guard⟩], some (26, true)⟩, ⟨some 155, .load 28 (.tmp 8), 28, "law.go:47", #[⟨26, .guard⟩], some (26, true)⟩, ⟨some 156, .load 28 (.tmp 9), 28, "law.go:47", #[⟨26, .guard⟩], some (26, true)⟩, ⟨some 157, .call ⟨.value (.func 7), #[.tmp 155, .tmp 156], #[28, 28]⟩, 4, "law.go:47", #[⟨30, .data⟩, ⟨31, .data⟩, ⟨29, .chain⟩, ⟨26, .guard⟩], some (26, true)⟩, ⟨some 158, .binOp .eql 4 (.tmp 154) (.tmp 157) 4, 4, "law.go:47", #[⟨29, .data⟩, ⟨32, .data⟩, ⟨26, .guard⟩], some (26, true)⟩, ⟨some 159, .pick (.tmp 151) (.tmp 158) (.const (.bool false)), 4, "law.go:47", #[⟨26, .data⟩, ⟨33, .data⟩], none⟩, ⟨some 160, .move (.tmp 159), 4, "law.go:47", #[⟨34, .data⟩, ⟨32, .chain⟩], none⟩, ⟨some 161, .load 28 (.tmp 8), 28, "law.go:47", #[⟨35, .guard⟩], some (35, true)⟩, ⟨some 162, .call ⟨.value (.func 29), #[.tmp 161], #[28]⟩, 9, "law.go:47", #[⟨36, .data⟩, ⟨35, .chain⟩, ⟨35, .guard⟩], some (35, true)⟩, ⟨some 163, .load 28 (.tmp 8), 28, "law.go:47", #[⟨35, .guard⟩], some (35, true)⟩, ⟨some 164, .call ⟨.value (.func 30), #[.tmp 163], #[28]⟩, 9, "law.go:47", #[⟨38, .data⟩, ⟨37, .chain⟩, ⟨35, .guard⟩], some (35, true)⟩, ⟨some 165, .binOp .eql 9 (.tmp 162) (.tmp 164) 9, 4, "law.go:47", #[⟨37, .data⟩, ⟨39, .data⟩, ⟨35, .guard⟩], some (35, true)⟩, ⟨some 166, .pick (.tmp 160) (.tmp 165) (.const (.bool false)), 4, "law.go:47", #[⟨35, .data⟩, ⟨40, .data⟩], none⟩, ⟨some 6, .assign (.tmp 166), 4, "law.go:47", #[⟨41, .data⟩, ⟨39, .chain⟩, ⟨0, .phase⟩, ⟨1, .phase⟩, ⟨2, .phase⟩, ⟨3, .phase⟩, ⟨4, .phase⟩, ⟨5, .phase⟩, ⟨6, .phase⟩, ⟨7, .phase⟩, ⟨8, .phase⟩, ⟨9, .phase⟩, ⟨10, .phase⟩, ⟨11, .phase⟩, ⟨12, .phase⟩, ⟨13, .phase⟩, ⟨14, .phase⟩, ⟨15, .phase⟩, ⟨16, .phase⟩, ⟨17, .phase⟩, ⟨18, .phase⟩, ⟨19, .phase⟩, ⟨20, .phase⟩, ⟨21, .phase⟩, ⟨22, .phase⟩, ⟨23, .phase⟩, ⟨24, .phase⟩, ⟨25, .phase⟩, ⟨26, .phase⟩, ⟨27, .phase⟩, ⟨28, .phase⟩, ⟨29, .phase⟩, ⟨30, .phase⟩, ⟨31, .phase⟩, ⟨32, .phase⟩, ⟨33, .phase⟩, ⟨34, .phase⟩, ⟨35, .phase⟩, ⟨36, .phase⟩, ⟨37, .phase⟩, ⟨38, .phase⟩, ⟨39, .phase⟩, ⟨40, .phase⟩, ⟨41, .phase⟩], none⟩]
theorem r3_1 (hz : a0.tmps.size = 167)   (hend : ∀ ac wz, After [21, 7] a0 ac → ac.eval (.tmp 7) = .bool true → Gr w wz → Q .normal ac wz) : RW 1 q3_1 false Q a0 w := by
  refine seq_by (by kernel_rfl) 2 (by decide) [21, 7] (fun | 21 => .val (.bool true) | 7 => .val (.bool true) | _ => .any) (by kernel_rfl) (fmc ⟨?s0, fmc ⟨?s1, fun o ho => nomatch ho⟩⟩) ?e
  case s0 => exact sa_call0 6  _ 21  rfl rfl rfl  (enters_of Tryz.func6 (by kernel_rfl) rfl) (fun  y hgy  => by  exact (awake_any y).mono fun e z ⟨e1, e2⟩ => ⟨_, e1, e2, rfl⟩)
  case s1 => exact sa_move (.tmp 21) 7 (.val (.bool true)) (.inr rfl) rfl rfl (.nw 21 hz) rfl
  case e =>
  intro ac wz hA hgr hv
  exact wl_end (hend ac wz hA (hw hv hz 7) hgr)
theorem r3_4 (hz : a0.tmps.size = 167) (a : Nat) (ua : Value) (ra : Rg) (hA : Holds w a (ringC ua ra) 28) (RA : RingAt w.heap.size w ua ra) (fa : RFit ra) (e8 : a0.eval (.tmp 8) = .pointer (some ⟨a, 0, none⟩)) (hend : ∀ ac wz, After [26, 27, 28, 29, 30, 10] a0 ac → ac.eval (.tmp 10) = .bool true → Gr w wz → Q .normal ac wz) : RW 4 q3_4 true Q a0 w := by
  refine drawn_by (by kernel_rfl) (by kernel_rfl) (by kernel_rfl) [26, 27, 28, 29, 30, 10] (fun | 26 => .val (.agg (ringC ua ra).toArray) | 27 => ringF 0 (normL ra) | 28 => .val (.agg (ringC ua ra).toArray) | 29 => ringF 0 (normL ra) | 30 => .val (.bool true) | 10 => .val (.bool true) | _ => .any) (by kernel_rfl) (fmc ⟨?s0, fmc ⟨?s1, fmc ⟨?s2, fmc ⟨?s3, fmc ⟨?s4, fmc ⟨?s5, fun o ho => nomatch ho⟩⟩⟩⟩⟩⟩) ?e
  case s0 => exact sa_row 28 (.tmp 8) 26 a (0) 17 _ (ringC ua ra) rfl rfl rfl Tryz.underlying28 rfl siz28 (ringC_len RA) (.old 8 _ (by decide) e8) (fun y hy => range_of (hA.below hy hA.lt)) rfl
  case s1 => exact sa_callF1 8 (.tmp 26) _ 27 (.agg (ringC ua ra).toArray) (ringF 0 (normL ra)) rfl rfl rfl (.nw 26 hz) (enters_of Tryz.func8 (by kernel_rfl) rfl) (fun y hy => m_norm ua ra y ((RA.below hy).mono hy.size)) rfl
  case s2 => exact sa_row 28 (.tmp 8) 28 a (0) 17 _ (ringC ua ra) rfl rfl rfl Tryz.underlying28 rfl siz28 (ringC_len RA) (.old 8 _ (by decide) e8) (fun y hy => range_of (hA.below hy hA.lt)) rfl
  case s3 => exact sa_callF1 9 (.tmp 28) _ 29 (.agg (ringC ua ra).toArray) (ringF 0 (normL ra)) rfl rfl rfl (.nw 28 hz) (enters_of Tryz.func9 (by kernel_rfl) rfl) (fun y hy => m_rnorm ua ra y ((RA.below hy).mono hy.size)) rfl
  case s4 => exact sa_call2 7 (.tmp 27) (.tmp 29) _ 30 (ringF 0 (normL ra)) (ringF 0 (normL ra)) rfl rfl rfl (.nw 27 hz) (.nw 29 hz) (enters_of Tryz.func7 (by kernel_rfl) rfl) (fun v0 v1 y hgy q0 q1 => c_same (normL ra) (norm_fit fa) v0 v1 y q0 q1)
  case s5 => exact sa_move (.tmp 30) 10 (.val (.bool true)) (.inr rfl) rfl rfl (.nw 30 hz) rfl
  case e =>
  intro ac wz hA hgr hv
  exact hend ac wz hA (hw hv hz 10) hgr
theorem r3_5 (hz : a0.tmps.size = 167) (a : Nat) (ua : Value) (ra : Rg) (hA : Holds w a (ringC ua ra) 28) (RA : RingAt w.heap.size w ua ra) (fa : RFit ra) (b : Nat) (ub : Value) (rb : Rg) (hB : Holds w b (ringC ub rb) 28) (RB : RingAt w.heap.size w ub rb) (fb : RFit rb) (e8 : a0.eval (.tmp 8) = .pointer (some ⟨a, 0, none⟩)) (e9 : a0.eval (.tmp 9) = .pointer (some ⟨b, 0, none⟩)) (hend : ∀ ac wz, After [31, 32, 33, 34, 35, 36, 37, 38, 39, 11] a0 ac → ac.eval (.tmp 11) = .bool true → Gr w wz → Q .normal ac wz) : RW 5 q3_5 true Q a0 w := by
  refine drawn_by (by kernel_rfl) (by kernel_rfl) (by kernel_rfl) [31, 32, 33, 34, 35, 36, 37, 38, 39, 11] (fun | 31 => .val (.agg (ringC ua ra).toArray) | 32 => .val (.agg (ringC ub rb).toArray) | 33 => twoF [(ua, ra), (ub, rb)] | 34 => ringF 0 (mergeL [ra, rb]) | 35 => .val (.agg (ringC ua ra).toArray) | 36 => .val (.agg (ringC ub rb).toArray) | 37 => twoF [(ua, ra), (ub, rb)] | 38 => ringF 0 (mergeL [ra, rb]) | 39 => .val (.bool true) | 11 => .val (.bool true) | _ => .any) (by kernel_rfl) (fmc ⟨?s0, fmc ⟨?s1, fmc ⟨?s2, fmc ⟨?s3, fmc ⟨?s4, fmc ⟨?s5, fmc ⟨?s6, fmc ⟨?s7, fmc ⟨?s8, fmc ⟨?s9, fun o ho => nomatch ho⟩⟩⟩⟩⟩⟩⟩⟩⟩⟩) ?e
  case s0 => exact sa_row 28 (.tmp 8) 31 a (0) 17 _ (ringC ua ra) rfl rfl rfl Tryz.underlying28 rfl siz28 (ringC_len RA) (.old 8 _ (by decide) e8) (fun y hy => range_of (hA.below hy hA.lt)) rfl
  case s1 => exact sa_row 28 (.tmp 9) 32 b (0) 17 _ (ringC ub rb) rfl rfl rfl Tryz.underlying28 rfl siz28 (ringC_len RB) (.old 9 _ (by decide) e9) (fun y hy => range_of (hB.below hy hB.lt)) rfl
  case s2 => exact sa_bs2 36 2 (.tmp 31) (.tmp 32) 33 (.agg (ringC ua ra).toArray) (.agg (ringC ub rb).toArray) rfl rfl rfl (.nw 31 hz) (.nw 32 hz) (bs36 ua ub ra rb RA.own RB.own)
  case s3 => exact sa_call1 10 (.tmp 33) _ 34 (twoF [(ua, ra), (ub, rb)]) rfl rfl rfl (.nw 33 hz) (enters_of Tryz.func10 (by kernel_rfl) rfl) (fun v0 y hgy q0 => m_merge ua ub ra rb v0 y ((RA.below hgy).mono hgy.size) ((RB.below hgy).mono hgy.size) q0)
  case s4 => exact sa_row 28 (.tmp 8) 35 a (0) 17 _ (ringC ua ra) rfl rfl rfl Tryz.underlying28 rfl siz28 (ringC_len RA) (.old 8 _ (by decide) e8) (fun y hy => range_of (hA.below hy hA.lt)) rfl
  case s5 => exact sa_row 28 (.tmp 9) 36 b (0) 17 _ (ringC ub rb) rfl rfl rfl Tryz.underlying28 rfl siz28 (ringC_len RB) (.old 9 _ (by decide) e9) (fun y hy => range_of (hB.below hy hB.lt)) rfl
  case s6 => exact sa_bs2 36 2 (.tmp 35) (.tmp 36) 37 (.agg (ringC ua ra).toArray) (.agg (ringC ub rb).toArray) rfl rfl rfl (.nw 35 hz) (.nw 36 hz) (bs36 ua ub ra rb RA.own RB.own)
  case s7 => exact sa_call1 11 (.tmp 37) _ 38 (twoF [(ua, ra), (ub, rb)]) rfl rfl rfl (.nw 37 hz) (enters_of Tryz.func11 (by kernel_rfl) rfl) (fun v0 y hgy q0 => m_rmerge ua ub ra rb v0 y ((RA.below hgy).mono hgy.size) ((RB.below hgy).mono hgy.size) q0)
  case s8 => exact sa_call2 7 (.tmp 34) (.tmp 38) _ 39 (ringF 0 (mergeL [ra, rb])) (ringF 0 (mergeL [ra, rb])) rfl rfl rfl (.nw 34 hz) (.nw 38 hz) (enters_of Tryz.func7 (by kernel_rfl) rfl) (fun v0 v1 y hgy q0 q1 => c_same (mergeL [ra, rb]) (two_fit fa fb) v0 v1 y q0 q1)
  case s9 => exact sa_move (.tmp 39) 11 (.val (.bool true)) (.inr rfl) rfl rfl (.nw 39 hz) rfl
  case e =>
  intro ac wz hA hgr hv
  exact hend ac wz hA (hw hv hz 11) hgr
theorem r3_6 (hz : a0.tmps.size = 167) (a : Nat) (ua : Value) (ra : Rg) (hA : Holds w a (ringC ua ra) 28) (RA : RingAt w.heap.size w ua ra) (fa : RFit ra) (node : Int) (hn : I64 node) (e8 : a0.eval (.tmp 8) = .pointer (some ⟨a, 0, none⟩)) (e1 : a0.eval (.tmp 1) = .int .i64 node) (hend : ∀ ac wz, After [40, 41, 42, 43, 44, 45, 46, 12] a0 ac → ac.eval (.tmp 12) = .bool true → Gr w wz → Q .normal ac wz) : RW 6 q3_6 true Q a0 w := by
  refine drawn_by (by kernel_rfl) (by kernel_rfl) (by kernel_rfl) [40, 41, 42, 43, 44, 45, 46, 12] (fun | 40 => .val (.agg (ringC ua ra).toArray) | 41 => .val (.int .i64 node) | 42 => ringF 0 (joinL ra node) | 43 => .val (.agg (ringC ua ra).toArray) | 44 => .val (.int .i64 node) | 45 => ringF 0 (joinL ra node) | 46 => .val (.bool true) | 12 => .val (.bool true) | _ => .any) (by kernel_rfl) (fmc ⟨?s0, fmc ⟨?s1, fmc ⟨?s2, fmc ⟨?s3, fmc ⟨?s4, fmc ⟨?s5, fmc ⟨?s6, fmc ⟨?s7, fun o ho => nomatch ho⟩⟩⟩⟩⟩⟩⟩⟩) ?e
  case s0 => exact sa_row 28 (.tmp 8) 40 a (0) 17 _ (ringC ua ra) rfl rfl rfl Tryz.underlying28 rfl siz28 (ringC_len RA) (.old 8 _ (by decide) e8) (fun y hy => range_of (hA.below hy hA.lt)) rfl
  case s1 => exact sa_mo 1 41 e1
  case s2 => exact sa_callF2 12 (.tmp 40) (.tmp 41) _ 42 (.agg (ringC ua ra).toArray) (.int .i64 node) (ringF 0 (joinL ra node)) rfl rfl rfl (.nw 40 hz) (.nw 41 hz) (enters_of Tryz.func12 (by kernel_rfl) rfl) (fun y hy => m_join ua ra fa node hn y ((RA.below hy).mono hy.size)) rfl
  case s3 => exact sa_row 28 (.tmp 8) 43 a (0) 17 _ (ringC ua ra) rfl rfl rfl Tryz.underlying28 rfl siz28 (ringC_len RA) (.old 8 _ (by decide) e8) (fun y hy => range_of (hA.below hy hA.lt)) rfl
  case s4 => exact sa_mo 1 44 e1
  case s5 => exact sa_callF2 13 (.tmp 43) (.tmp 44) _ 45 (.agg (ringC ua ra).toArray) (.int .i64 node) (ringF 0 (joinL ra node)) rfl rfl rfl (.nw 43 hz) (.nw 44 hz) (enters_of Tryz.func13 (by kernel_rfl) rfl) (fun y hy => m_rjoin ua ra fa node y ((RA.below hy).mono hy.size)) rfl
  case s6 => exact sa_call2 7 (.tmp 42) (.tmp 45) _ 46 (ringF 0 (joinL ra node)) (ringF 0 (joinL ra node)) rfl rfl rfl (.nw 42 hz) (.nw 45 hz) (enters_of Tryz.func7 (by kernel_rfl) rfl) (fun v0 v1 y hgy q0 q1 => c_same (joinL ra node) (join_fit fa node) v0 v1 y q0 q1)
  case s7 => exact sa_move (.tmp 46) 12 (.val (.bool true)) (.inr rfl) rfl rfl (.nw 46 hz) rfl
  case e =>
  intro ac wz hA hgr hv
  exact hend ac wz hA (hw hv hz 12) hgr
theorem r3_7 (hz : a0.tmps.size = 167) (a : Nat) (ua : Value) (ra : Rg) (hA : Holds w a (ringC ua ra) 28) (RA : RingAt w.heap.size w ua ra) (fa : RFit ra) (node : Int) (hn : I64 node) (e8 : a0.eval (.tmp 8) = .pointer (some ⟨a, 0, none⟩)) (e1 : a0.eval (.tmp 1) = .int .i64 node) (hend : ∀ ac wz, After [47, 48, 49, 50, 51, 52, 53, 13] a0 ac → ac.eval (.tmp 13) = .bool true → Gr w wz → Q .normal ac wz) : RW 7 q3_7 true Q a0 w := by
  refine drawn_by (by kernel_rfl) (by kernel_rfl) (by kernel_rfl) [47, 48, 49, 50, 51, 52, 53, 13] (fun | 47 => .val (.agg (ringC ua ra).toArray) | 48 => .val (.int .i64 node) | 49 => ringF 0 (leaveL ra node) | 50 => .val (.agg (ringC ua ra).toArray) | 51 => .val (.int .i64 node) | 52 => ringF 0 (leaveL ra node) | 53 => .val (.bool true) | 13 => .val (.bool true) | _ => .any) (by kernel_rfl) (fmc ⟨?s0, fmc ⟨?s1, fmc ⟨?s2, fmc ⟨?s3, fmc ⟨?s4, fmc ⟨?s5, fmc ⟨?s6, fmc ⟨?s7, fun o ho => nomatch ho⟩⟩⟩⟩⟩⟩⟩⟩) ?e
  case s0 => exact sa_row 28 (.tmp 8) 47 a (0) 17 _ (ringC ua ra) rfl rfl rfl Tryz.underlying28 rfl siz28 (ringC_len RA) (.old 8 _ (by decide) e8) (fun y hy => range_of (hA.below hy hA.lt)) rfl
  case s1 => exact sa_mo 1 48 e1
  case s2 => exact sa_callF2 14 (.tmp 47) (.tmp 48) _ 49 (.agg (ringC ua ra).toArray) (.int .i64 node) (ringF 0 (leaveL ra node)) rfl rfl rfl (.nw 47 hz) (.nw 48 hz) (enters_of Tryz.func14 (by kernel_rfl) rfl) (fun y hy => m_leave ua ra fa node hn y ((RA.below hy).mono hy.size)) rfl
  case s3 => exact sa_row 28 (.tmp 8) 50 a (0) 17 _ (ringC ua ra) rfl rfl rfl Tryz.underlying28 rfl siz28 (ringC_len RA) (.old 8 _ (by decide) e8) (fun y hy => range_of (hA.below hy hA.lt)) rfl
  case s4 => exact sa_mo 1 51 e1
  case s5 => exact sa_callF2 15 (.tmp 50) (.tmp 51) _ 52 (.agg (ringC ua ra).toArray) (.int .i64 node) (ringF 0 (leaveL ra node)) rfl rfl rfl (.nw 50 hz) (.nw 51 hz) (enters_of Tryz.func15 (by kernel_rfl) rfl) (fun y hy => m_rleave ua ra fa node y ((RA.below hy).mono hy.size)) rfl
  case s6 => exact sa_call2 7 (.tmp 49) (.tmp 52) _ 53 (ringF 0 (leaveL ra node)) (ringF 0 (leaveL ra node)) rfl rfl rfl (.nw 49 hz) (.nw 52 hz) (enters_of Tryz.func7 (by kernel_rfl) rfl) (fun v0 v1 y hgy q0 q1 => c_same (leaveL ra node) (leave_fit fa node) v0 v1 y q0 q1)
  case s7 => exact sa_move (.tmp 53) 13 (.val (.bool true)) (.inr rfl) rfl rfl (.nw 53 hz) rfl
  case e =>
  intro ac wz hA hgr hv
  exact hend ac wz hA (hw hv hz 13) hgr
theorem r3_8 (hz : a0.tmps.size = 167) (a : Nat) (ua : Value) (ra : Rg) (hA : Holds w a (ringC ua ra) 28) (RA : RingAt w.heap.size w ua ra) (fa : RFit ra) (node : Int) (e8 : a0.eval (.tmp 8) = .pointer (some ⟨a, 0, none⟩)) (e1 : a0.eval (.tmp 1) = .int .i64 node) (hend : ∀ ac wz, After [54, 55, 56, 57, 58, 59, 60, 14] a0 ac → ac.eval (.tmp 14) = .bool true → Gr w wz → Q .normal ac wz) : RW 8 q3_8 true Q a0 w := by
  refine drawn_by (by kernel_rfl) (by kernel_rfl) (by kernel_rfl) [54, 55, 56, 57, 58, 59, 60, 14] (fun | 54 => .val (.agg (ringC ua ra).toArray) | 55 => .val (.int .i64 node) | 56 => ringF 0 (planL ra node) | 57 => .val (.agg (ringC ua ra).toArray) | 58 => .val (.int .i64 node) | 59 => ringF 0 (planL ra node) | 60 => .val (.bool true) | 14 => .val (.bool true) | _ => .any) (by kernel_rfl) (fmc ⟨?s0, fmc ⟨?s1, fmc ⟨?s2, fmc ⟨?s3, fmc ⟨?s4, fmc ⟨?s5, fmc ⟨?s6, fmc ⟨?s7, fun o ho => nomatch ho⟩⟩⟩⟩⟩⟩⟩⟩) ?e
  case s0 => exact sa_row 28 (.tmp 8) 54 a (0) 17 _ (ringC ua ra) rfl rfl rfl Tryz.underlying28 rfl siz28 (ringC_len RA) (.old 8 _ (by decide) e8) (fun y hy => range_of (hA.below hy hA.lt)) rfl
  case s1 => exact sa_mo 1 55 e1
  case s2 => exact sa_callF2 16 (.tmp 54) (.tmp 55) _ 56 (.agg (ringC ua ra).toArray) (.int .i64 node) (ringF 0 (planL ra node)) rfl rfl rfl (.nw 54 hz) (.nw 55 hz) (enters_of Tryz.func16 (by kernel_rfl) rfl) (fun y hy => m_plan ua ra fa node y ((RA.below hy).mono hy.size)) rfl
  case s3 => exact sa_row 28 (.tmp 8) 57 a (0) 17 _ (ringC ua ra) rfl rfl rfl Tryz.underlying28 rfl siz28 (ringC_len RA) (.old 8 _ (by decide) e8) (fun y hy => range_of (hA.below hy hA.lt)) rfl
  case s4 => exact sa_mo 1 58 e1
  case s5 => exact sa_callF2 17 (.tmp 57) (.tmp 58) _ 59 (.agg (ringC ua ra).toArray) (.int .i64 node) (ringF 0 (planL ra node)) rfl rfl rfl (.nw 57 hz) (.nw 58 hz) (enters_of Tryz.func17 (by kernel_rfl) rfl) (fun y hy => m_rplan ua ra fa node y ((RA.below hy).mono hy.size)) rfl
  case s6 => exact sa_call2 7 (.tmp 56) (.tmp 59) _ 60 (ringF 0 (planL ra node)) (ringF 0 (planL ra node)) rfl rfl rfl (.nw 56 hz) (.nw 59 hz) (enters_of Tryz.func7 (by kernel_rfl) rfl) (fun v0 v1 y hgy q0 q1 => c_same (planL ra node) (plan_fit fa node) v0 v1 y q0 q1)
  case s7 => exact sa_move (.tmp 60) 14 (.val (.bool true)) (.inr rfl) rfl rfl (.nw 60 hz) rfl
  case e =>
  intro ac wz hA hgr hv
  exact hend ac wz hA (hw hv hz 14) hgr
theorem r3_9 (hz : a0.tmps.size = 167) (node : Int) (e1 : a0.eval (.tmp 1) = .int .i64 node) (hend : ∀ ac wz, After [61, 62, 63, 64, 65, 15] a0 ac → ac.eval (.tmp 15) = .bool true → Gr w wz → Q .normal ac wz) : RW 9 q3_9 false Q a0 w := by
  refine seq_by (by kernel_rfl) 6 (by decide) [61, 62, 63, 64, 65, 15] (fun | 61 => .val (.int .i64 node) | 62 => ringF 0 (newL node) | 63 => .val (.int .i64 node) | 64 => ringF 0 (newL node) | 65 => .val (.bool true) | 15 => .val (.bool true) | _ => .any) (by kernel_rfl) (fmc ⟨?s0, fmc ⟨?s1, fmc ⟨?s2, fmc ⟨?s3, fmc ⟨?s4, fmc ⟨?s5, fun o ho => nomatch ho⟩⟩⟩⟩⟩⟩) ?e
  case s0 => exact sa_mo 1 61 e1
  case s1 => exact sa_callF1 18 (.tmp 61) _ 62 (.int .i64 node) (ringF 0 (newL node)) rfl rfl rfl (.nw 61 hz) (enters_of Tryz.func18 (by kernel_rfl) rfl) (fun y hy => m_new node y) rfl
  case s2 => exact sa_mo 1 63 e1
  case s3 => exact sa_callF1 19 (.tmp 63) _ 64 (.int .i64 node) (ringF 0 (newL node)) rfl rfl rfl (.nw 63 hz) (enters_of Tryz.func19 (by kernel_rfl) rfl) (fun y hy => m_rnew node y) rfl
  case s4 => exact sa_call2 7 (.tmp 62) (.tmp 64) _ 65 (ringF 0 (newL node)) (ringF 0 (newL node)) rfl rfl rfl (.nw 62 hz) (.nw 64 hz) (enters_of Tryz.func7 (by kernel_rfl) rfl) (fun v0 v1 y hgy q0 q1 => c_same (newL node) (new_fit node) v0 v1 y q0 q1)
  case s5 => exact sa_move (.tmp 65) 15 (.val (.bool true)) (.inr rfl) rfl rfl (.nw 65 hz) rfl
  case e =>
  intro ac wz hA hgr hv
  exact wl_end (hend ac wz hA (hw hv hz 15) hgr)
theorem r3_20 (hz : a0.tmps.size = 167) (a : Nat) (ua : Value) (ra : Rg) (hA : Holds w a (ringC ua ra) 28) (RA : RingAt w.heap.size w ua ra) (fa : RFit ra) (node : Int) (e8 : a0.eval (.tmp 8) = .pointer (some ⟨a, 0, none⟩)) (e19 : a0.eval (.tmp 19) = .int .i64 node) (hend : ∀ ac wz, After [118, 119, 120, 121, 122, 123, 124, 20] a0 ac → ac.eval (.tmp 20) = .bool true → Gr w wz → Q .normal ac wz) : RW 20 q3_20 true Q a0 w := by
  refine drawn_by (by kernel_rfl) (by kernel_rfl) (by kernel_rfl) [118, 119, 120, 121, 122, 123, 124, 20] (fun | 118 => .val (.agg (ringC ua ra).toArray) | 119 => .val (.int .i64 node) | 120 => ringF 0 (planL ra node) | 121 => .val (.agg (ringC ua ra).toArray) | 122 => .val (.int .i64 node) | 123 => ringF 0 (planL ra node) | 124 => .val (.bool true) | 20 => .val (.bool true) | _ => .any) (by kernel_rfl) (fmc ⟨?s0, fmc ⟨?s1, fmc ⟨?s2, fmc ⟨?s3, fmc ⟨?s4, fmc ⟨?s5, fmc ⟨?s6, fmc ⟨?s7, fun o ho => nomatch ho⟩⟩⟩⟩⟩⟩⟩⟩) ?e
  case s0 => exact sa_row 28 (.tmp 8) 118 a (0) 17 _ (ringC ua ra) rfl rfl rfl Tryz.underlying28 rfl siz28 (ringC_len RA) (.old 8 _ (by decide) e8) (fun y hy => range_of (hA.below hy hA.lt)) rfl
  case s1 => exact sa_mo 19 119 e19
  case s2 => exact sa_callF2 16 (.tmp 118) (.tmp 119) _ 120 (.agg (ringC ua ra).toArray) (.int .i64 node) (ringF 0 (planL ra node)) rfl rfl rfl (.nw 118 hz) (.nw 119 hz) (enters_of Tryz.func16 (by kernel_rfl) rfl) (fun y hy => m_plan ua ra fa node y ((RA.below hy).mono hy.size)) rfl
  case s3 => exact sa_row 28 (.tmp 8) 121 a (0) 17 _ (ringC ua ra) rfl rfl rfl Tryz.underlying28 rfl siz28 (ringC_len RA) (.old 8 _ (by decide) e8) (fun y hy => range_of (hA.below hy hA.lt)) rfl
  case s4 => exact sa_mo 19 122 e19
  case s5 => exact sa_callF2 17 (.tmp 121) (.tmp 122) _ 123 (.agg (ringC ua ra).toArray) (.int .i64 node) (ringF 0 (planL ra node)) rfl rfl rfl (.nw 121 hz) (.nw 122 hz) (enters_of Tryz.func17 (by kernel_rfl) rfl) (fun y hy => m_rplan ua ra fa node y ((RA.below hy).mono hy.size)) rfl
  case s6 => exact sa_call2 7 (.tmp 120) (.tmp 123) _ 124 (ringF 0 (planL ra node)) (ringF 0 (planL ra node)) rfl rfl rfl (.nw 120 hz) (.nw 123 hz) (enters_of Tryz.func7 (by kernel_rfl) rfl) (fun v0 v1 y hgy q0 q1 => c_same (planL ra node) (plan_fit fa node) v0 v1 y q0 q1)
  case s7 => exact sa_move (.tmp 124) 20 (.val (.bool true)) (.inr rfl) rfl rfl (.nw 124 hz) rfl
  case e =>
  intro ac wz hA hgr hv
  exact hend ac wz hA (hw hv hz 20) hgr
theorem r3_10 (hz : a0.tmps.size = 167) (a : Nat) (ua : Value) (ra : Rg) (hA : Holds w a (ringC ua ra) 28) (RA : RingAt w.heap.size w ua ra) (_fa : RFit ra) (sv : Value) (ss : List Int) (hS : Ints w.heap.size w sv ss) (hl : ss.length ≤ 9223372036854775807) (e8 : a0.eval (.tmp 8) = .pointer (some ⟨a, 0, none⟩)) (e2 : a0.eval (.tmp 2) = sv) (hend : ∀ ac wz, After [66, 67, 68, 16] a0 ac → (intsF (membersL ra ss)).holds (ac.eval (.tmp 16)) wz → Gr w wz → Q .normal ac wz) : RW 10 q3_10 false Q a0 w := by
  refine seq_by (by kernel_rfl) 4 (by decide) [66, 67, 68, 16] (fun | 66 => .val (.agg (ringC ua ra).toArray) | 67 => .val (sv) | 68 => intsF (membersL ra ss) | 16 => intsF (membersL ra ss) | _ => .any) (by kernel_rfl) (fmc ⟨?s0, fmc ⟨?s1, fmc ⟨?s2, fmc ⟨?s3, fun o ho => nomatch ho⟩⟩⟩⟩) ?e
  case s0 => exact sa_row 28 (.tmp 8) 66 a (0) 17 _ (ringC ua ra) rfl rfl rfl Tryz.underlying28 rfl siz28 (ringC_len RA) (.old 8 _ (by decide) e8) (fun y hy => range_of (hA.below hy hA.lt)) rfl
  case s1 => exact sa_mo 2 67 e2
  case s2 => exact sa_callF2 20 (.tmp 66) (.tmp 67) _ 68 (.agg (ringC ua ra).toArray) (sv) (intsF (membersL ra ss)) rfl rfl rfl (.nw 66 hz) (.nw 67 hz) (enters_of Tryz.func20 (by kernel_rfl) rfl) (fun y hy => m_members ua ra sv ss y ((RA.below hy).mono hy.size) ((hS.below hy).mono hy.size) hl) rfl
  case s3 => exact sa_move (.tmp 68) 16 (intsF (membersL ra ss)) (.inr rfl) rfl rfl (.nw 68 hz) rfl
  case e =>
  intro ac wz hA hgr hv
  exact wl_end (hend ac wz hA (hw hv hz 16) hgr)
theorem r3_11 (hz : a0.tmps.size = 167) (a : Nat) (ua : Value) (ra : Rg) (hA : Holds w a (ringC ua ra) 28) (RA : RingAt w.heap.size w ua ra) (_fa : RFit ra) (sv : Value) (ss : List Int) (hS : Ints w.heap.size w sv ss) (hl : ss.length ≤ 9223372036854775807) (e8 : a0.eval (.tmp 8) = .pointer (some ⟨a, 0, none⟩)) (e2 : a0.eval (.tmp 2) = sv) (hend : ∀ ac wz, After [69, 70, 71, 17] a0 ac → (intsF (membersL ra ss)).holds (ac.eval (.tmp 17)) wz → Gr w wz → Q .normal ac wz) : RW 11 q3_11 false Q a0 w := by
  refine seq_by (by kernel_rfl) 4 (by decide) [69, 70, 71, 17] (fun | 69 => .val (.agg (ringC ua ra).toArray) | 70 => .val (sv) | 71 => intsF (membersL ra ss) | 17 => intsF (membersL ra ss) | _ => .any) (by kernel_rfl) (fmc ⟨?s0, fmc ⟨?s1, fmc ⟨?s2, fmc ⟨?s3, fun o ho => nomatch ho⟩⟩⟩⟩) ?e
  case s0 => exact sa_row 28 (.tmp 8) 69 a (0) 17 _ (ringC ua ra) rfl rfl rfl Tryz.underlying28 rfl siz28 (ringC_len RA) (.old 8 _ (by decide) e8) (fun y hy => range_of (hA.below hy hA.lt)) rfl
  case s1 => exact sa_mo 2 70 e2
  case s2 => exact sa_callF2 21 (.tmp 69) (.tmp 70) _ 71 (.agg (ringC ua ra).toArray) (sv) (intsF (membersL ra ss)) rfl rfl rfl (.nw 69 hz) (.nw 70 hz) (enters_of Tryz.func21 (by kernel_rfl) rfl) (fun y hy => m_rmembers ua ra sv ss y ((RA.below hy).mono hy.size) ((hS.below hy).mono hy.size) hl) rfl
  case s3 => exact sa_move (.tmp 71) 17 (intsF (membersL ra ss)) (.inr rfl) rfl rfl (.nw 71 hz) rfl
  case e =>
  intro ac wz hA hgr hv
  exact wl_end (hend ac wz hA (hw hv hz 17) hgr)
theorem r3_12 (hz : a0.tmps.size = 167) (n cap cae : Nat) (ad ae : Option Addr) (e10 : a0.eval (.tmp 10) = .bool true) (e11 : a0.eval (.tmp 11) = .bool true) (e12 : a0.eval (.tmp 12) = .bool true) (e13 : a0.eval (.tmp 13) = .bool true) (e14 : a0.eval (.tmp 14) = .bool true) (e15 : a0.eval (.tmp 15) = .bool true) (e16 : a0.eval (.tmp 16) = .slice ad n cap) (e17 : a0.eval (.tmp 17) = .slice ae n cae) (hend : ∀ ac wz, After [72, 73, 74, 75, 76, 77, 78, 79, 80, 81, 82, 83, 84, 85, 86, 87, 88, 89, 90, 91, 92, 93, 94, 95, 96, 97, 98, 99, 100] a0 ac → ac.eval (.tmp 100) = .bool false → Gr w wz → Q .normal ac wz) : RW 12 q3_12 false Q a0 w := by
  refine seq_by (by kernel_rfl) 29 (by decide) [72, 73, 74, 75, 76, 77, 78, 79, 80, 81, 82, 83, 84, 85, 86, 87, 88, 89, 90, 91, 92, 93, 94, 95, 96, 97, 98, 99, 100] (fun | 72 => .val (.bool true) | 73 => .val (.bool false) | 74 => .val (.bool false) | 75 => .val (.bool true) | 76 => .val (.bool false) | 77 => .val (.bool false) | 78 => .val (.bool false) | 79 => .val (.bool true) | 80 => .val (.bool false) | 81 => .val (.bool false) | 82 => .val (.bool false) | 83 => .val (.bool true) | 84 => .val (.bool false) | 85 => .val (.bool false) | 86 => .val (.bool false) | 87 => .val (.bool true) | 88 => .val (.bool false) | 89 => .val (.bool false) | 90 => .val (.bool false) | 91 => .val (.bool true) | 92 => .val (.bool false) | 93 => .val (.bool false) | 94 => .val (.bool false) | 95 => .val (.slice ad n cap) | 96 => .val (.int .i64 (n : Int)) | 97 => .val (.slice ae n cae) | 98 => .val (.int .i64 (n : Int)) | 99 => .val (.bool false) | 100 => .val (.bool false) | _ => .any) (by kernel_rfl) (fmc ⟨?s0, fmc ⟨?s1, fmc ⟨?s2, fmc ⟨?s3, fmc ⟨?s4, fmc ⟨?s5, fmc ⟨?s6, fmc ⟨?s7, fmc ⟨?s8, fmc ⟨?s9, fmc ⟨?s10, fmc ⟨?s11, fmc ⟨?s12, fmc ⟨?s13, fmc ⟨?s14, fmc ⟨?s15, fmc ⟨?s16, fmc ⟨?s17, fmc ⟨?s18, fmc ⟨?s19, fmc ⟨?s20, fmc ⟨?s21, fmc ⟨?s22, fmc ⟨?s23, fmc ⟨?s24, fmc ⟨?s25, fmc ⟨?s26, fmc ⟨?s27, fmc ⟨?s28, fun o ho => nomatch ho⟩⟩⟩⟩⟩⟩⟩⟩⟩⟩⟩⟩⟩⟩⟩⟩⟩⟩⟩⟩⟩⟩⟩⟩⟩⟩⟩⟩⟩) ?e
  case s0 => exact sa_mo 10 72 e10
  case s1 => exact sa_un .not 4 (.tmp 72) 73 (.bool true) (.bool false) rfl rfl rfl (.nw 72 hz) (un_not rfl) rfl
  case s2 => exact sa_mw 73 74 hz
  case s3 => exact sa_gf 2 74 hz (sa_mo 11 75 e11)
  case s4 => exact sa_gf 2 74 hz (sa_un .not 4 (.tmp 75) 76 (.bool true) (.bool false) rfl rfl rfl (.nw 75 hz) (un_not rfl) rfl)
  case s5 => exact sa_pickF (.tmp 74) (.const _) (.tmp 76) 77 (.val (.bool false)) rfl rfl rfl (.nw 74 hz) (.nw 76 hz) rfl
  case s6 => exact sa_mw 77 78 hz
  case s7 => exact sa_gf 6 78 hz (sa_mo 12 79 e12)
  case s8 => exact sa_gf 6 78 hz (sa_un .not 4 (.tmp 79) 80 (.bool true) (.bool false) rfl rfl rfl (.nw 79 hz) (un_not rfl) rfl)
  case s9 => exact sa_pickF (.tmp 78) (.const _) (.tmp 80) 81 (.val (.bool false)) rfl rfl rfl (.nw 78 hz) (.nw 80 hz) rfl
  case s10 => exact sa_mw 81 82 hz
  case s11 => exact sa_gf 10 82 hz (sa_mo 13 83 e13)
  case s12 => exact sa_gf 10 82 hz (sa_un .not 4 (.tmp 83) 84 (.bool true) (.bool false) rfl rfl rfl (.nw 83 hz) (un_not rfl) rfl)
  case s13 => exact sa_pickF (.tmp 82) (.const _) (.tmp 84) 85 (.val (.bool false)) rfl rfl rfl (.nw 82 hz) (.nw 84 hz) rfl
  case s14 => exact sa_mw 85 86 hz
  case s15 => exact sa_gf 14 86 hz (sa_mo 14 87 e14)
  case s16 => exact sa_gf 14 86 hz (sa_un .not 4 (.tmp 87) 88 (.bool true) (.bool false) rfl rfl rfl (.nw 87 hz) (un_not rfl) rfl)
  case s17 => exact sa_pickF (.tmp 86) (.const _) (.tmp 88) 89 (.val (.bool false)) rfl rfl rfl (.nw 86 hz) (.nw 88 hz) rfl
  case s18 => exact sa_mw 89 90 hz
  case s19 => exact sa_gf 18 90 hz (sa_mo 15 91 e15)
  case s20 => exact sa_gf 18 90 hz (sa_un .not 4 (.tmp 91) 92 (.bool true) (.bool false) rfl rfl rfl (.nw 91 hz) (un_not rfl) rfl)
  case s21 => exact sa_pickF (.tmp 90) (.const _) (.tmp 92) 93 (.val (.bool false)) rfl rfl rfl (.nw 90 hz) (.nw 92 hz) rfl
  case s22 => exact sa_mw 93 94 hz
  case s23 => exact sa_gf 22 94 hz (sa_mo 16 95 e16)
  case s24 => exact sa_gf 22 94 hz (sa_len 30 (.tmp 95) 96 (.slice ad n cap) (.int .i64 (n : Int)) rfl rfl rfl (.nw 95 hz) (by intro w; kernel_rfl) rfl)
  case s25 => exact sa_gf 22 94 hz (sa_mo 17 97 e17)
  case s26 => exact sa_gf 22 94 hz (sa_len 30 (.tmp 97) 98 (.slice ae n cae) (.int .i64 (n : Int)) rfl rfl rfl (.nw 97 hz) (by intro w; kernel_rfl) rfl)
  case s27 => exact sa_gf 22 94 hz (sa_bin .neq 3 (.tmp 96) (.tmp 98) 3 99 (.int .i64 (n : Int)) (.int .i64 (n : Int)) (.bool false) rfl rfl rfl (.nw 96 hz) (.nw 98 hz) guard_int (bin_neq (decide_eq_false (by omega))) rfl)
  case s28 => exact sa_pickF (.tmp 94) (.const _) (.tmp 99) 100 (.val (.bool false)) rfl rfl rfl (.nw 94 hz) (.nw 99 hz) rfl
  case e =>
  intro ac wz hA hgr hv
  exact wl_end (hend ac wz hA (hw hv hz 100) hgr)
theorem r3_14 (hz : a0.tmps.size = 167)   (hend : ∀ ac wz, After [18] a0 ac → ac.eval (.tmp 18) = .int .i64 0 → Gr w wz → Q .normal ac wz) : RW 14 q3_14 false Q a0 w := by
  refine seq_by (by kernel_rfl) 1 (by decide) [18] (fun | 18 => .val (.int .i64 0) | _ => .any) (by kernel_rfl) (fmc ⟨?s0, fun o ho => nomatch ho⟩) ?e
  case s0 => exact sa_move (.const _) 18 (.val (.int .i64 0)) (.inr rfl) rfl rfl (.const _) rfl
  case e =>
  intro ac wz hA hgr hv
  exact wl_end (hend ac wz hA (hw hv hz 18) hgr)
theorem r3_15 (hz : a0.tmps.size = 167) (k n cap : Nat) (ad : Option Addr) (e18 : a0.eval (.tmp 18) = .int .i64 (k : Int)) (e16 : a0.eval (.tmp 16) = .slice ad n cap) (hend : ∀ ac wz, After [101, 102, 103, 104] a0 ac → ac.eval (.tmp 104) = .bool (decide ((k : Int) < (n : Int))) → Gr w wz → Q .normal ac wz) : RW 15 q3_15 false Q a0 w := by
  refine seq_by (by kernel_rfl) 4 (by decide) [101, 102, 103, 104] (fun | 101 => .val (.int .i64 (k : Int)) | 102 => .val (.slice ad n cap) | 103 => .val (.int .i64 (n : Int)) | 104 => .val (.bool (decide ((k : Int) < (n : Int)))) | _ => .any) (by kernel_rfl) (fmc ⟨?s0, fmc ⟨?s1, fmc ⟨?s2, fmc ⟨?s3, fun o ho => nomatch ho⟩⟩⟩⟩) ?e
  case s0 => exact sa_mo 18 101 e18
  case s1 => exact sa_mo 16 102 e16
  case s2 => exact sa_len 30 (.tmp 102) 103 (.slice ad n cap) (.int .i64 (n : Int)) rfl rfl rfl (.nw 102 hz) (by intro w; kernel_rfl) rfl
  case s3 => exact sa_bin .lss 3 (.tmp 101) (.tmp 103) 3 104 (.int .i64 (k : Int)) (.int .i64 (n : Int)) (.bool (decide ((k : Int) < (n : Int)))) rfl rfl rfl (.nw 101 hz) (.nw 103 hz) guard_int (bin_lss rfl) rfl
  case e =>
  intro ac wz hA hgr hv
  exact wl_end (hend ac wz hA (hw hv hz 104) hgr)
theorem r3_17 (hz : a0.tmps.size = 167) (k n cap cae g of g2 of2 : Nat) (x : Int) (hk : k < n) (hX : ∀ y, Gr w y → y.cell? ⟨g, of + k, none⟩ = some (.int .i64 x)) (hY : ∀ y, Gr w y → y.cell? ⟨g2, of2 + k, none⟩ = some (.int .i64 x)) (e18 : a0.eval (.tmp 18) = .int .i64 (k : Int)) (e16 : a0.eval (.tmp 16) = .slice (some ⟨g, of, none⟩) n cap) (e17 : a0.eval (.tmp 17) = .slice (some ⟨g2, of2, none⟩) n cae) (hend : ∀ ac wz, After [107, 108, 109, 110, 111, 112, 113, 114, 115] a0 ac → ac.eval (.tmp 115) = .bool false → Gr w wz → Q .normal ac wz) : RW 17 q3_17 true Q a0 w := by
  refine drawn_by (by kernel_rfl) (by kernel_rfl) (by kernel_rfl) [107, 108, 109, 110, 111, 112, 113, 114, 115] (fun | 107 => .val (.slice (some ⟨g, of, none⟩) n cap) | 108 => .val (.int .i64 (k : Int)) | 109 => .val (.pointer (some ⟨g, of + k, none⟩)) | 110 => .val (.int .i64 x) | 111 => .val (.slice (some ⟨g2, of2, none⟩) n cae) | 112 => .val (.int .i64 (k : Int)) | 113 => .val (.pointer (some ⟨g2, of2 + k, none⟩)) | 114 => .val (.int .i64 x) | 115 => .val (.bool false) | _ => .any) (by kernel_rfl) (fmc ⟨?s0, fmc ⟨?s1, fmc ⟨?s2, fmc ⟨?s3, fmc ⟨?s4, fmc ⟨?s5, fmc ⟨?s6, fmc ⟨?s7, fmc ⟨?s8, fun o ho => nomatch ho⟩⟩⟩⟩⟩⟩⟩⟩⟩) ?e
  case s0 => exact sa_mo 16 107 e16
  case s1 => exact sa_mo 18 108 e18
  case s2 => exact sa_ixa 30 (.tmp 107) (.tmp 108) 109 (.slice (some ⟨g, of, none⟩) n cap) (.int .i64 (k : Int)) (.pointer (some ⟨g, of + k, none⟩)) rfl rfl rfl (.nw 107 hz) (.nw 108 hz) (ix_slice (sz := 1) Tryz.underlying30 (by intro w; kernel_rfl) (by omega) (by omega)) rfl
  case s3 => exact sa_loadc 3 (.tmp 109) 110 (g) (of + k) (.int .i64 x) rfl rfl rfl (by intro w; kernel_rfl) (.nw 109 hz) hX rfl
  case s4 => exact sa_mo 17 111 e17
  case s5 => exact sa_mo 18 112 e18
  case s6 => exact sa_ixa 30 (.tmp 111) (.tmp 112) 113 (.slice (some ⟨g2, of2, none⟩) n cae) (.int .i64 (k : Int)) (.pointer (some ⟨g2, of2 + k, none⟩)) rfl rfl rfl (.nw 111 hz) (.nw 112 hz) (ix_slice (sz := 1) Tryz.underlying30 (by intro w; kernel_rfl) (by omega) (by omega)) rfl
  case s7 => exact sa_loadc 3 (.tmp 113) 114 (g2) (of2 + k) (.int .i64 x) rfl rfl rfl (by intro w; kernel_rfl) (.nw 113 hz) hY rfl
  case s8 => exact sa_bin .neq 3 (.tmp 110) (.tmp 114) 3 115 (.int .i64 x) (.int .i64 x) (.bool false) rfl rfl rfl (.nw 110 hz) (.nw 114 hz) guard_int (bin_neq (decide_eq_false (by omega))) rfl
  case e =>
  intro ac wz hA hgr hv
  exact hend ac wz hA (hw hv hz 115) hgr
theorem r3_16 (hz : a0.tmps.size = 167) (k : Nat) (hk : k < 9223372036854775807) (e18 : a0.eval (.tmp 18) = .int .i64 (k : Int)) (hend : ∀ ac wz, After [18, 105, 106] a0 ac → ac.eval (.tmp 18) = .int .i64 ((k + 1 : Nat) : Int) → Gr w wz → Q .normal ac wz) : RW 16 q3_16 false Q a0 w := by
  refine seq_by (by kernel_rfl) 2 (by decide) [105, 106] (fun | 105 => .val (.int .i64 (k : Int)) | 106 => .val (.int .i64 ((k + 1 : Nat) : Int)) | _ => .any) (by kernel_rfl) (fmc ⟨?s0, fmc ⟨?s1, fun o ho => nomatch ho⟩⟩) ?e
  case s0 => exact sa_mo 18 105 e18
  case s1 => exact sa_bin .add 3 (.tmp 105) (.const _) 3 106 (.int .i64 (k : Int)) (.int .i64 1) (.int .i64 ((k + 1 : Nat) : Int)) rfl rfl rfl (.nw 105 hz) (.const _) guard_int (bin_add (by omega) (by omega) (by omega)) rfl
  case e =>
  intro ac wz hA hgr hv
  have o106 : ac.eval (.tmp 106) = .int .i64 ((k + 1 : Nat) : Int) := hw hv hz 106
  refine wl_of rfl (op_move (.tmp 106) (.inr rfl) (wl_end ?_))
  exact hend _ wz (hA.put 18 _)  ((ev_put (by rw [hA.size, hz]; decide)).trans ((if_pos rfl).trans o106)) hgr
theorem r3_19 (hz : a0.tmps.size = 167) (a : Nat) (ua : Value) (ra : Rg) (hA : Holds w a (ringC ua ra) 28) (RA : RingAt w.heap.size w ua ra) (_fa : RFit ra) (e8 : a0.eval (.tmp 8) = .pointer (some ⟨a, 0, none⟩)) (hend : ∀ ac wz, After [116, 117, 19] a0 ac → ac.eval (.tmp 19) = .int .i64 (claimantL ra) → Gr w wz → Q .normal ac wz) : RW 19 q3_19 false Q a0 w := by
  refine seq_by (by kernel_rfl) 3 (by decide) [116, 117, 19] (fun | 116 => .val (.agg (ringC ua ra).toArray) | 117 => .val (.int .i64 (claimantL ra)) | 19 => .val (.int .i64 (claimantL ra)) | _ => .any) (by kernel_rfl) (fmc ⟨?s0, fmc ⟨?s1, fmc ⟨?s2, fun o ho => nomatch ho⟩⟩⟩) ?e
  case s0 => exact sa_row 28 (.tmp 8) 116 a (0) 17 _ (ringC ua ra) rfl rfl rfl Tryz.underlying28 rfl siz28 (ringC_len RA) (.old 8 _ (by decide) e8) (fun y hy => range_of (hA.below hy hA.lt)) rfl
  case s1 => exact sa_call1 22 (.tmp 116) _ 117 (.val (.agg (ringC ua ra).toArray)) rfl rfl rfl (.nw 116 hz) (enters_of Tryz.func22 (by kernel_rfl) rfl) (fun v0 y hgy q0 => by rw [show v0 = _ from q0]; exact (claimant_any ua ra y ((RA.below hgy).mono hgy.size)).mono fun e z ⟨e1, e2⟩ => ⟨_, e1, e2, rfl⟩)
  case s2 => exact sa_move (.tmp 117) 19 (.val (.int .i64 (claimantL ra))) (.inr rfl) rfl rfl (.nw 117 hz) rfl
  case e =>
  intro ac wz hA hgr hv
  exact wl_end (hend ac wz hA (hw hv hz 19) hgr)
theorem r3_21 (hz : a0.tmps.size = 167) (a : Nat) (ua : Value) (ra : Rg) (hA : Holds w a (ringC ua ra) 28) (RA : RingAt w.heap.size w ua ra) (fa : RFit ra) (b : Nat) (ub : Value) (rb : Rg) (hB : Holds w b (ringC ub rb) 28) (RB : RingAt w.heap.size w ub rb) (fb : RFit rb) (node : Int) (hn : I64 node) (e7 : a0.eval (.tmp 7) = .bool true) (e20 : a0.eval (.tmp 20) = .bool true) (e19 : a0.eval (.tmp 19) = .int .i64 (claimantL ra)) (e8 : a0.eval (.tmp 8) = .pointer (some ⟨a, 0, none⟩)) (e9 : a0.eval (.tmp 9) = .pointer (some ⟨b, 0, none⟩)) (e1 : a0.eval (.tmp 1) = .int .i64 node) (hend : ∀ ac wz, After [125, 126, 127, 128, 129, 130, 131, 132, 133, 134, 135, 136, 137, 138, 139, 140, 141, 142, 143, 144, 145, 146, 147, 148, 149, 150, 151, 152, 153, 154, 155, 156, 157, 158, 159, 160, 161, 162, 163, 164, 165, 166, 6] a0 ac → ac.eval (.tmp 6) = .bool true → Gr w wz → Q .normal ac wz) : RW 21 q3_21 true Q a0 w := by
  refine drawn_by (by kernel_rfl) (by kernel_rfl) (by kernel_rfl) [125, 126, 127, 128, 129, 130, 131, 132, 133, 134, 135, 136, 137, 138, 139, 140, 141, 142, 143, 144, 145, 146, 147, 148, 149, 150, 151, 152, 153, 154, 155, 156, 157, 158, 159, 160, 161, 162, 163, 164, 165, 166, 6] (fun | 125 => .val (.bool true) | 126 => .val (.bool true) | 127 => .val (.bool true) | 128 => .val (.bool true) | 129 => .val (.bool true) | 130 => .val (.int .i64 (claimantL ra)) | 131 => .val (.agg (ringC ua ra).toArray) | 132 => .val (.int .i64 (claimantL ra)) | 133 => .val (.bool true) | 134 => .val (.bool true) | 135 => .val (.bool true) | 136 => .val (.agg (ringC ua ra).toArray) | 137 => .val (.agg (intV (ownersL ra)).toArray) | 138 => .val (.agg (ringC ua ra).toArray) | 139 => .val (.agg (intV (ownersL ra)).toArray) | 140 => .val (.bool true) | 141 => .val (.bool true) | 142 => .val (.bool true) | 143 => .val (.agg (ringC ua ra).toArray) | 144 => .val (.int .i64 node) | 145 => .val (.int .i64 (stateL ra node)) | 146 => .val (.agg (ringC ua ra).toArray) | 147 => .val (.int .i64 node) | 148 => .val (.int .i64 (stateL ra node)) | 149 => .val (.bool true) | 150 => .val (.bool true) | 151 => .val (.bool true) | 152 => .val (.agg (ringC ua ra).toArray) | 153 => .val (.agg (ringC ub rb).toArray) | 154 => .val (.bool ((Pk.strL (bytesR (normL ra))).toList == (Pk.strL (bytesR (normL rb))).toList)) | 155 => .val (.agg (ringC ua ra).toArray) | 156 => .val (.agg (ringC ub rb).toArray) | 157 => .val (.bool ((Pk.strL (bytesR (normL ra))).toList == (Pk.strL (bytesR (normL rb))).toList)) | 158 => .val (.bool true) | 159 => .val (.bool true) | 160 => .val (.bool true) | 161 => .val (.agg (ringC ua ra).toArray) | 162 => .val (.string (Pk.strL (bytesR (normL ra)))) | 163 => .val (.agg (ringC ua ra).toArray) | 164 => .val (.string (Pk.strL (bytesR (normL ra)))) | 165 => .val (.bool true) | 166 => .val (.bool true) | 6 => .val (.bool true) | _ => .any) (by kernel_rfl) (fmc ⟨?s0, fmc ⟨?s1, fmc ⟨?s2, fmc ⟨?s3, fmc ⟨?s4, fmc ⟨?s5, fmc ⟨?s6, fmc ⟨?s7, fmc ⟨?s8, fmc ⟨?s9, fmc ⟨?s10, fmc ⟨?s11, fmc ⟨?s12, fmc ⟨?s13, fmc ⟨?s14, fmc ⟨?s15, fmc ⟨?s16, fmc ⟨?s17, fmc ⟨?s18, fmc ⟨?s19, fmc ⟨?s20, fmc ⟨?s21, fmc ⟨?s22, fmc ⟨?s23, fmc ⟨?s24, fmc ⟨?s25, fmc ⟨?s26, fmc ⟨?s27, fmc ⟨?s28, fmc ⟨?s29, fmc ⟨?s30, fmc ⟨?s31, fmc ⟨?s32, fmc ⟨?s33, fmc ⟨?s34, fmc ⟨?s35, fmc ⟨?s36, fmc ⟨?s37, fmc ⟨?s38, fmc ⟨?s39, fmc ⟨?s40, fmc ⟨?s41, fmc ⟨?s42, fun o ho => nomatch ho⟩⟩⟩⟩⟩⟩⟩⟩⟩⟩⟩⟩⟩⟩⟩⟩⟩⟩⟩⟩⟩⟩⟩⟩⟩⟩⟩⟩⟩⟩⟩⟩⟩⟩⟩⟩⟩⟩⟩⟩⟩⟩⟩) ?e
  case s0 => exact sa_mo 7 125 e7
  case s1 => exact sa_mw 125 126 hz
  case s2 => exact sa_gd 1 126 hz (sa_mo 20 127 e20)
  case s3 => exact sa_pick (.tmp 126) (.tmp 127) (.const _) 128 (.val (.bool true)) rfl rfl rfl (.nw 126 hz) (.nw 127 hz) rfl
  case s4 => exact sa_mw 128 129 hz
  case s5 => exact sa_gd 4 129 hz (sa_mo 19 130 e19)
  case s6 => exact sa_gd 4 129 hz (sa_row 28 (.tmp 8) 131 a (0) 17 _ (ringC ua ra) rfl rfl rfl Tryz.underlying28 rfl siz28 (ringC_len RA) (.old 8 _ (by decide) e8) (fun y hy => range_of (hA.below hy hA.lt)) rfl)
  case s7 => exact sa_gd 4 129 hz (sa_call1 23 (.tmp 131) _ 132 (.val (.agg (ringC ua ra).toArray)) rfl rfl rfl (.nw 131 hz) (enters_of Tryz.func23 (by kernel_rfl) rfl) (fun v0 y hgy q0 => by rw [show v0 = _ from q0]; exact (rclaimant_any ua ra y ((RA.below hgy).mono hgy.size)).mono fun e z ⟨e1, e2⟩ => ⟨_, e1, e2, rfl⟩))
  case s8 => exact sa_gd 4 129 hz (sa_bin .eql 3 (.tmp 130) (.tmp 132) 3 133 (.int .i64 (claimantL ra)) (.int .i64 (claimantL ra)) (.bool true) rfl rfl rfl (.nw 130 hz) (.nw 132 hz) guard_int (bin_eql (decide_eq_true rfl)) rfl)
  case s9 => exact sa_pick (.tmp 129) (.tmp 133) (.const _) 134 (.val (.bool true)) rfl rfl rfl (.nw 129 hz) (.nw 133 hz) rfl
  case s10 => exact sa_mw 134 135 hz
  case s11 => exact sa_gd 10 135 hz (sa_row 28 (.tmp 8) 136 a (0) 17 _ (ringC ua ra) rfl rfl rfl Tryz.underlying28 rfl siz28 (ringC_len RA) (.old 8 _ (by decide) e8) (fun y hy => range_of (hA.below hy hA.lt)) rfl)
  case s12 => exact sa_gd 10 135 hz (sa_call1 24 (.tmp 136) _ 137 (.val (.agg (ringC ua ra).toArray)) rfl rfl rfl (.nw 136 hz) (enters_of Tryz.func24 (by kernel_rfl) rfl) (fun v0 y hgy q0 => by rw [show v0 = _ from q0]; exact (owners_any ua ra y ((RA.below hgy).mono hgy.size)).mono fun e z ⟨e1, e2⟩ => ⟨_, e1, e2, rfl⟩))
  case s13 => exact sa_gd 10 135 hz (sa_row 28 (.tmp 8) 138 a (0) 17 _ (ringC ua ra) rfl rfl rfl Tryz.underlying28 rfl siz28 (ringC_len RA) (.old 8 _ (by decide) e8) (fun y hy => range_of (hA.below hy hA.lt)) rfl)
  case s14 => exact sa_gd 10 135 hz (sa_call1 25 (.tmp 138) _ 139 (.val (.agg (ringC ua ra).toArray)) rfl rfl rfl (.nw 138 hz) (enters_of Tryz.func25 (by kernel_rfl) rfl) (fun v0 y hgy q0 => by rw [show v0 = _ from q0]; exact (rowners_any ua ra y ((RA.below hgy).mono hgy.size)).mono fun e z ⟨e1, e2⟩ => ⟨_, e1, e2, rfl⟩))
  case s15 => exact sa_gd 10 135 hz (sa_bin .eql 43 (.tmp 137) (.tmp 139) 43 140 (.agg (intV (ownersL ra)).toArray) (.agg (intV (ownersL ra)).toArray) (.bool true) rfl rfl rfl (.nw 137 hz) (.nw 139 hz) (fun w => guard43 _ _ _ _ w) (eql43 (ownersL ra) (owners_len ra)) rfl)
  case s16 => exact sa_pick (.tmp 135) (.tmp 140) (.const _) 141 (.val (.bool true)) rfl rfl rfl (.nw 135 hz) (.nw 140 hz) rfl
  case s17 => exact sa_mw 141 142 hz
  case s18 => exact sa_gd 17 142 hz (sa_row 28 (.tmp 8) 143 a (0) 17 _ (ringC ua ra) rfl rfl rfl Tryz.underlying28 rfl siz28 (ringC_len RA) (.old 8 _ (by decide) e8) (fun y hy => range_of (hA.below hy hA.lt)) rfl)
  case s19 => exact sa_gd 17 142 hz (sa_mo 1 144 e1)
  case s20 => exact sa_gd 17 142 hz (sa_call2 26 (.tmp 143) (.tmp 144) _ 145 (.val (.agg (ringC ua ra).toArray)) (.val (.int .i64 node)) rfl rfl rfl (.nw 143 hz) (.nw 144 hz) (enters_of Tryz.func26 (by kernel_rfl) rfl) (fun v0 v1 y hgy q0 q1 => by rw [show v0 = _ from q0]; rw [show v1 = _ from q1]; exact (state_any ua ra node hn y ((RA.below hgy).mono hgy.size)).mono fun e z ⟨e1, e2⟩ => ⟨_, e1, e2, rfl⟩))
  case s21 => exact sa_gd 17 142 hz (sa_row 28 (.tmp 8) 146 a (0) 17 _ (ringC ua ra) rfl rfl rfl Tryz.underlying28 rfl siz28 (ringC_len RA) (.old 8 _ (by decide) e8) (fun y hy => range_of (hA.below hy hA.lt)) rfl)
  case s22 => exact sa_gd 17 142 hz (sa_mo 1 147 e1)
  case s23 => exact sa_gd 17 142 hz (sa_call2 27 (.tmp 146) (.tmp 147) _ 148 (.val (.agg (ringC ua ra).toArray)) (.val (.int .i64 node)) rfl rfl rfl (.nw 146 hz) (.nw 147 hz) (enters_of Tryz.func27 (by kernel_rfl) rfl) (fun v0 v1 y hgy q0 q1 => by rw [show v0 = _ from q0]; rw [show v1 = _ from q1]; exact (rstate_any ua ra node y ((RA.below hgy).mono hgy.size)).mono fun e z ⟨e1, e2⟩ => ⟨_, e1, e2, rfl⟩))
  case s24 => exact sa_gd 17 142 hz (sa_bin .eql 3 (.tmp 145) (.tmp 148) 3 149 (.int .i64 (stateL ra node)) (.int .i64 (stateL ra node)) (.bool true) rfl rfl rfl (.nw 145 hz) (.nw 148 hz) guard_int (bin_eql (decide_eq_true rfl)) rfl)
  case s25 => exact sa_pick (.tmp 142) (.tmp 149) (.const _) 150 (.val (.bool true)) rfl rfl rfl (.nw 142 hz) (.nw 149 hz) rfl
  case s26 => exact sa_mw 150 151 hz
  case s27 => exact sa_gd 26 151 hz (sa_row 28 (.tmp 8) 152 a (0) 17 _ (ringC ua ra) rfl rfl rfl Tryz.underlying28 rfl siz28 (ringC_len RA) (.old 8 _ (by decide) e8) (fun y hy => range_of (hA.below hy hA.lt)) rfl)
  case s28 => exact sa_gd 26 151 hz (sa_row 28 (.tmp 9) 153 b (0) 17 _ (ringC ub rb) rfl rfl rfl Tryz.underlying28 rfl siz28 (ringC_len RB) (.old 9 _ (by decide) e9) (fun y hy => range_of (hB.below hy hB.lt)) rfl)
  case s29 => exact sa_gd 26 151 hz (sa_call2 28 (.tmp 152) (.tmp 153) _ 154 (.val (.agg (ringC ua ra).toArray)) (.val (.agg (ringC ub rb).toArray)) rfl rfl rfl (.nw 152 hz) (.nw 153 hz) (enters_of Tryz.func28 (by kernel_rfl) rfl) (fun v0 v1 y hgy q0 q1 => by rw [show v0 = _ from q0]; rw [show v1 = _ from q1]; exact (m_gsame ua ub ra rb fa fb y ((RA.below hgy).mono hgy.size) ((RB.below hgy).mono hgy.size)).mono fun e z ⟨e1, e2⟩ => ⟨_, e1, e2, rfl⟩))
  case s30 => exact sa_gd 26 151 hz (sa_row 28 (.tmp 8) 155 a (0) 17 _ (ringC ua ra) rfl rfl rfl Tryz.underlying28 rfl siz28 (ringC_len RA) (.old 8 _ (by decide) e8) (fun y hy => range_of (hA.below hy hA.lt)) rfl)
  case s31 => exact sa_gd 26 151 hz (sa_row 28 (.tmp 9) 156 b (0) 17 _ (ringC ub rb) rfl rfl rfl Tryz.underlying28 rfl siz28 (ringC_len RB) (.old 9 _ (by decide) e9) (fun y hy => range_of (hB.below hy hB.lt)) rfl)
  case s32 => exact sa_gd 26 151 hz (sa_call2 7 (.tmp 155) (.tmp 156) _ 157 (.val (.agg (ringC ua ra).toArray)) (.val (.agg (ringC ub rb).toArray)) rfl rfl rfl (.nw 155 hz) (.nw 156 hz) (enters_of Tryz.func7 (by kernel_rfl) rfl) (fun v0 v1 y hgy q0 q1 => by rw [show v0 = _ from q0]; rw [show v1 = _ from q1]; exact (lawSame_any ua ub ra rb fa fb y ((RA.below hgy).mono hgy.size) ((RB.below hgy).mono hgy.size)).mono fun e z ⟨e1, e2⟩ => ⟨_, e1, e2, rfl⟩))
  case s33 => exact sa_gd 26 151 hz (sa_bin .eql 4 (.tmp 154) (.tmp 157) 4 158 (.bool ((Pk.strL (bytesR (normL ra))).toList == (Pk.strL (bytesR (normL rb))).toList)) (.bool ((Pk.strL (bytesR (normL ra))).toList == (Pk.strL (bytesR (normL rb))).toList)) (.bool true) rfl rfl rfl (.nw 154 hz) (.nw 157 hz) (fun w => guard4 _ _ _ _ w) (fun w => eql4 _ w) rfl)
  case s34 => exact sa_pick (.tmp 151) (.tmp 158) (.const _) 159 (.val (.bool true)) rfl rfl rfl (.nw 151 hz) (.nw 158 hz) rfl
  case s35 => exact sa_mw 159 160 hz
  case s36 => exact sa_gd 35 160 hz (sa_row 28 (.tmp 8) 161 a (0) 17 _ (ringC ua ra) rfl rfl rfl Tryz.underlying28 rfl siz28 (ringC_len RA) (.old 8 _ (by decide) e8) (fun y hy => range_of (hA.below hy hA.lt)) rfl)
  case s37 => exact sa_gd 35 160 hz (sa_call1 29 (.tmp 161) _ 162 (.val (.agg (ringC ua ra).toArray)) rfl rfl rfl (.nw 161 hz) (enters_of Tryz.func29 (by kernel_rfl) rfl) (fun v0 y hgy q0 => by rw [show v0 = _ from q0]; exact (m_gbytes ua ra fa y ((RA.below hgy).mono hgy.size)).mono fun e z ⟨e1, e2⟩ => ⟨_, e1, e2, rfl⟩))
  case s38 => exact sa_gd 35 160 hz (sa_row 28 (.tmp 8) 163 a (0) 17 _ (ringC ua ra) rfl rfl rfl Tryz.underlying28 rfl siz28 (ringC_len RA) (.old 8 _ (by decide) e8) (fun y hy => range_of (hA.below hy hA.lt)) rfl)
  case s39 => exact sa_gd 35 160 hz (sa_call1 30 (.tmp 163) _ 164 (.val (.agg (ringC ua ra).toArray)) rfl rfl rfl (.nw 163 hz) (enters_of Tryz.func30 (by kernel_rfl) rfl) (fun v0 y hgy q0 => by rw [show v0 = _ from q0]; exact (refBytes_any ua ra fa y ((RA.below hgy).mono hgy.size)).mono fun e z ⟨e1, e2⟩ => ⟨_, e1, e2, rfl⟩))
  case s40 => exact sa_gd 35 160 hz (sa_bin .eql 9 (.tmp 162) (.tmp 164) 9 165 (.string (Pk.strL (bytesR (normL ra)))) (.string (Pk.strL (bytesR (normL ra)))) (.bool true) rfl rfl rfl (.nw 162 hz) (.nw 164 hz) (fun w => guard9e _ _ _ _ w) (fun w => (eql9 _ _ w).trans (by simp)) rfl)
  case s41 => exact sa_pick (.tmp 160) (.tmp 165) (.const _) 166 (.val (.bool true)) rfl rfl rfl (.nw 160 hz) (.nw 165 hz) rfl
  case s42 => exact sa_move (.tmp 166) 6 (.val (.bool true)) (.inr rfl) rfl rfl (.nw 166 hz) rfl
  case e =>
  intro ac wz hA hgr hv
  exact hend ac wz hA (hw hv hz 6) hgr
theorem und29 : Tryz.prog.underlying 29 = some (.array 2 28) := by kernel_rfl
theorem r3_0 (hz : a0.tmps.size = 167) (cs : List Value) (e0 : a0.eval (.tmp 0) = .agg cs.toArray) (hend : ∀ ac y d, After [6, 3] a0 ac → ac.eval (.tmp 3) = .pointer (some ⟨d, 0, none⟩) → Holds y d cs 29 → Gr w y → Q .normal ac y) : RW 0 q3_0 false Q a0 w := by
  refine wp_region_list ?_
  refine wpList_box_new 3 rfl rfl 29 (.tmp 0) rfl w.heap.size rfl cs e0 ?_
  intro y h
  refine wl_of rfl (op_mv (.const (.bool false)) (.bool false) (.inr rfl) rfl 6 rfl (wl_end (hend _ y w.heap.size (((After.self a0).put 3 _).put 6 _) ?_ h.holds h.below)))
  simp [ev_put, put_size, hz]
theorem both_a {w : World} {d : Nat} {ua ub : Value} {ra rb : Rg} (h : Holds w d (ringC ua ra ++ ringC ub rb) 29) : w.rangeAt d (0 + 0 * 17) (ringC ua ra) := h.range _ _ (fun j v hv => by
  rw [show 0 + 0 * 17 + j = j by omega, List.getElem?_append_left (List.getElem?_eq_some_iff.1 hv).1]; exact hv)
theorem both_b {w : World} {d : Nat} {ua ub : Value} {ra rb : Rg} (hl : (ringC ua ra).length = 17) (h : Holds w d (ringC ua ra ++ ringC ub rb) 29) : w.rangeAt d (0 + 1 * 17) (ringC ub rb) := h.range _ _ (fun j v hv => by
  rw [show 0 + 1 * 17 + j = (ringC ua ra).length + j by omega, List.getElem?_append_right (by omega), Nat.add_sub_cancel_left]; exact hv)
theorem r3_2 (hz : a0.tmps.size = 167) (d : Nat) (ua ub : Value) (ra rb : Rg) (hD : Holds w d (ringC ua ra ++ ringC ub rb) 29) (RA : RingAt w.heap.size w ua ra) (e3 : a0.eval (.tmp 3) = .pointer (some ⟨d, 0, none⟩)) (hend : ∀ ac wz g, After (8 :: [22, 23]) a0 ac → ac.eval (.tmp 8) = .pointer (some ⟨g, 0, none⟩) → Bf 0 wz g ra → Gr w wz → Q .normal ac wz) : RW 2 q3_2 false Q a0 w := by
  refine seq_by (by kernel_rfl) 2 (by decide) [22, 23] (fun | 22 => .val (.pointer (some ⟨d, 0 + 0 * 17, none⟩)) | 23 => .val (.agg (ringC ua ra).toArray) | _ => .any) (by kernel_rfl) (fmc ⟨?s0, fmc ⟨?s1, fun o ho => nomatch ho⟩⟩) ?e
  case s0 => exact sa_ixa 29 (.tmp 3) (.const _) 22 (.pointer (some ⟨d, 0, none⟩)) (.int .i64 0) (.pointer (some ⟨d, 0 + 0 * 17, none⟩)) rfl rfl rfl (.old 3 _ (by decide) e3) (.const _) (ix_array (i := 0) (sz := 17) und29 (by intro w; kernel_rfl) (by decide) rfl) rfl
  case s1 => exact sa_row 28 (.tmp 22) 23 d (0 + 0 * 17) 17 _ (ringC ua ra) rfl rfl rfl Tryz.underlying28 rfl siz28 (ringC_len RA) (.nw 22 hz) (fun y hy => both_a (hD.below hy hD.lt)) rfl
  case e =>
  intro ac wz hA hgr hv
  have o23 : ac.eval (.tmp 23) = .agg (ringC ua ra).toArray := hw hv hz 23
  refine tail_box 8 23 (by decide) (by rw [hA.size, hz]; decide) rfl rfl rfl rfl rfl rfl (F := 0) (r := ra) ⟨ua, o23, (RA.below hgr).mono hgr.size, fresh0 ua⟩ (fun g z _ hB hg => ?_)
  exact hend _ z g (hA.put 8 _) ((ev_put (by rw [hA.size, hz]; decide)).trans (if_pos rfl)) hB (hgr.trans hg)
theorem r3_3 (hz : a0.tmps.size = 167) (d : Nat) (ua ub : Value) (ra rb : Rg) (hD : Holds w d (ringC ua ra ++ ringC ub rb) 29) (RA : RingAt w.heap.size w ua ra) (RB : RingAt w.heap.size w ub rb) (e3 : a0.eval (.tmp 3) = .pointer (some ⟨d, 0, none⟩)) (hend : ∀ ac wz g, After (9 :: [24, 25]) a0 ac → ac.eval (.tmp 9) = .pointer (some ⟨g, 0, none⟩) → Bf 0 wz g rb → Gr w wz → Q .normal ac wz) : RW 3 q3_3 false Q a0 w := by
  refine seq_by (by kernel_rfl) 2 (by decide) [24, 25] (fun | 24 => .val (.pointer (some ⟨d, 0 + 1 * 17, none⟩)) | 25 => .val (.agg (ringC ub rb).toArray) | _ => .any) (by kernel_rfl) (fmc ⟨?s0, fmc ⟨?s1, fun o ho => nomatch ho⟩⟩) ?e
  case s0 => exact sa_ixa 29 (.tmp 3) (.const _) 24 (.pointer (some ⟨d, 0, none⟩)) (.int .i64 1) (.pointer (some ⟨d, 0 + 1 * 17, none⟩)) rfl rfl rfl (.old 3 _ (by decide) e3) (.const _) (ix_array (i := 1) (sz := 17) und29 (by intro w; kernel_rfl) (by decide) rfl) rfl
  case s1 => exact sa_row 28 (.tmp 24) 25 d (0 + 1 * 17) 17 _ (ringC ub rb) rfl rfl rfl Tryz.underlying28 rfl siz28 (ringC_len RB) (.nw 24 hz) (fun y hy => both_b (ringC_len RA) (hD.below hy hD.lt)) rfl
  case e =>
  intro ac wz hA hgr hv
  have o25 : ac.eval (.tmp 25) = .agg (ringC ub rb).toArray := hw hv hz 25
  refine tail_box 9 25 (by decide) (by rw [hA.size, hz]; decide) rfl rfl rfl rfl rfl rfl (F := 0) (r := rb) ⟨ub, o25, (RB.below hgr).mono hgr.size, fresh0 ub⟩ (fun g z _ hB hg => ?_)
  exact hend _ z g (hA.put 9 _) ((ev_put (by rw [hA.size, hz]; decide)).trans (if_pos rfl)) hB (hgr.trans hg)
end Go.Proofs.YthmnjebmnocoiaaGreat.En

/- GossipMakes: the law. By tools/gen_makes.py. -/
namespace Go.Proofs.YthmnjebmnocoiaaGreat.En
open Go.RowKit
def c3_a : Code := (((Code.region 15 q3_15 false).seq (Code.cond (.tmp 104) Code.skip (Code.exit 0))).seq ((Code.block 1 ((Code.region 17 q3_17 true).seq (Code.cond (.tmp 115) ((Code.region 18 q3_18 false).seq Code.ret) Code.skip))).seq (Code.region 16 q3_16 false)))
def c3_l : Code := (Code.block 0 (c3_a.loop))
def c3 : Code := ((Code.region 0 q3_0 false).seq ((Code.region 1 q3_1 false).seq ((Code.region 2 q3_2 false).seq ((Code.region 3 q3_3 false).seq ((Code.region 4 q3_4 true).seq ((Code.region 5 q3_5 true).seq ((Code.region 6 q3_6 true).seq ((Code.region 7 q3_7 true).seq ((Code.region 8 q3_8 true).seq ((Code.region 9 q3_9 false).seq ((Code.region 10 q3_10 false).seq ((Code.region 11 q3_11 false).seq (((Code.region 12 q3_12 false).seq (Code.cond (.tmp 100) ((Code.region 13 q3_13 false).seq Code.ret) Code.skip)).seq (((Code.region 14 q3_14 false).seq c3_l).seq ((Code.region 19 q3_19 false).seq ((Code.region 20 q3_20 true).seq ((Code.region 21 q3_21 true).seq Code.ret)))))))))))))))))
structure Mk (w : World) (a b : Nat) (ua ub : Value) (ra rb : Rg) (sv : Value) (ss : List Int) (x : World) : Prop where
  hA : Holds x a (ringC ua ra) 28
  RA : RingAt x.heap.size x ua ra
  hB : Holds x b (ringC ub rb) 28
  RB : RingAt x.heap.size x ub rb
  hS : Ints x.heap.size x sv ss
  gr : Gr w x
theorem Mk.to {w x y : World} {a b : Nat} {ua ub sv : Value} {ra rb : Rg} {ss : List Int} (h : Mk w a b ua ub ra rb sv ss x) (g : Gr x y) : Mk w a b ua ub ra rb sv ss y :=
  ⟨h.hA.below g h.hA.lt, (h.RA.below g).mono g.size, h.hB.below g h.hB.lt, (h.RB.below g).mono g.size, (h.hS.below g).mono g.size, h.gr.trans g⟩
def Late (L : Nat) (a ac : Act) : Prop := ∃ D, After D a ac ∧ (D.all fun s => decide (L ≤ s)) = true
theorem Late.step {L : Nat} {a b c : Act} {D : List Nat} (h : Late L a b) (k : After D b c) (hD : (D.all fun s => decide (L ≤ s)) = true) : Late L a c := by
  obtain ⟨E, h1, h2⟩ := h
  exact ⟨_, h1.trans k, by rw [List.all_append, h2, hD]; rfl⟩
theorem Late.get {L s : Nat} {a ac : Act} {v : Value} (h : Late L a ac) (e : a.eval (.tmp s) = v) (hs : s < L) : ac.eval (.tmp s) = v := by
  obtain ⟨D, h1, h2⟩ := h
  exact h1.keep h2 hs e
theorem Late.size {L : Nat} {a ac : Act} (h : Late L a ac) : ac.tmps.size = a.tmps.size := by obtain ⟨D, h1, _⟩ := h; exact h1.size
theorem Late.defers {L : Nat} {a ac : Act} (h : Late L a ac) : ac.defers = a.defers := by obtain ⟨D, h1, _⟩ := h; exact h1.defers
set_option maxHeartbeats 1000000 in
theorem mk_l {Q : Exit → Act → World → Prop} {c : Act} {x : World} {v16 v17 : Value} {M : List Int} (hz : c.tmps.size = 167) (hM : M.length < 9223372036854775807) (i16 : Ints x.heap.size x v16 M) (i17 : Ints x.heap.size x v17 M) (e16 : c.eval (.tmp 16) = v16) (e17 : c.eval (.tmp 17) = v17) (e18 : c.eval (.tmp 18) = .int .i64 ((0 : Nat) : Int))
    (hend : ∀ ad y, Late 18 c ad → Gr x y → Q .normal ad y) : c3_l.wp Tryz.prog Q c x := by
  obtain ⟨ad, cap, rfl, _, h1⟩ := i16
  obtain ⟨ae, cae, rfl, _, h2⟩ := i17
  unfold c3_l
  refine wp_block ?_
  refine wp_loop (fun aa y => ∃ k : Nat, Late 18 c aa ∧ Gr x y ∧ k ≤ M.length ∧ aa.eval (.tmp 18) = .int .i64 (k : Int)) (fun aa _ => M.length - (intOf (aa.eval (.tmp 18))).toNat)
    ⟨0, ⟨[], After.self c, rfl⟩, Gr.refl _, by omega, e18⟩ (fun a0 x0 ⟨k, L0, G0, hk, f18⟩ => ?_)
  unfold c3_a
  refine wp_seq (wp_seq (r3_15 (L0.size.trans hz) k M.length cap ad f18 (L0.get e16 (by omega)) (fun a1 x1 A1 o104 G1 => ?_)))
  have L1 := L0.step A1 (by decide)
  have g18 := A1.get f18 (by decide)
  show Code.wp Tryz.prog (Code.cond _ _ _) _ a1 x1
  refine wp_cond_split o104 (fun q => ?_) (fun _ => ?_)
  · have q : (k : Int) < M.length := of_decide_eq_true q
    have hk2 : k < M.length := by omega
    refine wp_skip ?_
    rcases h1 with h0 | ⟨g, of, rfl, hg, hc⟩
    · omega
    rcases h2 with h0 | ⟨g2, of2, rfl, hg2, hc2⟩
    · omega
    show Code.wp Tryz.prog (Code.seq _ _) _ a1 x1
    have G01 := G0.trans G1
    refine wp_seq (wp_block (wp_seq (r3_17 (L1.size.trans hz) k M.length cap cae g of g2 of2 (M.getD k 0) hk2 (fun y hy => cell_below (G01.trans hy) hg (hc k hk2)) (fun y hy => cell_below (G01.trans hy) hg2 (hc2 k hk2)) g18 (L1.get e16 (by omega)) (L1.get e17 (by omega)) (fun a2 x2 A2 o115 G2 => ?_))))
    show Code.wp Tryz.prog (Code.cond _ _ _) _ a2 x2
    refine wp_cond_split o115 (fun q => by cases q) (fun _ => ?_)
    refine wp_skip ?_
    have L2 := L1.step A2 (by decide)
    show Code.wp Tryz.prog (Code.region 16 q3_16 false) _ a2 x2
    refine r3_16 (L2.size.trans hz) k (by omega) (A2.get g18 (by decide)) (fun a3 x3 A3 o18 G3 => ?_)
    refine ⟨⟨k + 1, L2.step A3 (by decide), G01.trans (G2.trans G3), by omega, o18⟩, ?_⟩
    rw [o18, f18]
    simp only [intOf]
    omega
  · exact wp_exit (hend a1 x1 L1 (G0.trans G1))
set_option maxHeartbeats 1000000 in
theorem makes_any (ua ub : Value) (ra rb : Rg) (fa : RFit ra) (fb : RFit rb) (node : Int) (hn : I64 node) (sv : Value) (ss : List Int) (hl : ss.length ≤ 9223372036854775807) (w : World) (RA : RingAt w.heap.size w ua ra) (RB : RingAt w.heap.size w ub rb) (hS : Ints w.heap.size w sv ss) :
    Calls Tryz.prog 3 #[.agg (ringC ua ra ++ ringC ub rb).toArray, .int .i64 node, sv] w fun e z => e = .returned (.bool true) ∧ Gr w z := by
  refine calls_by (c := c3) Tryz.func3 (by kernel_rfl) 167 (by rw [Tryz.ntmps3]; rfl) (fun c z df hv => ?_)
  have f0 := hv 0 _ rfl
  have f1 := hv 1 _ rfl
  have f2 := hv 2 _ rfl
  clear hv
  unfold c3
  refine wp_seq (r3_0 z (ringC ua ra ++ ringC ub rb) f0 (fun c0 x0 d A0 f3 hD G0 => ?_))
  have df0 := A0.defers.trans df
  have z0 := A0.size.trans z
  have f1 := A0.get f1 (by decide)
  have f2 := A0.get f2 (by decide)
  show Code.wp Tryz.prog (Code.seq _ _) _ c0 x0
  refine wp_seq (r3_1 z0 (fun c1 x1 A1 f7 G1 => ?_))
  have df1 := A1.defers.trans df0
  have z1 := A1.size.trans z0
  have f1 := A1.get f1 (by decide)
  have f2 := A1.get f2 (by decide)
  have f3 := A1.get f3 (by decide)
  have RA1 : RingAt x1.heap.size x1 ua ra := (RA.below (G0.trans G1)).mono (G0.trans G1).size
  show Code.wp Tryz.prog (Code.seq _ _) _ c1 x1
  refine wp_seq (r3_2 z1 d ua ub ra rb (hD.below G1 hD.lt) RA1 f3 (fun c2 x2 a A2 f8 BA G2 => ?_))
  have df2 := A2.defers.trans df1
  have z2 := A2.size.trans z1
  have f1 := A2.get f1 (by decide)
  have f2 := A2.get f2 (by decide)
  have f3 := A2.get f3 (by decide)
  have f7 := A2.get f7 (by decide)
  have G02 := G0.trans (G1.trans G2)
  show Code.wp Tryz.prog (Code.seq _ _) _ c2 x2
  refine wp_seq (r3_3 z2 d ua ub ra rb (hD.below (G1.trans G2) hD.lt) ((RA1.below G2).mono G2.size) ((RB.below G02).mono G02.size) f3 (fun c3a x3 b A3 f9 BB G3 => ?_))
  have df3 := A3.defers.trans df2
  have z3 := A3.size.trans z2
  have f1 := A3.get f1 (by decide)
  have f2 := A3.get f2 (by decide)
  have f7 := A3.get f7 (by decide)
  have f8 := A3.get f8 (by decide)
  have G03 := G02.trans G3
  have hS3 : Ints x3.heap.size x3 sv ss := (hS.below G03).mono G03.size
  clear hS RA RB RA1
  obtain ⟨ub, hB, RB, _⟩ := BB
  obtain ⟨ua, hA, RA, _⟩ := BA.gr G3
  have M3 : Mk w a b ua ub ra rb sv ss x3 := ⟨hA, RA, hB, RB, hS3, G03⟩
  clear hA RA hB RB hS3 BA hD
  show Code.wp Tryz.prog (Code.seq _ _) _ c3a x3
  refine wp_seq (r3_4 z3 a ua ra M3.hA M3.RA fa f8 (fun c4 x4 A4 f10 G4 => ?_))
  have df4 := A4.defers.trans df3
  have z4 := A4.size.trans z3
  have f1 := A4.get f1 (by decide)
  have f2 := A4.get f2 (by decide)
  have f7 := A4.get f7 (by decide)
  have f8 := A4.get f8 (by decide)
  have f9 := A4.get f9 (by decide)
  have M4 := M3.to G4
  show Code.wp Tryz.prog (Code.seq _ _) _ c4 x4
  refine wp_seq (r3_5 z4 a ua ra M4.hA M4.RA fa b ub rb M4.hB M4.RB fb f8 f9 (fun c5 x5 A5 f11 G5 => ?_))
  have df5 := A5.defers.trans df4
  have z5 := A5.size.trans z4
  have f1 := A5.get f1 (by decide)
  have f2 := A5.get f2 (by decide)
  have f7 := A5.get f7 (by decide)
  have f8 := A5.get f8 (by decide)
  have f9 := A5.get f9 (by decide)
  have f10 := A5.get f10 (by decide)
  have M5 := M4.to G5
  show Code.wp Tryz.prog (Code.seq _ _) _ c5 x5
  refine wp_seq (r3_6 z5 a ua ra M5.hA M5.RA fa node hn f8 f1 (fun c6 x6 A6 f12 G6 => ?_))
  have df6 := A6.defers.trans df5
  have z6 := A6.size.trans z5
  have f1 := A6.get f1 (by decide)
  have f2 := A6.get f2 (by decide)
  have f7 := A6.get f7 (by decide)
  have f8 := A6.get f8 (by decide)
  have f9 := A6.get f9 (by decide)
  have f10 := A6.get f10 (by decide)
  have f11 := A6.get f11 (by decide)
  have M6 := M5.to G6
  show Code.wp Tryz.prog (Code.seq _ _) _ c6 x6
  refine wp_seq (r3_7 z6 a ua ra M6.hA M6.RA fa node hn f8 f1 (fun c7 x7 A7 f13 G7 => ?_))
  have df7 := A7.defers.trans df6
  have z7 := A7.size.trans z6
  have f1 := A7.get f1 (by decide)
  have f2 := A7.get f2 (by decide)
  have f7 := A7.get f7 (by decide)
  have f8 := A7.get f8 (by decide)
  have f9 := A7.get f9 (by decide)
  have f10 := A7.get f10 (by decide)
  have f11 := A7.get f11 (by decide)
  have f12 := A7.get f12 (by decide)
  have M7 := M6.to G7
  show Code.wp Tryz.prog (Code.seq _ _) _ c7 x7
  refine wp_seq (r3_8 z7 a ua ra M7.hA M7.RA fa node f8 f1 (fun c8 x8 A8 f14 G8 => ?_))
  have df8 := A8.defers.trans df7
  have z8 := A8.size.trans z7
  have f1 := A8.get f1 (by decide)
  have f2 := A8.get f2 (by decide)
  have f7 := A8.get f7 (by decide)
  have f8 := A8.get f8 (by decide)
  have f9 := A8.get f9 (by decide)
  have f10 := A8.get f10 (by decide)
  have f11 := A8.get f11 (by decide)
  have f12 := A8.get f12 (by decide)
  have f13 := A8.get f13 (by decide)
  have M8 := M7.to G8
  show Code.wp Tryz.prog (Code.seq _ _) _ c8 x8
  refine wp_seq (r3_9 z8 node f1 (fun c9 x9 A9 f15 G9 => ?_))
  have df9 := A9.defers.trans df8
  have z9 := A9.size.trans z8
  have f1 := A9.get f1 (by decide)
  have f2 := A9.get f2 (by decide)
  have f7 := A9.get f7 (by decide)
  have f8 := A9.get f8 (by decide)
  have f9 := A9.get f9 (by decide)
  have f10 := A9.get f10 (by decide)
  have f11 := A9.get f11 (by decide)
  have f12 := A9.get f12 (by decide)
  have f13 := A9.get f13 (by decide)
  have f14 := A9.get f14 (by decide)
  have M9 := M8.to G9
  show Code.wp Tryz.prog (Code.seq _ _) _ c9 x9
  refine wp_seq (r3_10 z9 a ua ra M9.hA M9.RA fa sv ss M9.hS hl f8 f2 (fun c10 x10 A10 f16 G10 => ?_))
  have df10 := A10.defers.trans df9
  have z10 := A10.size.trans z9
  have f1 := A10.get f1 (by decide)
  have f2 := A10.get f2 (by decide)
  have f7 := A10.get f7 (by decide)
  have f8 := A10.get f8 (by decide)
  have f9 := A10.get f9 (by decide)
  have f10 := A10.get f10 (by decide)
  have f11 := A10.get f11 (by decide)
  have f12 := A10.get f12 (by decide)
  have f13 := A10.get f13 (by decide)
  have f14 := A10.get f14 (by decide)
  have f15 := A10.get f15 (by decide)
  have M10 := M9.to G10
  have i16 : Ints x10.heap.size x10 (c10.eval (.tmp 16)) (membersL ra ss) := f16
  clear f16
  obtain ⟨v16, f16⟩ : ∃ v, c10.eval (.tmp 16) = v := ⟨_, rfl⟩
  rw [f16] at i16
  show Code.wp Tryz.prog (Code.seq _ _) _ c10 x10
  refine wp_seq (r3_11 z10 a ua ra M10.hA M10.RA fa sv ss M10.hS hl f8 f2 (fun c11 x11 A11 f17 G11 => ?_))
  have df11 := A11.defers.trans df10
  have z11 := A11.size.trans z10
  have f1 := A11.get f1 (by decide)
  have f2 := A11.get f2 (by decide)
  have f7 := A11.get f7 (by decide)
  have f8 := A11.get f8 (by decide)
  have f9 := A11.get f9 (by decide)
  have f10 := A11.get f10 (by decide)
  have f11 := A11.get f11 (by decide)
  have f12 := A11.get f12 (by decide)
  have f13 := A11.get f13 (by decide)
  have f14 := A11.get f14 (by decide)
  have f15 := A11.get f15 (by decide)
  have f16 := A11.get f16 (by decide)
  have M11 := M10.to G11
  have i17 : Ints x11.heap.size x11 (c11.eval (.tmp 17)) (membersL ra ss) := f17
  clear f17
  obtain ⟨v17, f17⟩ : ∃ v, c11.eval (.tmp 17) = v := ⟨_, rfl⟩
  rw [f17] at i17
  have i16 := (i16.below G11).mono G11.size
  have hM7 : (membersL ra ss).length < 9223372036854775807 := by
    refine Nat.lt_of_le_of_lt (members_len ra ss) ?_
    omega
  have i16' := i16
  have i17' := i17
  obtain ⟨ad, cap, rfl, _, _⟩ := i16'
  obtain ⟨ae, cae, rfl, _, _⟩ := i17'
  show Code.wp Tryz.prog (Code.seq (Code.seq _ _) _) _ c11 x11
  refine wp_seq (wp_seq (r3_12 z11 (membersL ra ss).length cap cae ad ae f10 f11 f12 f13 f14 f15 f16 f17 (fun c12 x12 A12 o100 G12 => ?_)))
  have df12 := A12.defers.trans df11
  have z12 := A12.size.trans z11
  have f1 := A12.get f1 (by decide)
  have f7 := A12.get f7 (by decide)
  have f8 := A12.get f8 (by decide)
  have f9 := A12.get f9 (by decide)
  have f16 := A12.get f16 (by decide)
  have f17 := A12.get f17 (by decide)
  have M12 := M11.to G12
  have i16 := (i16.below G12).mono G12.size
  have i17 := (i17.below G12).mono G12.size
  show Code.wp Tryz.prog (Code.cond _ _ _) _ c12 x12
  refine wp_cond_split o100 (fun q => by cases q) (fun _ => ?_)
  refine wp_skip ?_
  show Code.wp Tryz.prog (Code.seq (Code.seq _ _) _) _ c12 x12
  refine wp_seq (wp_seq (r3_14 z12 (fun c13 x13 A13 f18 G13 => ?_)))
  have df13 := A13.defers.trans df12
  have z13 := A13.size.trans z12
  have f1 := A13.get f1 (by decide)
  have f7 := A13.get f7 (by decide)
  have f8 := A13.get f8 (by decide)
  have f9 := A13.get f9 (by decide)
  have f16 := A13.get f16 (by decide)
  have f17 := A13.get f17 (by decide)
  have M13 := M12.to G13
  have i16 := (i16.below G13).mono G13.size
  have i17 := (i17.below G13).mono G13.size
  show Code.wp Tryz.prog c3_l _ c13 x13
  refine mk_l z13 hM7 i16 i17 f16 f17 f18 (fun c14 x14 A14 G14 => ?_)
  have df14 := A14.defers.trans df13
  have z14 := A14.size.trans z13
  have M14 := M13.to G14
  have f1 := A14.get f1 (by decide)
  have f7 := A14.get f7 (by decide)
  have f8 := A14.get f8 (by decide)
  have f9 := A14.get f9 (by decide)
  show Code.wp Tryz.prog (Code.seq _ _) _ c14 x14
  refine wp_seq (r3_19 z14 a ua ra M14.hA M14.RA fa f8 (fun c15 x15 A15 f19 G15 => ?_))
  have df15 := A15.defers.trans df14
  have z15 := A15.size.trans z14
  have f1 := A15.get f1 (by decide)
  have f7 := A15.get f7 (by decide)
  have f8 := A15.get f8 (by decide)
  have f9 := A15.get f9 (by decide)
  have M15 := M14.to G15
  show Code.wp Tryz.prog (Code.seq _ _) _ c15 x15
  refine wp_seq (r3_20 z15 a ua ra M15.hA M15.RA fa (claimantL ra) f8 f19 (fun c16 x16 A16 f20 G16 => ?_))
  have df16 := A16.defers.trans df15
  have z16 := A16.size.trans z15
  have f1 := A16.get f1 (by decide)
  have f7 := A16.get f7 (by decide)
  have f8 := A16.get f8 (by decide)
  have f9 := A16.get f9 (by decide)
  have f19 := A16.get f19 (by decide)
  have M16 := M15.to G16
  show Code.wp Tryz.prog (Code.seq _ _) _ c16 x16
  refine wp_seq (r3_21 z16 a ua ra M16.hA M16.RA fa b ub rb M16.hB M16.RB fb node hn f7 f20 f19 f8 f9 f1 (fun c17 x17 A17 f6 G17 => ?_))
  have df17 := A17.defers.trans df16
  have z17 := A17.size.trans z16
  have f1 := A17.get f1 (by decide)
  have f7 := A17.get f7 (by decide)
  have f8 := A17.get f8 (by decide)
  have f9 := A17.get f9 (by decide)
  have f19 := A17.get f19 (by decide)
  have f20 := A17.get f20 (by decide)
  have M17 := M16.to G17
  exact wp_ret (show bodyPost Tryz.prog Tryz.f3 (fun e z => e = .returned (.bool true) ∧ Gr w z) .ret c17 x17 from bodyPost_ret (results_tmp rfl _ _ _) df17 ⟨by rw [← f6]; rfl, M17.gr⟩)
end Go.Proofs.YthmnjebmnocoiaaGreat.En
