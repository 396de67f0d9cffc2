/- RgRcT, RgRcF. -/
import Derived.Test.YthmnjebmnocoiaaGreatYR3
import Derived.Test.YthmnjebmnocoiaaGreatYGsPlan
/- The document's own members (24): regions and code by tools/gen_those.py. -/
namespace Go.Proofs.YthmnjebmnocoiaaGreat.En
open Go.RowKit
set_option maxRecDepth 100000
variable {Q : Exit → Act → World → Prop} {a0 : Act} {w : World}
def q72_0 : Array Oper := #[⟨some 2, .assign (.const (.slice none 0 0)), 30, "ref.go:92", #[], none⟩]
def q72_1 : Array Oper := #[⟨some 3, .assign (.const (.slice none 0 0)), 30, "ref.go:93", #[], none⟩]
def q72_2 : Array Oper := #[⟨some 4, .assign (.const (.int .i64 0)), 3, "ref.go:94", #[], none⟩]
def q72_3 : Array Oper := #[⟨some 7, .move (.tmp 4), 3, "ref.go:94", #[], none⟩, ⟨some 8, .move (.tmp 0), 30, "ref.go:94", #[], none⟩, ⟨some 9, .call ⟨.builtin .len, #[.tmp 8], #[30]⟩, 3, "ref.go:94", #[⟨1, .data⟩], none⟩, ⟨some 10, .binOp .lss 3 (.tmp 7) (.tmp 9) 3, 4, "ref.go:94", #[⟨0, .data⟩, ⟨2, .data⟩], none⟩]
def q72_4 : Array Oper := #[⟨some 11, .move (.tmp 4), 3, "ref.go:94", #[], none⟩, ⟨some 12, .binOp .add 3 (.tmp 11) (.const (.int .i64 1)) 3, 3, "ref.go:94", #[⟨0, .data⟩], none⟩, ⟨some 4, .assign (.tmp 12), 3, "ref.go:94", #[⟨1, .data⟩, ⟨0, .phase⟩, ⟨1, .phase⟩], none⟩]
def q72_5 : Array Oper := #[⟨some 5, .assign (.const (.int .i64 0)), 3, "ref.go:95", #[], none⟩]
def q72_6 : Array Oper := #[⟨some 13, .move (.tmp 5), 3, "ref.go:96", #[], none⟩, ⟨some 14, .move (.tmp 3), 30, "ref.go:96", #[], none⟩, ⟨some 15, .call ⟨.builtin .len, #[.tmp 14], #[30]⟩, 3, "ref.go:96", #[⟨1, .data⟩], none⟩, ⟨some 16, .binOp .lss 3 (.tmp 13) (.tmp 15) 3, 4, "ref.go:96", #[⟨0, .data⟩, ⟨2, .data⟩], none⟩, ⟨some 17, .move (.tmp 16), 4, "ref.go:96", #[⟨3, .data⟩], none⟩, ⟨some 18, .move (.tmp 3), 30, "ref.go:96", #[⟨4, .guard⟩], some (4, true)⟩, ⟨some 19, .move (.tmp 5), 3, "ref.go:96", #[⟨4, .guard⟩], some (4, true)⟩, ⟨some 20, .indexAddr 30 (.tmp 18) (.tmp 19), 0, "ref.go:96", #[⟨5, .data⟩, ⟨6, .data⟩, ⟨4, .guard⟩], some (4, true)⟩, ⟨some 21, .load 3 (.tmp 20), 3, "ref.go:96", #[⟨7, .data⟩, ⟨4, .guard⟩], some (4, true)⟩, ⟨some 22, .move (.tmp 0), 30, "ref.go:96", #[⟨4, .guard⟩], some (4, true)⟩, ⟨some 23, .move (.tmp 4), 3, "ref.go:96", #[⟨4, .guard⟩], some (4, true)⟩, ⟨some 24, .indexAddr 30 (.tmp 22) (.tmp 23), 0, "ref.go:96", #[⟨9, .data⟩, ⟨10, .data⟩, ⟨4, .guard⟩], some (4, true)⟩, ⟨some 25, .load 3 (.tmp 24), 3, "ref.go:96", #[⟨11, .data⟩, ⟨4, .guard⟩], some (4, true)⟩, ⟨some 26, .binOp .lss 3 (.tmp 21) (.tmp 25) 3, 4, "ref.go:96", #[⟨8, .data⟩, ⟨12, .data⟩, ⟨4, .guard⟩], some (4, true)⟩, ⟨some 27, .pick (.tmp 17) (.tmp 26) (.const (.bool false)), 4, "ref.go:96", #[⟨4, .data⟩, ⟨13, .data⟩], none⟩]
def q72_7 : Array Oper := #[⟨some 28, .move (.tmp 5), 3, "ref.go:97", #[], none⟩, ⟨some 29, .binOp .add 3 (.tmp 28) (.const (.int .i64 1)) 3, 3, "ref.go:97", #[⟨0, .data⟩], none⟩, ⟨some 5, .assign (.tmp 29), 3, "ref.go:97", #[⟨1, .data⟩, ⟨0, .phase⟩, ⟨1, .phase⟩], none⟩]
def q72_8 : Array Oper := #[⟨some 30, .move (.tmp 0), 30, "ref.go:99", #[], none⟩, ⟨some 31, .move (.tmp 4), 3, "ref.go:99", #[], none⟩, ⟨some 32, .indexAddr 30 (.tmp 30) (.tmp 31), 0, "ref.go:99", #[⟨0, .data⟩, ⟨1, .data⟩], none⟩, ⟨some 33, .load 3 (.tmp 32), 3, "ref.go:99", #[⟨2, .data⟩], none⟩, ⟨some 34, .binOp .leq 3 (.tmp 33) (.const (.int .i64 0)) 3, 4, "ref.go:99", #[⟨3, .data⟩], none⟩, ⟨some 35, .move (.tmp 34), 4, "ref.go:99", #[⟨4, .data⟩], none⟩, ⟨some 36, .move (.tmp 5), 3, "ref.go:99", #[⟨5, .guard⟩], some (5, false)⟩, ⟨some 37, .move (.tmp 3), 30, "ref.go:99", #[⟨5, .guard⟩], some (5, false)⟩, ⟨some 38, .call ⟨.builtin .len, #[.tmp 37], #[30]⟩, 3, "ref.go:99", #[⟨7, .data⟩, ⟨5, .guard⟩], some (5, false)⟩, ⟨some 39, .binOp .lss 3 (.tmp 36) (.tmp 38) 3, 4, "ref.go:99", #[⟨6, .data⟩, ⟨8, .data⟩, ⟨5, .guard⟩], some (5, false)⟩, ⟨some 40, .move (.tmp 39), 4, "ref.go:99", #[⟨9, .data⟩, ⟨5, .chain⟩, ⟨5, .guard⟩], some (5, false)⟩, ⟨some 41, .move (.tmp 3), 30, "ref.go:99", #[⟨10, .guard⟩], some (10, true)⟩, ⟨some 42, .move (.tmp 5), 3, "ref.go:99", #[⟨10, .guard⟩], some (10, true)⟩, ⟨some 43, .indexAddr 30 (.tmp 41) (.tmp 42), 0, "ref.go:99", #[⟨11, .data⟩, ⟨12, .data⟩, ⟨10, .guard⟩], some (10, true)⟩, ⟨some 44, .load 3 (.tmp 43), 3, "ref.go:99", #[⟨13, .data⟩, ⟨10, .guard⟩], some (10, true)⟩, ⟨some 45, .move (.tmp 0), 30, "ref.go:99", #[⟨10, .guard⟩], some (10, true)⟩, ⟨some 46, .move (.tmp 4), 3, "ref.go:99", #[⟨10, .guard⟩], some (10, true)⟩, ⟨some 47, .indexAddr 30 (.tmp 45) (.tmp 46), 0, "ref.go:99", #[⟨15, .data⟩, ⟨16, .data⟩, ⟨10, .guard⟩], some (10, true)⟩, ⟨some 48, .load 3 (.tmp 47), 3, "ref.go:99", #[⟨17, .data⟩, ⟨10, .guard⟩], some (10, true)⟩, ⟨some 49, .binOp .eql 3 (.tmp 44) (.tmp 48) 3, 4, "ref.go:99", #[⟨14, .data⟩, ⟨18, .data⟩, ⟨10, .guard⟩], some (10, true)⟩, ⟨some 50, .pick (.tmp 40) (.tmp 49) (.const (.bool false)), 4, "ref.go:99", #[⟨10, .data⟩, ⟨19, .data⟩, ⟨5, .guard⟩], some (5, false)⟩, ⟨some 51, .pick (.tmp 35) (.const (.bool true)) (.tmp 50), 4, "ref.go:99", #[⟨5, .data⟩, ⟨20, .data⟩], none⟩]
def q72_9 : Array Oper := #[⟨some 6, .assign (.const (.slice none 0 0)), 30, "ref.go:102", #[], none⟩]
def q72_10 : Array Oper := #[⟨some 52, .move (.tmp 6), 30, "ref.go:103", #[], none⟩, ⟨some 53, .move (.tmp 3), 30, "ref.go:103", #[], none⟩, ⟨some 54, .move (.tmp 5), 3, "ref.go:103", #[], none⟩, ⟨some 55, .slice 30 (.tmp 53) none (some (.tmp 54)) none, 30, "ref.go:103", #[⟨1, .data⟩, ⟨2, .data⟩], none⟩, ⟨some 56, .call ⟨.builtin .append, #[.tmp 52, .tmp 55], #[30, 30]⟩, 30, "ref.go:103", #[⟨0, .data⟩, ⟨3, .data⟩], none⟩, ⟨some 6, .assign (.tmp 56), 30, "ref.go:103", #[⟨4, .data⟩, ⟨4, .chain⟩, ⟨0, .phase⟩, ⟨1, .phase⟩, ⟨2, .phase⟩, ⟨3, .phase⟩, ⟨4, .phase⟩], none⟩]
def q72_11 : Array Oper := #[⟨some 57, .move (.tmp 6), 30, "ref.go:104", #[], none⟩, ⟨some 58, .move (.tmp 0), 30, "ref.go:104", #[], none⟩, ⟨some 59, .move (.tmp 4), 3, "ref.go:104", #[], none⟩, ⟨some 60, .indexAddr 30 (.tmp 58) (.tmp 59), 0, "ref.go:104", #[⟨1, .data⟩, ⟨2, .data⟩], none⟩, ⟨some 61, .load 3 (.tmp 60), 3, "ref.go:104", #[⟨3, .data⟩], none⟩, ⟨some 62, .buildSlice 30 1 #[(0, .tmp 61)], 30, "ref.go:104", #[⟨4, .data⟩], none⟩, ⟨some 63, .call ⟨.builtin .append, #[.tmp 57, .tmp 62], #[30, 30]⟩, 30, "ref.go:104", #[⟨0, .data⟩, ⟨5, .data⟩], none⟩, ⟨some 6, .assign (.tmp 63), 30, "ref.go:104", #[⟨6, .data⟩, ⟨6, .chain⟩, ⟨0, .phase⟩, ⟨1, .phase⟩, ⟨2, .phase⟩, ⟨3, .phase⟩, ⟨4, .phase⟩, ⟨5, .phase⟩, ⟨6, .phase⟩], none⟩]
def q72_12 : Array Oper := #[⟨some 64, .move (.tmp 6), 30, "ref.go:105", #[], none⟩, ⟨some 65, .move (.tmp 3), 30, "ref.go:105", #[], none⟩, ⟨some 66, .move (.tmp 5), 3, "ref.go:105", #[], none⟩, ⟨some 67, .slice 30 (.tmp 65) (some (.tmp 66)) none none, 30, "ref.go:105", #[⟨1, .data⟩, ⟨2, .data⟩], none⟩, ⟨some 68, .call ⟨.builtin .append, #[.tmp 64, .tmp 67], #[30, 30]⟩, 30, "ref.go:105", #[⟨0, .data⟩, ⟨3, .data⟩], none⟩, ⟨some 3, .assign (.tmp 68), 30, "ref.go:105", #[⟨4, .data⟩, ⟨4, .chain⟩, ⟨0, .phase⟩, ⟨1, .phase⟩, ⟨2, .phase⟩, ⟨3, .phase⟩, ⟨4, .phase⟩], none⟩]
def q72_13 : Array Oper := #[⟨some 69, .move (.tmp 3), 30, "ref.go:107", #[], none⟩, ⟨some 2, .assign (.tmp 69), 30, "ref.go:107", #[⟨0, .data⟩, ⟨0, .phase⟩], none⟩]
theorem r72_0 (_hz : a0.tmps.size = 70)   (hend : ∀ ac wz, After [2] a0 ac → Gr w wz → Q .normal ac wz) : RW 0 q72_0 false Q a0 w := by
  refine seq_by (by kernel_rfl) 1 (by decide) [2] (fun | 2 => .val (.slice none 0 0) | _ => .any) (by kernel_rfl) (fmc ⟨?s0, fun o ho => nomatch ho⟩) ?e
  case s0 => exact sa_move (.const _) 2 (.val (.slice none 0 0)) (.inr rfl) rfl rfl (.const _) rfl
  case e =>
  intro ac wz hA hgr hv
  exact wl_end (hend ac wz hA  hgr)
theorem r72_1 (hz : a0.tmps.size = 70)   (hend : ∀ ac wz, After [3] a0 ac → ac.eval (.tmp 3) = .slice none 0 0 → Gr w wz → Q .normal ac wz) : RW 1 q72_1 false Q a0 w := by
  refine seq_by (by kernel_rfl) 1 (by decide) [3] (fun | 3 => .val (.slice none 0 0) | _ => .any) (by kernel_rfl) (fmc ⟨?s0, fun o ho => nomatch ho⟩) ?e
  case s0 => exact sa_move (.const _) 3 (.val (.slice none 0 0)) (.inr rfl) rfl rfl (.const _) rfl
  case e =>
  intro ac wz hA hgr hv
  exact wl_end (hend ac wz hA (hw hv hz 3) hgr)
theorem r72_2 (hz : a0.tmps.size = 70)   (hend : ∀ ac wz, After [4] a0 ac → ac.eval (.tmp 4) = .int .i64 0 → Gr w wz → Q .normal ac wz) : RW 2 q72_2 false Q a0 w := by
  refine seq_by (by kernel_rfl) 1 (by decide) [4] (fun | 4 => .val (.int .i64 0) | _ => .any) (by kernel_rfl) (fmc ⟨?s0, fun o ho => nomatch ho⟩) ?e
  case s0 => exact sa_move (.const _) 4 (.val (.int .i64 0)) (.inr rfl) rfl rfl (.const _) rfl
  case e =>
  intro ac wz hA hgr hv
  exact wl_end (hend ac wz hA (hw hv hz 4) hgr)
theorem r72_3 (hz : a0.tmps.size = 70) (k n cap : Nat) (ad : Option Addr) (e4 : a0.eval (.tmp 4) = .int .i64 (k : Int)) (e0 : a0.eval (.tmp 0) = .slice ad n cap) (hend : ∀ ac wz, After [7, 8, 9, 10] a0 ac → ac.eval (.tmp 10) = .bool (decide ((k : Int) < (n : Int))) → Gr w wz → Q .normal ac wz) : RW 3 q72_3 false Q a0 w := by
  refine seq_by (by kernel_rfl) 4 (by decide) [7, 8, 9, 10] (fun | 7 => .val (.int .i64 (k : Int)) | 8 => .val (.slice ad n cap) | 9 => .val (.int .i64 (n : Int)) | 10 => .val (.bool (decide ((k : Int) < (n : Int)))) | _ => .any) (by kernel_rfl) (fmc ⟨?s0, fmc ⟨?s1, fmc ⟨?s2, fmc ⟨?s3, fun o ho => nomatch ho⟩⟩⟩⟩) ?e
  case s0 => exact sa_mo 4 7 e4
  case s1 => exact sa_mo 0 8 e0
  case s2 => exact sa_len 30 (.tmp 8) 9 (.slice ad n cap) (.int .i64 (n : Int)) rfl rfl rfl (.nw 8 hz) (by intro w; kernel_rfl) rfl
  case s3 => exact sa_bin .lss 3 (.tmp 7) (.tmp 9) 3 10 (.int .i64 (k : Int)) (.int .i64 (n : Int)) (.bool (decide ((k : Int) < (n : Int)))) rfl rfl rfl (.nw 7 hz) (.nw 9 hz) guard_int (bin_lss rfl) rfl
  case e =>
  intro ac wz hA hgr hv
  exact wl_end (hend ac wz hA (hw hv hz 10) hgr)
theorem r72_4 (hz : a0.tmps.size = 70) (k : Nat) (hk : k ≤ 17592186043904) (e4 : a0.eval (.tmp 4) = .int .i64 (k : Int)) (hend : ∀ ac wz, After [4, 11, 12] a0 ac → ac.eval (.tmp 4) = .int .i64 ((k + 1 : Nat) : Int) → Gr w wz → Q .normal ac wz) : RW 4 q72_4 false Q a0 w := by
  refine seq_by (by kernel_rfl) 2 (by decide) [11, 12] (fun | 11 => .val (.int .i64 (k : Int)) | 12 => .val (.int .i64 ((k + 1 : Nat) : Int)) | _ => .any) (by kernel_rfl) (fmc ⟨?s0, fmc ⟨?s1, fun o ho => nomatch ho⟩⟩) ?e
  case s0 => exact sa_mo 4 11 e4
  case s1 => exact sa_bin .add 3 (.tmp 11) (.const _) 3 12 (.int .i64 (k : Int)) (.int .i64 1) (.int .i64 ((k + 1 : Nat) : Int)) rfl rfl rfl (.nw 11 hz) (.const _) guard_int (bin_add (by omega) (by omega) (by omega)) rfl
  case e =>
  intro ac wz hA hgr hv
  have o12 : ac.eval (.tmp 12) = .int .i64 ((k + 1 : Nat) : Int) := hw hv hz 12
  refine wl_of rfl (op_move (.tmp 12) (.inr rfl) (wl_end ?_))
  exact hend _ wz (hA.put 4 _)  ((ev_put (by rw [hA.size, hz]; decide)).trans ((if_pos rfl).trans o12)) hgr
theorem r72_5 (hz : a0.tmps.size = 70)   (hend : ∀ ac wz, After [5] a0 ac → ac.eval (.tmp 5) = .int .i64 0 → Gr w wz → Q .normal ac wz) : RW 5 q72_5 false Q a0 w := by
  refine seq_by (by kernel_rfl) 1 (by decide) [5] (fun | 5 => .val (.int .i64 0) | _ => .any) (by kernel_rfl) (fmc ⟨?s0, fun o ho => nomatch ho⟩) ?e
  case s0 => exact sa_move (.const _) 5 (.val (.int .i64 0)) (.inr rfl) rfl rfl (.const _) rfl
  case e =>
  intro ac wz hA hgr hv
  exact wl_end (hend ac wz hA (hw hv hz 5) hgr)
theorem r72_7 (hz : a0.tmps.size = 70) (k : Nat) (hk : k ≤ 17592186043904) (e5 : a0.eval (.tmp 5) = .int .i64 (k : Int)) (hend : ∀ ac wz, After [5, 28, 29] a0 ac → ac.eval (.tmp 5) = .int .i64 ((k + 1 : Nat) : Int) → Gr w wz → Q .normal ac wz) : RW 7 q72_7 false Q a0 w := by
  refine seq_by (by kernel_rfl) 2 (by decide) [28, 29] (fun | 28 => .val (.int .i64 (k : Int)) | 29 => .val (.int .i64 ((k + 1 : Nat) : Int)) | _ => .any) (by kernel_rfl) (fmc ⟨?s0, fmc ⟨?s1, fun o ho => nomatch ho⟩⟩) ?e
  case s0 => exact sa_mo 5 28 e5
  case s1 => exact sa_bin .add 3 (.tmp 28) (.const _) 3 29 (.int .i64 (k : Int)) (.int .i64 1) (.int .i64 ((k + 1 : Nat) : Int)) rfl rfl rfl (.nw 28 hz) (.const _) guard_int (bin_add (by omega) (by omega) (by omega)) rfl
  case e =>
  intro ac wz hA hgr hv
  have o29 : ac.eval (.tmp 29) = .int .i64 ((k + 1 : Nat) : Int) := hw hv hz 29
  refine wl_of rfl (op_move (.tmp 29) (.inr rfl) (wl_end ?_))
  exact hend _ wz (hA.put 5 _)  ((ev_put (by rw [hA.size, hz]; decide)).trans ((if_pos rfl).trans o29)) hgr
theorem r72_6t (hz : a0.tmps.size = 70) (g of n cap k : Nat) (x : Int) (hk : k < n) (hX : ∀ y, Gr w y → y.cell? ⟨g, of + k, none⟩ = some (.int .i64 x)) (g3 of3 n3 cap3 at3 : Nat) (y3 : Int) (hat : at3 < n3) (hY : ∀ y, Gr w y → y.cell? ⟨g3, of3 + at3, none⟩ = some (.int .i64 y3)) (e5 : a0.eval (.tmp 5) = .int .i64 (at3 : Int)) (e3 : a0.eval (.tmp 3) = .slice (some ⟨g3, of3, none⟩) n3 cap3) (e0 : a0.eval (.tmp 0) = .slice (some ⟨g, of, none⟩) n cap) (e4 : a0.eval (.tmp 4) = .int .i64 (k : Int)) (hend : ∀ ac wz, After [13, 14, 15, 16, 17, 18, 19, 20, 21, 22, 23, 24, 25, 26, 27] a0 ac → ac.eval (.tmp 27) = .bool (decide (y3 < x)) → Gr w wz → Q .normal ac wz) : RW 6 q72_6 true Q a0 w := by
  refine drawn_by (by kernel_rfl) (by kernel_rfl) (by kernel_rfl) [13, 14, 15, 16, 17, 18, 19, 20, 21, 22, 23, 24, 25, 26, 27] (fun | 13 => .val (.int .i64 (at3 : Int)) | 14 => .val (.slice (some ⟨g3, of3, none⟩) n3 cap3) | 15 => .val (.int .i64 (n3 : Int)) | 16 => .val (.bool true) | 17 => .val (.bool true) | 18 => .val (.slice (some ⟨g3, of3, none⟩) n3 cap3) | 19 => .val (.int .i64 (at3 : Int)) | 20 => .val (.pointer (some ⟨g3, of3 + at3, none⟩)) | 21 => .val (.int .i64 y3) | 22 => .val (.slice (some ⟨g, of, none⟩) n cap) | 23 => .val (.int .i64 (k : Int)) | 24 => .val (.pointer (some ⟨g, of + k, none⟩)) | 25 => .val (.int .i64 x) | 26 => .val (.bool (decide (y3 < x))) | 27 => .val (.bool (decide (y3 < x))) | _ => .any) (by kernel_rfl) (fmc ⟨?s0, fmc ⟨?s1, fmc ⟨?s2, fmc ⟨?s3, fmc ⟨?s4, fmc ⟨?s5, fmc ⟨?s6, fmc ⟨?s7, fmc ⟨?s8, fmc ⟨?s9, fmc ⟨?s10, fmc ⟨?s11, fmc ⟨?s12, fmc ⟨?s13, fmc ⟨?s14, fun o ho => nomatch ho⟩⟩⟩⟩⟩⟩⟩⟩⟩⟩⟩⟩⟩⟩⟩) ?e
  case s0 => exact sa_mo 5 13 e5
  case s1 => exact sa_mo 3 14 e3
  case s2 => exact sa_len 30 (.tmp 14) 15 (.slice (some ⟨g3, of3, none⟩) n3 cap3) (.int .i64 (n3 : Int)) rfl rfl rfl (.nw 14 hz) (by intro w; kernel_rfl) rfl
  case s3 => exact sa_bin .lss 3 (.tmp 13) (.tmp 15) 3 16 (.int .i64 (at3 : Int)) (.int .i64 (n3 : Int)) (.bool true) rfl rfl rfl (.nw 13 hz) (.nw 15 hz) guard_int (bin_lss (decide_eq_true (by omega))) rfl
  case s4 => exact sa_mw 16 17 hz
  case s5 => exact sa_gd 4 17 hz (sa_mo 3 18 e3)
  case s6 => exact sa_gd 4 17 hz (sa_mo 5 19 e5)
  case s7 => exact sa_gd 4 17 hz (sa_ixa 30 (.tmp 18) (.tmp 19) 20 (.slice (some ⟨g3, of3, none⟩) n3 cap3) (.int .i64 (at3 : Int)) (.pointer (some ⟨g3, of3 + at3, none⟩)) rfl rfl rfl (.nw 18 hz) (.nw 19 hz) (ix_slice (sz := 1) Tryz.underlying30 (by intro w; kernel_rfl) (by omega) (by omega)) rfl)
  case s8 => exact sa_gd 4 17 hz (sa_loadc 3 (.tmp 20) 21 (g3) (of3 + at3) (.int .i64 y3) rfl rfl rfl (by intro w; kernel_rfl) (.nw 20 hz) hY rfl)
  case s9 => exact sa_gd 4 17 hz (sa_mo 0 22 e0)
  case s10 => exact sa_gd 4 17 hz (sa_mo 4 23 e4)
  case s11 => exact sa_gd 4 17 hz (sa_ixa 30 (.tmp 22) (.tmp 23) 24 (.slice (some ⟨g, of, none⟩) n cap) (.int .i64 (k : Int)) (.pointer (some ⟨g, of + k, none⟩)) rfl rfl rfl (.nw 22 hz) (.nw 23 hz) (ix_slice (sz := 1) Tryz.underlying30 (by intro w; kernel_rfl) (by omega) (by omega)) rfl)
  case s12 => exact sa_gd 4 17 hz (sa_loadc 3 (.tmp 24) 25 (g) (of + k) (.int .i64 x) rfl rfl rfl (by intro w; kernel_rfl) (.nw 24 hz) hX rfl)
  case s13 => exact sa_gd 4 17 hz (sa_bin .lss 3 (.tmp 21) (.tmp 25) 3 26 (.int .i64 y3) (.int .i64 x) (.bool (decide (y3 < x))) rfl rfl rfl (.nw 21 hz) (.nw 25 hz) guard_int (bin_lss rfl) rfl)
  case s14 => exact sa_pick (.tmp 17) (.tmp 26) (.const _) 27 (.val (.bool (decide (y3 < x)))) rfl rfl rfl (.nw 17 hz) (.nw 26 hz) rfl
  case e =>
  intro ac wz hA hgr hv
  exact hend ac wz hA (hw hv hz 27) hgr
theorem r72_6f (hz : a0.tmps.size = 70) (n3 cap3 at3 : Nat) (a3 : Option Addr) (hat : ¬ at3 < n3) (e5 : a0.eval (.tmp 5) = .int .i64 (at3 : Int)) (e3 : a0.eval (.tmp 3) = .slice a3 n3 cap3) (hend : ∀ ac wz, After [13, 14, 15, 16, 17, 18, 19, 20, 21, 22, 23, 24, 25, 26, 27] a0 ac → ac.eval (.tmp 27) = .bool false → Gr w wz → Q .normal ac wz) : RW 6 q72_6 true Q a0 w := by
  refine drawn_by (by kernel_rfl) (by kernel_rfl) (by kernel_rfl) [13, 14, 15, 16, 17, 18, 19, 20, 21, 22, 23, 24, 25, 26, 27] (fun | 13 => .val (.int .i64 (at3 : Int)) | 14 => .val (.slice a3 n3 cap3) | 15 => .val (.int .i64 (n3 : Int)) | 16 => .val (.bool false) | 17 => .val (.bool false) | 18 => .val (undef) | 19 => .val (undef) | 20 => .val (undef) | 21 => .val (undef) | 22 => .val (undef) | 23 => .val (undef) | 24 => .val (undef) | 25 => .val (undef) | 26 => .val (undef) | 27 => .val (.bool false) | _ => .any) (by kernel_rfl) (fmc ⟨?s0, fmc ⟨?s1, fmc ⟨?s2, fmc ⟨?s3, fmc ⟨?s4, fmc ⟨?s5, fmc ⟨?s6, fmc ⟨?s7, fmc ⟨?s8, fmc ⟨?s9, fmc ⟨?s10, fmc ⟨?s11, fmc ⟨?s12, fmc ⟨?s13, fmc ⟨?s14, fun o ho => nomatch ho⟩⟩⟩⟩⟩⟩⟩⟩⟩⟩⟩⟩⟩⟩⟩) ?e
  case s0 => exact sa_mo 5 13 e5
  case s1 => exact sa_mo 3 14 e3
  case s2 => exact sa_len 30 (.tmp 14) 15 (.slice a3 n3 cap3) (.int .i64 (n3 : Int)) rfl rfl rfl (.nw 14 hz) (by intro w; kernel_rfl) rfl
  case s3 => exact sa_bin .lss 3 (.tmp 13) (.tmp 15) 3 16 (.int .i64 (at3 : Int)) (.int .i64 (n3 : Int)) (.bool false) rfl rfl rfl (.nw 13 hz) (.nw 15 hz) guard_int (bin_lss (decide_eq_false (by omega))) rfl
  case s4 => exact sa_mw 16 17 hz
  case s5 => exact so_nN 4 17 hz
  case s6 => exact so_nN 4 17 hz
  case s7 => exact so_nN 4 17 hz
  case s8 => exact so_nN 4 17 hz
  case s9 => exact so_nN 4 17 hz
  case s10 => exact so_nN 4 17 hz
  case s11 => exact so_nN 4 17 hz
  case s12 => exact so_nN 4 17 hz
  case s13 => exact so_nN 4 17 hz
  case s14 => exact sa_pickF (.tmp 17) (.tmp 26) (.const _) 27 (.val (.bool false)) rfl rfl rfl (.nw 17 hz) (.const _) rfl
  case e =>
  intro ac wz hA hgr hv
  exact hend ac wz hA (hw hv hz 27) hgr
theorem r72_8n (hz : a0.tmps.size = 70) (g of n cap k : Nat) (x : Int) (hk : k < n) (hX : ∀ y, Gr w y → y.cell? ⟨g, of + k, none⟩ = some (.int .i64 x)) (hx : x ≤ 0) (e0 : a0.eval (.tmp 0) = .slice (some ⟨g, of, none⟩) n cap) (e4 : a0.eval (.tmp 4) = .int .i64 (k : Int)) (hend : ∀ ac wz, After [30, 31, 32, 33, 34, 35, 36, 37, 38, 39, 40, 41, 42, 43, 44, 45, 46, 47, 48, 49, 50, 51] a0 ac → ac.eval (.tmp 51) = .bool true → Gr w wz → Q .normal ac wz) : RW 8 q72_8 true Q a0 w := by
  refine drawn_by (by kernel_rfl) (by kernel_rfl) (by kernel_rfl) [30, 31, 32, 33, 34, 35, 36, 37, 38, 39, 40, 41, 42, 43, 44, 45, 46, 47, 48, 49, 50, 51] (fun | 30 => .val (.slice (some ⟨g, of, none⟩) n cap) | 31 => .val (.int .i64 (k : Int)) | 32 => .val (.pointer (some ⟨g, of + k, none⟩)) | 33 => .val (.int .i64 x) | 34 => .val (.bool true) | 35 => .val (.bool true) | 36 => .val (undef) | 37 => .val (undef) | 38 => .val (undef) | 39 => .val (undef) | 40 => .val (undef) | 41 => .val (undef) | 42 => .val (undef) | 43 => .val (undef) | 44 => .val (undef) | 45 => .val (undef) | 46 => .val (undef) | 47 => .val (undef) | 48 => .val (undef) | 49 => .val (undef) | 50 => .val (undef) | 51 => .val (.bool true) | _ => .any) (by kernel_rfl) (fmc ⟨?s0, fmc ⟨?s1, fmc ⟨?s2, fmc ⟨?s3, fmc ⟨?s4, fmc ⟨?s5, fmc ⟨?s6, fmc ⟨?s7, fmc ⟨?s8, fmc ⟨?s9, fmc ⟨?s10, fmc ⟨?s11, fmc ⟨?s12, fmc ⟨?s13, fmc ⟨?s14, fmc ⟨?s15, fmc ⟨?s16, fmc ⟨?s17, fmc ⟨?s18, fmc ⟨?s19, fmc ⟨?s20, fmc ⟨?s21, fun o ho => nomatch ho⟩⟩⟩⟩⟩⟩⟩⟩⟩⟩⟩⟩⟩⟩⟩⟩⟩⟩⟩⟩⟩⟩) ?e
  case s0 => exact sa_mo 0 30 e0
  case s1 => exact sa_mo 4 31 e4
  case s2 => exact sa_ixa 30 (.tmp 30) (.tmp 31) 32 (.slice (some ⟨g, of, none⟩) n cap) (.int .i64 (k : Int)) (.pointer (some ⟨g, of + k, none⟩)) rfl rfl rfl (.nw 30 hz) (.nw 31 hz) (ix_slice (sz := 1) Tryz.underlying30 (by intro w; kernel_rfl) (by omega) (by omega)) rfl
  case s3 => exact sa_loadc 3 (.tmp 32) 33 (g) (of + k) (.int .i64 x) rfl rfl rfl (by intro w; kernel_rfl) (.nw 32 hz) hX rfl
  case s4 => exact sa_bin .leq 3 (.tmp 33) (.const _) 3 34 (.int .i64 x) (.int .i64 0) (.bool true) rfl rfl rfl (.nw 33 hz) (.const _) guard_int (bin_leq (decide_eq_true (by omega))) rfl
  case s5 => exact sa_mw 34 35 hz
  case s6 => exact so_nFN 5 35 hz
  case s7 => exact so_nFN 5 35 hz
  case s8 => exact so_nFN 5 35 hz
  case s9 => exact so_nFN 5 35 hz
  case s10 => exact so_nFN 5 35 hz
  case s11 => exact so_nU 10 40 true hz
  case s12 => exact so_nU 10 40 true hz
  case s13 => exact so_nU 10 40 true hz
  case s14 => exact so_nU 10 40 true hz
  case s15 => exact so_nU 10 40 true hz
  case s16 => exact so_nU 10 40 true hz
  case s17 => exact so_nU 10 40 true hz
  case s18 => exact so_nU 10 40 true hz
  case s19 => exact so_nU 10 40 true hz
  case s20 => exact so_nFN 5 35 hz
  case s21 => exact sa_pick (.tmp 35) (.const _) (.tmp 50) 51 (.val (.bool true)) rfl rfl rfl (.nw 35 hz) (.const _) rfl
  case e =>
  intro ac wz hA hgr hv
  exact hend ac wz hA (hw hv hz 51) hgr
theorem r72_8f (hz : a0.tmps.size = 70) (g of n cap k : Nat) (x : Int) (hk : k < n) (hX : ∀ y, Gr w y → y.cell? ⟨g, of + k, none⟩ = some (.int .i64 x)) (n3 cap3 at3 : Nat) (a3 : Option Addr) (hat : ¬ at3 < n3) (hx : ¬ x ≤ 0) (e0 : a0.eval (.tmp 0) = .slice (some ⟨g, of, none⟩) n cap) (e4 : a0.eval (.tmp 4) = .int .i64 (k : Int)) (e5 : a0.eval (.tmp 5) = .int .i64 (at3 : Int)) (e3 : a0.eval (.tmp 3) = .slice a3 n3 cap3) (hend : ∀ ac wz, After [30, 31, 32, 33, 34, 35, 36, 37, 38, 39, 40, 41, 42, 43, 44, 45, 46, 47, 48, 49, 50, 51] a0 ac → ac.eval (.tmp 51) = .bool false → Gr w wz → Q .normal ac wz) : RW 8 q72_8 true Q a0 w := by
  refine drawn_by (by kernel_rfl) (by kernel_rfl) (by kernel_rfl) [30, 31, 32, 33, 34, 35, 36, 37, 38, 39, 40, 41, 42, 43, 44, 45, 46, 47, 48, 49, 50, 51] (fun | 30 => .val (.slice (some ⟨g, of, none⟩) n cap) | 31 => .val (.int .i64 (k : Int)) | 32 => .val (.pointer (some ⟨g, of + k, none⟩)) | 33 => .val (.int .i64 x) | 34 => .val (.bool false) | 35 => .val (.bool false) | 36 => .val (.int .i64 (at3 : Int)) | 37 => .val (.slice a3 n3 cap3) | 38 => .val (.int .i64 (n3 : Int)) | 39 => .val (.bool false) | 40 => .val (.bool false) | 41 => .val (undef) | 42 => .val (undef) | 43 => .val (undef) | 44 => .val (undef) | 45 => .val (undef) | 46 => .val (undef) | 47 => .val (undef) | 48 => .val (undef) | 49 => .val (undef) | 50 => .val (.bool false) | 51 => .val (.bool false) | _ => .any) (by kernel_rfl) (fmc ⟨?s0, fmc ⟨?s1, fmc ⟨?s2, fmc ⟨?s3, fmc ⟨?s4, fmc ⟨?s5, fmc ⟨?s6, fmc ⟨?s7, fmc ⟨?s8, fmc ⟨?s9, fmc ⟨?s10, fmc ⟨?s11, fmc ⟨?s12, fmc ⟨?s13, fmc ⟨?s14, fmc ⟨?s15, fmc ⟨?s16, fmc ⟨?s17, fmc ⟨?s18, fmc ⟨?s19, fmc ⟨?s20, fmc ⟨?s21, fun o ho => nomatch ho⟩⟩⟩⟩⟩⟩⟩⟩⟩⟩⟩⟩⟩⟩⟩⟩⟩⟩⟩⟩⟩⟩) ?e
  case s0 => exact sa_mo 0 30 e0
  case s1 => exact sa_mo 4 31 e4
  case s2 => exact sa_ixa 30 (.tmp 30) (.tmp 31) 32 (.slice (some ⟨g, of, none⟩) n cap) (.int .i64 (k : Int)) (.pointer (some ⟨g, of + k, none⟩)) rfl rfl rfl (.nw 30 hz) (.nw 31 hz) (ix_slice (sz := 1) Tryz.underlying30 (by intro w; kernel_rfl) (by omega) (by omega)) rfl
  case s3 => exact sa_loadc 3 (.tmp 32) 33 (g) (of + k) (.int .i64 x) rfl rfl rfl (by intro w; kernel_rfl) (.nw 32 hz) hX rfl
  case s4 => exact sa_bin .leq 3 (.tmp 33) (.const _) 3 34 (.int .i64 x) (.int .i64 0) (.bool false) rfl rfl rfl (.nw 33 hz) (.const _) guard_int (bin_leq (decide_eq_false (by omega))) rfl
  case s5 => exact sa_mw 34 35 hz
  case s6 => exact sa_gf 5 35 hz (sa_mo 5 36 e5)
  case s7 => exact sa_gf 5 35 hz (sa_mo 3 37 e3)
  case s8 => exact sa_gf 5 35 hz (sa_len 30 (.tmp 37) 38 (.slice a3 n3 cap3) (.int .i64 (n3 : Int)) rfl rfl rfl (.nw 37 hz) (by intro w; kernel_rfl) rfl)
  case s9 => exact sa_gf 5 35 hz (sa_bin .lss 3 (.tmp 36) (.tmp 38) 3 39 (.int .i64 (at3 : Int)) (.int .i64 (n3 : Int)) (.bool false) rfl rfl rfl (.nw 36 hz) (.nw 38 hz) guard_int (bin_lss (decide_eq_false (by omega))) rfl)
  case s10 => exact sa_gf 5 35 hz (sa_mw 39 40 hz)
  case s11 => exact so_nN 10 40 hz
  case s12 => exact so_nN 10 40 hz
  case s13 => exact so_nN 10 40 hz
  case s14 => exact so_nN 10 40 hz
  case s15 => exact so_nN 10 40 hz
  case s16 => exact so_nN 10 40 hz
  case s17 => exact so_nN 10 40 hz
  case s18 => exact so_nN 10 40 hz
  case s19 => exact so_nN 10 40 hz
  case s20 => exact sa_gf 5 35 hz (sa_pickF (.tmp 40) (.tmp 49) (.const _) 50 (.val (.bool false)) rfl rfl rfl (.nw 40 hz) (.const _) rfl)
  case s21 => exact sa_pickF (.tmp 35) (.const _) (.tmp 50) 51 (.val (.bool false)) rfl rfl rfl (.nw 35 hz) (.nw 50 hz) rfl
  case e =>
  intro ac wz hA hgr hv
  exact hend ac wz hA (hw hv hz 51) hgr
theorem r72_8t (hz : a0.tmps.size = 70) (g of n cap k : Nat) (x : Int) (hk : k < n) (hX : ∀ y, Gr w y → y.cell? ⟨g, of + k, none⟩ = some (.int .i64 x)) (g3 of3 n3 cap3 at3 : Nat) (y3 : Int) (hat : at3 < n3) (hY : ∀ y, Gr w y → y.cell? ⟨g3, of3 + at3, none⟩ = some (.int .i64 y3)) (hx : ¬ x ≤ 0) (e0 : a0.eval (.tmp 0) = .slice (some ⟨g, of, none⟩) n cap) (e4 : a0.eval (.tmp 4) = .int .i64 (k : Int)) (e5 : a0.eval (.tmp 5) = .int .i64 (at3 : Int)) (e3 : a0.eval (.tmp 3) = .slice (some ⟨g3, of3, none⟩) n3 cap3) (hend : ∀ ac wz, After [30, 31, 32, 33, 34, 35, 36, 37, 38, 39, 40, 41, 42, 43, 44, 45, 46, 47, 48, 49, 50, 51] a0 ac → ac.eval (.tmp 51) = .bool (decide (y3 = x)) → Gr w wz → Q .normal ac wz) : RW 8 q72_8 true Q a0 w := by
  refine drawn_by (by kernel_rfl) (by kernel_rfl) (by kernel_rfl) [30, 31, 32, 33, 34, 35, 36, 37, 38, 39, 40, 41, 42, 43, 44, 45, 46, 47, 48, 49, 50, 51] (fun | 30 => .val (.slice (some ⟨g, of, none⟩) n cap) | 31 => .val (.int .i64 (k : Int)) | 32 => .val (.pointer (some ⟨g, of + k, none⟩)) | 33 => .val (.int .i64 x) | 34 => .val (.bool false) | 35 => .val (.bool false) | 36 => .val (.int .i64 (at3 : Int)) | 37 => .val (.slice (some ⟨g3, of3, none⟩) n3 cap3) | 38 => .val (.int .i64 (n3 : Int)) | 39 => .val (.bool true) | 40 => .val (.bool true) | 41 => .val (.slice (some ⟨g3, of3, none⟩) n3 cap3) | 42 => .val (.int .i64 (at3 : Int)) | 43 => .val (.pointer (some ⟨g3, of3 + at3, none⟩)) | 44 => .val (.int .i64 y3) | 45 => .val (.slice (some ⟨g, of, none⟩) n cap) | 46 => .val (.int .i64 (k : Int)) | 47 => .val (.pointer (some ⟨g, of + k, none⟩)) | 48 => .val (.int .i64 x) | 49 => .val (.bool (decide (y3 = x))) | 50 => .val (.bool (decide (y3 = x))) | 51 => .val (.bool (decide (y3 = x))) | _ => .any) (by kernel_rfl) (fmc ⟨?s0, fmc ⟨?s1, fmc ⟨?s2, fmc ⟨?s3, fmc ⟨?s4, fmc ⟨?s5, fmc ⟨?s6, fmc ⟨?s7, fmc ⟨?s8, fmc ⟨?s9, fmc ⟨?s10, fmc ⟨?s11, fmc ⟨?s12, fmc ⟨?s13, fmc ⟨?s14, fmc ⟨?s15, fmc ⟨?s16, fmc ⟨?s17, fmc ⟨?s18, fmc ⟨?s19, fmc ⟨?s20, fmc ⟨?s21, fun o ho => nomatch ho⟩⟩⟩⟩⟩⟩⟩⟩⟩⟩⟩⟩⟩⟩⟩⟩⟩⟩⟩⟩⟩⟩) ?e
  case s0 => exact sa_mo 0 30 e0
  case s1 => exact sa_mo 4 31 e4
  case s2 => exact sa_ixa 30 (.tmp 30) (.tmp 31) 32 (.slice (some ⟨g, of, none⟩) n cap) (.int .i64 (k : Int)) (.pointer (some ⟨g, of + k, none⟩)) rfl rfl rfl (.nw 30 hz) (.nw 31 hz) (ix_slice (sz := 1) Tryz.underlying30 (by intro w; kernel_rfl) (by omega) (by omega)) rfl
  case s3 => exact sa_loadc 3 (.tmp 32) 33 (g) (of + k) (.int .i64 x) rfl rfl rfl (by intro w; kernel_rfl) (.nw 32 hz) hX rfl
  case s4 => exact sa_bin .leq 3 (.tmp 33) (.const _) 3 34 (.int .i64 x) (.int .i64 0) (.bool false) rfl rfl rfl (.nw 33 hz) (.const _) guard_int (bin_leq (decide_eq_false (by omega))) rfl
  case s5 => exact sa_mw 34 35 hz
  case s6 => exact sa_gf 5 35 hz (sa_mo 5 36 e5)
  case s7 => exact sa_gf 5 35 hz (sa_mo 3 37 e3)
  case s8 => exact sa_gf 5 35 hz (sa_len 30 (.tmp 37) 38 (.slice (some ⟨g3, of3, none⟩) n3 cap3) (.int .i64 (n3 : Int)) rfl rfl rfl (.nw 37 hz) (by intro w; kernel_rfl) rfl)
  case s9 => exact sa_gf 5 35 hz (sa_bin .lss 3 (.tmp 36) (.tmp 38) 3 39 (.int .i64 (at3 : Int)) (.int .i64 (n3 : Int)) (.bool true) rfl rfl rfl (.nw 36 hz) (.nw 38 hz) guard_int (bin_lss (decide_eq_true (by omega))) rfl)
  case s10 => exact sa_gf 5 35 hz (sa_mw 39 40 hz)
  case s11 => exact sa_gd 10 40 hz (sa_mo 3 41 e3)
  case s12 => exact sa_gd 10 40 hz (sa_mo 5 42 e5)
  case s13 => exact sa_gd 10 40 hz (sa_ixa 30 (.tmp 41) (.tmp 42) 43 (.slice (some ⟨g3, of3, none⟩) n3 cap3) (.int .i64 (at3 : Int)) (.pointer (some ⟨g3, of3 + at3, none⟩)) rfl rfl rfl (.nw 41 hz) (.nw 42 hz) (ix_slice (sz := 1) Tryz.underlying30 (by intro w; kernel_rfl) (by omega) (by omega)) rfl)
  case s14 => exact sa_gd 10 40 hz (sa_loadc 3 (.tmp 43) 44 (g3) (of3 + at3) (.int .i64 y3) rfl rfl rfl (by intro w; kernel_rfl) (.nw 43 hz) hY rfl)
  case s15 => exact sa_gd 10 40 hz (sa_mo 0 45 e0)
  case s16 => exact sa_gd 10 40 hz (sa_mo 4 46 e4)
  case s17 => exact sa_gd 10 40 hz (sa_ixa 30 (.tmp 45) (.tmp 46) 47 (.slice (some ⟨g, of, none⟩) n cap) (.int .i64 (k : Int)) (.pointer (some ⟨g, of + k, none⟩)) rfl rfl rfl (.nw 45 hz) (.nw 46 hz) (ix_slice (sz := 1) Tryz.underlying30 (by intro w; kernel_rfl) (by omega) (by omega)) rfl)
  case s18 => exact sa_gd 10 40 hz (sa_loadc 3 (.tmp 47) 48 (g) (of + k) (.int .i64 x) rfl rfl rfl (by intro w; kernel_rfl) (.nw 47 hz) hX rfl)
  case s19 => exact sa_gd 10 40 hz (sa_bin .eql 3 (.tmp 44) (.tmp 48) 3 49 (.int .i64 y3) (.int .i64 x) (.bool (decide (y3 = x))) rfl rfl rfl (.nw 44 hz) (.nw 48 hz) guard_int (bin_eql rfl) rfl)
  case s20 => exact sa_gf 5 35 hz (sa_pick (.tmp 40) (.tmp 49) (.const _) 50 (.val (.bool (decide (y3 = x)))) rfl rfl rfl (.nw 40 hz) (.nw 49 hz) rfl)
  case s21 => exact sa_pickF (.tmp 35) (.const _) (.tmp 50) 51 (.val (.bool (decide (y3 = x)))) rfl rfl rfl (.nw 35 hz) (.nw 50 hz) rfl
  case e =>
  intro ac wz hA hgr hv
  exact hend ac wz hA (hw hv hz 51) hgr
theorem r72_9 (hz : a0.tmps.size = 70)   (hend : ∀ ac wz, After [6] a0 ac → ac.eval (.tmp 6) = .slice none 0 0 → Gr w wz → Q .normal ac wz) : RW 9 q72_9 false Q a0 w := by
  refine seq_by (by kernel_rfl) 1 (by decide) [6] (fun | 6 => .val (.slice none 0 0) | _ => .any) (by kernel_rfl) (fmc ⟨?s0, fun o ho => nomatch ho⟩) ?e
  case s0 => exact sa_move (.const _) 6 (.val (.slice none 0 0)) (.inr rfl) rfl rfl (.const _) rfl
  case e =>
  intro ac wz hA hgr hv
  exact wl_end (hend ac wz hA (hw hv hz 6) hgr)
theorem r72_10 (hz : a0.tmps.size = 70) (n3 cap3 at3 M B : Nat) (a3 : Option Addr) (L : List Int) (hc : at3 ≤ cap3) (hL : Ints B w (.slice a3 at3 cap3) L) (hBw : B ≤ w.heap.size) (hb : L.length ≤ 17592186043904) (hM : M ≤ w.heap.size) (e6 : a0.eval (.tmp 6) = .slice none 0 0) (e3 : a0.eval (.tmp 3) = .slice a3 n3 cap3) (e5 : a0.eval (.tmp 5) = .int .i64 (at3 : Int)) (hend : ∀ ac wz v, After (6 :: 56 :: [52, 53, 54, 55]) a0 ac → ac.eval (.tmp 6) = v → wz.ownsRow M 3 1 v L.length (intV L) → Below M w wz → Q .normal ac wz) : RW 10 q72_10 false Q a0 w := by
  refine seq_by (by kernel_rfl) 4 (by decide) [52, 53, 54, 55] (fun | 52 => .val (.slice none 0 0) | 53 => .val (.slice a3 n3 cap3) | 54 => .val (.int .i64 (at3 : Int)) | 55 => .val (.slice a3 at3 cap3) | _ => .any) (by kernel_rfl) (fmc ⟨?s0, fmc ⟨?s1, fmc ⟨?s2, fmc ⟨?s3, fun o ho => nomatch ho⟩⟩⟩⟩) ?e
  case s0 => exact sa_mo 6 52 e6
  case s1 => exact sa_mo 3 53 e3
  case s2 => exact sa_mo 5 54 e5
  case s3 => exact sa_to 30 (.tmp 53) (.tmp 54) 55 (.slice a3 n3 cap3) (.int .i64 (at3 : Int)) (.slice a3 at3 cap3) rfl rfl rfl (.nw 53 hz) (.nw 54 hz) (slice_to a3 n3 cap3 at3 hc) rfl
  case e =>
  intro ac wz hA hgr hv
  have o52 : ac.eval (.tmp 52) = .slice none 0 0 := hw hv hz 52
  have o55 : ac.eval (.tmp 55) = .slice a3 at3 cap3 := hw hv hz 55
  refine wpl_app rfl (.tmp 52) (.tmp 55) rfl M (.slice none 0 0) [] L (World.ownsRow_nil _ _ _ _) o52 B _ o55 (hL.below (hgr.mono hBw)) (by simpa using hb) (Nat.le_trans hM hgr.size) ?_
  intro v3 w3 own3 b3
  refine wl_of rfl (op_move (.tmp 56) (.inr rfl) (wl_end ?_))
  exact hend _ w3 v3 ((hA.put 56 _).put 6 _) ((ev_put (by rw [put_size, hA.size, hz]; decide)).trans ((if_pos rfl).trans ((ev_put (by rw [hA.size, hz]; decide)).trans (if_pos rfl)))) (by simpa using own3) ((hgr.mono hM).trans b3)
theorem r72_11 (hz : a0.tmps.size = 70) (g of n cap k : Nat) (x : Int) (hk : k < n) (hX : ∀ y, Gr w y → y.cell? ⟨g, of + k, none⟩ = some (.int .i64 x)) (v6 : Value) (M : Nat) (L : List Int) (hown : w.ownsRow M 3 1 v6 L.length (intV L)) (hb : L.length + 1 ≤ 17592186043904) (hM : M ≤ w.heap.size) (e6 : a0.eval (.tmp 6) = v6) (e0 : a0.eval (.tmp 0) = .slice (some ⟨g, of, none⟩) n cap) (e4 : a0.eval (.tmp 4) = .int .i64 (k : Int)) (hend : ∀ ac wz v, After (6 :: 63 :: [57, 58, 59, 60, 61, 62]) a0 ac → ac.eval (.tmp 6) = v → wz.ownsRow M 3 1 v (L ++ [x]).length (intV (L ++ [x])) → Below M w wz → Q .normal ac wz) : RW 11 q72_11 false Q a0 w := by
  refine seq_by (by kernel_rfl) 6 (by decide) [57, 58, 59, 60, 61, 62] (fun | 57 => .val (v6) | 58 => .val (.slice (some ⟨g, of, none⟩) n cap) | 59 => .val (.int .i64 (k : Int)) | 60 => .val (.pointer (some ⟨g, of + k, none⟩)) | 61 => .val (.int .i64 x) | 62 => oneF x | _ => .any) (by kernel_rfl) (fmc ⟨?s0, fmc ⟨?s1, fmc ⟨?s2, fmc ⟨?s3, fmc ⟨?s4, fmc ⟨?s5, fun o ho => nomatch ho⟩⟩⟩⟩⟩⟩) ?e
  case s0 => exact sa_mo 6 57 e6
  case s1 => exact sa_mo 0 58 e0
  case s2 => exact sa_mo 4 59 e4
  case s3 => exact sa_ixa 30 (.tmp 58) (.tmp 59) 60 (.slice (some ⟨g, of, none⟩) n cap) (.int .i64 (k : Int)) (.pointer (some ⟨g, of + k, none⟩)) rfl rfl rfl (.nw 58 hz) (.nw 59 hz) (ix_slice (sz := 1) Tryz.underlying30 (by intro w; kernel_rfl) (by omega) (by omega)) rfl
  case s4 => exact sa_loadc 3 (.tmp 60) 61 (g) (of + k) (.int .i64 x) rfl rfl rfl (by intro w; kernel_rfl) (.nw 60 hz) hX rfl
  case s5 => exact sa_bs1 30 1 (.tmp 61) 62 (.int .i64 x) rfl rfl rfl (.nw 61 hz) (bs24 x)
  case e =>
  intro ac wz hA hgr hv
  have o57 : ac.eval (.tmp 57) = v6 := hw hv hz 57
  have o62 := hw hv hz 62
  refine wpl_app rfl (.tmp 57) (.tmp 62) rfl M v6 L [x] (owns_gr hown hgr) o57 _ _ rfl (oneF_ints o62) hb (Nat.le_trans hM hgr.size) ?_
  intro v3 w3 own3 b3
  refine wl_of rfl (op_move (.tmp 63) (.inr rfl) (wl_end ?_))
  exact hend _ w3 v3 ((hA.put 63 _).put 6 _) ((ev_put (by rw [put_size, hA.size, hz]; decide)).trans ((if_pos rfl).trans ((ev_put (by rw [hA.size, hz]; decide)).trans (if_pos rfl)))) own3 ((hgr.mono hM).trans b3)
theorem r72_12 (hz : a0.tmps.size = 70) (v6 : Value) (n3 cap3 at3 M B : Nat) (a3 : Option Addr) (L K : List Int) (hc : at3 ≤ n3) (hK : Ints B w (.slice (if cap3 = at3 then a3 else a3.map (·.add at3)) (n3 - at3) (cap3 - at3)) K) (hBw : B ≤ w.heap.size) (hown : w.ownsRow M 3 1 v6 L.length (intV L)) (hb : L.length + K.length ≤ 17592186043904) (hM : M ≤ w.heap.size) (e6 : a0.eval (.tmp 6) = v6) (e3 : a0.eval (.tmp 3) = .slice a3 n3 cap3) (e5 : a0.eval (.tmp 5) = .int .i64 (at3 : Int)) (hend : ∀ ac wz v, After (3 :: 68 :: [64, 65, 66, 67]) a0 ac → ac.eval (.tmp 3) = v → wz.ownsRow M 3 1 v (L ++ K).length (intV (L ++ K)) → Below M w wz → Q .normal ac wz) : RW 12 q72_12 false Q a0 w := by
  refine seq_by (by kernel_rfl) 4 (by decide) [64, 65, 66, 67] (fun | 64 => .val (v6) | 65 => .val (.slice a3 n3 cap3) | 66 => .val (.int .i64 (at3 : Int)) | 67 => .val (.slice (if cap3 = at3 then a3 else a3.map (·.add at3)) (n3 - at3) (cap3 - at3)) | _ => .any) (by kernel_rfl) (fmc ⟨?s0, fmc ⟨?s1, fmc ⟨?s2, fmc ⟨?s3, fun o ho => nomatch ho⟩⟩⟩⟩) ?e
  case s0 => exact sa_mo 6 64 e6
  case s1 => exact sa_mo 3 65 e3
  case s2 => exact sa_mo 5 66 e5
  case s3 => exact sa_from 30 (.tmp 65) (.tmp 66) 67 (.slice a3 n3 cap3) (.int .i64 (at3 : Int)) (.slice (if cap3 = at3 then a3 else a3.map (·.add at3)) (n3 - at3) (cap3 - at3)) rfl rfl rfl (.nw 65 hz) (.nw 66 hz) (slice_from a3 n3 cap3 at3 hc) rfl
  case e =>
  intro ac wz hA hgr hv
  have o64 : ac.eval (.tmp 64) = v6 := hw hv hz 64
  have o67 : ac.eval (.tmp 67) = .slice (if cap3 = at3 then a3 else a3.map (·.add at3)) (n3 - at3) (cap3 - at3) := hw hv hz 67
  refine wpl_app rfl (.tmp 64) (.tmp 67) rfl M v6 L K (owns_gr hown hgr) o64 B _ o67 (hK.below (hgr.mono hBw)) hb (Nat.le_trans hM hgr.size) ?_
  intro v3 w3 own3 b3
  refine wl_of rfl (op_move (.tmp 68) (.inr rfl) (wl_end ?_))
  exact hend _ w3 v3 ((hA.put 68 _).put 3 _) ((ev_put (by rw [put_size, hA.size, hz]; decide)).trans ((if_pos rfl).trans ((ev_put (by rw [hA.size, hz]; decide)).trans (if_pos rfl)))) own3 ((hgr.mono hM).trans b3)
theorem r72_13 (hz : a0.tmps.size = 70) (v3 : Value) (e3 : a0.eval (.tmp 3) = v3) (hend : ∀ ac wz, After [69, 2] a0 ac → ac.eval (.tmp 2) = v3 → Gr w wz → Q .normal ac wz) : RW 13 q72_13 false Q a0 w := by
  refine seq_by (by kernel_rfl) 2 (by decide) [69, 2] (fun | 69 => .val (v3) | 2 => .val (v3) | _ => .any) (by kernel_rfl) (fmc ⟨?s0, fmc ⟨?s1, fun o ho => nomatch ho⟩⟩) ?e
  case s0 => exact sa_mo 3 69 e3
  case s1 => exact sa_move (.tmp 69) 2 (.val (v3)) (.inr rfl) rfl rfl (.nw 69 hz) rfl
  case e =>
  intro ac wz hA hgr hv
  exact wl_end (hend ac wz hA (hw hv hz 2) hgr)
def c72_ri : Code := (((Code.region 6 q72_6 true).seq (Code.cond (.tmp 27) Code.skip (Code.exit 2))).seq (Code.block 3 (Code.region 7 q72_7 false)))
def c72_li : Code := (Code.block 2 (c72_ri.loop))
def c72_ins : Code := (((Code.region 8 q72_8 true).seq (Code.cond (.tmp 51) (Code.exit 1) Code.skip)).seq ((Code.region 9 q72_9 false).seq ((Code.region 10 q72_10 false).seq ((Code.region 11 q72_11 false).seq (Code.region 12 q72_12 false)))))
def c72_b1 : Code := (Code.block 1 ((Code.region 5 q72_5 false).seq (c72_li.seq c72_ins)))
def c72_ra : Code := (((Code.region 3 q72_3 false).seq (Code.cond (.tmp 10) Code.skip (Code.exit 0))).seq (c72_b1.seq (Code.region 4 q72_4 false)))
def c72_la : Code := (Code.block 0 (c72_ra.loop))
def c72 : Code := ((Code.region 0 q72_0 false).seq ((Code.region 1 q72_1 false).seq (((Code.region 2 q72_2 false).seq c72_la).seq ((Code.region 13 q72_13 false).seq Code.ret))))
theorem mem_take_at {l : List Int} {n : Nat} {a : Int} (h : a ∈ l.take n) : ∃ j, j < n ∧ j < l.length ∧ l.getD j 0 = a := by
  obtain ⟨j, hj, rfl⟩ := List.mem_iff_getElem.1 h
  have hj2 : j < n ∧ j < l.length := by simp at hj; omega
  exact ⟨j, hj2.1, hj2.2, by simp [List.getD_eq_getElem?_getD, hj2.2]⟩
theorem mem_drop_at {l : List Int} {n : Nat} {a : Int} (h : a ∈ l.drop n) : ∃ j, n ≤ j ∧ j < l.length ∧ l.getD j 0 = a := by
  obtain ⟨j, hj, rfl⟩ := List.mem_iff_getElem.1 h
  have hj2 : n + j < l.length := by simp at hj; omega
  exact ⟨n + j, by omega, hj2, by simp [List.getD_eq_getElem?_getD, hj2]⟩
theorem rise_getD {l : List Int} (hp : l.Pairwise (· < ·)) {i j : Nat} (hij : i < j) (hj : j < l.length) : l.getD i 0 < l.getD j 0 := by
  have := List.pairwise_iff_getElem.1 hp i j (by omega) hj hij
  simpa [List.getD_eq_getElem?_getD, hj, show i < l.length by omega] using this
theorem ins_rise {out : List Int} {x : Int} {at3 : Nat} (hp : out.Pairwise (· < ·)) (hlo : ∀ j, j < at3 → out.getD j 0 < x) (hhi : at3 < out.length → x < out.getD at3 0) : (out.take at3 ++ [x] ++ out.drop at3).Pairwise (· < ·) ∧ ∀ y, y ∈ out.take at3 ++ [x] ++ out.drop at3 ↔ (y ∈ out ∨ y = x) := by
  have hbig : ∀ b ∈ out.drop at3, x < b := fun b hb => by
    obtain ⟨j, h1, h2, rfl⟩ := mem_drop_at hb
    have h3 := hhi (by omega)
    by_cases e : j = at3
    · subst e; exact h3
    · have := rise_getD hp (show at3 < j by omega) h2
      omega
  have hsm : ∀ a ∈ out.take at3, a < x := fun a ha => by
    obtain ⟨j, h1, h2, rfl⟩ := mem_take_at ha
    exact hlo j h1
  refine ⟨?_, fun y => ?_⟩
  · rw [List.pairwise_append, List.pairwise_append]
    refine ⟨⟨hp.sublist (List.take_sublist _ _), List.pairwise_singleton _ _, fun a ha b hb => ?_⟩, hp.sublist (List.drop_sublist _ _), fun a ha b hb => ?_⟩
    · rw [List.mem_singleton] at hb; subst hb; exact hsm a ha
    · have h2 := hbig b hb
      rcases List.mem_append.1 ha with q | q
      · have := hsm a q; omega
      · rw [List.mem_singleton] at q; subst q; exact h2
  · have e : y ∈ out ↔ (y ∈ out.take at3 ∨ y ∈ out.drop at3) := by
      conv => lhs; rw [← List.take_append_drop at3 out]
      exact List.mem_append
    rw [List.mem_append, List.mem_append, List.mem_singleton, e]
    constructor
    · rintro ((h | h) | h)
      · exact .inl (.inl h)
      · exact .inr h
      · exact .inl (.inr h)
    · rintro ((h | h) | h)
      · exact .inl (.inl h)
      · exact .inr h
      · exact .inl (.inr h)
structure Tho (ms : List Int) (k : Nat) (out : List Int) : Prop where
  rise : out.Pairwise (· < ·)
  mem : ∀ y, y ∈ out ↔ (y ∈ ms.take k ∧ 0 < y)
  len : out.length ≤ k
theorem take_mem {ms : List Int} {k : Nat} (hk : k < ms.length) (y : Int) : y ∈ ms.take (k + 1) ↔ (y ∈ ms.take k ∨ y = ms.getD k 0) := by
  rw [List.take_succ_eq_append_getElem hk, List.mem_append, List.mem_singleton]
  simp [List.getD_eq_getElem?_getD, hk]
theorem Tho.same {ms : List Int} {k : Nat} {out : List Int} (h : Tho ms k out) (hk : k < ms.length) (hx : ms.getD k 0 ≤ 0 ∨ ms.getD k 0 ∈ out) : Tho ms (k + 1) out := by
  refine ⟨h.rise, fun y => ?_, by have := h.len; omega⟩
  rw [take_mem hk, h.mem]
  constructor
  · rintro ⟨a, b⟩; exact ⟨.inl a, b⟩
  · rintro ⟨a | a, b⟩
    · exact ⟨a, b⟩
    · subst a
      rcases hx with q | q
      · omega
      · exact (h.mem _).1 q
theorem Tho.more {ms : List Int} {k at3 : Nat} {out : List Int} (h : Tho ms k out) (hk : k < ms.length) (hx : 0 < ms.getD k 0) (hlo : ∀ j, j < at3 → out.getD j 0 < ms.getD k 0) (hhi : at3 < out.length → ms.getD k 0 < out.getD at3 0) : Tho ms (k + 1) (out.take at3 ++ [ms.getD k 0] ++ out.drop at3) := by
  obtain ⟨h1, h2⟩ := ins_rise h.rise hlo hhi
  refine ⟨h1, fun y => ?_, ?_⟩
  · rw [h2, take_mem hk, h.mem]
    constructor
    · rintro (⟨a, b⟩ | a)
      · exact ⟨.inl a, b⟩
      · subst a; exact ⟨.inr rfl, hx⟩
    · rintro ⟨a | a, b⟩
      · exact .inl ⟨a, b⟩
      · exact .inr a
  · have := h.len
    simp; omega
theorem Tho.all {ms out : List Int} (h : Tho ms ms.length out) : out = risenL ms := by
  obtain ⟨h1, h2⟩ := risen_facts ms
  refine rise_ext _ _ h.rise h1 (fun y => ?_)
  rw [h.mem, h2, List.take_length]
structure Th (w : World) (v0 : Value) (ac : Act) (x : World) : Prop where
  z : ac.tmps.size = 70
  df : ac.defers = []
  e0 : ac.eval (.tmp 0) = v0
  gr : Gr w x
theorem Th.next {w x y : World} {v0 : Value} {ac ad : Act} {D : List Nat} (h : Th w v0 ac x) (hA : After D ac ad) (hD : (D.all fun s => decide (1 ≤ s)) = true) (g : Gr x y) : Th w v0 ad y :=
  ⟨hA.size.trans h.z, hA.defers.trans h.df, hA.keep hD (by omega) h.e0, h.gr.trans g⟩
theorem those_li {Q : Exit → Act → World → Prop} {w x : World} {v0 : Value} {ms out : List Int} {ac : Act} {k cap3 : Nat} {a3 : Option Addr} (h : Th w v0 ac x) (hm : Ints w.heap.size w v0 ms) (hk : k < ms.length) (hol : out.length ≤ 17592186043904) (e3 : ac.eval (.tmp 3) = .slice a3 out.length cap3) (i3 : Ints x.heap.size x (.slice a3 out.length cap3) out) (e4 : ac.eval (.tmp 4) = .int .i64 (k : Int)) (e5 : ac.eval (.tmp 5) = .int .i64 ((0 : Nat) : Int))
    (hend : ∀ ad y (at3 : Nat), Th w v0 ad y → Gr x y → ad.eval (.tmp 3) = .slice a3 out.length cap3 → ad.eval (.tmp 4) = .int .i64 (k : Int) → ad.eval (.tmp 5) = .int .i64 (at3 : Int) → at3 ≤ out.length → (∀ j, j < at3 → out.getD j 0 < ms.getD k 0) → (at3 < out.length → ¬ out.getD at3 0 < ms.getD k 0) → Q .normal ad y) : c72_li.wp Tryz.prog Q ac x := by
  obtain ⟨g, of, cap, hv, hgb, hc⟩ := ints_at hm k hk
  unfold c72_li
  refine wp_block ?_
  refine wp_loop (fun ad y => ∃ at3 : Nat, Th w v0 ad y ∧ Gr x y ∧ ad.eval (.tmp 3) = .slice a3 out.length cap3 ∧ ad.eval (.tmp 4) = .int .i64 (k : Int) ∧ ad.eval (.tmp 5) = .int .i64 (at3 : Int) ∧ at3 ≤ out.length ∧ (∀ j, j < at3 → out.getD j 0 < ms.getD k 0)) (fun ad _ => out.length - (intOf (ad.eval (.tmp 5))).toNat)
    ⟨0, h, Gr.refl _, e3, e4, e5, Nat.zero_le _, fun j hj => absurd hj (Nat.not_lt_zero _)⟩ (fun a0 x0 ⟨at3, h0, G0, f3, f4, f5, hat, hlo⟩ => ?_)
  unfold c72_ri
  have hX : ∀ y, Gr x0 y → y.cell? ⟨g, of + k, none⟩ = some (.int .i64 (ms.getD k 0)) := fun y hy => cell_below (h0.gr.trans hy) hgb hc
  by_cases hlt : at3 < out.length
  · obtain ⟨g3, of3, cap3', hv3, hg3, hc3⟩ := ints_at i3 at3 hlt
    rw [hv3] at f3
    have hY : ∀ y, Gr x0 y → y.cell? ⟨g3, of3 + at3, none⟩ = some (.int .i64 (out.getD at3 0)) := fun y hy => cell_below (G0.trans hy) hg3 hc3
    refine wp_seq (wp_seq (r72_6t h0.z g of ms.length cap k _ hk hX g3 of3 out.length cap3' at3 _ hlt hY f5 f3 (by rw [h0.e0, hv]) f4 (fun a2 x2 A2 o2 G2 => ?_)))
    have h2 := h0.next A2 (by decide) G2
    rw [← hv3] at f3
    show Code.wp Tryz.prog (Code.cond _ _ _) _ a2 x2
    refine wp_cond_split o2 (fun q => ?_) (fun q => ?_)
    · have q := of_decide_eq_true q
      refine wp_skip ?_
      show Code.wp Tryz.prog (Code.block 3 _) _ a2 x2
      refine wp_block ?_
      refine r72_7 h2.z at3 (by omega) (A2.get f5 (by decide)) (fun a4 x4 A4 o4 G4 => ?_)
      refine ⟨⟨at3 + 1, h2.next A4 (by decide) G4, G0.trans (G2.trans G4), A4.get (A2.get f3 (by decide)) (by decide), A4.get (A2.get f4 (by decide)) (by decide), o4, by omega, fun j hj => ?_⟩, ?_⟩
      · by_cases e : j = at3
        · subst e; exact q
        · exact hlo j (by omega)
      · rw [o4, f5]
        simp only [intOf]
        omega
    · have q := of_decide_eq_false q
      exact wp_exit (hend a2 x2 at3 h2 (G0.trans G2) (A2.get f3 (by decide)) (A2.get f4 (by decide)) (A2.get f5 (by decide)) hat hlo (fun _ => q))
  · refine wp_seq (wp_seq (r72_6f h0.z out.length cap3 at3 a3 hlt f5 f3 (fun a2 x2 A2 o2 G2 => ?_)))
    have h2 := h0.next A2 (by decide) G2
    show Code.wp Tryz.prog (Code.cond _ _ _) _ a2 x2
    refine wp_cond_split o2 (fun q => by cases q) (fun _ => ?_)
    exact wp_exit (hend a2 x2 at3 h2 (G0.trans G2) (A2.get f3 (by decide)) (A2.get f4 (by decide)) (A2.get f5 (by decide)) hat hlo (fun q => absurd q hlt))
theorem those_ins {Q : Exit → Act → World → Prop} {w x : World} {v0 : Value} {ms out : List Int} {ac : Act} {k cap3 at3 : Nat} {a3 : Option Addr} (h : Th w v0 ac x) (hm : Ints w.heap.size w v0 ms) (hk : k < ms.length) (hml : ms.length ≤ 17592186043904) (hT : Tho ms k out) (e3 : ac.eval (.tmp 3) = .slice a3 out.length cap3) (i3 : Ints x.heap.size x (.slice a3 out.length cap3) out) (e4 : ac.eval (.tmp 4) = .int .i64 (k : Int)) (e5 : ac.eval (.tmp 5) = .int .i64 (at3 : Int)) (hat : at3 ≤ out.length) (hlo : ∀ j, j < at3 → out.getD j 0 < ms.getD k 0) (hhi : at3 < out.length → ¬ out.getD at3 0 < ms.getD k 0)
    (hend : ∀ ad y v3 out', Th w v0 ad y → ad.eval (.tmp 4) = .int .i64 (k : Int) → ad.eval (.tmp 3) = v3 → Ints y.heap.size y v3 out' → Tho ms (k + 1) out' → Q .normal ad y) : c72_ins.wp Tryz.prog (Exit.inBlock 1 Q) ac x := by
  obtain ⟨g, of, cap, hv, hgb, hc⟩ := ints_at hm k hk
  have hX : ∀ y, Gr x y → y.cell? ⟨g, of + k, none⟩ = some (.int .i64 (ms.getD k 0)) := fun y hy => cell_below (h.gr.trans hy) hgb hc
  have hlen := hT.len
  unfold c72_ins
  -- it is put in
  have put : ∀ a2 x2 D, After D ac a2 → (D.all fun s => decide (7 ≤ s)) = true → Gr x x2 → 0 < ms.getD k 0 → (at3 < out.length → ms.getD k 0 < out.getD at3 0) → ((Code.region 9 q72_9 false).seq ((Code.region 10 q72_10 false).seq ((Code.region 11 q72_11 false).seq (Code.region 12 q72_12 false)))).wp Tryz.prog (Exit.inBlock 1 Q) a2 x2 := fun a2 x2 D A2 hD2 G2 hx hhi2 => by
    have hD3 : (D.all fun s => decide (1 ≤ s)) = true := List.all_eq_true.2 fun s hs => by have := List.all_eq_true.1 hD2 s hs; simp at this ⊢; omega
    have h2 := h.next A2 hD3 G2
    have f3 := A2.keep hD2 (by omega) e3
    have f4 := A2.keep hD2 (by omega) e4
    have f5 := A2.keep hD2 (by omega) e5
    refine wp_seq (r72_9 h2.z (fun a4 x4 A4 o6 G4 => ?_))
    have h4 := h2.next A4 (by decide) G4
    have i4 := i3.below (G2.trans G4)
    obtain ⟨hcap, p1, p2⟩ := i4.parts at3 hat
    have hsz : x.heap.size ≤ x4.heap.size := (G2.trans G4).size
    have hL1 : (out.take at3).length = at3 := by rw [List.length_take]; omega
    have hL2 : (out.drop at3).length = out.length - at3 := List.length_drop
    show Code.wp Tryz.prog (Code.seq _ _) _ a4 x4
    refine wp_seq (r72_10 h4.z out.length cap3 at3 x4.heap.size x.heap.size a3 (out.take at3) (by omega) p1 hsz (by omega) (Nat.le_refl _) o6 (A4.get f3 (by decide)) (A4.get f5 (by decide)) (fun a5 x5 v5 A5 o5 own5 B5 => ?_))
    have h5 := h4.next A5 (by decide) B5
    show Code.wp Tryz.prog (Code.seq _ _) _ a5 x5
    have hX5 : ∀ y, Gr x5 y → y.cell? ⟨g, of + k, none⟩ = some (.int .i64 (ms.getD k 0)) := fun y hy => hX y (((G2.trans G4).trans B5).trans hy)
    refine wp_seq (r72_11 h5.z g of ms.length cap k _ hk hX5 v5 x4.heap.size (out.take at3) own5 (by omega) B5.size o5 (by rw [h5.e0, hv]) (A5.get (A4.get f4 (by decide)) (by decide)) (fun a6 x6 v6 A6 o6' own6 B6 => ?_))
    have G6 : Gr x4 x6 := Below.trans B5 B6
    have h6 := h4.next (A5.trans A6) (by decide) G6
    show Code.wp Tryz.prog (Code.region 12 q72_12 false) _ a6 x6
    have k3 : a6.eval (.tmp 3) = .slice a3 out.length cap3 := A6.get (A5.get (A4.get f3 (by decide)) (by decide)) (by decide)
    refine r72_12 h6.z v6 out.length cap3 at3 x4.heap.size x.heap.size a3 (out.take at3 ++ [ms.getD k 0]) (out.drop at3) hat (p2.below (Below.mono G6 hsz)) (Nat.le_trans hsz G6.size) own6 (by rw [List.length_append, hL1, hL2]; simp; omega) G6.size o6' k3 (A6.get (A5.get (A4.get f5 (by decide)) (by decide)) (by decide)) (fun a7 x7 v7 A7 o7 own7 B7 => ?_)
    have G7 : Gr x4 x7 := Below.trans G6 B7
    exact hend a7 x7 v7 _ (h4.next ((A5.trans A6).trans A7) (by decide) G7) (A7.get (A6.get (A5.get (A4.get f4 (by decide)) (by decide)) (by decide)) (by decide)) o7 (ints_of_row own7) (hT.more hk hx hlo hhi2)
  by_cases hx : ms.getD k 0 ≤ 0
  · refine wp_seq (wp_seq (r72_8n h.z g of ms.length cap k _ hk hX hx (by rw [h.e0, hv]) e4 (fun a2 x2 A2 o2 G2 => ?_)))
    show Code.wp Tryz.prog (Code.cond _ _ _) _ a2 x2
    refine wp_cond_split o2 (fun _ => ?_) (fun q => by cases q)
    exact wp_exit (hend a2 x2 _ out (h.next A2 (by decide) G2) (A2.get e4 (by decide)) (A2.get e3 (by decide)) ((i3.below G2).mono G2.size) (hT.same hk (.inl hx)))
  · by_cases hlt : at3 < out.length
    · obtain ⟨g3, of3, cap3', hv3, hg3, hc3⟩ := ints_at i3 at3 hlt
      have e3' := e3
      rw [hv3] at e3'
      have hY : ∀ y, Gr x y → y.cell? ⟨g3, of3 + at3, none⟩ = some (.int .i64 (out.getD at3 0)) := fun y hy => cell_below hy hg3 hc3
      refine wp_seq (wp_seq (r72_8t h.z g of ms.length cap k _ hk hX g3 of3 out.length cap3' at3 _ hlt hY hx (by rw [h.e0, hv]) e4 e5 e3' (fun a2 x2 A2 o2 G2 => ?_)))
      show Code.wp Tryz.prog (Code.cond _ _ _) _ a2 x2
      refine wp_cond_split o2 (fun q => ?_) (fun q => ?_)
      · have q := of_decide_eq_true q
        have hmem : ms.getD k 0 ∈ out := by
          rw [← q, List.getD_eq_getElem?_getD, List.getElem?_eq_getElem hlt]
          exact List.getElem_mem hlt
        exact wp_exit (hend a2 x2 _ out (h.next A2 (by decide) G2) (A2.get e4 (by decide)) (A2.get e3 (by decide)) ((i3.below G2).mono G2.size) (hT.same hk (.inr hmem)))
      · have q := of_decide_eq_false q
        refine wp_skip ?_
        have h9 := hhi hlt
        exact put a2 x2 _ A2 (by decide) G2 (by omega) (fun _ => by omega)
    · refine wp_seq (wp_seq (r72_8f h.z g of ms.length cap k _ hk hX out.length cap3 at3 a3 hlt hx (by rw [h.e0, hv]) e4 e5 e3 (fun a2 x2 A2 o2 G2 => ?_)))
      show Code.wp Tryz.prog (Code.cond _ _ _) _ a2 x2
      refine wp_cond_split o2 (fun q => by cases q) (fun _ => wp_skip ?_)
      exact put a2 x2 _ A2 (by decide) G2 (by omega) (fun q => absurd q hlt)
theorem those_any (v0 : Value) (ms : List Int) (w : World) (hm : Ints w.heap.size w v0 ms) (hml : ms.length ≤ 17592186043904) :
    Calls Tryz.prog 72 #[v0] w fun e z => ∃ u, e = .returned u ∧ Ints z.heap.size z u (risenL ms) ∧ Gr w z := by
  obtain ⟨a0', cap0, hv0⟩ := hm.len
  refine calls_by (c := c72) Tryz.func72 (by kernel_rfl) 70 (by rw [Tryz.ntmps72]; rfl) (fun ac z df hv => ?_)
  have h0 : Th w v0 ac w := ⟨z, df, hv 0 _ rfl, Gr.refl _⟩
  clear hv
  unfold c72
  refine wp_seq (r72_0 h0.z (fun a1 x1 A1 G1 => ?_))
  have h1 := h0.next A1 (by decide) G1
  show Code.wp Tryz.prog (Code.seq _ _) _ a1 x1
  refine wp_seq (r72_1 h1.z (fun a2 x2 A2 o3 G2 => ?_))
  have h2 := h1.next A2 (by decide) G2
  show Code.wp Tryz.prog (Code.seq (Code.seq _ c72_la) _) _ a2 x2
  refine wp_seq (wp_seq (r72_2 h2.z (fun a3 x3 A3 o4 G3 => ?_)))
  have h3 := h2.next A3 (by decide) G3
  show Code.wp Tryz.prog c72_la _ a3 x3
  unfold c72_la
  refine wp_block ?_
  refine wp_loop (fun ad y => ∃ (k : Nat) (v3 : Value) (out : List Int), Th w v0 ad y ∧ k ≤ ms.length ∧ ad.eval (.tmp 4) = .int .i64 (k : Int) ∧ ad.eval (.tmp 3) = v3 ∧ Ints y.heap.size y v3 out ∧ Tho ms k out) (fun ad _ => ms.length - (intOf (ad.eval (.tmp 4))).toNat)
    ⟨0, _, [], h3, Nat.zero_le _, o4, A3.get o3 (by decide), ⟨none, 0, rfl, Nat.le_refl _, Or.inl rfl⟩, ⟨List.Pairwise.nil, fun y => by simp, Nat.le_refl _⟩⟩ (fun a4 x4 ⟨k, v3, out, h4, hk, f4, f3, i3, hT⟩ => ?_)
  unfold c72_ra
  refine wp_seq (wp_seq (r72_3 h4.z k ms.length cap0 a0' f4 (by rw [h4.e0, hv0]) (fun a5 x5 A5 o5 G5 => ?_)))
  have h5 := h4.next A5 (by decide) G5
  show Code.wp Tryz.prog (Code.cond _ _ _) _ a5 x5
  refine wp_cond_split o5 (fun q => ?_) (fun q => ?_)
  · have q : (k : Int) < (ms.length : Int) := of_decide_eq_true q
    have hkl : k < ms.length := by omega
    obtain ⟨a3', cap3, hv3⟩ := i3.len
    refine wp_skip ?_
    show Code.wp Tryz.prog (Code.seq c72_b1 _) _ a5 x5
    unfold c72_b1
    refine wp_seq (wp_block ?_)
    refine wp_seq (r72_5 h5.z (fun a6 x6 A6 o6 G6 => ?_))
    have h6 := h5.next A6 (by decide) G6
    have f3' : a6.eval (.tmp 3) = .slice a3' out.length cap3 := A6.get (A5.get (f3.trans hv3) (by decide)) (by decide)
    have i6 : Ints x6.heap.size x6 (.slice a3' out.length cap3) out := by
      rw [← hv3]; exact (i3.below (G5.trans G6)).mono (G5.trans G6).size
    have hol := hT.len
    show Code.wp Tryz.prog (Code.seq c72_li c72_ins) _ a6 x6
    refine wp_seq (those_li h6 hm hkl (by omega) f3' i6 (A6.get (A5.get f4 (by decide)) (by decide)) o6 (fun a7 x7 at3 h7 G7 k3 k4 k5 hat hlo hhi => ?_))
    show Code.wp Tryz.prog c72_ins _ a7 x7
    refine those_ins h7 hm hkl hml hT k3 ((i6.below G7).mono G7.size) k4 k5 hat hlo hhi (fun a8 x8 v8 out' h8 m4 m3 i8 hT8 => ?_)
    show Code.wp Tryz.prog (Code.region 4 q72_4 false) _ a8 x8
    refine r72_4 h8.z k (by omega) m4 (fun a9 x9 A9 o9 G9 => ?_)
    refine ⟨⟨k + 1, v8, out', h8.next A9 (by decide) G9, by omega, o9, A9.get m3 (by decide), (i8.below G9).mono G9.size, hT8⟩, ?_⟩
    show ms.length - (intOf (a9.eval (.tmp 4))).toNat < ms.length - (intOf (a4.eval (.tmp 4))).toNat
    rw [o9, f4]
    simp only [intOf]
    omega
  · have q : ¬ (k : Int) < (ms.length : Int) := of_decide_eq_false q
    obtain rfl : k = ms.length := by omega
    rw [hT.all] at i3
    refine wp_exit ?_
    show Code.wp Tryz.prog (Code.seq _ Code.ret) _ a5 x5
    refine wp_seq (r72_13 h5.z v3 (A5.get f3 (by decide)) (fun a6 x6 A6 o2 G6 => ?_))
    have h6 := h5.next A6 (by decide) G6
    exact wp_ret (bodyPost_ret (results_tmp rfl _ _ _) h6.df ⟨_, congrArg Ending.returned o2, (i3.below (G5.trans G6)).mono (G5.trans G6).size, h6.gr⟩)
end Go.Proofs.YthmnjebmnocoiaaGreat.En

/- More of what the document's own functions of the ring want. -/
namespace Go.Proofs.YthmnjebmnocoiaaGreat.En
open Go.RowKit
theorem siz43 : (Tryz.prog.info? 43).map (·.size) = some 8 := siz23
theorem tmod_nat (q n : Nat) : ((q : Int)).tmod (n : Int) = ((q % n : Nat) : Int) := by
  rw [Int.tmod_eq_emod_of_nonneg (by omega)]; rfl
theorem setCell_below (B : Nat) (w : World) (p : Addr) (v : Value) (h : B ≤ p.block) : Below B w (w.setCell p v) := (Below.refl B w).setCell h v
theorem countP_range_eq (l : List Int) (p : Int → Bool) : (List.range l.length).countP (fun j => p (l.getD j 0)) = l.countP p := by
  have : l = (List.range l.length).map (fun j => l.getD j 0) := by
    apply List.ext_getElem
    · simp
    · intro i h1 h2
      simp [h1]
  conv => rhs; rw [this]
  rw [List.countP_map]; rfl
theorem rise_count {M : List Int} (hM : M.Pairwise (· < ·)) (i : Nat) (hi : i < M.length) : M.countP (· < M[i]) = i := by
  have h1 : ∀ (l : List Int), l.Pairwise (· < ·) → ∀ (i : Nat) (x : Int), l[i]? = some x → l.countP (· < x) = i := by
    intro l
    induction l with
    | nil => intro _ i x h; simp at h
    | cons y l ih =>
      intro hp i x h
      obtain ⟨a, b⟩ := List.pairwise_cons.1 hp
      cases i with
      | zero =>
        simp at h; subst h
        rw [List.countP_cons_of_neg (by simp), List.countP_eq_zero]
        intro z hz
        have := a z hz
        simp; omega
      | succ i =>
        have hx : l[i]? = some x := by simpa using h
        have := a x (List.mem_of_getElem? hx)
        rw [List.countP_cons_of_pos (by simpa using this), ih b i x hx]
  exact h1 M hM i M[i] (List.getElem?_eq_getElem hi)
theorem find_place {M : List Int} (hM : M.Pairwise (· < ·)) (i : Nat) (hi : i < M.length) : findI M (M.getD i 0) = some i := by
  have e : M.getD i 0 = M[i] := by simp [hi]
  rw [e]
  unfold findI
  rw [if_pos (by simp), rise_count hM i hi]
theorem find_iff {M : List Int} (hM : M.Pairwise (· < ·)) (i : Nat) (hi : i < M.length) (y : Int) : findI M y = some i ↔ M.getD i 0 = y := by
  constructor
  · intro h; exact (findI_some hM h).2.1
  · intro h; rw [← h]; exact find_place hM i hi
abbrev zl : List Int := List.replicate 8 0
theorem getD_set_eq (l : List Int) (i : Nat) (x : Int) (k : Nat) : (l.set i x).getD k 0 = if i = k ∧ k < l.length then x else l.getD k 0 := by
  rw [List.getD_eq_getElem?_getD, List.getElem?_set, List.getD_eq_getElem?_getD]
  by_cases e : i = k
  · subst e
    by_cases h : i < l.length
    · simp [h]
    · simp [h]
  · rw [if_neg e, if_neg (fun q => e q.1)]
theorem claimL_len (o ms : List Int) (ho : o.length = 8) : (claimL o ms).length = 8 := claim_len o ms ho
end Go.Proofs.YthmnjebmnocoiaaGreat.En
