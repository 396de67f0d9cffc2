/- RgRcQ, RgRcC. -/
import Derived.Test.YthmnjebmnocoiaaGreatYM1
/- The document's own quotas (25): regions and code by tools/gen_quot.py. -/
namespace Go.Proofs.YthmnjebmnocoiaaGreat.En
open Go.RowKit
set_option maxRecDepth 100000
variable {Q : Exit → Act → World → Prop} {a0 : Act} {w : World}
theorem bin_quo {P : Program} {t : TypeId} {x y z : Int} (hy : y ≠ 0) (h : x.tdiv y = z) (hx : 0 ≤ x := by omega) (hy0 : 0 ≤ y := by omega) (hxb : x < 9223372036854775808 := by omega) : ∀ w, (binOp .quo t (.int .i64 x) (.int .i64 y)).run P w = .ok (.int .i64 z) w := by
  intro w
  subst h
  have h1 : 0 ≤ x.tdiv y := Int.tdiv_nonneg hx hy0
  have h2 : x.tdiv y ≤ x := Int.tdiv_le_self y hx
  have e : IntKind.i64.wrap (x.tdiv y) = x.tdiv y := wrap_in (by omega) (by omega)
  simp [binOp, Op.intDiv, hy, e]
theorem tdiv_nat (q n : Nat) : ((q : Int)).tdiv (n : Int) = ((q / n : Nat) : Int) := by
  rw [Int.tdiv_eq_ediv_of_nonneg (by omega)]; rfl
def q73_0 : Array Oper := #[⟨some 2, .box 43 (.tmp 0), 0, "ref.go:111", #[], none⟩, ⟨some 4, .assign (.const (.slice none 0 0)), 30, "ref.go:111", #[], none⟩]
def q73_1 : Array Oper := #[⟨some 5, .assign (.const (.slice none 0 0)), 30, "ref.go:112", #[], none⟩]
def q73_2 : Array Oper := #[⟨some 6, .assign (.const (.int .i64 0)), 3, "ref.go:113", #[], none⟩]
def q73_3 : Array Oper := #[⟨some 12, .move (.tmp 6), 3, "ref.go:113", #[], none⟩, ⟨some 13, .move (.tmp 1), 30, "ref.go:113", #[], none⟩, ⟨some 14, .call ⟨.builtin .len, #[.tmp 13], #[30]⟩, 3, "ref.go:113", #[⟨1, .data⟩], none⟩, ⟨some 15, .binOp .lss 3 (.tmp 12) (.tmp 14) 3, 4, "ref.go:113", #[⟨0, .data⟩, ⟨2, .data⟩], none⟩]
def q73_4 : Array Oper := #[⟨some 16, .move (.tmp 6), 3, "ref.go:113", #[], none⟩, ⟨some 17, .binOp .add 3 (.tmp 16) (.const (.int .i64 1)) 3, 3, "ref.go:113", #[⟨0, .data⟩], none⟩, ⟨some 6, .assign (.tmp 17), 3, "ref.go:113", #[⟨1, .data⟩, ⟨0, .phase⟩, ⟨1, .phase⟩], none⟩]
def q73_5 : Array Oper := #[⟨some 7, .assign (.const (.int .i64 0)), 3, "ref.go:114", #[], none⟩]
def q73_6 : Array Oper := #[⟨some 8, .assign (.const (.int .i64 0)), 3, "ref.go:115", #[], none⟩]
def q73_7 : Array Oper := #[⟨some 18, .move (.tmp 8), 3, "ref.go:115", #[], none⟩, ⟨some 19, .move (.tmp 1), 30, "ref.go:115", #[], none⟩, ⟨some 20, .call ⟨.builtin .len, #[.tmp 19], #[30]⟩, 3, "ref.go:115", #[⟨1, .data⟩], none⟩, ⟨some 21, .binOp .lss 3 (.tmp 18) (.tmp 20) 3, 4, "ref.go:115", #[⟨0, .data⟩, ⟨2, .data⟩], none⟩]
def q73_8 : Array Oper := #[⟨some 22, .move (.tmp 8), 3, "ref.go:115", #[], none⟩, ⟨some 23, .binOp .add 3 (.tmp 22) (.const (.int .i64 1)) 3, 3, "ref.go:115", #[⟨0, .data⟩], none⟩, ⟨some 8, .assign (.tmp 23), 3, "ref.go:115", #[⟨1, .data⟩, ⟨0, .phase⟩, ⟨1, .phase⟩], none⟩]
def q73_9 : Array Oper := #[⟨some 24, .load 43 (.tmp 2), 43, "ref.go:116", #[], none⟩, ⟨some 25, .move (.tmp 1), 30, "ref.go:116", #[], none⟩, ⟨some 26, .move (.tmp 8), 3, "ref.go:116", #[], none⟩, ⟨some 27, .indexAddr 30 (.tmp 25) (.tmp 26), 0, "ref.go:116", #[⟨1, .data⟩, ⟨2, .data⟩], none⟩, ⟨some 28, .load 3 (.tmp 27), 3, "ref.go:116", #[⟨3, .data⟩], none⟩, ⟨some 29, .call ⟨.value (.func 45), #[.tmp 24, .tmp 28], #[43, 3]⟩, 30, "ref.go:116", #[⟨0, .data⟩, ⟨4, .data⟩], none⟩, ⟨some 30, .call ⟨.builtin .len, #[.tmp 29], #[30]⟩, 3, "ref.go:116", #[⟨5, .data⟩], none⟩, ⟨some 9, .assign (.tmp 30), 3, "ref.go:116", #[⟨6, .data⟩, ⟨5, .chain⟩, ⟨0, .phase⟩, ⟨1, .phase⟩, ⟨2, .phase⟩, ⟨3, .phase⟩, ⟨4, .phase⟩, ⟨5, .phase⟩, ⟨6, .phase⟩], none⟩]
def q73_10 : Array Oper := #[⟨some 31, .load 43 (.tmp 2), 43, "ref.go:117", #[], none⟩, ⟨some 32, .move (.tmp 1), 30, "ref.go:117", #[], none⟩, ⟨some 33, .move (.tmp 6), 3, "ref.go:117", #[], none⟩, ⟨some 34, .indexAddr 30 (.tmp 32) (.tmp 33), 0, "ref.go:117", #[⟨1, .data⟩, ⟨2, .data⟩], none⟩, ⟨some 35, .load 3 (.tmp 34), 3, "ref.go:117", #[⟨3, .data⟩], none⟩, ⟨some 36, .call ⟨.value (.func 45), #[.tmp 31, .tmp 35], #[43, 3]⟩, 30, "ref.go:117", #[⟨0, .data⟩, ⟨4, .data⟩], none⟩, ⟨some 37, .call ⟨.builtin .len, #[.tmp 36], #[30]⟩, 3, "ref.go:117", #[⟨5, .data⟩], none⟩, ⟨some 10, .assign (.tmp 37), 3, "ref.go:117", #[⟨6, .data⟩, ⟨5, .chain⟩, ⟨0, .phase⟩, ⟨1, .phase⟩, ⟨2, .phase⟩, ⟨3, .phase⟩, ⟨4, .phase⟩, ⟨5, .phase⟩, ⟨6, .phase⟩], none⟩]
def q73_11 : Array Oper := #[⟨some 38, .move (.tmp 9), 3, "ref.go:118", #[], none⟩, ⟨some 39, .move (.tmp 10), 3, "ref.go:118", #[], none⟩, ⟨some 40, .binOp .gtr 3 (.tmp 38) (.tmp 39) 3, 4, "ref.go:118", #[⟨0, .data⟩, ⟨1, .data⟩], none⟩, ⟨some 41, .move (.tmp 40), 4, "ref.go:118", #[⟨2, .data⟩], none⟩, ⟨some 42, .move (.tmp 9), 3, "ref.go:118", #[⟨3, .guard⟩], some (3, false)⟩, ⟨some 43, .move (.tmp 10), 3, "ref.go:118", #[⟨3, .guard⟩], some (3, false)⟩, ⟨some 44, .binOp .eql 3 (.tmp 42) (.tmp 43) 3, 4, "ref.go:118", #[⟨4, .data⟩, ⟨5, .data⟩, ⟨3, .guard⟩], some (3, false)⟩, ⟨some 45, .move (.tmp 44), 4, "ref.go:118", #[⟨6, .data⟩, ⟨3, .chain⟩, ⟨3, .guard⟩], some (3, false)⟩, ⟨some 46, .move (.tmp 1), 30, "ref.go:118", #[⟨7, .guard⟩], some (7, true)⟩, ⟨some 47, .move (.tmp 8), 3, "ref.go:118", #[⟨7, .guard⟩], some (7, true)⟩, ⟨some 48, .indexAddr 30 (.tmp 46) (.tmp 47), 0, "ref.go:118", #[⟨8, .data⟩, ⟨9, .data⟩, ⟨7, .guard⟩], some (7, true)⟩, ⟨some 49, .load 3 (.tmp 48), 3, "ref.go:118", #[⟨10, .data⟩, ⟨7, .guard⟩], some (7, true)⟩, ⟨some 50, .move (.tmp 1), 30, "ref.go:118", #[⟨7, .guard⟩], some (7, true)⟩, ⟨some 51, .move (.tmp 6), 3, "ref.go:118", #[⟨7, .guard⟩], some (7, true)⟩, ⟨some 52, .indexAddr 30 (.tmp 50) (.tmp 51), 0, "ref.go:118", #[⟨12, .data⟩, ⟨13, .data⟩, ⟨7, .guard⟩], some (7, true)⟩, ⟨some 53, .load 3 (.tmp 52), 3, "ref.go:118", #[⟨14, .data⟩, ⟨7, .guard⟩], some (7, true)⟩, ⟨some 54, .binOp .lss 3 (.tmp 49) (.tmp 53) 3, 4, "ref.go:118", #[⟨11, .data⟩, ⟨15, .data⟩, ⟨7, .guard⟩], some (7, true)⟩, ⟨some 55, .pick (.tmp 45) (.tmp 54) (.const (.bool false)), 4, "ref.go:118", #[⟨7, .data⟩, ⟨16, .data⟩, ⟨3, .guard⟩], some (3, false)⟩, ⟨some 56, .pick (.tmp 41) (.const (.bool true)) (.tmp 55), 4, "ref.go:118", #[⟨3, .data⟩, ⟨17, .data⟩], none⟩]
def q73_12 : Array Oper := #[⟨some 57, .move (.tmp 7), 3, "ref.go:119", #[], none⟩, ⟨some 58, .binOp .add 3 (.tmp 57) (.const (.int .i64 1)) 3, 3, "ref.go:119", #[⟨0, .data⟩], none⟩, ⟨some 7, .assign (.tmp 58), 3, "ref.go:119", #[⟨1, .data⟩, ⟨0, .phase⟩, ⟨1, .phase⟩], none⟩]
def q73_13 : Array Oper := #[⟨some 59, .move (.tmp 1), 30, "ref.go:122", #[], none⟩, ⟨some 60, .call ⟨.builtin .len, #[.tmp 59], #[30]⟩, 3, "ref.go:122", #[⟨0, .data⟩], none⟩, ⟨some 61, .binOp .quo 3 (.const (.int .i64 8)) (.tmp 60) 3, 3, "ref.go:122", #[⟨1, .data⟩], none⟩, ⟨some 11, .assign (.tmp 61), 3, "ref.go:122", #[⟨2, .data⟩, ⟨0, .phase⟩, ⟨1, .phase⟩, ⟨2, .phase⟩], none⟩]
def q73_14 : Array Oper := #[⟨some 62, .move (.tmp 7), 3, "ref.go:123", #[], none⟩, ⟨some 63, .move (.tmp 1), 30, "ref.go:123", #[], none⟩, ⟨some 64, .call ⟨.builtin .len, #[.tmp 63], #[30]⟩, 3, "ref.go:123", #[⟨1, .data⟩], none⟩, ⟨some 65, .binOp .rem 3 (.const (.int .i64 8)) (.tmp 64) 3, 3, "ref.go:123", #[⟨2, .data⟩], none⟩, ⟨some 66, .binOp .lss 3 (.tmp 62) (.tmp 65) 3, 4, "ref.go:123", #[⟨0, .data⟩, ⟨3, .data⟩], none⟩]
def q73_15 : Array Oper := #[⟨some 67, .move (.tmp 11), 3, "ref.go:124", #[], none⟩, ⟨some 68, .binOp .add 3 (.tmp 67) (.const (.int .i64 1)) 3, 3, "ref.go:124", #[⟨0, .data⟩], none⟩, ⟨some 11, .assign (.tmp 68), 3, "ref.go:124", #[⟨1, .data⟩, ⟨0, .phase⟩, ⟨1, .phase⟩], none⟩]
def q73_16 : Array Oper := #[⟨some 69, .move (.tmp 5), 30, "ref.go:126", #[], none⟩, ⟨some 70, .move (.tmp 11), 3, "ref.go:126", #[], none⟩, ⟨some 71, .buildSlice 30 1 #[(0, .tmp 70)], 30, "ref.go:126", #[⟨1, .data⟩], none⟩, ⟨some 72, .call ⟨.builtin .append, #[.tmp 69, .tmp 71], #[30, 30]⟩, 30, "ref.go:126", #[⟨0, .data⟩, ⟨2, .data⟩], none⟩, ⟨some 5, .assign (.tmp 72), 30, "ref.go:126", #[⟨3, .data⟩, ⟨3, .chain⟩, ⟨0, .phase⟩, ⟨1, .phase⟩, ⟨2, .phase⟩, ⟨3, .phase⟩], none⟩]
def q73_17 : Array Oper := #[⟨some 73, .move (.tmp 5), 30, "ref.go:128", #[], none⟩, ⟨some 4, .assign (.tmp 73), 30, "ref.go:128", #[⟨0, .data⟩, ⟨0, .phase⟩], none⟩]
theorem r73_0 (hz : a0.tmps.size = 74) (b : Nat) (hb : w.heap.size = b) (ol : List Int) (e0 : a0.eval (.tmp 0) = .agg (intV ol).toArray) (hend : ∀ ac wz, After [4, 2] a0 ac → ac.eval (.tmp 2) = .pointer (some ⟨b, 0, none⟩) → Anew b w wz (intV ol) 43 → Q .normal ac wz) : RW 0 q73_0 false Q a0 w := by
  refine wp_region_list ?_
  refine wpList_box_new 2 rfl rfl 43 (.tmp 0) rfl b hb _ e0 ?_
  intro w1 h1
  refine wl_of rfl (op_move (.const _) (.inr rfl) (wl_end ?_))
  refine hend _ w1 (((After.self a0).put 2 _).put 4 _) ?_ h1
  exact (ev_put (by rw [put_size, hz]; decide)).trans ((if_neg (by decide)).trans ((ev_put (by rw [hz]; decide)).trans (if_pos rfl)))
theorem r73_1 (hz : a0.tmps.size = 74)   (hend : ∀ ac wz, After [5] a0 ac → ac.eval (.tmp 5) = .slice none 0 0 → Gr w wz → Q .normal ac wz) : RW 1 q73_1 false Q a0 w := by
  refine seq_by (by kernel_rfl) 1 (by decide) [5] (fun | 5 => .val (.slice none 0 0) | _ => .any) (by kernel_rfl) (fmc ⟨?s0, fun o ho => nomatch ho⟩) ?e
  case s0 => exact sa_move (.const _) 5 (.val (.slice none 0 0)) (.inr rfl) rfl rfl (.const _) rfl
  case e =>
  intro ac wz hA hgr hv
  exact wl_end (hend ac wz hA (hw hv hz 5) hgr)
theorem r73_2 (hz : a0.tmps.size = 74)   (hend : ∀ ac wz, After [6] a0 ac → ac.eval (.tmp 6) = .int .i64 0 → Gr w wz → Q .normal ac wz) : RW 2 q73_2 false Q a0 w := by
  refine seq_by (by kernel_rfl) 1 (by decide) [6] (fun | 6 => .val (.int .i64 0) | _ => .any) (by kernel_rfl) (fmc ⟨?s0, fun o ho => nomatch ho⟩) ?e
  case s0 => exact sa_move (.const _) 6 (.val (.int .i64 0)) (.inr rfl) rfl rfl (.const _) rfl
  case e =>
  intro ac wz hA hgr hv
  exact wl_end (hend ac wz hA (hw hv hz 6) hgr)
theorem r73_5 (hz : a0.tmps.size = 74)   (hend : ∀ ac wz, After [7] a0 ac → ac.eval (.tmp 7) = .int .i64 0 → Gr w wz → Q .normal ac wz) : RW 5 q73_5 false Q a0 w := by
  refine seq_by (by kernel_rfl) 1 (by decide) [7] (fun | 7 => .val (.int .i64 0) | _ => .any) (by kernel_rfl) (fmc ⟨?s0, fun o ho => nomatch ho⟩) ?e
  case s0 => exact sa_move (.const _) 7 (.val (.int .i64 0)) (.inr rfl) rfl rfl (.const _) rfl
  case e =>
  intro ac wz hA hgr hv
  exact wl_end (hend ac wz hA (hw hv hz 7) hgr)
theorem r73_6 (hz : a0.tmps.size = 74)   (hend : ∀ ac wz, After [8] a0 ac → ac.eval (.tmp 8) = .int .i64 0 → Gr w wz → Q .normal ac wz) : RW 6 q73_6 false Q a0 w := by
  refine seq_by (by kernel_rfl) 1 (by decide) [8] (fun | 8 => .val (.int .i64 0) | _ => .any) (by kernel_rfl) (fmc ⟨?s0, fun o ho => nomatch ho⟩) ?e
  case s0 => exact sa_move (.const _) 8 (.val (.int .i64 0)) (.inr rfl) rfl rfl (.const _) rfl
  case e =>
  intro ac wz hA hgr hv
  exact wl_end (hend ac wz hA (hw hv hz 8) hgr)
theorem r73_3 (hz : a0.tmps.size = 74) (k n cap : Nat) (ad : Option Addr) (e6 : a0.eval (.tmp 6) = .int .i64 (k : Int)) (e1 : a0.eval (.tmp 1) = .slice ad n cap) (hend : ∀ ac wz, After [12, 13, 14, 15] a0 ac → ac.eval (.tmp 15) = .bool (decide ((k : Int) < (n : Int))) → Gr w wz → Q .normal ac wz) : RW 3 q73_3 false Q a0 w := by
  refine seq_by (by kernel_rfl) 4 (by decide) [12, 13, 14, 15] (fun | 12 => .val (.int .i64 (k : Int)) | 13 => .val (.slice ad n cap) | 14 => .val (.int .i64 (n : Int)) | 15 => .val (.bool (decide ((k : Int) < (n : Int)))) | _ => .any) (by kernel_rfl) (fmc ⟨?s0, fmc ⟨?s1, fmc ⟨?s2, fmc ⟨?s3, fun o ho => nomatch ho⟩⟩⟩⟩) ?e
  case s0 => exact sa_mo 6 12 e6
  case s1 => exact sa_mo 1 13 e1
  case s2 => exact sa_len 30 (.tmp 13) 14 (.slice ad n cap) (.int .i64 (n : Int)) rfl rfl rfl (.nw 13 hz) (by intro w; kernel_rfl) rfl
  case s3 => exact sa_bin .lss 3 (.tmp 12) (.tmp 14) 3 15 (.int .i64 (k : Int)) (.int .i64 (n : Int)) (.bool (decide ((k : Int) < (n : Int)))) rfl rfl rfl (.nw 12 hz) (.nw 14 hz) guard_int (bin_lss rfl) rfl
  case e =>
  intro ac wz hA hgr hv
  exact wl_end (hend ac wz hA (hw hv hz 15) hgr)
theorem r73_7 (hz : a0.tmps.size = 74) (k n cap : Nat) (ad : Option Addr) (e8 : a0.eval (.tmp 8) = .int .i64 (k : Int)) (e1 : a0.eval (.tmp 1) = .slice ad n cap) (hend : ∀ ac wz, After [18, 19, 20, 21] a0 ac → ac.eval (.tmp 21) = .bool (decide ((k : Int) < (n : Int))) → Gr w wz → Q .normal ac wz) : RW 7 q73_7 false Q a0 w := by
  refine seq_by (by kernel_rfl) 4 (by decide) [18, 19, 20, 21] (fun | 18 => .val (.int .i64 (k : Int)) | 19 => .val (.slice ad n cap) | 20 => .val (.int .i64 (n : Int)) | 21 => .val (.bool (decide ((k : Int) < (n : Int)))) | _ => .any) (by kernel_rfl) (fmc ⟨?s0, fmc ⟨?s1, fmc ⟨?s2, fmc ⟨?s3, fun o ho => nomatch ho⟩⟩⟩⟩) ?e
  case s0 => exact sa_mo 8 18 e8
  case s1 => exact sa_mo 1 19 e1
  case s2 => exact sa_len 30 (.tmp 19) 20 (.slice ad n cap) (.int .i64 (n : Int)) rfl rfl rfl (.nw 19 hz) (by intro w; kernel_rfl) rfl
  case s3 => exact sa_bin .lss 3 (.tmp 18) (.tmp 20) 3 21 (.int .i64 (k : Int)) (.int .i64 (n : Int)) (.bool (decide ((k : Int) < (n : Int)))) rfl rfl rfl (.nw 18 hz) (.nw 20 hz) guard_int (bin_lss rfl) rfl
  case e =>
  intro ac wz hA hgr hv
  exact wl_end (hend ac wz hA (hw hv hz 21) hgr)
theorem r73_4 (hz : a0.tmps.size = 74) (k : Nat) (hk : k ≤ 17592186043904) (e6 : a0.eval (.tmp 6) = .int .i64 (k : Int)) (hend : ∀ ac wz, After [6, 16, 17] a0 ac → ac.eval (.tmp 6) = .int .i64 ((k + 1 : Nat) : Int) → Gr w wz → Q .normal ac wz) : RW 4 q73_4 false Q a0 w := by
  refine seq_by (by kernel_rfl) 2 (by decide) [16, 17] (fun | 16 => .val (.int .i64 (k : Int)) | 17 => .val (.int .i64 ((k + 1 : Nat) : Int)) | _ => .any) (by kernel_rfl) (fmc ⟨?s0, fmc ⟨?s1, fun o ho => nomatch ho⟩⟩) ?e
  case s0 => exact sa_mo 6 16 e6
  case s1 => exact sa_bin .add 3 (.tmp 16) (.const _) 3 17 (.int .i64 (k : Int)) (.int .i64 1) (.int .i64 ((k + 1 : Nat) : Int)) rfl rfl rfl (.nw 16 hz) (.const _) guard_int (bin_add (by omega) (by omega) (by omega)) rfl
  case e =>
  intro ac wz hA hgr hv
  have o17 : ac.eval (.tmp 17) = .int .i64 ((k + 1 : Nat) : Int) := hw hv hz 17
  refine wl_of rfl (op_move (.tmp 17) (.inr rfl) (wl_end ?_))
  exact hend _ wz (hA.put 6 _)  ((ev_put (by rw [hA.size, hz]; decide)).trans ((if_pos rfl).trans o17)) hgr
theorem r73_8 (hz : a0.tmps.size = 74) (k : Nat) (hk : k ≤ 17592186043904) (e8 : a0.eval (.tmp 8) = .int .i64 (k : Int)) (hend : ∀ ac wz, After [8, 22, 23] a0 ac → ac.eval (.tmp 8) = .int .i64 ((k + 1 : Nat) : Int) → Gr w wz → Q .normal ac wz) : RW 8 q73_8 false Q a0 w := by
  refine seq_by (by kernel_rfl) 2 (by decide) [22, 23] (fun | 22 => .val (.int .i64 (k : Int)) | 23 => .val (.int .i64 ((k + 1 : Nat) : Int)) | _ => .any) (by kernel_rfl) (fmc ⟨?s0, fmc ⟨?s1, fun o ho => nomatch ho⟩⟩) ?e
  case s0 => exact sa_mo 8 22 e8
  case s1 => exact sa_bin .add 3 (.tmp 22) (.const _) 3 23 (.int .i64 (k : Int)) (.int .i64 1) (.int .i64 ((k + 1 : Nat) : Int)) rfl rfl rfl (.nw 22 hz) (.const _) guard_int (bin_add (by omega) (by omega) (by omega)) rfl
  case e =>
  intro ac wz hA hgr hv
  have o23 : ac.eval (.tmp 23) = .int .i64 ((k + 1 : Nat) : Int) := hw hv hz 23
  refine wl_of rfl (op_move (.tmp 23) (.inr rfl) (wl_end ?_))
  exact hend _ wz (hA.put 8 _)  ((ev_put (by rw [hA.size, hz]; decide)).trans ((if_pos rfl).trans o23)) hgr
theorem r73_12 (hz : a0.tmps.size = 74) (k : Nat) (hk : k ≤ 17592186043904) (e7 : a0.eval (.tmp 7) = .int .i64 (k : Int)) (hend : ∀ ac wz, After [7, 57, 58] a0 ac → ac.eval (.tmp 7) = .int .i64 ((k + 1 : Nat) : Int) → Gr w wz → Q .normal ac wz) : RW 12 q73_12 false Q a0 w := by
  refine seq_by (by kernel_rfl) 2 (by decide) [57, 58] (fun | 57 => .val (.int .i64 (k : Int)) | 58 => .val (.int .i64 ((k + 1 : Nat) : Int)) | _ => .any) (by kernel_rfl) (fmc ⟨?s0, fmc ⟨?s1, fun o ho => nomatch ho⟩⟩) ?e
  case s0 => exact sa_mo 7 57 e7
  case s1 => exact sa_bin .add 3 (.tmp 57) (.const _) 3 58 (.int .i64 (k : Int)) (.int .i64 1) (.int .i64 ((k + 1 : Nat) : Int)) rfl rfl rfl (.nw 57 hz) (.const _) guard_int (bin_add (by omega) (by omega) (by omega)) rfl
  case e =>
  intro ac wz hA hgr hv
  have o58 : ac.eval (.tmp 58) = .int .i64 ((k + 1 : Nat) : Int) := hw hv hz 58
  refine wl_of rfl (op_move (.tmp 58) (.inr rfl) (wl_end ?_))
  exact hend _ wz (hA.put 7 _)  ((ev_put (by rw [hA.size, hz]; decide)).trans ((if_pos rfl).trans o58)) hgr
theorem r73_15 (hz : a0.tmps.size = 74) (k : Nat) (hk : k ≤ 17592186043904) (e11 : a0.eval (.tmp 11) = .int .i64 (k : Int)) (hend : ∀ ac wz, After [11, 67, 68] a0 ac → ac.eval (.tmp 11) = .int .i64 ((k + 1 : Nat) : Int) → Gr w wz → Q .normal ac wz) : RW 15 q73_15 false Q a0 w := by
  refine seq_by (by kernel_rfl) 2 (by decide) [67, 68] (fun | 67 => .val (.int .i64 (k : Int)) | 68 => .val (.int .i64 ((k + 1 : Nat) : Int)) | _ => .any) (by kernel_rfl) (fmc ⟨?s0, fmc ⟨?s1, fun o ho => nomatch ho⟩⟩) ?e
  case s0 => exact sa_mo 11 67 e11
  case s1 => exact sa_bin .add 3 (.tmp 67) (.const _) 3 68 (.int .i64 (k : Int)) (.int .i64 1) (.int .i64 ((k + 1 : Nat) : Int)) rfl rfl rfl (.nw 67 hz) (.const _) guard_int (bin_add (by omega) (by omega) (by omega)) rfl
  case e =>
  intro ac wz hA hgr hv
  have o68 : ac.eval (.tmp 68) = .int .i64 ((k + 1 : Nat) : Int) := hw hv hz 68
  refine wl_of rfl (op_move (.tmp 68) (.inr rfl) (wl_end ?_))
  exact hend _ wz (hA.put 11 _)  ((ev_put (by rw [hA.size, hz]; decide)).trans ((if_pos rfl).trans o68)) hgr
theorem r73_9 (hz : a0.tmps.size = 74) (b g of n cap k c : Nat) (x : Int) (ol : List Int) (hol : (intV ol).length = 8) (hHol : Holds w b (intV ol) 43) (hk : k < n) (hX : ∀ y, Gr w y → y.cell? ⟨g, of + k, none⟩ = some (.int .i64 x)) (hC : ∀ y, Gr w y → Calls Tryz.prog 45 #[.agg (intV ol).toArray, .int .i64 x] y fun e z => ∃ u, e = .returned u ∧ Gr y z ∧ (lenF c).holds u z) (e2 : a0.eval (.tmp 2) = .pointer (some ⟨b, 0, none⟩)) (e1 : a0.eval (.tmp 1) = .slice (some ⟨g, of, none⟩) n cap) (e8 : a0.eval (.tmp 8) = .int .i64 (k : Int)) (hend : ∀ ac wz, After [24, 25, 26, 27, 28, 29, 30, 9] a0 ac → ac.eval (.tmp 9) = .int .i64 (c : Int) → Gr w wz → Q .normal ac wz) : RW 9 q73_9 true Q a0 w := by
  refine drawn_by (by kernel_rfl) (by kernel_rfl) (by kernel_rfl) [24, 25, 26, 27, 28, 29, 30, 9] (fun | 24 => .val (.agg (intV ol).toArray) | 25 => .val (.slice (some ⟨g, of, none⟩) n cap) | 26 => .val (.int .i64 (k : Int)) | 27 => .val (.pointer (some ⟨g, of + k, none⟩)) | 28 => .val (.int .i64 x) | 29 => lenF c | 30 => .val (.int .i64 (c : Int)) | 9 => .val (.int .i64 (c : Int)) | _ => .any) (by kernel_rfl) (fmc ⟨?s0, fmc ⟨?s1, fmc ⟨?s2, fmc ⟨?s3, fmc ⟨?s4, fmc ⟨?s5, fmc ⟨?s6, fmc ⟨?s7, fun o ho => nomatch ho⟩⟩⟩⟩⟩⟩⟩⟩) ?e
  case s0 => exact sa_row 43 (.tmp 2) 24 b (0) 8 _ (intV ol) rfl rfl rfl Tryz.underlying43 rfl siz43 hol (.old 2 _ (by decide) e2) (fun y hy => range_of (hHol.below hy hHol.lt)) rfl
  case s1 => exact sa_mo 1 25 e1
  case s2 => exact sa_mo 8 26 e8
  case s3 => exact sa_ixa 30 (.tmp 25) (.tmp 26) 27 (.slice (some ⟨g, of, none⟩) n cap) (.int .i64 (k : Int)) (.pointer (some ⟨g, of + k, none⟩)) rfl rfl rfl (.nw 25 hz) (.nw 26 hz) (ix_slice (sz := 1) Tryz.underlying30 (by intro w; kernel_rfl) (by omega) (by omega)) rfl
  case s4 => exact sa_loadc 3 (.tmp 27) 28 (g) (of + k) (.int .i64 x) rfl rfl rfl (by intro w; kernel_rfl) (.nw 27 hz) hX rfl
  case s5 => exact sa_callF2 45 (.tmp 24) (.tmp 28) _ 29 (.agg (intV ol).toArray) (.int .i64 x) (lenF c) rfl rfl rfl (.nw 24 hz) (.nw 28 hz) (enters_of Tryz.func45 (by kernel_rfl) rfl) hC rfl
  case s6 => exact sa_lenF 30 (.tmp 29) 30 c rfl rfl rfl (.nw 29 hz) (by intro a c y; kernel_rfl) rfl
  case s7 => exact sa_move (.tmp 30) 9 (.val (.int .i64 (c : Int))) (.inr rfl) rfl rfl (.nw 30 hz) rfl
  case e =>
  intro ac wz hA hgr hv
  exact hend ac wz hA (hw hv hz 9) hgr
theorem r73_10 (hz : a0.tmps.size = 74) (b g of n cap k c : Nat) (x : Int) (ol : List Int) (hol : (intV ol).length = 8) (hHol : Holds w b (intV ol) 43) (hk : k < n) (hX : ∀ y, Gr w y → y.cell? ⟨g, of + k, none⟩ = some (.int .i64 x)) (hC : ∀ y, Gr w y → Calls Tryz.prog 45 #[.agg (intV ol).toArray, .int .i64 x] y fun e z => ∃ u, e = .returned u ∧ Gr y z ∧ (lenF c).holds u z) (e2 : a0.eval (.tmp 2) = .pointer (some ⟨b, 0, none⟩)) (e1 : a0.eval (.tmp 1) = .slice (some ⟨g, of, none⟩) n cap) (e6 : a0.eval (.tmp 6) = .int .i64 (k : Int)) (hend : ∀ ac wz, After [31, 32, 33, 34, 35, 36, 37, 10] a0 ac → ac.eval (.tmp 10) = .int .i64 (c : Int) → Gr w wz → Q .normal ac wz) : RW 10 q73_10 true Q a0 w := by
  refine drawn_by (by kernel_rfl) (by kernel_rfl) (by kernel_rfl) [31, 32, 33, 34, 35, 36, 37, 10] (fun | 31 => .val (.agg (intV ol).toArray) | 32 => .val (.slice (some ⟨g, of, none⟩) n cap) | 33 => .val (.int .i64 (k : Int)) | 34 => .val (.pointer (some ⟨g, of + k, none⟩)) | 35 => .val (.int .i64 x) | 36 => lenF c | 37 => .val (.int .i64 (c : Int)) | 10 => .val (.int .i64 (c : Int)) | _ => .any) (by kernel_rfl) (fmc ⟨?s0, fmc ⟨?s1, fmc ⟨?s2, fmc ⟨?s3, fmc ⟨?s4, fmc ⟨?s5, fmc ⟨?s6, fmc ⟨?s7, fun o ho => nomatch ho⟩⟩⟩⟩⟩⟩⟩⟩) ?e
  case s0 => exact sa_row 43 (.tmp 2) 31 b (0) 8 _ (intV ol) rfl rfl rfl Tryz.underlying43 rfl siz43 hol (.old 2 _ (by decide) e2) (fun y hy => range_of (hHol.below hy hHol.lt)) rfl
  case s1 => exact sa_mo 1 32 e1
  case s2 => exact sa_mo 6 33 e6
  case s3 => exact sa_ixa 30 (.tmp 32) (.tmp 33) 34 (.slice (some ⟨g, of, none⟩) n cap) (.int .i64 (k : Int)) (.pointer (some ⟨g, of + k, none⟩)) rfl rfl rfl (.nw 32 hz) (.nw 33 hz) (ix_slice (sz := 1) Tryz.underlying30 (by intro w; kernel_rfl) (by omega) (by omega)) rfl
  case s4 => exact sa_loadc 3 (.tmp 34) 35 (g) (of + k) (.int .i64 x) rfl rfl rfl (by intro w; kernel_rfl) (.nw 34 hz) hX rfl
  case s5 => exact sa_callF2 45 (.tmp 31) (.tmp 35) _ 36 (.agg (intV ol).toArray) (.int .i64 x) (lenF c) rfl rfl rfl (.nw 31 hz) (.nw 35 hz) (enters_of Tryz.func45 (by kernel_rfl) rfl) hC rfl
  case s6 => exact sa_lenF 30 (.tmp 36) 37 c rfl rfl rfl (.nw 36 hz) (by intro a c y; kernel_rfl) rfl
  case s7 => exact sa_move (.tmp 37) 10 (.val (.int .i64 (c : Int))) (.inr rfl) rfl rfl (.nw 37 hz) rfl
  case e =>
  intro ac wz hA hgr hv
  exact hend ac wz hA (hw hv hz 10) hgr
theorem r73_11g (hz : a0.tmps.size = 74) (a b : Nat) (h1 : b < a) (e9 : a0.eval (.tmp 9) = .int .i64 (a : Int)) (e10 : a0.eval (.tmp 10) = .int .i64 (b : Int)) (hend : ∀ ac wz, After [38, 39, 40, 41, 42, 43, 44, 45, 46, 47, 48, 49, 50, 51, 52, 53, 54, 55, 56] a0 ac → ac.eval (.tmp 56) = .bool true → Gr w wz → Q .normal ac wz) : RW 11 q73_11 true Q a0 w := by
  refine drawn_by (by kernel_rfl) (by kernel_rfl) (by kernel_rfl) [38, 39, 40, 41, 42, 43, 44, 45, 46, 47, 48, 49, 50, 51, 52, 53, 54, 55, 56] (fun | 38 => .val (.int .i64 (a : Int)) | 39 => .val (.int .i64 (b : Int)) | 40 => .val (.bool true) | 41 => .val (.bool true) | 42 => .val (undef) | 43 => .val (undef) | 44 => .val (undef) | 45 => .val (undef) | 46 => .val (undef) | 47 => .val (undef) | 48 => .val (undef) | 49 => .val (undef) | 50 => .val (undef) | 51 => .val (undef) | 52 => .val (undef) | 53 => .val (undef) | 54 => .val (undef) | 55 => .val (undef) | 56 => .val (.bool true) | _ => .any) (by kernel_rfl) (fmc ⟨?s0, fmc ⟨?s1, fmc ⟨?s2, fmc ⟨?s3, fmc ⟨?s4, fmc ⟨?s5, fmc ⟨?s6, fmc ⟨?s7, fmc ⟨?s8, fmc ⟨?s9, fmc ⟨?s10, fmc ⟨?s11, fmc ⟨?s12, fmc ⟨?s13, fmc ⟨?s14, fmc ⟨?s15, fmc ⟨?s16, fmc ⟨?s17, fmc ⟨?s18, fun o ho => nomatch ho⟩⟩⟩⟩⟩⟩⟩⟩⟩⟩⟩⟩⟩⟩⟩⟩⟩⟩⟩) ?e
  case s0 => exact sa_mo 9 38 e9
  case s1 => exact sa_mo 10 39 e10
  case s2 => exact sa_bin .gtr 3 (.tmp 38) (.tmp 39) 3 40 (.int .i64 (a : Int)) (.int .i64 (b : Int)) (.bool true) rfl rfl rfl (.nw 38 hz) (.nw 39 hz) guard_int (bin_gtr (decide_eq_true (by omega))) rfl
  case s3 => exact sa_mw 40 41 hz
  case s4 => exact so_nFN 3 41 hz
  case s5 => exact so_nFN 3 41 hz
  case s6 => exact so_nFN 3 41 hz
  case s7 => exact so_nFN 3 41 hz
  case s8 => exact so_nU 7 45 true hz
  case s9 => exact so_nU 7 45 true hz
  case s10 => exact so_nU 7 45 true hz
  case s11 => exact so_nU 7 45 true hz
  case s12 => exact so_nU 7 45 true hz
  case s13 => exact so_nU 7 45 true hz
  case s14 => exact so_nU 7 45 true hz
  case s15 => exact so_nU 7 45 true hz
  case s16 => exact so_nU 7 45 true hz
  case s17 => exact so_nFN 3 41 hz
  case s18 => exact sa_pick (.tmp 41) (.const _) (.tmp 55) 56 (.val (.bool true)) rfl rfl rfl (.nw 41 hz) (.const _) rfl
  case e =>
  intro ac wz hA hgr hv
  exact hend ac wz hA (hw hv hz 56) hgr
theorem r73_11n (hz : a0.tmps.size = 74) (a b : Nat) (h1 : ¬ b < a) (h2 : ¬ a = b) (e9 : a0.eval (.tmp 9) = .int .i64 (a : Int)) (e10 : a0.eval (.tmp 10) = .int .i64 (b : Int)) (hend : ∀ ac wz, After [38, 39, 40, 41, 42, 43, 44, 45, 46, 47, 48, 49, 50, 51, 52, 53, 54, 55, 56] a0 ac → ac.eval (.tmp 56) = .bool false → Gr w wz → Q .normal ac wz) : RW 11 q73_11 true Q a0 w := by
  refine drawn_by (by kernel_rfl) (by kernel_rfl) (by kernel_rfl) [38, 39, 40, 41, 42, 43, 44, 45, 46, 47, 48, 49, 50, 51, 52, 53, 54, 55, 56] (fun | 38 => .val (.int .i64 (a : Int)) | 39 => .val (.int .i64 (b : Int)) | 40 => .val (.bool false) | 41 => .val (.bool false) | 42 => .val (.int .i64 (a : Int)) | 43 => .val (.int .i64 (b : Int)) | 44 => .val (.bool false) | 45 => .val (.bool false) | 46 => .val (undef) | 47 => .val (undef) | 48 => .val (undef) | 49 => .val (undef) | 50 => .val (undef) | 51 => .val (undef) | 52 => .val (undef) | 53 => .val (undef) | 54 => .val (undef) | 55 => .val (.bool false) | 56 => .val (.bool false) | _ => .any) (by kernel_rfl) (fmc ⟨?s0, fmc ⟨?s1, fmc ⟨?s2, fmc ⟨?s3, fmc ⟨?s4, fmc ⟨?s5, fmc ⟨?s6, fmc ⟨?s7, fmc ⟨?s8, fmc ⟨?s9, fmc ⟨?s10, fmc ⟨?s11, fmc ⟨?s12, fmc ⟨?s13, fmc ⟨?s14, fmc ⟨?s15, fmc ⟨?s16, fmc ⟨?s17, fmc ⟨?s18, fun o ho => nomatch ho⟩⟩⟩⟩⟩⟩⟩⟩⟩⟩⟩⟩⟩⟩⟩⟩⟩⟩⟩) ?e
  case s0 => exact sa_mo 9 38 e9
  case s1 => exact sa_mo 10 39 e10
  case s2 => exact sa_bin .gtr 3 (.tmp 38) (.tmp 39) 3 40 (.int .i64 (a : Int)) (.int .i64 (b : Int)) (.bool false) rfl rfl rfl (.nw 38 hz) (.nw 39 hz) guard_int (bin_gtr (decide_eq_false (by omega))) rfl
  case s3 => exact sa_mw 40 41 hz
  case s4 => exact sa_gf 3 41 hz (sa_mo 9 42 e9)
  case s5 => exact sa_gf 3 41 hz (sa_mo 10 43 e10)
  case s6 => exact sa_gf 3 41 hz (sa_bin .eql 3 (.tmp 42) (.tmp 43) 3 44 (.int .i64 (a : Int)) (.int .i64 (b : Int)) (.bool false) rfl rfl rfl (.nw 42 hz) (.nw 43 hz) guard_int (bin_eql (decide_eq_false (by omega))) rfl)
  case s7 => exact sa_gf 3 41 hz (sa_mw 44 45 hz)
  case s8 => exact so_nN 7 45 hz
  case s9 => exact so_nN 7 45 hz
  case s10 => exact so_nN 7 45 hz
  case s11 => exact so_nN 7 45 hz
  case s12 => exact so_nN 7 45 hz
  case s13 => exact so_nN 7 45 hz
  case s14 => exact so_nN 7 45 hz
  case s15 => exact so_nN 7 45 hz
  case s16 => exact so_nN 7 45 hz
  case s17 => exact sa_gf 3 41 hz (sa_pickF (.tmp 45) (.tmp 54) (.const _) 55 (.val (.bool false)) rfl rfl rfl (.nw 45 hz) (.const _) rfl)
  case s18 => exact sa_pickF (.tmp 41) (.const _) (.tmp 55) 56 (.val (.bool false)) rfl rfl rfl (.nw 41 hz) (.nw 55 hz) rfl
  case e =>
  intro ac wz hA hgr hv
  exact hend ac wz hA (hw hv hz 56) hgr
theorem r73_11e (hz : a0.tmps.size = 74) (a b : Nat) (h2 : a = b) (g of n cap k i : Nat) (x y : Int) (hk : k < n) (hi : i < n) (hX : ∀ z, Gr w z → z.cell? ⟨g, of + k, none⟩ = some (.int .i64 x)) (hY : ∀ z, Gr w z → z.cell? ⟨g, of + i, none⟩ = some (.int .i64 y)) (e9 : a0.eval (.tmp 9) = .int .i64 (a : Int)) (e10 : a0.eval (.tmp 10) = .int .i64 (b : Int)) (e1 : a0.eval (.tmp 1) = .slice (some ⟨g, of, none⟩) n cap) (e8 : a0.eval (.tmp 8) = .int .i64 (k : Int)) (e6 : a0.eval (.tmp 6) = .int .i64 (i : Int)) (hend : ∀ ac wz, After [38, 39, 40, 41, 42, 43, 44, 45, 46, 47, 48, 49, 50, 51, 52, 53, 54, 55, 56] a0 ac → ac.eval (.tmp 56) = .bool (decide (x < y)) → Gr w wz → Q .normal ac wz) : RW 11 q73_11 true Q a0 w := by
  refine drawn_by (by kernel_rfl) (by kernel_rfl) (by kernel_rfl) [38, 39, 40, 41, 42, 43, 44, 45, 46, 47, 48, 49, 50, 51, 52, 53, 54, 55, 56] (fun | 38 => .val (.int .i64 (a : Int)) | 39 => .val (.int .i64 (b : Int)) | 40 => .val (.bool false) | 41 => .val (.bool false) | 42 => .val (.int .i64 (a : Int)) | 43 => .val (.int .i64 (b : Int)) | 44 => .val (.bool true) | 45 => .val (.bool true) | 46 => .val (.slice (some ⟨g, of, none⟩) n cap) | 47 => .val (.int .i64 (k : Int)) | 48 => .val (.pointer (some ⟨g, of + k, none⟩)) | 49 => .val (.int .i64 x) | 50 => .val (.slice (some ⟨g, of, none⟩) n cap) | 51 => .val (.int .i64 (i : Int)) | 52 => .val (.pointer (some ⟨g, of + i, none⟩)) | 53 => .val (.int .i64 y) | 54 => .val (.bool (decide (x < y))) | 55 => .val (.bool (decide (x < y))) | 56 => .val (.bool (decide (x < y))) | _ => .any) (by kernel_rfl) (fmc ⟨?s0, fmc ⟨?s1, fmc ⟨?s2, fmc ⟨?s3, fmc ⟨?s4, fmc ⟨?s5, fmc ⟨?s6, fmc ⟨?s7, fmc ⟨?s8, fmc ⟨?s9, fmc ⟨?s10, fmc ⟨?s11, fmc ⟨?s12, fmc ⟨?s13, fmc ⟨?s14, fmc ⟨?s15, fmc ⟨?s16, fmc ⟨?s17, fmc ⟨?s18, fun o ho => nomatch ho⟩⟩⟩⟩⟩⟩⟩⟩⟩⟩⟩⟩⟩⟩⟩⟩⟩⟩⟩) ?e
  case s0 => exact sa_mo 9 38 e9
  case s1 => exact sa_mo 10 39 e10
  case s2 => exact sa_bin .gtr 3 (.tmp 38) (.tmp 39) 3 40 (.int .i64 (a : Int)) (.int .i64 (b : Int)) (.bool false) rfl rfl rfl (.nw 38 hz) (.nw 39 hz) guard_int (bin_gtr (decide_eq_false (by omega))) rfl
  case s3 => exact sa_mw 40 41 hz
  case s4 => exact sa_gf 3 41 hz (sa_mo 9 42 e9)
  case s5 => exact sa_gf 3 41 hz (sa_mo 10 43 e10)
  case s6 => exact sa_gf 3 41 hz (sa_bin .eql 3 (.tmp 42) (.tmp 43) 3 44 (.int .i64 (a : Int)) (.int .i64 (b : Int)) (.bool true) rfl rfl rfl (.nw 42 hz) (.nw 43 hz) guard_int (bin_eql (decide_eq_true (by omega))) rfl)
  case s7 => exact sa_gf 3 41 hz (sa_mw 44 45 hz)
  case s8 => exact sa_gd 7 45 hz (sa_mo 1 46 e1)
  case s9 => exact sa_gd 7 45 hz (sa_mo 8 47 e8)
  case s10 => exact sa_gd 7 45 hz (sa_ixa 30 (.tmp 46) (.tmp 47) 48 (.slice (some ⟨g, of, none⟩) n cap) (.int .i64 (k : Int)) (.pointer (some ⟨g, of + k, none⟩)) rfl rfl rfl (.nw 46 hz) (.nw 47 hz) (ix_slice (sz := 1) Tryz.underlying30 (by intro w; kernel_rfl) (by omega) (by omega)) rfl)
  case s11 => exact sa_gd 7 45 hz (sa_loadc 3 (.tmp 48) 49 (g) (of + k) (.int .i64 x) rfl rfl rfl (by intro w; kernel_rfl) (.nw 48 hz) hX rfl)
  case s12 => exact sa_gd 7 45 hz (sa_mo 1 50 e1)
  case s13 => exact sa_gd 7 45 hz (sa_mo 6 51 e6)
  case s14 => exact sa_gd 7 45 hz (sa_ixa 30 (.tmp 50) (.tmp 51) 52 (.slice (some ⟨g, of, none⟩) n cap) (.int .i64 (i : Int)) (.pointer (some ⟨g, of + i, none⟩)) rfl rfl rfl (.nw 50 hz) (.nw 51 hz) (ix_slice (sz := 1) Tryz.underlying30 (by intro w; kernel_rfl) (by omega) (by omega)) rfl)
  case s15 => exact sa_gd 7 45 hz (sa_loadc 3 (.tmp 52) 53 (g) (of + i) (.int .i64 y) rfl rfl rfl (by intro w; kernel_rfl) (.nw 52 hz) hY rfl)
  case s16 => exact sa_gd 7 45 hz (sa_bin .lss 3 (.tmp 49) (.tmp 53) 3 54 (.int .i64 x) (.int .i64 y) (.bool (decide (x < y))) rfl rfl rfl (.nw 49 hz) (.nw 53 hz) guard_int (bin_lss rfl) rfl)
  case s17 => exact sa_gf 3 41 hz (sa_pick (.tmp 45) (.tmp 54) (.const _) 55 (.val (.bool (decide (x < y)))) rfl rfl rfl (.nw 45 hz) (.nw 54 hz) rfl)
  case s18 => exact sa_pickF (.tmp 41) (.const _) (.tmp 55) 56 (.val (.bool (decide (x < y)))) rfl rfl rfl (.nw 41 hz) (.nw 55 hz) rfl
  case e =>
  intro ac wz hA hgr hv
  exact hend ac wz hA (hw hv hz 56) hgr
theorem r73_13 (hz : a0.tmps.size = 74) (n cap q : Nat) (ad : Option Addr) (hn : 0 < n) (hq : 8 / n = q) (e1 : a0.eval (.tmp 1) = .slice ad n cap) (hend : ∀ ac wz, After [59, 60, 61, 11] a0 ac → ac.eval (.tmp 11) = .int .i64 (q : Int) → Gr w wz → Q .normal ac wz) : RW 13 q73_13 false Q a0 w := by
  refine seq_by (by kernel_rfl) 4 (by decide) [59, 60, 61, 11] (fun | 59 => .val (.slice ad n cap) | 60 => .val (.int .i64 (n : Int)) | 61 => .val (.int .i64 (q : Int)) | 11 => .val (.int .i64 (q : Int)) | _ => .any) (by kernel_rfl) (fmc ⟨?s0, fmc ⟨?s1, fmc ⟨?s2, fmc ⟨?s3, fun o ho => nomatch ho⟩⟩⟩⟩) ?e
  case s0 => exact sa_mo 1 59 e1
  case s1 => exact sa_len 30 (.tmp 59) 60 (.slice ad n cap) (.int .i64 (n : Int)) rfl rfl rfl (.nw 59 hz) (by intro w; kernel_rfl) rfl
  case s2 => exact sa_bin .quo 3 (.const _) (.tmp 60) 3 61 (.int .i64 8) (.int .i64 (n : Int)) (.int .i64 (q : Int)) rfl rfl rfl (.const _) (.nw 60 hz) guard_int (bin_quo (by omega) (by rw [← hq]; exact tdiv_nat 8 n)) rfl
  case s3 => exact sa_move (.tmp 61) 11 (.val (.int .i64 (q : Int))) (.inr rfl) rfl rfl (.nw 61 hz) rfl
  case e =>
  intro ac wz hA hgr hv
  exact wl_end (hend ac wz hA (hw hv hz 11) hgr)
theorem r73_14 (hz : a0.tmps.size = 74) (n cap k q : Nat) (ad : Option Addr) (hn : 0 < n) (hq : 8 % n = q) (e7 : a0.eval (.tmp 7) = .int .i64 (k : Int)) (e1 : a0.eval (.tmp 1) = .slice ad n cap) (hend : ∀ ac wz, After [62, 63, 64, 65, 66] a0 ac → ac.eval (.tmp 66) = .bool (decide ((k : Int) < (q : Int))) → Gr w wz → Q .normal ac wz) : RW 14 q73_14 false Q a0 w := by
  refine seq_by (by kernel_rfl) 5 (by decide) [62, 63, 64, 65, 66] (fun | 62 => .val (.int .i64 (k : Int)) | 63 => .val (.slice ad n cap) | 64 => .val (.int .i64 (n : Int)) | 65 => .val (.int .i64 (q : Int)) | 66 => .val (.bool (decide ((k : Int) < (q : Int)))) | _ => .any) (by kernel_rfl) (fmc ⟨?s0, fmc ⟨?s1, fmc ⟨?s2, fmc ⟨?s3, fmc ⟨?s4, fun o ho => nomatch ho⟩⟩⟩⟩⟩) ?e
  case s0 => exact sa_mo 7 62 e7
  case s1 => exact sa_mo 1 63 e1
  case s2 => exact sa_len 30 (.tmp 63) 64 (.slice ad n cap) (.int .i64 (n : Int)) rfl rfl rfl (.nw 63 hz) (by intro w; kernel_rfl) rfl
  case s3 => exact sa_bin .rem 3 (.const _) (.tmp 64) 3 65 (.int .i64 8) (.int .i64 (n : Int)) (.int .i64 (q : Int)) rfl rfl rfl (.const _) (.nw 64 hz) guard_int (bin_rem (by omega) (by rw [← hq]; exact tmod_nat 8 n)) rfl
  case s4 => exact sa_bin .lss 3 (.tmp 62) (.tmp 65) 3 66 (.int .i64 (k : Int)) (.int .i64 (q : Int)) (.bool (decide ((k : Int) < (q : Int)))) rfl rfl rfl (.nw 62 hz) (.nw 65 hz) guard_int (bin_lss rfl) rfl
  case e =>
  intro ac wz hA hgr hv
  exact wl_end (hend ac wz hA (hw hv hz 66) hgr)
theorem r73_16 (hz : a0.tmps.size = 74) (v5 : Value) (x M : Nat) (L : List Int) (hown : w.ownsRow M 3 1 v5 L.length (intV L)) (hb : L.length + 1 ≤ 17592186043904) (hM : M ≤ w.heap.size) (e5 : a0.eval (.tmp 5) = v5) (e11 : a0.eval (.tmp 11) = .int .i64 (x : Int)) (hend : ∀ ac wz v, After (5 :: 72 :: [69, 70, 71]) a0 ac → ac.eval (.tmp 5) = v → wz.ownsRow M 3 1 v (L ++ [(x : Int)]).length (intV (L ++ [(x : Int)])) → Below M w wz → Q .normal ac wz) : RW 16 q73_16 false Q a0 w := by
  refine seq_by (by kernel_rfl) 3 (by decide) [69, 70, 71] (fun | 69 => .val (v5) | 70 => .val (.int .i64 (x : Int)) | 71 => oneF (x : Int) | _ => .any) (by kernel_rfl) (fmc ⟨?s0, fmc ⟨?s1, fmc ⟨?s2, fun o ho => nomatch ho⟩⟩⟩) ?e
  case s0 => exact sa_mo 5 69 e5
  case s1 => exact sa_mo 11 70 e11
  case s2 => exact sa_bs1 30 1 (.tmp 70) 71 (.int .i64 (x : Int)) rfl rfl rfl (.nw 70 hz) (bs24 (x : Int))
  case e =>
  intro ac wz hA hgr hv
  have o69 : ac.eval (.tmp 69) = v5 := hw hv hz 69
  have o71 := hw hv hz 71
  refine wpl_app rfl (.tmp 69) (.tmp 71) rfl M v5 L [(x : Int)] (owns_gr hown hgr) o69 _ _ rfl (oneF_ints o71) hb (Nat.le_trans hM hgr.size) ?_
  intro v3 w3 own3 b3
  refine wl_of rfl (op_move (.tmp 72) (.inr rfl) (wl_end ?_))
  exact hend _ w3 v3 ((hA.put 72 _).put 5 _) ((ev_put (by rw [put_size, hA.size, hz]; decide)).trans ((if_pos rfl).trans ((ev_put (by rw [hA.size, hz]; decide)).trans (if_pos rfl)))) own3 ((hgr.mono hM).trans b3)
theorem r73_17 (hz : a0.tmps.size = 74) (v5 : Value) (e5 : a0.eval (.tmp 5) = v5) (hend : ∀ ac wz, After [73, 4] a0 ac → ac.eval (.tmp 4) = v5 → Gr w wz → Q .normal ac wz) : RW 17 q73_17 false Q a0 w := by
  refine seq_by (by kernel_rfl) 2 (by decide) [73, 4] (fun | 73 => .val (v5) | 4 => .val (v5) | _ => .any) (by kernel_rfl) (fmc ⟨?s0, fmc ⟨?s1, fun o ho => nomatch ho⟩⟩) ?e
  case s0 => exact sa_mo 5 73 e5
  case s1 => exact sa_move (.tmp 73) 4 (.val (v5)) (.inr rfl) rfl rfl (.nw 73 hz) rfl
  case e =>
  intro ac wz hA hgr hv
  exact wl_end (hend ac wz hA (hw hv hz 4) hgr)
def c73_ri : Code := (((Code.region 7 q73_7 false).seq (Code.cond (.tmp 21) Code.skip (Code.exit 2))).seq ((Code.block 3 ((Code.region 9 q73_9 true).seq ((Code.region 10 q73_10 true).seq ((Code.region 11 q73_11 true).seq (Code.cond (.tmp 56) (Code.region 12 q73_12 false) Code.skip))))).seq (Code.region 8 q73_8 false)))
def c73_li : Code := (Code.block 2 (c73_ri.loop))
def c73_fin : Code := ((Code.region 13 q73_13 false).seq (((Code.region 14 q73_14 false).seq (Code.cond (.tmp 66) (Code.region 15 q73_15 false) Code.skip)).seq (Code.region 16 q73_16 false)))
def c73_b1 : Code := (Code.block 1 ((Code.region 5 q73_5 false).seq (((Code.region 6 q73_6 false).seq c73_li).seq c73_fin)))
def c73_ra : Code := (((Code.region 3 q73_3 false).seq (Code.cond (.tmp 15) Code.skip (Code.exit 0))).seq (c73_b1.seq (Code.region 4 q73_4 false)))
def c73_la : Code := (Code.block 0 (c73_ra.loop))
def c73 : Code := ((Code.region 0 q73_0 false).seq ((Code.region 1 q73_1 false).seq (((Code.region 2 q73_2 false).seq c73_la).seq ((Code.region 17 q73_17 false).seq Code.ret))))
theorem own_tally {M o : List Int} (hM : M.Pairwise (· < ·)) (hp : ∀ x ∈ M, 0 < x) (ho : o.length = 8) (k : Nat) (hk : k < M.length) : (tallyI M.length (o.map (findI M))).getD k 0 = ((ownedL o (M.getD k 0)).length : Int) := by
  have h1 : (tallyI M.length (o.map (findI M))).getD k 0 = ((o.map (findI M)).count (some k) : Int) := by
    unfold tallyI
    rw [List.getD_eq_getElem?_getD, List.getElem?_map, List.getElem?_range hk]; rfl
  have hpos : 0 < M.getD k 0 := hp _ (by rw [List.getD_eq_getElem?_getD, List.getElem?_eq_getElem hk]; exact List.getElem_mem hk)
  rw [h1]
  congr 1
  rw [List.count_eq_countP, List.countP_map]
  unfold ownedL ownedTo
  rw [List.length_map, ← List.countP_eq_length_filter]
  have h2 := countP_range_eq o (fun z => decide (z = M.getD k 0))
  rw [ho] at h2
  have e1 : (List.range 8).countP (fun i => decide (o.getD i 0 = M.getD k 0 ∧ 0 < M.getD k 0)) = (List.range 8).countP (fun j => decide (o.getD j 0 = M.getD k 0)) := by
    congr 1
    funext i
    rw [decide_eq_decide]
    exact ⟨fun q => q.1, fun q => ⟨q, hpos⟩⟩
  rw [e1, h2]
  congr 1
  funext y
  show (findI M y == some k) = decide (y = M.getD k 0)
  have h3 := find_iff hM k hk y
  by_cases q : M.getD k 0 = y
  · rw [h3.2 q, decide_eq_true q.symm]; simp
  · have : ¬ findI M y = some k := fun e => q (h3.1 e)
    rw [decide_eq_false (fun e => q e.symm)]
    simpa using this
def shTo (t : List Int) (i : Nat) : List Int := (List.range i).map fun j => quotaI t.length (rankI t j)
theorem shTo_succ (t : List Int) (i : Nat) : shTo t (i + 1) = shTo t i ++ [quotaI t.length (rankI t i)] := by
  unfold shTo
  rw [List.range_succ, List.map_append]; rfl
theorem shTo_len (t : List Int) (i : Nat) : (shTo t i).length = i := by simp [shTo]
theorem shTo_all (t : List Int) : shTo t t.length = shareI t := rfl
def rkTo (t : List Int) (i k : Nat) : Nat := (List.range k).countP fun j => aheadB t j i
theorem rkTo_succ (t : List Int) (i k : Nat) : rkTo t i (k + 1) = rkTo t i k + if aheadB t k i = true then 1 else 0 := by
  unfold rkTo
  rw [List.range_succ, List.countP_append]
  by_cases h : aheadB t k i = true <;> simp [h]
theorem rkTo_le (t : List Int) (i k : Nat) : rkTo t i k ≤ k := by
  unfold rkTo
  exact Nat.le_trans List.countP_le_length (by simp)
structure Qs (w : World) (b : Nat) (v1 : Value) (o : List Int) (ac : Act) (x : World) : Prop where
  z : ac.tmps.size = 74
  df : ac.defers = []
  e1 : ac.eval (.tmp 1) = v1
  e2 : ac.eval (.tmp 2) = .pointer (some ⟨b, 0, none⟩)
  bl : Below b w x
  h2 : Holds x b (intV o) 43
theorem Qs.next {w x y : World} {b M : Nat} {v1 : Value} {o : List Int} {ac ad : Act} {D : List Nat} (h : Qs w b v1 o ac x) (hA : After D ac ad) (hD : (D.all fun s => decide (3 ≤ s)) = true) (hb : Below M x y) (hM : b < M) : Qs w b v1 o ad y :=
  ⟨hA.size.trans h.z, hA.defers.trans h.df, hA.keep hD (by omega) h.e1, hA.keep hD (by omega) h.e2, h.bl.trans (hb.mono (by omega)), h.h2.below hb hM⟩
theorem Qs.gr {w x y : World} {b : Nat} {v1 : Value} {o : List Int} {ac ad : Act} {D : List Nat} (h : Qs w b v1 o ac x) (hA : After D ac ad) (hD : (D.all fun s => decide (3 ≤ s)) = true) (g : Gr x y) : Qs w b v1 o ad y := h.next hA hD g h.h2.lt
theorem own_len (o : List Int) (ho : o.length = 8) (node : Int) (y : World) : Calls Tryz.prog 45 #[.agg (intV o).toArray, .int .i64 node] y fun e z => ∃ u, e = .returned u ∧ Gr y z ∧ (lenF (ownedL o node).length).holds u z :=
  (rowned_any o ho node y).mono fun e z ⟨v, p1, p2, p3⟩ => by
    obtain ⟨a, c, e⟩ := row_slice p2
    exact ⟨v, p1, p3, a, c, e⟩
theorem quot_li {Q : Exit → Act → World → Prop} {w x : World} {b : Nat} {v1 : Value} {o M : List Int} {ac : Act} {i : Nat} (h : Qs w b v1 o ac x) (ho : o.length = 8) (hI : Ints b w v1 M) (hM : M.Pairwise (· < ·)) (hp : ∀ x ∈ M, 0 < x) (hl : M.length ≤ 17592186043904) (hi : i < M.length) (e6 : ac.eval (.tmp 6) = .int .i64 (i : Int)) (e7 : ac.eval (.tmp 7) = .int .i64 ((0 : Nat) : Int)) (e8 : ac.eval (.tmp 8) = .int .i64 ((0 : Nat) : Int)) (v5 : Value) (e5 : ac.eval (.tmp 5) = v5)
    (hend : ∀ ad y, Qs w b v1 o ad y → Gr x y → ad.eval (.tmp 6) = .int .i64 (i : Int) → ad.eval (.tmp 5) = v5 → ad.eval (.tmp 7) = .int .i64 ((rkTo (tallyI M.length (o.map (findI M))) i M.length : Nat) : Int) → Q .normal ad y) : c73_li.wp Tryz.prog Q ac x := by
  obtain ⟨a1, cap1, hv1⟩ := hI.len
  unfold c73_li
  refine wp_block ?_
  refine wp_loop (fun ad y => ∃ k : Nat, Qs w b v1 o ad y ∧ Gr x y ∧ k ≤ M.length ∧ ad.eval (.tmp 8) = .int .i64 (k : Int) ∧ ad.eval (.tmp 6) = .int .i64 (i : Int) ∧ ad.eval (.tmp 5) = v5 ∧ ad.eval (.tmp 7) = .int .i64 ((rkTo (tallyI M.length (o.map (findI M))) i k : Nat) : Int)) (fun ad _ => M.length - (intOf (ad.eval (.tmp 8))).toNat)
    ⟨0, h, Gr.refl _, Nat.zero_le _, e8, e6, e5, e7⟩ (fun a0 x0 ⟨k, h0, G0, hk, f8, f6, f5, f7⟩ => ?_)
  unfold c73_ri
  refine wp_seq (wp_seq (r73_7 h0.z k M.length cap1 a1 f8 (by rw [h0.e1, hv1]) (fun a2 x2 A2 o2 G2 => ?_)))
  have h2 := h0.gr A2 (by decide) G2
  have g5 := A2.get f5 (by decide)
  have g6 := A2.get f6 (by decide)
  have g7 := A2.get f7 (by decide)
  have g8 := A2.get f8 (by decide)
  show Code.wp Tryz.prog (Code.cond _ _ _) _ a2 x2
  refine wp_cond_split o2 (fun q => ?_) (fun q => ?_)
  · have q : (k : Int) < (M.length : Int) := of_decide_eq_true q
    have hkl : k < M.length := by omega
    obtain ⟨g, of, cap, hv, hgb, hck⟩ := ints_at hI k hkl
    have hci : w.cell? ⟨g, of + i, none⟩ = some (.int .i64 (M.getD i 0)) := by
      obtain ⟨g', of', cap', hv', _, hc'⟩ := ints_at hI i hi
      rw [hv] at hv'
      cases hv'
      exact hc'
    have cK : ∀ {y : World} {ad : Act}, Qs w b v1 o ad y → ∀ z, Gr y z → z.cell? ⟨g, of + k, none⟩ = some (.int .i64 (M.getD k 0)) := fun hq z hz => cell_below (hq.bl.trans (hz.mono (Nat.le_of_lt hq.h2.lt))) hgb hck
    have cI : ∀ {y : World} {ad : Act}, Qs w b v1 o ad y → ∀ z, Gr y z → z.cell? ⟨g, of + i, none⟩ = some (.int .i64 (M.getD i 0)) := fun hq z hz => cell_below (hq.bl.trans (hz.mono (Nat.le_of_lt hq.h2.lt))) hgb hci
    have tk := own_tally hM hp ho k hkl
    have ti := own_tally hM hp ho i hi
    have hol : (intV o).length = 8 := by rw [intV_len, ho]
    have rs := rkTo_succ (tallyI M.length (o.map (findI M))) i k
    have rl := rkTo_le (tallyI M.length (o.map (findI M))) i k
    have ha := aheadB_iff (tallyI M.length (o.map (findI M))) k i
    rw [tk, ti] at ha
    obtain ⟨ca, hca⟩ : ∃ ca, (ownedL o (M.getD k 0)).length = ca := ⟨_, rfl⟩
    obtain ⟨cb, hcb⟩ : ∃ cb, (ownedL o (M.getD i 0)).length = cb := ⟨_, rfl⟩
    rw [hca, hcb] at ha
    have hki : M.getD k 0 < M.getD i 0 ↔ k < i := by
      constructor
      · intro q1
        rcases Nat.lt_trichotomy k i with q2 | q2 | q2
        · exact q2
        · subst q2; omega
        · have := rise_getD hM q2 hkl; omega
      · intro q1; exact rise_getD hM q1 hi
    have fin : ∀ a6 x6, Qs w b v1 o a6 x6 → Gr x x6 → a6.eval (.tmp 8) = .int .i64 (k : Int) → a6.eval (.tmp 6) = .int .i64 (i : Int) → a6.eval (.tmp 5) = v5 → a6.eval (.tmp 7) = .int .i64 ((rkTo (tallyI M.length (o.map (findI M))) i (k + 1) : Nat) : Int) → (Code.region 8 q73_8 false).wp Tryz.prog (Exit.then (fun a' w' => (∃ k : Nat, Qs w b v1 o a' w' ∧ Gr x w' ∧ k ≤ M.length ∧ a'.eval (.tmp 8) = .int .i64 (k : Int) ∧ a'.eval (.tmp 6) = .int .i64 (i : Int) ∧ a'.eval (.tmp 5) = v5 ∧ a'.eval (.tmp 7) = .int .i64 ((rkTo (tallyI M.length (o.map (findI M))) i k : Nat) : Int)) ∧ M.length - (intOf (a'.eval (.tmp 8))).toNat < M.length - (intOf (a0.eval (.tmp 8))).toNat) (Exit.inBlock 2 Q)) a6 x6 := fun a6 x6 h6 G6 m8 m6 m5 m7 => by
      refine r73_8 h6.z k (by omega) m8 (fun a7 x7 A7 o7 G7 => ?_)
      refine ⟨⟨k + 1, h6.gr A7 (by decide) G7, G6.trans G7, by omega, o7, A7.get m6 (by decide), A7.get m5 (by decide), A7.get m7 (by decide)⟩, ?_⟩
      rw [o7, f8]
      simp only [intOf]
      omega
    refine wp_skip ?_
    show Code.wp Tryz.prog (Code.seq _ _) _ a2 x2
    refine wp_seq (wp_block ?_)
    refine wp_seq (r73_9 h2.z b g of M.length cap k ca _ o hol h2.h2 hkl (cK h2) (fun y _ => by have := own_len o ho (M.getD k 0) y; rw [hca] at this; exact this) h2.e2 (by rw [h2.e1, hv]) g8 (fun a3 x3 A3 o9 G3 => ?_))
    have h3 := h2.gr A3 (by decide) G3
    show Code.wp Tryz.prog (Code.seq _ _) _ a3 x3
    refine wp_seq (r73_10 h3.z b g of M.length cap i cb _ o hol h3.h2 hi (cI h3) (fun y _ => by have := own_len o ho (M.getD i 0) y; rw [hcb] at this; exact this) h3.e2 (by rw [h3.e1, hv]) (A3.get g6 (by decide)) (fun a4 x4 A4 o10 G4 => ?_))
    have h4 := h3.gr A4 (by decide) G4
    have k5 := A4.get (A3.get g5 (by decide)) (by decide)
    have k6 := A4.get (A3.get g6 (by decide)) (by decide)
    have k7 := A4.get (A3.get g7 (by decide)) (by decide)
    have k8 := A4.get (A3.get g8 (by decide)) (by decide)
    have k9 := A4.get o9 (by decide)
    have G24 := G0.trans (G2.trans (G3.trans G4))
    -- behind the test
    have tst : ∀ a5 x5 D (bb : Bool), After D a4 a5 → (D.all fun s => decide (11 ≤ s)) = true → Gr x4 x5 → a5.eval (.tmp 56) = .bool bb → bb = aheadB (tallyI M.length (o.map (findI M))) k i → (Code.cond (Operand.tmp 56) (Code.region 12 q73_12 false) Code.skip).wp Tryz.prog (Exit.inBlock 3 (Exit.then ((Code.region 8 q73_8 false).wp Tryz.prog (Exit.then (fun a' w' => (∃ k : Nat, Qs w b v1 o a' w' ∧ Gr x w' ∧ k ≤ M.length ∧ a'.eval (.tmp 8) = .int .i64 (k : Int) ∧ a'.eval (.tmp 6) = .int .i64 (i : Int) ∧ a'.eval (.tmp 5) = v5 ∧ a'.eval (.tmp 7) = .int .i64 ((rkTo (tallyI M.length (o.map (findI M))) i k : Nat) : Int)) ∧ M.length - (intOf (a'.eval (.tmp 8))).toNat < M.length - (intOf (a0.eval (.tmp 8))).toNat) (Exit.inBlock 2 Q))) (Exit.then (fun a' w' => (∃ k : Nat, Qs w b v1 o a' w' ∧ Gr x w' ∧ k ≤ M.length ∧ a'.eval (.tmp 8) = .int .i64 (k : Int) ∧ a'.eval (.tmp 6) = .int .i64 (i : Int) ∧ a'.eval (.tmp 5) = v5 ∧ a'.eval (.tmp 7) = .int .i64 ((rkTo (tallyI M.length (o.map (findI M))) i k : Nat) : Int)) ∧ M.length - (intOf (a'.eval (.tmp 8))).toNat < M.length - (intOf (a0.eval (.tmp 8))).toNat) (Exit.inBlock 2 Q)))) a5 x5 := fun a5 x5 D bb A5 hD5 G5 o56 hbb => by
      have hD3 : (D.all fun s => decide (3 ≤ s)) = true := List.all_eq_true.2 fun s hs => by have := List.all_eq_true.1 hD5 s hs; simp at this ⊢; omega
      have h5 := h4.gr A5 hD3 G5
      refine wp_cond_split o56 (fun qb => ?_) (fun qb => ?_)
      · rw [qb] at hbb
        rw [if_pos hbb.symm] at rs
        refine r73_12 h5.z _ (by omega) (A5.keep hD5 (by omega) k7) (fun a6 x6 A6 o6 G6 => ?_)
        exact fin a6 x6 (h5.gr A6 (by decide) G6) (G24.trans (G5.trans G6)) (A6.get (A5.keep hD5 (by omega) k8) (by decide)) (A6.get (A5.keep hD5 (by omega) k6) (by decide)) (A6.get (A5.keep hD5 (by omega) k5) (by decide)) (by rw [rs]; exact o6)
      · rw [qb] at hbb
        rw [if_neg (by rw [← hbb]; decide), Nat.add_zero] at rs
        refine wp_skip ?_
        exact fin a5 x5 h5 (G24.trans G5) (A5.keep hD5 (by omega) k8) (A5.keep hD5 (by omega) k6) (A5.keep hD5 (by omega) k5) (by rw [rs]; exact A5.keep hD5 (by omega) k7)
    show Code.wp Tryz.prog (Code.seq _ _) _ a4 x4
    by_cases c1 : cb < ca
    · refine wp_seq (r73_11g h4.z ca cb c1 k9 o10 (fun a5 x5 A5 o56 G5 => ?_))
      exact tst a5 x5 _ true A5 (by decide) G5 o56 (ha.2 (.inl (by omega))).symm
    · by_cases c2 : ca = cb
      · refine wp_seq (r73_11e h4.z ca cb c2 g of M.length cap k i _ _ hkl hi (cK h4) (cI h4) k9 o10 (by rw [h4.e1, hv]) k8 k6 (fun a5 x5 A5 o56 G5 => ?_))
        refine tst a5 x5 _ _ A5 (by decide) G5 o56 ?_
        by_cases c3 : k < i
        · rw [decide_eq_true (hki.2 c3), ha.2 (.inr ⟨by omega, c3⟩)]
        · rw [decide_eq_false (fun q1 => c3 (hki.1 q1))]
          cases hb : aheadB (tallyI M.length (o.map (findI M))) k i with
          | false => rfl
          | true => rcases ha.1 hb with q1 | q1 <;> omega
      · refine wp_seq (r73_11n h4.z ca cb c1 c2 k9 o10 (fun a5 x5 A5 o56 G5 => ?_))
        refine tst a5 x5 _ false A5 (by decide) G5 o56 ?_
        cases hb : aheadB (tallyI M.length (o.map (findI M))) k i with
        | false => rfl
        | true => rcases ha.1 hb with q1 | q1 <;> omega
  · have q : ¬ (k : Int) < (M.length : Int) := of_decide_eq_false q
    obtain rfl : k = M.length := by omega
    exact wp_exit (hend a2 x2 h2 (G0.trans G2) g6 g5 g7)
theorem quotas_any (v1 : Value) (o M : List Int) (w : World) (ho : o.length = 8) (hI : Ints w.heap.size w v1 M) (hM : M.Pairwise (· < ·)) (hp : ∀ x ∈ M, 0 < x) (hl : M.length ≤ 17592186043904) :
    Calls Tryz.prog 73 #[.agg (intV o).toArray, v1] w fun e z => ∃ u, e = .returned u ∧ z.ownsRow w.heap.size 3 1 u M.length (intV (shareI (tallyI M.length (o.map (findI M))))) ∧ Gr w z := by
  obtain ⟨b, hwb⟩ : ∃ b, w.heap.size = b := ⟨_, rfl⟩
  rw [hwb] at hI ⊢
  obtain ⟨a1, cap1, hv1⟩ := hI.len
  have htl : (tallyI M.length (o.map (findI M))).length = M.length := tallyI_len _ _
  refine calls_by (c := c73) Tryz.func73 (by kernel_rfl) 74 (by rw [Tryz.ntmps73]; rfl) (fun ac z df hv => ?_)
  have e0 := hv 0 _ rfl
  have e1 := hv 1 _ rfl
  clear hv
  unfold c73
  refine wp_seq (r73_0 z b hwb o e0 (fun a1' x1 A1 o2 N1 => ?_))
  have h1 : Qs w b v1 o a1' x1 := ⟨A1.size.trans z, A1.defers.trans df, A1.get e1 (by decide), o2, N1.below, N1.holds⟩
  show Code.wp Tryz.prog (Code.seq _ _) _ a1' x1
  refine wp_seq (r73_1 h1.z (fun a2 x2 A2 o5 G2 => ?_))
  have h2 := h1.gr A2 (by decide) G2
  show Code.wp Tryz.prog (Code.seq (Code.seq _ c73_la) _) _ a2 x2
  refine wp_seq (wp_seq (r73_2 h2.z (fun a3 x3 A3 o6 G3 => ?_)))
  have h3 := h2.gr A3 (by decide) G3
  show Code.wp Tryz.prog c73_la _ a3 x3
  unfold c73_la
  refine wp_block ?_
  refine wp_loop (fun ad y => ∃ (i : Nat) (v5 : Value), Qs w b v1 o ad y ∧ b + 1 ≤ y.heap.size ∧ i ≤ M.length ∧ ad.eval (.tmp 6) = .int .i64 (i : Int) ∧ ad.eval (.tmp 5) = v5 ∧ y.ownsRow (b + 1) 3 1 v5 (shTo (tallyI M.length (o.map (findI M))) i).length (intV (shTo (tallyI M.length (o.map (findI M))) i))) (fun ad _ => M.length - (intOf (ad.eval (.tmp 6))).toNat)
    ⟨0, _, h3, by have := h3.h2.lt; omega, Nat.zero_le _, o6, A3.get o5 (by decide), World.ownsRow_nil _ _ _ _⟩ (fun a4 x4 ⟨i, v5, h4, hsz4, hi, f6, f5, own4⟩ => ?_)
  unfold c73_ra
  refine wp_seq (wp_seq (r73_3 h4.z i M.length cap1 a1 f6 (by rw [h4.e1, hv1]) (fun a5 x5 A5 o15 G5 => ?_)))
  have h5 := h4.gr A5 (by decide) G5
  show Code.wp Tryz.prog (Code.cond _ _ _) _ a5 x5
  refine wp_cond_split o15 (fun q => ?_) (fun q => ?_)
  · have q : (i : Int) < (M.length : Int) := of_decide_eq_true q
    have hil : i < M.length := by omega
    refine wp_skip ?_
    show Code.wp Tryz.prog (Code.seq c73_b1 _) _ a5 x5
    unfold c73_b1
    refine wp_seq (wp_block ?_)
    refine wp_seq (r73_5 h5.z (fun a6 x6 A6 o7 G6 => ?_))
    have h6 := h5.gr A6 (by decide) G6
    show Code.wp Tryz.prog (Code.seq (Code.seq _ c73_li) c73_fin) _ a6 x6
    refine wp_seq (wp_seq (r73_6 h6.z (fun a7 x7 A7 o8 G7 => ?_)))
    have h7 := h6.gr A7 (by decide) G7
    show Code.wp Tryz.prog c73_li _ a7 x7
    refine quot_li h7 ho hI hM hp hl hil (A7.get (A6.get (A5.get f6 (by decide)) (by decide)) (by decide)) (A7.get o7 (by decide)) o8 v5 (A7.get (A6.get (A5.get f5 (by decide)) (by decide)) (by decide)) (fun a8 x8 h8 G8 m6 m5 m7 => ?_)
    have own8 := owns_gr own4 (G5.trans (G6.trans (G7.trans G8)))
    have hsz8 : b + 1 ≤ x8.heap.size := Nat.le_trans hsz4 (G5.trans (G6.trans (G7.trans G8))).size
    have hrk : rkTo (tallyI M.length (o.map (findI M))) i M.length = rankI (tallyI M.length (o.map (findI M))) i := by
      unfold rkTo rankI
      rw [htl]
    rw [hrk] at m7
    have hss := shTo_succ (tallyI M.length (o.map (findI M))) i
    have hsl := shTo_len (tallyI M.length (o.map (findI M))) i
    rw [htl] at hss
    generalize rankI (tallyI M.length (o.map (findI M))) i = rk at m7 hss
    show Code.wp Tryz.prog c73_fin _ a8 x8
    unfold c73_fin
    refine wp_seq (r73_13 h8.z M.length cap1 (8 / M.length) a1 (by omega) rfl (by rw [h8.e1, hv1]) (fun a9 x9 A9 o11 G9 => ?_))
    have h9 := h8.gr A9 (by decide) G9
    have m5' := A9.get m5 (by decide)
    have m6' := A9.get m6 (by decide)
    have m7' := A9.get m7 (by decide)
    have own9 := owns_gr own8 G9
    -- the quota is appended
    have app : ∀ a11 x11 (qn : Nat), Qs w b v1 o a11 x11 → Gr x9 x11 → a11.eval (.tmp 6) = .int .i64 (i : Int) → a11.eval (.tmp 5) = v5 → a11.eval (.tmp 11) = .int .i64 (qn : Int) → (qn : Int) = quotaI M.length rk → (Code.region 16 q73_16 false).wp Tryz.prog (Exit.inBlock 1 (Exit.then ((Code.region 4 q73_4 false).wp Tryz.prog (Exit.then (fun a' w' => (∃ (i : Nat) (v5 : Value), Qs w b v1 o a' w' ∧ b + 1 ≤ w'.heap.size ∧ i ≤ M.length ∧ a'.eval (.tmp 6) = .int .i64 (i : Int) ∧ a'.eval (.tmp 5) = v5 ∧ w'.ownsRow (b + 1) 3 1 v5 (shTo (tallyI M.length (o.map (findI M))) i).length (intV (shTo (tallyI M.length (o.map (findI M))) i))) ∧ M.length - (intOf (a'.eval (.tmp 6))).toNat < M.length - (intOf (a4.eval (.tmp 6))).toNat) (Exit.inBlock 0 (Exit.then (((Code.region 17 q73_17 false).seq Code.ret).wp Tryz.prog (bodyPost Tryz.prog Tryz.f73 fun e z => ∃ u, e = .returned u ∧ z.ownsRow b 3 1 u M.length (intV (shareI (tallyI M.length (o.map (findI M))))) ∧ Gr w z)) (bodyPost Tryz.prog Tryz.f73 fun e z => ∃ u, e = .returned u ∧ z.ownsRow b 3 1 u M.length (intV (shareI (tallyI M.length (o.map (findI M))))) ∧ Gr w z))))) (Exit.then (fun a' w' => (∃ (i : Nat) (v5 : Value), Qs w b v1 o a' w' ∧ b + 1 ≤ w'.heap.size ∧ i ≤ M.length ∧ a'.eval (.tmp 6) = .int .i64 (i : Int) ∧ a'.eval (.tmp 5) = v5 ∧ w'.ownsRow (b + 1) 3 1 v5 (shTo (tallyI M.length (o.map (findI M))) i).length (intV (shTo (tallyI M.length (o.map (findI M))) i))) ∧ M.length - (intOf (a'.eval (.tmp 6))).toNat < M.length - (intOf (a4.eval (.tmp 6))).toNat) (Exit.inBlock 0 (Exit.then (((Code.region 17 q73_17 false).seq Code.ret).wp Tryz.prog (bodyPost Tryz.prog Tryz.f73 fun e z => ∃ u, e = .returned u ∧ z.ownsRow b 3 1 u M.length (intV (shareI (tallyI M.length (o.map (findI M))))) ∧ Gr w z)) (bodyPost Tryz.prog Tryz.f73 fun e z => ∃ u, e = .returned u ∧ z.ownsRow b 3 1 u M.length (intV (shareI (tallyI M.length (o.map (findI M))))) ∧ Gr w z)))))) a11 x11 := fun a11 x11 qn h11 G11 n6 n5 n11 hqn => by
      have own11 := owns_gr own9 G11
      refine r73_16 h11.z v5 qn (b + 1) _ own11 (by omega) (by have := h11.h2.lt; omega) n5 n11 (fun a12 x12 v12 A12 o12 own12 B12 => ?_)
      have h12 := h11.next A12 (by decide) B12 (by omega)
      show Code.wp Tryz.prog (Code.region 4 q73_4 false) _ a12 x12
      refine r73_4 h12.z i (by omega) (A12.get n6 (by decide)) (fun a13 x13 A13 o13 G13 => ?_)
      refine ⟨⟨i + 1, v12, h12.gr A13 (by decide) G13, by have := (h12.gr A13 (by decide) G13).h2.lt; omega, by omega, o13, A13.get o12 (by decide), ?_⟩, ?_⟩
      · rw [hss, ← hqn]; exact owns_gr own12 G13
      · rw [o13, f6]
        simp only [intOf]
        omega
    show Code.wp Tryz.prog (Code.seq _ _) _ a9 x9
    refine wp_seq (wp_seq (r73_14 h9.z M.length cap1 rk (8 % M.length) a1 (by omega) rfl m7' (by rw [h9.e1, hv1]) (fun a10 x10 A10 o66 G10 => ?_)))
    have h10 := h9.gr A10 (by decide) G10
    show Code.wp Tryz.prog (Code.cond _ _ _) _ a10 x10
    refine wp_cond_split o66 (fun q' => ?_) (fun q' => ?_)
    · have q' : (rk : Int) < ((8 % M.length : Nat) : Int) := of_decide_eq_true q'
      refine r73_15 h10.z (8 / M.length) (Nat.le_trans (Nat.div_le_self _ _) (by omega)) (A10.get o11 (by decide)) (fun a11 x11 A11 o11' G11 => ?_)
      refine app a11 x11 _ (h10.gr A11 (by decide) G11) (G10.trans G11) (A11.get (A10.get m6' (by decide)) (by decide)) (A11.get (A10.get m5' (by decide)) (by decide)) o11' ?_
      unfold quotaI
      rw [if_pos (by omega)]
      rfl
    · have q' : ¬ (rk : Int) < ((8 % M.length : Nat) : Int) := of_decide_eq_false q'
      refine wp_skip ?_
      refine app a10 x10 _ h10 G10 (A10.get m6' (by decide)) (A10.get m5' (by decide)) (A10.get o11 (by decide)) ?_
      unfold quotaI
      rw [if_neg (by omega), Int.add_zero]
      rfl
  · have q : ¬ (i : Int) < (M.length : Int) := of_decide_eq_false q
    obtain rfl : i = M.length := by omega
    refine wp_exit ?_
    show Code.wp Tryz.prog (Code.seq _ Code.ret) _ a5 x5
    refine wp_seq (r73_17 h5.z v5 (A5.get f5 (by decide)) (fun a6 x6 A6 o4 G6 => ?_))
    have h6 := h5.gr A6 (by decide) G6
    have own6 := owns_gr own4 (G5.trans G6)
    rw [shTo_len] at own6
    have e9 : shTo (tallyI M.length (o.map (findI M))) M.length = shareI (tallyI M.length (o.map (findI M))) := by
      have := shTo_all (tallyI M.length (o.map (findI M)))
      rw [htl] at this; exact this
    rw [e9] at own6
    exact wp_ret (bodyPost_ret (results_tmp rfl _ _ _) h6.df ⟨_, congrArg Ending.returned o4, own6.mono (by omega), by unfold Gr; rw [hwb]; exact h6.bl⟩)
end Go.Proofs.YthmnjebmnocoiaaGreat.En

/- The document's own Claim (11): regions and code by tools/gen_rclaim.py. -/
namespace Go.Proofs.YthmnjebmnocoiaaGreat.En
open Go.RowKit
set_option maxRecDepth 100000
variable {Q : Exit → Act → World → Prop} {a0 : Act} {w : World}
def intsF (M : List Int) : Fact := ⟨fun v y => Ints y.heap.size y v M, fun h g => (h.below g).mono g.size⟩
def ownF (B n : Nat) (cs : List Value) : Fact := ⟨fun v y => y.ownsRow B 3 1 v n cs, fun h g => owns_gr h g⟩
theorem sa_callF1 {P : Program} {ops : Array Oper} {Q : Exit → Act → World → Prop} {D : List Nat} {T : Nat → Fact} {a0 : Act} {w : World} {o : Oper} (n : Nat) (u1 : Operand) (tys : Array TypeId) (d : Nat) (v1 : Value) (kf : Fact) (ho : o.op = .call { callee := .value (.func n), args := #[u1], argTypes := tys }) (hd : o.dst = some d) (hg : o.guard = none) (h1 : Has ops D T a0 o u1 (Fact.val v1))
    (he : ∀ args w, (callFunc n args).run P w = .ok (.enter n args) w) (hc : ∀ y, Gr w y → Calls P n #[v1] y fun e z => ∃ u, e = .returned u ∧ Gr y z ∧ kf.holds u z) (hT : T d = kf) : StepAt P ops D T a0 w Q o :=
  sa_call1 n u1 tys d _ ho hd hg h1 he (fun x1 y hy q1 => by rw [show x1 = v1 from q1, hT]; exact hc y hy)
def q44_0 : Array Oper := #[⟨some 2, .box 43 (.tmp 0), 0, "ref.go:132", #[], none⟩, ⟨some 4, .alloc 43, 0, "ref.go:132", #[], none⟩]
def q44_1 : Array Oper := #[⟨some 12, .move (.tmp 1), 30, "ref.go:133", #[], none⟩, ⟨some 13, .call ⟨.value (.func 72), #[.tmp 12], #[30]⟩, 30, "ref.go:133", #[⟨0, .data⟩], none⟩, ⟨some 5, .assign (.tmp 13), 30, "ref.go:133", #[⟨1, .data⟩, ⟨1, .chain⟩, ⟨0, .phase⟩, ⟨1, .phase⟩], none⟩]
def q44_2 : Array Oper := #[⟨some 6, .alloc 43, 0, "ref.go:134", #[], none⟩]
def q44_3 : Array Oper := #[⟨some 14, .move (.tmp 5), 30, "ref.go:135", #[], none⟩, ⟨some 15, .call ⟨.builtin .len, #[.tmp 14], #[30]⟩, 3, "ref.go:135", #[⟨0, .data⟩], none⟩, ⟨some 16, .binOp .eql 3 (.tmp 15) (.const (.int .i64 0)) 3, 4, "ref.go:135", #[⟨1, .data⟩], none⟩]
def q44_4 : Array Oper := #[⟨some 17, .load 43 (.tmp 6), 43, "ref.go:136", #[], none⟩, ⟨none, .store 43 (.tmp 4) (.tmp 17), 0, "ref.go:136", #[⟨0, .data⟩, ⟨0, .phase⟩], none⟩]
def q44_5 : Array Oper := #[⟨some 18, .load 43 (.tmp 2), 43, "ref.go:138", #[], none⟩, ⟨some 19, .move (.tmp 5), 30, "ref.go:138", #[], none⟩, ⟨some 20, .call ⟨.value (.func 73), #[.tmp 18, .tmp 19], #[43, 30]⟩, 30, "ref.go:138", #[⟨0, .data⟩, ⟨1, .data⟩], none⟩, ⟨some 7, .assign (.tmp 20), 30, "ref.go:138", #[⟨2, .data⟩, ⟨2, .chain⟩, ⟨0, .phase⟩, ⟨1, .phase⟩, ⟨2, .phase⟩], none⟩]
def q44_6 : Array Oper := #[⟨some 8, .assign (.const (.int .i64 0)), 3, "ref.go:139", #[], none⟩]
def q44_7 : Array Oper := #[⟨some 21, .move (.tmp 8), 3, "ref.go:139", #[], none⟩, ⟨some 22, .binOp .lss 3 (.tmp 21) (.const (.int .i64 8)) 3, 4, "ref.go:139", #[⟨0, .data⟩], none⟩]
def q44_8 : Array Oper := #[⟨some 23, .move (.tmp 8), 3, "ref.go:139", #[], none⟩, ⟨some 24, .binOp .add 3 (.tmp 23) (.const (.int .i64 1)) 3, 3, "ref.go:139", #[⟨0, .data⟩], none⟩, ⟨some 8, .assign (.tmp 24), 3, "ref.go:139", #[⟨1, .data⟩, ⟨0, .phase⟩, ⟨1, .phase⟩], none⟩]
def q44_9 : Array Oper := #[⟨some 9, .assign (.const (.int .i64 0)), 3, "ref.go:140", #[], none⟩]
def q44_10 : Array Oper := #[⟨some 25, .move (.tmp 9), 3, "ref.go:140", #[], none⟩, ⟨some 26, .move (.tmp 5), 30, "ref.go:140", #[], none⟩, ⟨some 27, .call ⟨.builtin .len, #[.tmp 26], #[30]⟩, 3, "ref.go:140", #[⟨1, .data⟩], none⟩, ⟨some 28, .binOp .lss 3 (.tmp 25) (.tmp 27) 3, 4, "ref.go:140", #[⟨0, .data⟩, ⟨2, .data⟩], none⟩]
def q44_11 : Array Oper := #[⟨some 29, .move (.tmp 9), 3, "ref.go:140", #[], none⟩, ⟨some 30, .binOp .add 3 (.tmp 29) (.const (.int .i64 1)) 3, 3, "ref.go:140", #[⟨0, .data⟩], none⟩, ⟨some 9, .assign (.tmp 30), 3, "ref.go:140", #[⟨1, .data⟩, ⟨0, .phase⟩, ⟨1, .phase⟩], none⟩]
def q44_12 : Array Oper := #[⟨some 31, .move (.tmp 8), 3, "ref.go:141", #[], none⟩, ⟨some 32, .indexAddr 43 (.tmp 2) (.tmp 31), 0, "ref.go:141", #[⟨0, .data⟩], none⟩, ⟨some 33, .load 3 (.tmp 32), 3, "ref.go:141", #[⟨1, .data⟩], none⟩, ⟨some 34, .move (.tmp 5), 30, "ref.go:141", #[], none⟩, ⟨some 35, .move (.tmp 9), 3, "ref.go:141", #[], none⟩, ⟨some 36, .indexAddr 30 (.tmp 34) (.tmp 35), 0, "ref.go:141", #[⟨3, .data⟩, ⟨4, .data⟩], none⟩, ⟨some 37, .load 3 (.tmp 36), 3, "ref.go:141", #[⟨5, .data⟩], none⟩, ⟨some 38, .binOp .eql 3 (.tmp 33) (.tmp 37) 3, 4, "ref.go:141", #[⟨2, .data⟩, ⟨6, .data⟩], none⟩, ⟨some 39, .move (.tmp 38), 4, "ref.go:141", #[⟨7, .data⟩], none⟩, ⟨some 40, .move (.tmp 7), 30, "ref.go:141", #[⟨8, .guard⟩], some (8, true)⟩, ⟨some 41, .move (.tmp 9), 3, "ref.go:141", #[⟨8, .guard⟩], some (8, true)⟩, ⟨some 42, .indexAddr 30 (.tmp 40) (.tmp 41), 0, "ref.go:141", #[⟨9, .data⟩, ⟨10, .data⟩, ⟨8, .guard⟩], some (8, true)⟩, ⟨some 43, .load 3 (.tmp 42), 3, "ref.go:141", #[⟨11, .data⟩, ⟨8, .guard⟩], some (8, true)⟩, ⟨some 44, .binOp .gtr 3 (.tmp 43) (.const (.int .i64 0)) 3, 4, "ref.go:141", #[⟨12, .data⟩, ⟨8, .guard⟩], some (8, true)⟩, ⟨some 45, .pick (.tmp 39) (.tmp 44) (.const (.bool false)), 4, "ref.go:141", #[⟨8, .data⟩, ⟨13, .data⟩], none⟩]
def q44_13 : Array Oper := #[⟨some 46, .move (.tmp 8), 3, "ref.go:142", #[], none⟩, ⟨some 47, .move (.tmp 5), 30, "ref.go:142", #[], none⟩, ⟨some 48, .move (.tmp 9), 3, "ref.go:142", #[], none⟩, ⟨some 49, .indexAddr 30 (.tmp 47) (.tmp 48), 0, "ref.go:142", #[⟨1, .data⟩, ⟨2, .data⟩], none⟩, ⟨some 50, .load 3 (.tmp 49), 3, "ref.go:142", #[⟨3, .data⟩], none⟩, ⟨some 51, .indexAddr 43 (.tmp 6) (.tmp 46), 0, "ref.go:142", #[⟨0, .data⟩, ⟨0, .phase⟩, ⟨1, .phase⟩, ⟨2, .phase⟩, ⟨3, .phase⟩, ⟨4, .phase⟩], none⟩, ⟨none, .store 3 (.tmp 51) (.tmp 50), 0, "ref.go:142", #[⟨5, .data⟩, ⟨4, .data⟩, ⟨0, .phase⟩, ⟨1, .phase⟩, ⟨2, .phase⟩, ⟨3, .phase⟩, ⟨4, .phase⟩], none⟩]
def q44_14 : Array Oper := #[⟨some 52, .move (.tmp 7), 30, "ref.go:143", #[], none⟩, ⟨some 53, .move (.tmp 9), 3, "ref.go:143", #[], none⟩, ⟨some 54, .indexAddr 30 (.tmp 52) (.tmp 53), 0, "ref.go:143", #[⟨0, .data⟩, ⟨1, .data⟩], none⟩, ⟨some 55, .load 3 (.tmp 54), 3, "ref.go:143", #[⟨2, .data⟩], none⟩, ⟨some 56, .binOp .sub 3 (.tmp 55) (.const (.int .i64 1)) 3, 3, "ref.go:143", #[⟨3, .data⟩], none⟩, ⟨some 57, .indexAddr 30 (.tmp 52) (.tmp 53), 0, "ref.go:143", #[⟨0, .data⟩, ⟨1, .data⟩, ⟨0, .phase⟩, ⟨1, .phase⟩, ⟨2, .phase⟩, ⟨3, .phase⟩, ⟨4, .phase⟩], none⟩, ⟨none, .store 3 (.tmp 57) (.tmp 56), 0, "ref.go:143", #[⟨5, .data⟩, ⟨4, .data⟩, ⟨0, .phase⟩, ⟨1, .phase⟩, ⟨2, .phase⟩, ⟨3, .phase⟩, ⟨4, .phase⟩], none⟩]
def q44_15 : Array Oper := #[⟨some 10, .assign (.const (.int .i64 0)), 3, "ref.go:147", #[], none⟩]
def q44_16 : Array Oper := #[⟨some 58, .move (.tmp 10), 3, "ref.go:147", #[], none⟩, ⟨some 59, .binOp .lss 3 (.tmp 58) (.const (.int .i64 8)) 3, 4, "ref.go:147", #[⟨0, .data⟩], none⟩]
def q44_17 : Array Oper := #[⟨some 60, .move (.tmp 10), 3, "ref.go:147", #[], none⟩, ⟨some 61, .binOp .add 3 (.tmp 60) (.const (.int .i64 1)) 3, 3, "ref.go:147", #[⟨0, .data⟩], none⟩, ⟨some 10, .assign (.tmp 61), 3, "ref.go:147", #[⟨1, .data⟩, ⟨0, .phase⟩, ⟨1, .phase⟩], none⟩]
def q44_18 : Array Oper := #[⟨some 11, .assign (.const (.int .i64 0)), 3, "ref.go:148", #[], none⟩]
def q44_19 : Array Oper := #[⟨some 62, .move (.tmp 11), 3, "ref.go:148", #[], none⟩, ⟨some 63, .move (.tmp 5), 30, "ref.go:148", #[], none⟩, ⟨some 64, .call ⟨.builtin .len, #[.tmp 63], #[30]⟩, 3, "ref.go:148", #[⟨1, .data⟩], none⟩, ⟨some 65, .binOp .lss 3 (.tmp 62) (.tmp 64) 3, 4, "ref.go:148", #[⟨0, .data⟩, ⟨2, .data⟩], none⟩, ⟨some 66, .move (.tmp 65), 4, "ref.go:148", #[⟨3, .data⟩], none⟩, ⟨some 67, .move (.tmp 10), 3, "ref.go:148", #[⟨4, .guard⟩], some (4, true)⟩, ⟨some 68, .indexAddr 43 (.tmp 6) (.tmp 67), 0, "ref.go:148", #[⟨5, .data⟩, ⟨4, .guard⟩], some (4, true)⟩, ⟨some 69, .load 3 (.tmp 68), 3, "ref.go:148", #[⟨6, .data⟩, ⟨4, .guard⟩], some (4, true)⟩, ⟨some 70, .binOp .eql 3 (.tmp 69) (.const (.int .i64 0)) 3, 4, "ref.go:148", #[⟨7, .data⟩, ⟨4, .guard⟩], some (4, true)⟩, ⟨some 71, .pick (.tmp 66) (.tmp 70) (.const (.bool false)), 4, "ref.go:148", #[⟨4, .data⟩, ⟨8, .data⟩], none⟩]
def q44_20 : Array Oper := #[⟨some 72, .move (.tmp 11), 3, "ref.go:148", #[], none⟩, ⟨some 73, .binOp .add 3 (.tmp 72) (.const (.int .i64 1)) 3, 3, "ref.go:148", #[⟨0, .data⟩], none⟩, ⟨some 11, .assign (.tmp 73), 3, "ref.go:148", #[⟨1, .data⟩, ⟨0, .phase⟩, ⟨1, .phase⟩], none⟩]
def q44_21 : Array Oper := #[⟨some 74, .move (.tmp 7), 30, "ref.go:149", #[], none⟩, ⟨some 75, .move (.tmp 11), 3, "ref.go:149", #[], none⟩, ⟨some 76, .indexAddr 30 (.tmp 74) (.tmp 75), 0, "ref.go:149", #[⟨0, .data⟩, ⟨1, .data⟩], none⟩, ⟨some 77, .load 3 (.tmp 76), 3, "ref.go:149", #[⟨2, .data⟩], none⟩, ⟨some 78, .binOp .gtr 3 (.tmp 77) (.const (.int .i64 0)) 3, 4, "ref.go:149", #[⟨3, .data⟩], none⟩]
def q44_22 : Array Oper := #[⟨some 79, .move (.tmp 10), 3, "ref.go:150", #[], none⟩, ⟨some 80, .move (.tmp 5), 30, "ref.go:150", #[], none⟩, ⟨some 81, .move (.tmp 11), 3, "ref.go:150", #[], none⟩, ⟨some 82, .indexAddr 30 (.tmp 80) (.tmp 81), 0, "ref.go:150", #[⟨1, .data⟩, ⟨2, .data⟩], none⟩, ⟨some 83, .load 3 (.tmp 82), 3, "ref.go:150", #[⟨3, .data⟩], none⟩, ⟨some 84, .indexAddr 43 (.tmp 6) (.tmp 79), 0, "ref.go:150", #[⟨0, .data⟩, ⟨0, .phase⟩, ⟨1, .phase⟩, ⟨2, .phase⟩, ⟨3, .phase⟩, ⟨4, .phase⟩], none⟩, ⟨none, .store 3 (.tmp 84) (.tmp 83), 0, "ref.go:150", #[⟨5, .data⟩, ⟨4, .data⟩, ⟨0, .phase⟩, ⟨1, .phase⟩, ⟨2, .phase⟩, ⟨3, .phase⟩, ⟨4, .phase⟩], none⟩]
def q44_23 : Array Oper := #[⟨some 85, .move (.tmp 7), 30, "ref.go:151", #[], none⟩, ⟨some 86, .move (.tmp 11), 3, "ref.go:151", #[], none⟩, ⟨some 87, .indexAddr 30 (.tmp 85) (.tmp 86), 0, "ref.go:151", #[⟨0, .data⟩, ⟨1, .data⟩], none⟩, ⟨some 88, .load 3 (.tmp 87), 3, "ref.go:151", #[⟨2, .data⟩], none⟩, ⟨some 89, .binOp .sub 3 (.tmp 88) (.const (.int .i64 1)) 3, 3, "ref.go:151", #[⟨3, .data⟩], none⟩, ⟨some 90, .indexAddr 30 (.tmp 85) (.tmp 86), 0, "ref.go:151", #[⟨0, .data⟩, ⟨1, .data⟩, ⟨0, .phase⟩, ⟨1, .phase⟩, ⟨2, .phase⟩, ⟨3, .phase⟩, ⟨4, .phase⟩], none⟩, ⟨none, .store 3 (.tmp 90) (.tmp 89), 0, "ref.go:151", #[⟨5, .data⟩, ⟨4, .data⟩, ⟨0, .phase⟩, ⟨1, .phase⟩, ⟨2, .phase⟩, ⟨3, .phase⟩, ⟨4, .phase⟩], none⟩]
def q44_24 : Array Oper := #[⟨some 91, .load 43 (.tmp 6), 43, "ref.go:155", #[], none⟩, ⟨none, .store 43 (.tmp 4) (.tmp 91), 0, "ref.go:155", #[⟨0, .data⟩, ⟨0, .phase⟩], none⟩]
theorem r44_0 (hz : a0.tmps.size = 92) (b : Nat) (hb : w.heap.size = b) (ol : List Int) (e0 : a0.eval (.tmp 0) = .agg (intV ol).toArray) (hend : ∀ ac w1 wz, After [4, 2] a0 ac → ac.eval (.tmp 2) = .pointer (some ⟨b, 0, none⟩) → ac.eval (.tmp 4) = .pointer (some ⟨b + 1, 0, none⟩) → Anew b w w1 (intV ol) 43 → Anew (b + 1) w1 wz (intV zl) 43 → Q .normal ac wz) : RW 0 q44_0 false Q a0 w := by
  refine wp_region_list ?_
  refine wpList_box_new 2 rfl rfl 43 (.tmp 0) rfl b hb _ e0 ?_
  intro w1 h1
  refine wpList_alloc_new 4 rfl rfl 43 rfl (b + 1) h1.size _ zero23 ?_
  intro w2 h2
  refine wl_end (hend _ w1 w2 (((After.self a0).put 2 _).put 4 _) ?_ ?_ h1 h2)
  · exact (ev_put (by rw [put_size, hz]; decide)).trans ((if_neg (by decide)).trans ((ev_put (by rw [hz]; decide)).trans (if_pos rfl)))
  · exact (ev_put (by rw [put_size, hz]; decide)).trans (if_pos rfl)
theorem r44_1 (hz : a0.tmps.size = 92) (v1 : Value) (M : List Int) (hC : ∀ y, Gr w y → Calls Tryz.prog 72 #[v1] y fun e z => ∃ u, e = .returned u ∧ Gr y z ∧ (intsF M).holds u z) (e1 : a0.eval (.tmp 1) = v1) (hend : ∀ ac wz, After [12, 13, 5] a0 ac → (intsF M).holds (ac.eval (.tmp 5)) wz → Gr w wz → Q .normal ac wz) : RW 1 q44_1 false Q a0 w := by
  refine seq_by (by kernel_rfl) 3 (by decide) [12, 13, 5] (fun | 12 => .val (v1) | 13 => intsF M | 5 => intsF M | _ => .any) (by kernel_rfl) (fmc ⟨?s0, fmc ⟨?s1, fmc ⟨?s2, fun o ho => nomatch ho⟩⟩⟩) ?e
  case s0 => exact sa_mo 1 12 e1
  case s1 => exact sa_callF1 72 (.tmp 12) _ 13 (v1) (intsF M) rfl rfl rfl (.nw 12 hz) (enters_of Tryz.func72 (by kernel_rfl) rfl) hC rfl
  case s2 => exact sa_move (.tmp 13) 5 (intsF M) (.inr rfl) rfl rfl (.nw 13 hz) rfl
  case e =>
  intro ac wz hA hgr hv
  exact wl_end (hend ac wz hA (hw hv hz 5) hgr)
theorem r44_2 (hz : a0.tmps.size = 92) (b : Nat) (hb : w.heap.size = b) (hend : ∀ ac wz, After [6] a0 ac → ac.eval (.tmp 6) = .pointer (some ⟨b, 0, none⟩) → Anew b w wz (intV zl) 43 → Q .normal ac wz) : RW 2 q44_2 false Q a0 w := by
  refine wp_region_list ?_
  refine wpList_alloc_new 6 rfl rfl 43 rfl b hb _ zero23 ?_
  intro w1 h1
  exact wl_end (hend _ w1 ((After.self a0).put 6 _) ((ev_put (by rw [hz]; decide)).trans (if_pos rfl)) h1)
theorem r44_3 (hz : a0.tmps.size = 92) (n cap : Nat) (ad : Option Addr) (e5 : a0.eval (.tmp 5) = .slice ad n cap) (hend : ∀ ac wz, After [14, 15, 16] a0 ac → ac.eval (.tmp 16) = .bool (decide ((n : Int) = 0)) → Gr w wz → Q .normal ac wz) : RW 3 q44_3 false Q a0 w := by
  refine seq_by (by kernel_rfl) 3 (by decide) [14, 15, 16] (fun | 14 => .val (.slice ad n cap) | 15 => .val (.int .i64 (n : Int)) | 16 => .val (.bool (decide ((n : Int) = 0))) | _ => .any) (by kernel_rfl) (fmc ⟨?s0, fmc ⟨?s1, fmc ⟨?s2, fun o ho => nomatch ho⟩⟩⟩) ?e
  case s0 => exact sa_mo 5 14 e5
  case s1 => exact sa_len 30 (.tmp 14) 15 (.slice ad n cap) (.int .i64 (n : Int)) rfl rfl rfl (.nw 14 hz) (by intro w; kernel_rfl) rfl
  case s2 => exact sa_bin .eql 3 (.tmp 15) (.const _) 3 16 (.int .i64 (n : Int)) (.int .i64 0) (.bool (decide ((n : Int) = 0))) rfl rfl rfl (.nw 15 hz) (.const _) guard_int (bin_eql rfl) rfl
  case e =>
  intro ac wz hA hgr hv
  exact wl_end (hend ac wz hA (hw hv hz 16) hgr)
theorem r44_4 (hz : a0.tmps.size = 92) (b4 b6 : Nat) (ol old : List Int) (hol : (intV ol).length = 8) (hold : (intV old).length = 8) (hHol : Holds w b6 (intV ol) 43) (hH4 : Holds w b4 (intV old) 43) (e6 : a0.eval (.tmp 6) = .pointer (some ⟨b6, 0, none⟩)) (e4 : a0.eval (.tmp 4) = .pointer (some ⟨b4, 0, none⟩)) (hend : ∀ ac wz, After [17] a0 ac → Holds wz b4 (intV ol) 43 → Below b4 w wz → Q .normal ac wz) : RW 4 q44_4 false Q a0 w := by
  refine seq_by (by kernel_rfl) 1 (by decide) [17] (fun | 17 => .val (.agg (intV ol).toArray) | _ => .any) (by kernel_rfl) (fmc ⟨?s0, fun o ho => nomatch ho⟩) ?e
  case s0 => exact sa_row 43 (.tmp 6) 17 b6 (0) 8 _ (intV ol) rfl rfl rfl Tryz.underlying43 rfl siz43 hol (.old 6 _ (by decide) e6) (fun y hy => range_of (hHol.below hy hHol.lt)) rfl
  case e =>
  intro ac wz hA hgr hv
  have o17 : ac.eval (.tmp 17) = .agg (intV ol).toArray := hw hv hz 17
  have o4 : ac.eval (.tmp 4) = .pointer (some ⟨b4, 0, none⟩) := (hA.old 4 (by decide)).trans e4
  refine wpList_store_all rfl 43 (.tmp 4) (.tmp 17) rfl b4 o4 (intV ol) o17 43 _ (hH4.below hgr hH4.lt) (by rw [siz23, hol]) (by rw [hol, hold]) (intV_one _) ?_
  intro w3 h3
  exact wl_end (hend _ w3 hA h3.holds ((hgr.mono (Nat.le_of_lt hH4.lt)).trans (h3.below (Nat.le_refl _))))
theorem r44_24 (hz : a0.tmps.size = 92) (b4 b6 : Nat) (ol old : List Int) (hol : (intV ol).length = 8) (hold : (intV old).length = 8) (hHol : Holds w b6 (intV ol) 43) (hH4 : Holds w b4 (intV old) 43) (e6 : a0.eval (.tmp 6) = .pointer (some ⟨b6, 0, none⟩)) (e4 : a0.eval (.tmp 4) = .pointer (some ⟨b4, 0, none⟩)) (hend : ∀ ac wz, After [91] a0 ac → Holds wz b4 (intV ol) 43 → Below b4 w wz → Q .normal ac wz) : RW 24 q44_24 false Q a0 w := by
  refine seq_by (by kernel_rfl) 1 (by decide) [91] (fun | 91 => .val (.agg (intV ol).toArray) | _ => .any) (by kernel_rfl) (fmc ⟨?s0, fun o ho => nomatch ho⟩) ?e
  case s0 => exact sa_row 43 (.tmp 6) 91 b6 (0) 8 _ (intV ol) rfl rfl rfl Tryz.underlying43 rfl siz43 hol (.old 6 _ (by decide) e6) (fun y hy => range_of (hHol.below hy hHol.lt)) rfl
  case e =>
  intro ac wz hA hgr hv
  have o91 : ac.eval (.tmp 91) = .agg (intV ol).toArray := hw hv hz 91
  have o4 : ac.eval (.tmp 4) = .pointer (some ⟨b4, 0, none⟩) := (hA.old 4 (by decide)).trans e4
  refine wpList_store_all rfl 43 (.tmp 4) (.tmp 91) rfl b4 o4 (intV ol) o91 43 _ (hH4.below hgr hH4.lt) (by rw [siz23, hol]) (by rw [hol, hold]) (intV_one _) ?_
  intro w3 h3
  exact wl_end (hend _ w3 hA h3.holds ((hgr.mono (Nat.le_of_lt hH4.lt)).trans (h3.below (Nat.le_refl _))))
theorem r44_5 (hz : a0.tmps.size = 92) (b : Nat) (v5 : Value) (n : Nat) (cs : List Value) (ol : List Int) (hol : (intV ol).length = 8) (hHol : Holds w b (intV ol) 43) (hC : ∀ y, Gr w y → Calls Tryz.prog 73 #[.agg (intV ol).toArray, v5] y fun e z => ∃ u, e = .returned u ∧ Gr y z ∧ (ownF w.heap.size n cs).holds u z) (e2 : a0.eval (.tmp 2) = .pointer (some ⟨b, 0, none⟩)) (e5 : a0.eval (.tmp 5) = v5) (hend : ∀ ac wz, After [18, 19, 20, 7] a0 ac → (ownF w.heap.size n cs).holds (ac.eval (.tmp 7)) wz → Gr w wz → Q .normal ac wz) : RW 5 q44_5 false Q a0 w := by
  refine seq_by (by kernel_rfl) 4 (by decide) [18, 19, 20, 7] (fun | 18 => .val (.agg (intV ol).toArray) | 19 => .val (v5) | 20 => ownF w.heap.size n cs | 7 => ownF w.heap.size n cs | _ => .any) (by kernel_rfl) (fmc ⟨?s0, fmc ⟨?s1, fmc ⟨?s2, fmc ⟨?s3, fun o ho => nomatch ho⟩⟩⟩⟩) ?e
  case s0 => exact sa_row 43 (.tmp 2) 18 b (0) 8 _ (intV ol) rfl rfl rfl Tryz.underlying43 rfl siz43 hol (.old 2 _ (by decide) e2) (fun y hy => range_of (hHol.below hy hHol.lt)) rfl
  case s1 => exact sa_mo 5 19 e5
  case s2 => exact sa_callF2 73 (.tmp 18) (.tmp 19) _ 20 (.agg (intV ol).toArray) (v5) (ownF w.heap.size n cs) rfl rfl rfl (.nw 18 hz) (.nw 19 hz) (enters_of Tryz.func73 (by kernel_rfl) rfl) hC rfl
  case s3 => exact sa_move (.tmp 20) 7 (ownF w.heap.size n cs) (.inr rfl) rfl rfl (.nw 20 hz) rfl
  case e =>
  intro ac wz hA hgr hv
  exact wl_end (hend ac wz hA (hw hv hz 7) hgr)
theorem r44_6 (hz : a0.tmps.size = 92)   (hend : ∀ ac wz, After [8] a0 ac → ac.eval (.tmp 8) = .int .i64 0 → Gr w wz → Q .normal ac wz) : RW 6 q44_6 false Q a0 w := by
  refine seq_by (by kernel_rfl) 1 (by decide) [8] (fun | 8 => .val (.int .i64 0) | _ => .any) (by kernel_rfl) (fmc ⟨?s0, fun o ho => nomatch ho⟩) ?e
  case s0 => exact sa_move (.const _) 8 (.val (.int .i64 0)) (.inr rfl) rfl rfl (.const _) rfl
  case e =>
  intro ac wz hA hgr hv
  exact wl_end (hend ac wz hA (hw hv hz 8) hgr)
theorem r44_9 (hz : a0.tmps.size = 92)   (hend : ∀ ac wz, After [9] a0 ac → ac.eval (.tmp 9) = .int .i64 0 → Gr w wz → Q .normal ac wz) : RW 9 q44_9 false Q a0 w := by
  refine seq_by (by kernel_rfl) 1 (by decide) [9] (fun | 9 => .val (.int .i64 0) | _ => .any) (by kernel_rfl) (fmc ⟨?s0, fun o ho => nomatch ho⟩) ?e
  case s0 => exact sa_move (.const _) 9 (.val (.int .i64 0)) (.inr rfl) rfl rfl (.const _) rfl
  case e =>
  intro ac wz hA hgr hv
  exact wl_end (hend ac wz hA (hw hv hz 9) hgr)
theorem r44_15 (hz : a0.tmps.size = 92)   (hend : ∀ ac wz, After [10] a0 ac → ac.eval (.tmp 10) = .int .i64 0 → Gr w wz → Q .normal ac wz) : RW 15 q44_15 false Q a0 w := by
  refine seq_by (by kernel_rfl) 1 (by decide) [10] (fun | 10 => .val (.int .i64 0) | _ => .any) (by kernel_rfl) (fmc ⟨?s0, fun o ho => nomatch ho⟩) ?e
  case s0 => exact sa_move (.const _) 10 (.val (.int .i64 0)) (.inr rfl) rfl rfl (.const _) rfl
  case e =>
  intro ac wz hA hgr hv
  exact wl_end (hend ac wz hA (hw hv hz 10) hgr)
theorem r44_18 (hz : a0.tmps.size = 92)   (hend : ∀ ac wz, After [11] a0 ac → ac.eval (.tmp 11) = .int .i64 0 → Gr w wz → Q .normal ac wz) : RW 18 q44_18 false Q a0 w := by
  refine seq_by (by kernel_rfl) 1 (by decide) [11] (fun | 11 => .val (.int .i64 0) | _ => .any) (by kernel_rfl) (fmc ⟨?s0, fun o ho => nomatch ho⟩) ?e
  case s0 => exact sa_move (.const _) 11 (.val (.int .i64 0)) (.inr rfl) rfl rfl (.const _) rfl
  case e =>
  intro ac wz hA hgr hv
  exact wl_end (hend ac wz hA (hw hv hz 11) hgr)
theorem r44_7 (hz : a0.tmps.size = 92) (k : Nat) (e8 : a0.eval (.tmp 8) = .int .i64 (k : Int)) (hend : ∀ ac wz, After [21, 22] a0 ac → ac.eval (.tmp 22) = .bool (decide ((k : Int) < 8)) → Gr w wz → Q .normal ac wz) : RW 7 q44_7 false Q a0 w := by
  refine seq_by (by kernel_rfl) 2 (by decide) [21, 22] (fun | 21 => .val (.int .i64 (k : Int)) | 22 => .val (.bool (decide ((k : Int) < 8))) | _ => .any) (by kernel_rfl) (fmc ⟨?s0, fmc ⟨?s1, fun o ho => nomatch ho⟩⟩) ?e
  case s0 => exact sa_mo 8 21 e8
  case s1 => exact sa_bin .lss 3 (.tmp 21) (.const _) 3 22 (.int .i64 (k : Int)) (.int .i64 8) (.bool (decide ((k : Int) < 8))) rfl rfl rfl (.nw 21 hz) (.const _) guard_int (bin_lss rfl) rfl
  case e =>
  intro ac wz hA hgr hv
  exact wl_end (hend ac wz hA (hw hv hz 22) hgr)
theorem r44_16 (hz : a0.tmps.size = 92) (k : Nat) (e10 : a0.eval (.tmp 10) = .int .i64 (k : Int)) (hend : ∀ ac wz, After [58, 59] a0 ac → ac.eval (.tmp 59) = .bool (decide ((k : Int) < 8)) → Gr w wz → Q .normal ac wz) : RW 16 q44_16 false Q a0 w := by
  refine seq_by (by kernel_rfl) 2 (by decide) [58, 59] (fun | 58 => .val (.int .i64 (k : Int)) | 59 => .val (.bool (decide ((k : Int) < 8))) | _ => .any) (by kernel_rfl) (fmc ⟨?s0, fmc ⟨?s1, fun o ho => nomatch ho⟩⟩) ?e
  case s0 => exact sa_mo 10 58 e10
  case s1 => exact sa_bin .lss 3 (.tmp 58) (.const _) 3 59 (.int .i64 (k : Int)) (.int .i64 8) (.bool (decide ((k : Int) < 8))) rfl rfl rfl (.nw 58 hz) (.const _) guard_int (bin_lss rfl) rfl
  case e =>
  intro ac wz hA hgr hv
  exact wl_end (hend ac wz hA (hw hv hz 59) hgr)
theorem r44_10 (hz : a0.tmps.size = 92) (k n cap : Nat) (ad : Option Addr) (e9 : a0.eval (.tmp 9) = .int .i64 (k : Int)) (e5 : a0.eval (.tmp 5) = .slice ad n cap) (hend : ∀ ac wz, After [25, 26, 27, 28] a0 ac → ac.eval (.tmp 28) = .bool (decide ((k : Int) < (n : Int))) → Gr w wz → Q .normal ac wz) : RW 10 q44_10 false Q a0 w := by
  refine seq_by (by kernel_rfl) 4 (by decide) [25, 26, 27, 28] (fun | 25 => .val (.int .i64 (k : Int)) | 26 => .val (.slice ad n cap) | 27 => .val (.int .i64 (n : Int)) | 28 => .val (.bool (decide ((k : Int) < (n : Int)))) | _ => .any) (by kernel_rfl) (fmc ⟨?s0, fmc ⟨?s1, fmc ⟨?s2, fmc ⟨?s3, fun o ho => nomatch ho⟩⟩⟩⟩) ?e
  case s0 => exact sa_mo 9 25 e9
  case s1 => exact sa_mo 5 26 e5
  case s2 => exact sa_len 30 (.tmp 26) 27 (.slice ad n cap) (.int .i64 (n : Int)) rfl rfl rfl (.nw 26 hz) (by intro w; kernel_rfl) rfl
  case s3 => exact sa_bin .lss 3 (.tmp 25) (.tmp 27) 3 28 (.int .i64 (k : Int)) (.int .i64 (n : Int)) (.bool (decide ((k : Int) < (n : Int)))) rfl rfl rfl (.nw 25 hz) (.nw 27 hz) guard_int (bin_lss rfl) rfl
  case e =>
  intro ac wz hA hgr hv
  exact wl_end (hend ac wz hA (hw hv hz 28) hgr)
theorem r44_8 (hz : a0.tmps.size = 92) (k : Nat) (hk : k ≤ 17592186043904) (e8 : a0.eval (.tmp 8) = .int .i64 (k : Int)) (hend : ∀ ac wz, After [8, 23, 24] a0 ac → ac.eval (.tmp 8) = .int .i64 ((k + 1 : Nat) : Int) → Gr w wz → Q .normal ac wz) : RW 8 q44_8 false Q a0 w := by
  refine seq_by (by kernel_rfl) 2 (by decide) [23, 24] (fun | 23 => .val (.int .i64 (k : Int)) | 24 => .val (.int .i64 ((k + 1 : Nat) : Int)) | _ => .any) (by kernel_rfl) (fmc ⟨?s0, fmc ⟨?s1, fun o ho => nomatch ho⟩⟩) ?e
  case s0 => exact sa_mo 8 23 e8
  case s1 => exact sa_bin .add 3 (.tmp 23) (.const _) 3 24 (.int .i64 (k : Int)) (.int .i64 1) (.int .i64 ((k + 1 : Nat) : Int)) rfl rfl rfl (.nw 23 hz) (.const _) guard_int (bin_add (by omega) (by omega) (by omega)) rfl
  case e =>
  intro ac wz hA hgr hv
  have o24 : ac.eval (.tmp 24) = .int .i64 ((k + 1 : Nat) : Int) := hw hv hz 24
  refine wl_of rfl (op_move (.tmp 24) (.inr rfl) (wl_end ?_))
  exact hend _ wz (hA.put 8 _)  ((ev_put (by rw [hA.size, hz]; decide)).trans ((if_pos rfl).trans o24)) hgr
theorem r44_11 (hz : a0.tmps.size = 92) (k : Nat) (hk : k ≤ 17592186043904) (e9 : a0.eval (.tmp 9) = .int .i64 (k : Int)) (hend : ∀ ac wz, After [9, 29, 30] a0 ac → ac.eval (.tmp 9) = .int .i64 ((k + 1 : Nat) : Int) → Gr w wz → Q .normal ac wz) : RW 11 q44_11 false Q a0 w := by
  refine seq_by (by kernel_rfl) 2 (by decide) [29, 30] (fun | 29 => .val (.int .i64 (k : Int)) | 30 => .val (.int .i64 ((k + 1 : Nat) : Int)) | _ => .any) (by kernel_rfl) (fmc ⟨?s0, fmc ⟨?s1, fun o ho => nomatch ho⟩⟩) ?e
  case s0 => exact sa_mo 9 29 e9
  case s1 => exact sa_bin .add 3 (.tmp 29) (.const _) 3 30 (.int .i64 (k : Int)) (.int .i64 1) (.int .i64 ((k + 1 : Nat) : Int)) rfl rfl rfl (.nw 29 hz) (.const _) guard_int (bin_add (by omega) (by omega) (by omega)) rfl
  case e =>
  intro ac wz hA hgr hv
  have o30 : ac.eval (.tmp 30) = .int .i64 ((k + 1 : Nat) : Int) := hw hv hz 30
  refine wl_of rfl (op_move (.tmp 30) (.inr rfl) (wl_end ?_))
  exact hend _ wz (hA.put 9 _)  ((ev_put (by rw [hA.size, hz]; decide)).trans ((if_pos rfl).trans o30)) hgr
theorem r44_17 (hz : a0.tmps.size = 92) (k : Nat) (hk : k ≤ 17592186043904) (e10 : a0.eval (.tmp 10) = .int .i64 (k : Int)) (hend : ∀ ac wz, After [10, 60, 61] a0 ac → ac.eval (.tmp 10) = .int .i64 ((k + 1 : Nat) : Int) → Gr w wz → Q .normal ac wz) : RW 17 q44_17 false Q a0 w := by
  refine seq_by (by kernel_rfl) 2 (by decide) [60, 61] (fun | 60 => .val (.int .i64 (k : Int)) | 61 => .val (.int .i64 ((k + 1 : Nat) : Int)) | _ => .any) (by kernel_rfl) (fmc ⟨?s0, fmc ⟨?s1, fun o ho => nomatch ho⟩⟩) ?e
  case s0 => exact sa_mo 10 60 e10
  case s1 => exact sa_bin .add 3 (.tmp 60) (.const _) 3 61 (.int .i64 (k : Int)) (.int .i64 1) (.int .i64 ((k + 1 : Nat) : Int)) rfl rfl rfl (.nw 60 hz) (.const _) guard_int (bin_add (by omega) (by omega) (by omega)) rfl
  case e =>
  intro ac wz hA hgr hv
  have o61 : ac.eval (.tmp 61) = .int .i64 ((k + 1 : Nat) : Int) := hw hv hz 61
  refine wl_of rfl (op_move (.tmp 61) (.inr rfl) (wl_end ?_))
  exact hend _ wz (hA.put 10 _)  ((ev_put (by rw [hA.size, hz]; decide)).trans ((if_pos rfl).trans o61)) hgr
theorem r44_20 (hz : a0.tmps.size = 92) (k : Nat) (hk : k ≤ 17592186043904) (e11 : a0.eval (.tmp 11) = .int .i64 (k : Int)) (hend : ∀ ac wz, After [11, 72, 73] a0 ac → ac.eval (.tmp 11) = .int .i64 ((k + 1 : Nat) : Int) → Gr w wz → Q .normal ac wz) : RW 20 q44_20 false Q a0 w := by
  refine seq_by (by kernel_rfl) 2 (by decide) [72, 73] (fun | 72 => .val (.int .i64 (k : Int)) | 73 => .val (.int .i64 ((k + 1 : Nat) : Int)) | _ => .any) (by kernel_rfl) (fmc ⟨?s0, fmc ⟨?s1, fun o ho => nomatch ho⟩⟩) ?e
  case s0 => exact sa_mo 11 72 e11
  case s1 => exact sa_bin .add 3 (.tmp 72) (.const _) 3 73 (.int .i64 (k : Int)) (.int .i64 1) (.int .i64 ((k + 1 : Nat) : Int)) rfl rfl rfl (.nw 72 hz) (.const _) guard_int (bin_add (by omega) (by omega) (by omega)) rfl
  case e =>
  intro ac wz hA hgr hv
  have o73 : ac.eval (.tmp 73) = .int .i64 ((k + 1 : Nat) : Int) := hw hv hz 73
  refine wl_of rfl (op_move (.tmp 73) (.inr rfl) (wl_end ?_))
  exact hend _ wz (hA.put 11 _)  ((ev_put (by rw [hA.size, hz]; decide)).trans ((if_pos rfl).trans o73)) hgr
theorem r44_12t (hz : a0.tmps.size = 92) (g of n cap k : Nat) (x : Int) (hk : k < n) (hX : ∀ y, Gr w y → y.cell? ⟨g, of + k, none⟩ = some (.int .i64 x)) (b i : Nat) (y0 : Int) (hi : i < 8) (hO : ∀ y, Gr w y → y.cell? ⟨b, i, none⟩ = some (.int .i64 y0)) (g7 cap7 : Nat) (r : Int) (hR : ∀ y, Gr w y → y.cell? ⟨g7, k, none⟩ = some (.int .i64 r)) (he : y0 = x) (e8 : a0.eval (.tmp 8) = .int .i64 (i : Int)) (e2 : a0.eval (.tmp 2) = .pointer (some ⟨b, 0, none⟩)) (e5 : a0.eval (.tmp 5) = .slice (some ⟨g, of, none⟩) n cap) (e9 : a0.eval (.tmp 9) = .int .i64 (k : Int)) (e7 : a0.eval (.tmp 7) = .slice (some ⟨g7, 0, none⟩) n cap7) (hend : ∀ ac wz, After [31, 32, 33, 34, 35, 36, 37, 38, 39, 40, 41, 42, 43, 44, 45] a0 ac → ac.eval (.tmp 45) = .bool (decide (r > 0)) → Gr w wz → Q .normal ac wz) : RW 12 q44_12 true Q a0 w := by
  refine drawn_by (by kernel_rfl) (by kernel_rfl) (by kernel_rfl) [31, 32, 33, 34, 35, 36, 37, 38, 39, 40, 41, 42, 43, 44, 45] (fun | 31 => .val (.int .i64 (i : Int)) | 32 => .val (.pointer (some ⟨b, i, none⟩)) | 33 => .val (.int .i64 y0) | 34 => .val (.slice (some ⟨g, of, none⟩) n cap) | 35 => .val (.int .i64 (k : Int)) | 36 => .val (.pointer (some ⟨g, of + k, none⟩)) | 37 => .val (.int .i64 x) | 38 => .val (.bool true) | 39 => .val (.bool true) | 40 => .val (.slice (some ⟨g7, 0, none⟩) n cap7) | 41 => .val (.int .i64 (k : Int)) | 42 => .val (.pointer (some ⟨g7, k, none⟩)) | 43 => .val (.int .i64 r) | 44 => .val (.bool (decide (r > 0))) | 45 => .val (.bool (decide (r > 0))) | _ => .any) (by kernel_rfl) (fmc ⟨?s0, fmc ⟨?s1, fmc ⟨?s2, fmc ⟨?s3, fmc ⟨?s4, fmc ⟨?s5, fmc ⟨?s6, fmc ⟨?s7, fmc ⟨?s8, fmc ⟨?s9, fmc ⟨?s10, fmc ⟨?s11, fmc ⟨?s12, fmc ⟨?s13, fmc ⟨?s14, fun o ho => nomatch ho⟩⟩⟩⟩⟩⟩⟩⟩⟩⟩⟩⟩⟩⟩⟩) ?e
  case s0 => exact sa_mo 8 31 e8
  case s1 => exact sa_ixa 43 (.tmp 2) (.tmp 31) 32 (.pointer (some ⟨b, 0, none⟩)) (.int .i64 (i : Int)) (.pointer (some ⟨b, i, none⟩)) rfl rfl rfl (.old 2 _ (by decide) e2) (.nw 31 hz) (ix_array (sz := 1) und23 (by intro w; kernel_rfl) (by omega) (by omega)) rfl
  case s2 => exact sa_loadc 3 (.tmp 32) 33 (b) (i) (.int .i64 y0) rfl rfl rfl (by intro w; kernel_rfl) (.nw 32 hz) hO rfl
  case s3 => exact sa_mo 5 34 e5
  case s4 => exact sa_mo 9 35 e9
  case s5 => exact sa_ixa 30 (.tmp 34) (.tmp 35) 36 (.slice (some ⟨g, of, none⟩) n cap) (.int .i64 (k : Int)) (.pointer (some ⟨g, of + k, none⟩)) rfl rfl rfl (.nw 34 hz) (.nw 35 hz) (ix_slice (sz := 1) Tryz.underlying30 (by intro w; kernel_rfl) (by omega) (by omega)) rfl
  case s6 => exact sa_loadc 3 (.tmp 36) 37 (g) (of + k) (.int .i64 x) rfl rfl rfl (by intro w; kernel_rfl) (.nw 36 hz) hX rfl
  case s7 => exact sa_bin .eql 3 (.tmp 33) (.tmp 37) 3 38 (.int .i64 y0) (.int .i64 x) (.bool true) rfl rfl rfl (.nw 33 hz) (.nw 37 hz) guard_int (bin_eql (decide_eq_true (by omega))) rfl
  case s8 => exact sa_mw 38 39 hz
  case s9 => exact sa_gd 8 39 hz (sa_mo 7 40 e7)
  case s10 => exact sa_gd 8 39 hz (sa_mo 9 41 e9)
  case s11 => exact sa_gd 8 39 hz (sa_ixa 30 (.tmp 40) (.tmp 41) 42 (.slice (some ⟨g7, 0, none⟩) n cap7) (.int .i64 (k : Int)) (.pointer (some ⟨g7, k, none⟩)) rfl rfl rfl (.nw 40 hz) (.nw 41 hz) (ix_slice (sz := 1) Tryz.underlying30 (by intro w; kernel_rfl) (by omega) (by omega)) rfl)
  case s12 => exact sa_gd 8 39 hz (sa_loadc 3 (.tmp 42) 43 (g7) (k) (.int .i64 r) rfl rfl rfl (by intro w; kernel_rfl) (.nw 42 hz) hR rfl)
  case s13 => exact sa_gd 8 39 hz (sa_bin .gtr 3 (.tmp 43) (.const _) 3 44 (.int .i64 r) (.int .i64 0) (.bool (decide (r > 0))) rfl rfl rfl (.nw 43 hz) (.const _) guard_int (bin_gtr rfl) rfl)
  case s14 => exact sa_pick (.tmp 39) (.tmp 44) (.const _) 45 (.val (.bool (decide (r > 0)))) rfl rfl rfl (.nw 39 hz) (.nw 44 hz) rfl
  case e =>
  intro ac wz hA hgr hv
  exact hend ac wz hA (hw hv hz 45) hgr
theorem r44_12f (hz : a0.tmps.size = 92) (g of n cap k : Nat) (x : Int) (hk : k < n) (hX : ∀ y, Gr w y → y.cell? ⟨g, of + k, none⟩ = some (.int .i64 x)) (b i : Nat) (y0 : Int) (hi : i < 8) (hO : ∀ y, Gr w y → y.cell? ⟨b, i, none⟩ = some (.int .i64 y0)) (he : ¬ y0 = x) (e8 : a0.eval (.tmp 8) = .int .i64 (i : Int)) (e2 : a0.eval (.tmp 2) = .pointer (some ⟨b, 0, none⟩)) (e5 : a0.eval (.tmp 5) = .slice (some ⟨g, of, none⟩) n cap) (e9 : a0.eval (.tmp 9) = .int .i64 (k : Int)) (hend : ∀ ac wz, After [31, 32, 33, 34, 35, 36, 37, 38, 39, 40, 41, 42, 43, 44, 45] a0 ac → ac.eval (.tmp 45) = .bool false → Gr w wz → Q .normal ac wz) : RW 12 q44_12 true Q a0 w := by
  refine drawn_by (by kernel_rfl) (by kernel_rfl) (by kernel_rfl) [31, 32, 33, 34, 35, 36, 37, 38, 39, 40, 41, 42, 43, 44, 45] (fun | 31 => .val (.int .i64 (i : Int)) | 32 => .val (.pointer (some ⟨b, i, none⟩)) | 33 => .val (.int .i64 y0) | 34 => .val (.slice (some ⟨g, of, none⟩) n cap) | 35 => .val (.int .i64 (k : Int)) | 36 => .val (.pointer (some ⟨g, of + k, none⟩)) | 37 => .val (.int .i64 x) | 38 => .val (.bool false) | 39 => .val (.bool false) | 40 => .val (undef) | 41 => .val (undef) | 42 => .val (undef) | 43 => .val (undef) | 44 => .val (undef) | 45 => .val (.bool false) | _ => .any) (by kernel_rfl) (fmc ⟨?s0, fmc ⟨?s1, fmc ⟨?s2, fmc ⟨?s3, fmc ⟨?s4, fmc ⟨?s5, fmc ⟨?s6, fmc ⟨?s7, fmc ⟨?s8, fmc ⟨?s9, fmc ⟨?s10, fmc ⟨?s11, fmc ⟨?s12, fmc ⟨?s13, fmc ⟨?s14, fun o ho => nomatch ho⟩⟩⟩⟩⟩⟩⟩⟩⟩⟩⟩⟩⟩⟩⟩) ?e
  case s0 => exact sa_mo 8 31 e8
  case s1 => exact sa_ixa 43 (.tmp 2) (.tmp 31) 32 (.pointer (some ⟨b, 0, none⟩)) (.int .i64 (i : Int)) (.pointer (some ⟨b, i, none⟩)) rfl rfl rfl (.old 2 _ (by decide) e2) (.nw 31 hz) (ix_array (sz := 1) und23 (by intro w; kernel_rfl) (by omega) (by omega)) rfl
  case s2 => exact sa_loadc 3 (.tmp 32) 33 (b) (i) (.int .i64 y0) rfl rfl rfl (by intro w; kernel_rfl) (.nw 32 hz) hO rfl
  case s3 => exact sa_mo 5 34 e5
  case s4 => exact sa_mo 9 35 e9
  case s5 => exact sa_ixa 30 (.tmp 34) (.tmp 35) 36 (.slice (some ⟨g, of, none⟩) n cap) (.int .i64 (k : Int)) (.pointer (some ⟨g, of + k, none⟩)) rfl rfl rfl (.nw 34 hz) (.nw 35 hz) (ix_slice (sz := 1) Tryz.underlying30 (by intro w; kernel_rfl) (by omega) (by omega)) rfl
  case s6 => exact sa_loadc 3 (.tmp 36) 37 (g) (of + k) (.int .i64 x) rfl rfl rfl (by intro w; kernel_rfl) (.nw 36 hz) hX rfl
  case s7 => exact sa_bin .eql 3 (.tmp 33) (.tmp 37) 3 38 (.int .i64 y0) (.int .i64 x) (.bool false) rfl rfl rfl (.nw 33 hz) (.nw 37 hz) guard_int (bin_eql (decide_eq_false (by omega))) rfl
  case s8 => exact sa_mw 38 39 hz
  case s9 => exact so_nN 8 39 hz
  case s10 => exact so_nN 8 39 hz
  case s11 => exact so_nN 8 39 hz
  case s12 => exact so_nN 8 39 hz
  case s13 => exact so_nN 8 39 hz
  case s14 => exact sa_pickF (.tmp 39) (.tmp 44) (.const _) 45 (.val (.bool false)) rfl rfl rfl (.nw 39 hz) (.const _) rfl
  case e =>
  intro ac wz hA hgr hv
  exact hend ac wz hA (hw hv hz 45) hgr
theorem r44_13 (hz : a0.tmps.size = 92) (g of n cap k : Nat) (x : Int) (hk : k < n) (hX : ∀ y, Gr w y → y.cell? ⟨g, of + k, none⟩ = some (.int .i64 x)) (b i : Nat) (hi : i < 8) (old : Value) (hO : ∀ y, Gr w y → y.cell? ⟨b, i, none⟩ = some old ∧ y.frozen? ⟨b, i, none⟩ = false) (e8 : a0.eval (.tmp 8) = .int .i64 (i : Int)) (e5 : a0.eval (.tmp 5) = .slice (some ⟨g, of, none⟩) n cap) (e9 : a0.eval (.tmp 9) = .int .i64 (k : Int)) (e6 : a0.eval (.tmp 6) = .pointer (some ⟨b, 0, none⟩)) (hend : ∀ ac y, After [46, 47, 48, 49, 50, 51] a0 ac → Gr w y → Q .normal ac (y.setCell ⟨b, i, none⟩ (.int .i64 x))) : RW 13 q44_13 false Q a0 w := by
  refine seq_by (by kernel_rfl) 6 (by decide) [46, 47, 48, 49, 50, 51] (fun | 46 => .val (.int .i64 (i : Int)) | 47 => .val (.slice (some ⟨g, of, none⟩) n cap) | 48 => .val (.int .i64 (k : Int)) | 49 => .val (.pointer (some ⟨g, of + k, none⟩)) | 50 => .val (.int .i64 x) | 51 => .val (.pointer (some ⟨b, i, none⟩)) | _ => .any) (by kernel_rfl) (fmc ⟨?s0, fmc ⟨?s1, fmc ⟨?s2, fmc ⟨?s3, fmc ⟨?s4, fmc ⟨?s5, fun o ho => nomatch ho⟩⟩⟩⟩⟩⟩) ?e
  case s0 => exact sa_mo 8 46 e8
  case s1 => exact sa_mo 5 47 e5
  case s2 => exact sa_mo 9 48 e9
  case s3 => exact sa_ixa 30 (.tmp 47) (.tmp 48) 49 (.slice (some ⟨g, of, none⟩) n cap) (.int .i64 (k : Int)) (.pointer (some ⟨g, of + k, none⟩)) rfl rfl rfl (.nw 47 hz) (.nw 48 hz) (ix_slice (sz := 1) Tryz.underlying30 (by intro w; kernel_rfl) (by omega) (by omega)) rfl
  case s4 => exact sa_loadc 3 (.tmp 49) 50 (g) (of + k) (.int .i64 x) rfl rfl rfl (by intro w; kernel_rfl) (.nw 49 hz) hX rfl
  case s5 => exact sa_ixa 43 (.tmp 6) (.tmp 46) 51 (.pointer (some ⟨b, 0, none⟩)) (.int .i64 (i : Int)) (.pointer (some ⟨b, i, none⟩)) rfl rfl rfl (.old 6 _ (by decide) e6) (.nw 46 hz) (ix_array (sz := 1) und23 (by intro w; kernel_rfl) (by omega) (by omega)) rfl
  case e =>
  intro ac wz hA hgr hv
  have o50 : ac.eval (.tmp 50) = .int .i64 x := hw hv hz 50
  have o51 : ac.eval (.tmp 51) = .pointer (some ⟨b, i, none⟩) := hw hv hz 51
  exact wl_of rfl (op_store1 3 (.tmp 51) (.tmp 50) rfl b i o51 _ o50 rfl rfl (by intro w; kernel_rfl) (hO wz hgr).1 (hO wz hgr).2 (wl_end (hend _ wz hA hgr)))
theorem r44_22 (hz : a0.tmps.size = 92) (g of n cap k : Nat) (x : Int) (hk : k < n) (hX : ∀ y, Gr w y → y.cell? ⟨g, of + k, none⟩ = some (.int .i64 x)) (b i : Nat) (hi : i < 8) (old : Value) (hO : ∀ y, Gr w y → y.cell? ⟨b, i, none⟩ = some old ∧ y.frozen? ⟨b, i, none⟩ = false) (e10 : a0.eval (.tmp 10) = .int .i64 (i : Int)) (e5 : a0.eval (.tmp 5) = .slice (some ⟨g, of, none⟩) n cap) (e11 : a0.eval (.tmp 11) = .int .i64 (k : Int)) (e6 : a0.eval (.tmp 6) = .pointer (some ⟨b, 0, none⟩)) (hend : ∀ ac y, After [79, 80, 81, 82, 83, 84] a0 ac → Gr w y → Q .normal ac (y.setCell ⟨b, i, none⟩ (.int .i64 x))) : RW 22 q44_22 false Q a0 w := by
  refine seq_by (by kernel_rfl) 6 (by decide) [79, 80, 81, 82, 83, 84] (fun | 79 => .val (.int .i64 (i : Int)) | 80 => .val (.slice (some ⟨g, of, none⟩) n cap) | 81 => .val (.int .i64 (k : Int)) | 82 => .val (.pointer (some ⟨g, of + k, none⟩)) | 83 => .val (.int .i64 x) | 84 => .val (.pointer (some ⟨b, i, none⟩)) | _ => .any) (by kernel_rfl) (fmc ⟨?s0, fmc ⟨?s1, fmc ⟨?s2, fmc ⟨?s3, fmc ⟨?s4, fmc ⟨?s5, fun o ho => nomatch ho⟩⟩⟩⟩⟩⟩) ?e
  case s0 => exact sa_mo 10 79 e10
  case s1 => exact sa_mo 5 80 e5
  case s2 => exact sa_mo 11 81 e11
  case s3 => exact sa_ixa 30 (.tmp 80) (.tmp 81) 82 (.slice (some ⟨g, of, none⟩) n cap) (.int .i64 (k : Int)) (.pointer (some ⟨g, of + k, none⟩)) rfl rfl rfl (.nw 80 hz) (.nw 81 hz) (ix_slice (sz := 1) Tryz.underlying30 (by intro w; kernel_rfl) (by omega) (by omega)) rfl
  case s4 => exact sa_loadc 3 (.tmp 82) 83 (g) (of + k) (.int .i64 x) rfl rfl rfl (by intro w; kernel_rfl) (.nw 82 hz) hX rfl
  case s5 => exact sa_ixa 43 (.tmp 6) (.tmp 79) 84 (.pointer (some ⟨b, 0, none⟩)) (.int .i64 (i : Int)) (.pointer (some ⟨b, i, none⟩)) rfl rfl rfl (.old 6 _ (by decide) e6) (.nw 79 hz) (ix_array (sz := 1) und23 (by intro w; kernel_rfl) (by omega) (by omega)) rfl
  case e =>
  intro ac wz hA hgr hv
  have o83 : ac.eval (.tmp 83) = .int .i64 x := hw hv hz 83
  have o84 : ac.eval (.tmp 84) = .pointer (some ⟨b, i, none⟩) := hw hv hz 84
  exact wl_of rfl (op_store1 3 (.tmp 84) (.tmp 83) rfl b i o84 _ o83 rfl rfl (by intro w; kernel_rfl) (hO wz hgr).1 (hO wz hgr).2 (wl_end (hend _ wz hA hgr)))
theorem r44_14 (hz : a0.tmps.size = 92) (g7 n cap7 k : Nat) (hk : k < n) (r : Int) (hr : 0 ≤ r ∧ r ≤ 8) (hR : ∀ y, Gr w y → y.cell? ⟨g7, k, none⟩ = some (.int .i64 r) ∧ y.frozen? ⟨g7, k, none⟩ = false) (e7 : a0.eval (.tmp 7) = .slice (some ⟨g7, 0, none⟩) n cap7) (e9 : a0.eval (.tmp 9) = .int .i64 (k : Int)) (hend : ∀ ac y, After [52, 53, 54, 55, 56, 57] a0 ac → Gr w y → Q .normal ac (y.setCell ⟨g7, k, none⟩ (.int .i64 (r - 1)))) : RW 14 q44_14 false Q a0 w := by
  refine seq_by (by kernel_rfl) 6 (by decide) [52, 53, 54, 55, 56, 57] (fun | 52 => .val (.slice (some ⟨g7, 0, none⟩) n cap7) | 53 => .val (.int .i64 (k : Int)) | 54 => .val (.pointer (some ⟨g7, k, none⟩)) | 55 => .val (.int .i64 r) | 56 => .val (.int .i64 (r - 1)) | 57 => .val (.pointer (some ⟨g7, k, none⟩)) | _ => .any) (by kernel_rfl) (fmc ⟨?s0, fmc ⟨?s1, fmc ⟨?s2, fmc ⟨?s3, fmc ⟨?s4, fmc ⟨?s5, fun o ho => nomatch ho⟩⟩⟩⟩⟩⟩) ?e
  case s0 => exact sa_mo 7 52 e7
  case s1 => exact sa_mo 9 53 e9
  case s2 => exact sa_ixa 30 (.tmp 52) (.tmp 53) 54 (.slice (some ⟨g7, 0, none⟩) n cap7) (.int .i64 (k : Int)) (.pointer (some ⟨g7, k, none⟩)) rfl rfl rfl (.nw 52 hz) (.nw 53 hz) (ix_slice (sz := 1) Tryz.underlying30 (by intro w; kernel_rfl) (by omega) (by omega)) rfl
  case s3 => exact sa_loadc 3 (.tmp 54) 55 (g7) (k) (.int .i64 r) rfl rfl rfl (by intro w; kernel_rfl) (.nw 54 hz) (fun y hy => (hR y hy).1) rfl
  case s4 => exact sa_bin .sub 3 (.tmp 55) (.const _) 3 56 (.int .i64 r) (.int .i64 1) (.int .i64 (r - 1)) rfl rfl rfl (.nw 55 hz) (.const _) guard_int (bin_sub rfl (by omega) (by omega)) rfl
  case s5 => exact sa_ixa 30 (.tmp 52) (.tmp 53) 57 (.slice (some ⟨g7, 0, none⟩) n cap7) (.int .i64 (k : Int)) (.pointer (some ⟨g7, k, none⟩)) rfl rfl rfl (.nw 52 hz) (.nw 53 hz) (ix_slice (sz := 1) Tryz.underlying30 (by intro w; kernel_rfl) (by omega) (by omega)) rfl
  case e =>
  intro ac wz hA hgr hv
  have o56 : ac.eval (.tmp 56) = .int .i64 (r - 1) := hw hv hz 56
  have o57 : ac.eval (.tmp 57) = .pointer (some ⟨g7, k, none⟩) := hw hv hz 57
  exact wl_of rfl (op_store1 3 (.tmp 57) (.tmp 56) rfl g7 k o57 _ o56 rfl rfl (by intro w; kernel_rfl) (hR wz hgr).1 (hR wz hgr).2 (wl_end (hend _ wz hA hgr)))
theorem r44_23 (hz : a0.tmps.size = 92) (g7 n cap7 k : Nat) (hk : k < n) (r : Int) (hr : 0 ≤ r ∧ r ≤ 8) (hR : ∀ y, Gr w y → y.cell? ⟨g7, k, none⟩ = some (.int .i64 r) ∧ y.frozen? ⟨g7, k, none⟩ = false) (e7 : a0.eval (.tmp 7) = .slice (some ⟨g7, 0, none⟩) n cap7) (e11 : a0.eval (.tmp 11) = .int .i64 (k : Int)) (hend : ∀ ac y, After [85, 86, 87, 88, 89, 90] a0 ac → Gr w y → Q .normal ac (y.setCell ⟨g7, k, none⟩ (.int .i64 (r - 1)))) : RW 23 q44_23 false Q a0 w := by
  refine seq_by (by kernel_rfl) 6 (by decide) [85, 86, 87, 88, 89, 90] (fun | 85 => .val (.slice (some ⟨g7, 0, none⟩) n cap7) | 86 => .val (.int .i64 (k : Int)) | 87 => .val (.pointer (some ⟨g7, k, none⟩)) | 88 => .val (.int .i64 r) | 89 => .val (.int .i64 (r - 1)) | 90 => .val (.pointer (some ⟨g7, k, none⟩)) | _ => .any) (by kernel_rfl) (fmc ⟨?s0, fmc ⟨?s1, fmc ⟨?s2, fmc ⟨?s3, fmc ⟨?s4, fmc ⟨?s5, fun o ho => nomatch ho⟩⟩⟩⟩⟩⟩) ?e
  case s0 => exact sa_mo 7 85 e7
  case s1 => exact sa_mo 11 86 e11
  case s2 => exact sa_ixa 30 (.tmp 85) (.tmp 86) 87 (.slice (some ⟨g7, 0, none⟩) n cap7) (.int .i64 (k : Int)) (.pointer (some ⟨g7, k, none⟩)) rfl rfl rfl (.nw 85 hz) (.nw 86 hz) (ix_slice (sz := 1) Tryz.underlying30 (by intro w; kernel_rfl) (by omega) (by omega)) rfl
  case s3 => exact sa_loadc 3 (.tmp 87) 88 (g7) (k) (.int .i64 r) rfl rfl rfl (by intro w; kernel_rfl) (.nw 87 hz) (fun y hy => (hR y hy).1) rfl
  case s4 => exact sa_bin .sub 3 (.tmp 88) (.const _) 3 89 (.int .i64 r) (.int .i64 1) (.int .i64 (r - 1)) rfl rfl rfl (.nw 88 hz) (.const _) guard_int (bin_sub rfl (by omega) (by omega)) rfl
  case s5 => exact sa_ixa 30 (.tmp 85) (.tmp 86) 90 (.slice (some ⟨g7, 0, none⟩) n cap7) (.int .i64 (k : Int)) (.pointer (some ⟨g7, k, none⟩)) rfl rfl rfl (.nw 85 hz) (.nw 86 hz) (ix_slice (sz := 1) Tryz.underlying30 (by intro w; kernel_rfl) (by omega) (by omega)) rfl
  case e =>
  intro ac wz hA hgr hv
  have o89 : ac.eval (.tmp 89) = .int .i64 (r - 1) := hw hv hz 89
  have o90 : ac.eval (.tmp 90) = .pointer (some ⟨g7, k, none⟩) := hw hv hz 90
  exact wl_of rfl (op_store1 3 (.tmp 90) (.tmp 89) rfl g7 k o90 _ o89 rfl rfl (by intro w; kernel_rfl) (hR wz hgr).1 (hR wz hgr).2 (wl_end (hend _ wz hA hgr)))
theorem r44_19f (hz : a0.tmps.size = 92) (k n cap : Nat) (ad : Option Addr) (hk : ¬ k < n) (e11 : a0.eval (.tmp 11) = .int .i64 (k : Int)) (e5 : a0.eval (.tmp 5) = .slice ad n cap) (hend : ∀ ac wz, After [62, 63, 64, 65, 66, 67, 68, 69, 70, 71] a0 ac → ac.eval (.tmp 71) = .bool false → Gr w wz → Q .normal ac wz) : RW 19 q44_19 false Q a0 w := by
  refine seq_by (by kernel_rfl) 10 (by decide) [62, 63, 64, 65, 66, 67, 68, 69, 70, 71] (fun | 62 => .val (.int .i64 (k : Int)) | 63 => .val (.slice ad n cap) | 64 => .val (.int .i64 (n : Int)) | 65 => .val (.bool false) | 66 => .val (.bool false) | 67 => .val (undef) | 68 => .val (undef) | 69 => .val (undef) | 70 => .val (undef) | 71 => .val (.bool false) | _ => .any) (by kernel_rfl) (fmc ⟨?s0, fmc ⟨?s1, fmc ⟨?s2, fmc ⟨?s3, fmc ⟨?s4, fmc ⟨?s5, fmc ⟨?s6, fmc ⟨?s7, fmc ⟨?s8, fmc ⟨?s9, fun o ho => nomatch ho⟩⟩⟩⟩⟩⟩⟩⟩⟩⟩) ?e
  case s0 => exact sa_mo 11 62 e11
  case s1 => exact sa_mo 5 63 e5
  case s2 => exact sa_len 30 (.tmp 63) 64 (.slice ad n cap) (.int .i64 (n : Int)) rfl rfl rfl (.nw 63 hz) (by intro w; kernel_rfl) rfl
  case s3 => exact sa_bin .lss 3 (.tmp 62) (.tmp 64) 3 65 (.int .i64 (k : Int)) (.int .i64 (n : Int)) (.bool false) rfl rfl rfl (.nw 62 hz) (.nw 64 hz) guard_int (bin_lss (decide_eq_false (by omega))) rfl
  case s4 => exact sa_mw 65 66 hz
  case s5 => exact so_nN 4 66 hz
  case s6 => exact so_nN 4 66 hz
  case s7 => exact so_nN 4 66 hz
  case s8 => exact so_nN 4 66 hz
  case s9 => exact sa_pickF (.tmp 66) (.tmp 70) (.const _) 71 (.val (.bool false)) rfl rfl rfl (.nw 66 hz) (.const _) rfl
  case e =>
  intro ac wz hA hgr hv
  exact wl_end (hend ac wz hA (hw hv hz 71) hgr)
theorem r44_19t (hz : a0.tmps.size = 92) (k n cap : Nat) (ad : Option Addr) (hk : k < n) (b i : Nat) (y0 : Int) (hi : i < 8) (hO : ∀ y, Gr w y → y.cell? ⟨b, i, none⟩ = some (.int .i64 y0)) (e11 : a0.eval (.tmp 11) = .int .i64 (k : Int)) (e5 : a0.eval (.tmp 5) = .slice ad n cap) (e10 : a0.eval (.tmp 10) = .int .i64 (i : Int)) (e6 : a0.eval (.tmp 6) = .pointer (some ⟨b, 0, none⟩)) (hend : ∀ ac wz, After [62, 63, 64, 65, 66, 67, 68, 69, 70, 71] a0 ac → ac.eval (.tmp 71) = .bool (decide (y0 = 0)) → Gr w wz → Q .normal ac wz) : RW 19 q44_19 false Q a0 w := by
  refine seq_by (by kernel_rfl) 10 (by decide) [62, 63, 64, 65, 66, 67, 68, 69, 70, 71] (fun | 62 => .val (.int .i64 (k : Int)) | 63 => .val (.slice ad n cap) | 64 => .val (.int .i64 (n : Int)) | 65 => .val (.bool true) | 66 => .val (.bool true) | 67 => .val (.int .i64 (i : Int)) | 68 => .val (.pointer (some ⟨b, i, none⟩)) | 69 => .val (.int .i64 y0) | 70 => .val (.bool (decide (y0 = 0))) | 71 => .val (.bool (decide (y0 = 0))) | _ => .any) (by kernel_rfl) (fmc ⟨?s0, fmc ⟨?s1, fmc ⟨?s2, fmc ⟨?s3, fmc ⟨?s4, fmc ⟨?s5, fmc ⟨?s6, fmc ⟨?s7, fmc ⟨?s8, fmc ⟨?s9, fun o ho => nomatch ho⟩⟩⟩⟩⟩⟩⟩⟩⟩⟩) ?e
  case s0 => exact sa_mo 11 62 e11
  case s1 => exact sa_mo 5 63 e5
  case s2 => exact sa_len 30 (.tmp 63) 64 (.slice ad n cap) (.int .i64 (n : Int)) rfl rfl rfl (.nw 63 hz) (by intro w; kernel_rfl) rfl
  case s3 => exact sa_bin .lss 3 (.tmp 62) (.tmp 64) 3 65 (.int .i64 (k : Int)) (.int .i64 (n : Int)) (.bool true) rfl rfl rfl (.nw 62 hz) (.nw 64 hz) guard_int (bin_lss (decide_eq_true (by omega))) rfl
  case s4 => exact sa_mw 65 66 hz
  case s5 => exact sa_gd 4 66 hz (sa_mo 10 67 e10)
  case s6 => exact sa_gd 4 66 hz (sa_ixa 43 (.tmp 6) (.tmp 67) 68 (.pointer (some ⟨b, 0, none⟩)) (.int .i64 (i : Int)) (.pointer (some ⟨b, i, none⟩)) rfl rfl rfl (.old 6 _ (by decide) e6) (.nw 67 hz) (ix_array (sz := 1) und23 (by intro w; kernel_rfl) (by omega) (by omega)) rfl)
  case s7 => exact sa_gd 4 66 hz (sa_loadc 3 (.tmp 68) 69 (b) (i) (.int .i64 y0) rfl rfl rfl (by intro w; kernel_rfl) (.nw 68 hz) hO rfl)
  case s8 => exact sa_gd 4 66 hz (sa_bin .eql 3 (.tmp 69) (.const _) 3 70 (.int .i64 y0) (.int .i64 0) (.bool (decide (y0 = 0))) rfl rfl rfl (.nw 69 hz) (.const _) guard_int (bin_eql rfl) rfl)
  case s9 => exact sa_pick (.tmp 66) (.tmp 70) (.const _) 71 (.val (.bool (decide (y0 = 0)))) rfl rfl rfl (.nw 66 hz) (.nw 70 hz) rfl
  case e =>
  intro ac wz hA hgr hv
  exact wl_end (hend ac wz hA (hw hv hz 71) hgr)
theorem r44_21 (hz : a0.tmps.size = 92) (n k : Nat) (hk : k < n) (g7 cap7 : Nat) (r : Int) (hR : ∀ y, Gr w y → y.cell? ⟨g7, k, none⟩ = some (.int .i64 r)) (e7 : a0.eval (.tmp 7) = .slice (some ⟨g7, 0, none⟩) n cap7) (e11 : a0.eval (.tmp 11) = .int .i64 (k : Int)) (hend : ∀ ac wz, After [74, 75, 76, 77, 78] a0 ac → ac.eval (.tmp 78) = .bool (decide (r > 0)) → Gr w wz → Q .normal ac wz) : RW 21 q44_21 false Q a0 w := by
  refine seq_by (by kernel_rfl) 5 (by decide) [74, 75, 76, 77, 78] (fun | 74 => .val (.slice (some ⟨g7, 0, none⟩) n cap7) | 75 => .val (.int .i64 (k : Int)) | 76 => .val (.pointer (some ⟨g7, k, none⟩)) | 77 => .val (.int .i64 r) | 78 => .val (.bool (decide (r > 0))) | _ => .any) (by kernel_rfl) (fmc ⟨?s0, fmc ⟨?s1, fmc ⟨?s2, fmc ⟨?s3, fmc ⟨?s4, fun o ho => nomatch ho⟩⟩⟩⟩⟩) ?e
  case s0 => exact sa_mo 7 74 e7
  case s1 => exact sa_mo 11 75 e11
  case s2 => exact sa_ixa 30 (.tmp 74) (.tmp 75) 76 (.slice (some ⟨g7, 0, none⟩) n cap7) (.int .i64 (k : Int)) (.pointer (some ⟨g7, k, none⟩)) rfl rfl rfl (.nw 74 hz) (.nw 75 hz) (ix_slice (sz := 1) Tryz.underlying30 (by intro w; kernel_rfl) (by omega) (by omega)) rfl
  case s3 => exact sa_loadc 3 (.tmp 76) 77 (g7) (k) (.int .i64 r) rfl rfl rfl (by intro w; kernel_rfl) (.nw 76 hz) hR rfl
  case s4 => exact sa_bin .gtr 3 (.tmp 77) (.const _) 3 78 (.int .i64 r) (.int .i64 0) (.bool (decide (r > 0))) rfl rfl rfl (.nw 77 hz) (.const _) guard_int (bin_gtr rfl) rfl
  case e =>
  intro ac wz hA hgr hv
  exact wl_end (hend ac wz hA (hw hv hz 78) hgr)
def c44_ri : Code := (((Code.region 10 q44_10 false).seq (Code.cond (.tmp 28) Code.skip (Code.exit 2))).seq ((Code.block 3 ((Code.region 12 q44_12 true).seq (Code.cond (.tmp 45) ((Code.region 13 q44_13 false).seq (Code.region 14 q44_14 false)) Code.skip))).seq (Code.region 11 q44_11 false)))
def c44_li : Code := (Code.block 2 (c44_ri.loop))
def c44_ra : Code := (((Code.region 7 q44_7 false).seq (Code.cond (.tmp 22) Code.skip (Code.exit 0))).seq ((Code.block 1 ((Code.region 9 q44_9 false).seq c44_li)).seq (Code.region 8 q44_8 false)))
def c44_la : Code := (Code.block 0 (c44_ra.loop))
def c44_rj : Code := (((Code.region 19 q44_19 false).seq (Code.cond (.tmp 71) Code.skip (Code.exit 6))).seq ((Code.block 7 ((Code.region 21 q44_21 false).seq (Code.cond (.tmp 78) ((Code.region 22 q44_22 false).seq (Code.region 23 q44_23 false)) Code.skip))).seq (Code.region 20 q44_20 false)))
def c44_lj : Code := (Code.block 6 (c44_rj.loop))
def c44_rb : Code := (((Code.region 16 q44_16 false).seq (Code.cond (.tmp 59) Code.skip (Code.exit 4))).seq ((Code.block 5 ((Code.region 18 q44_18 false).seq c44_lj)).seq (Code.region 17 q44_17 false)))
def c44_lb : Code := (Code.block 4 (c44_rb.loop))
def c44_fin : Code := ((Code.region 24 q44_24 false).seq Code.ret)
def c44_c3 : Code := ((Code.region 3 q44_3 false).seq (Code.cond (.tmp 16) ((Code.region 4 q44_4 false).seq Code.ret) Code.skip))
def c44 : Code := ((Code.region 0 q44_0 false).seq ((Code.region 1 q44_1 false).seq ((Code.region 2 q44_2 false).seq (c44_c3.seq ((Code.region 5 q44_5 false).seq (((Code.region 6 q44_6 false).seq c44_la).seq (((Code.region 15 q44_15 false).seq c44_lb).seq c44_fin)))))))
structure Cs (w : World) (b C b6 g7 cap7 : Nat) (tl : List Value) (v5 : Value) (o M out room : List Int) (ac : Act) (x : World) : Prop where
  z : ac.tmps.size = 92
  df : ac.defers = []
  e2 : ac.eval (.tmp 2) = .pointer (some ⟨b, 0, none⟩)
  e4 : ac.eval (.tmp 4) = .pointer (some ⟨b + 1, 0, none⟩)
  e5 : ac.eval (.tmp 5) = v5
  e6 : ac.eval (.tmp 6) = .pointer (some ⟨b6, 0, none⟩)
  e7 : ac.eval (.tmp 7) = .slice (some ⟨g7, 0, none⟩) M.length cap7
  bl : Below b w x
  h2 : Holds x b (intV o) 43
  h4 : Holds x (b + 1) (intV zl) 43
  i5 : Ints C x v5 M
  h6 : Holds x b6 (intV out) 43
  h7 : Holds x g7 (intV room ++ tl) 3
  c1 : b + 1 < C
  c2 : C ≤ b6
  c3 : b6 < g7
theorem Cs.gr {w x y : World} {b C b6 g7 cap7 : Nat} {tl : List Value} {v5 : Value} {o M out room : List Int} {ac ad : Act} {D : List Nat} (h : Cs w b C b6 g7 cap7 tl v5 o M out room ac x) (hA : After D ac ad) (hD : (D.all fun s => decide (8 ≤ s)) = true) (g : Gr x y) : Cs w b C b6 g7 cap7 tl v5 o M out room ad y :=
  ⟨hA.size.trans h.z, hA.defers.trans h.df, hA.keep hD (by omega) h.e2, hA.keep hD (by omega) h.e4, hA.keep hD (by omega) h.e5, hA.keep hD (by omega) h.e6, hA.keep hD (by omega) h.e7, h.bl.trans (g.mono (Nat.le_of_lt h.h2.lt)), h.h2.below g h.h2.lt, h.h4.below g h.h4.lt, h.i5.below (g.mono (by have := h.h6.lt; have := h.c2; omega)), h.h6.below g h.h6.lt, h.h7.below g h.h7.lt, h.c1, h.c2, h.c3⟩
theorem Cs.setOut {w x : World} {b C b6 g7 cap7 : Nat} {tl : List Value} {v5 : Value} {o M out room : List Int} {ac : Act} (h : Cs w b C b6 g7 cap7 tl v5 o M out room ac x) (i : Nat) (v : Int) : Cs w b C b6 g7 cap7 tl v5 o M (out.set i v) room ac (x.setCell ⟨b6, i, none⟩ (.int .i64 v)) := by
  have u := (Upd.refl b6 x).setCell i (.int .i64 v)
  have h1 := h.c1
  have h2 := h.c2
  have h3 := h.c3
  exact ⟨h.z, h.df, h.e2, h.e4, h.e5, h.e6, h.e7, h.bl.trans (setCell_below b x ⟨b6, i, none⟩ _ (by show b ≤ b6; omega)), h.h2.upd u (by omega), h.h4.upd u (by omega), h.i5.below (setCell_below C x ⟨b6, i, none⟩ _ h2), by rw [← intV_set]; exact h.h6.set i _, h.h7.upd u (by omega), h1, h2, h3⟩
theorem Cs.setRoom {w x : World} {b C b6 g7 cap7 : Nat} {tl : List Value} {v5 : Value} {o M out room : List Int} {ac : Act} (h : Cs w b C b6 g7 cap7 tl v5 o M out room ac x) (k : Nat) (hk : k < room.length) (v : Int) : Cs w b C b6 g7 cap7 tl v5 o M out (room.set k v) ac (x.setCell ⟨g7, k, none⟩ (.int .i64 v)) := by
  have u := (Upd.refl g7 x).setCell k (.int .i64 v)
  have h1 := h.c1
  have h2 := h.c2
  have h3 := h.c3
  have h7 := h.h7.set k (.int .i64 v)
  rw [List.set_append_left _ _ (by rw [intV_len]; exact hk), intV_set] at h7
  exact ⟨h.z, h.df, h.e2, h.e4, h.e5, h.e6, h.e7, h.bl.trans (setCell_below b x ⟨g7, k, none⟩ _ (by show b ≤ g7; omega)), h.h2.upd u (by omega), h.h4.upd u (by omega), h.i5.below (setCell_below C x ⟨g7, k, none⟩ _ (by show C ≤ g7; omega)), h.h6.upd u (by omega), h7, h1, h2, h3⟩
theorem Cs.oc {w x : World} {b C b6 g7 cap7 : Nat} {tl : List Value} {v5 : Value} {o M out room : List Int} {ac : Act} (h : Cs w b C b6 g7 cap7 tl v5 o M out room ac x) (i : Nat) (hi : i < o.length) : ∀ y, Gr x y → y.cell? ⟨b, i, none⟩ = some (.int .i64 (o.getD i 0)) := fun _ hy => (h.h2.below hy h.h2.lt).at i _ (intV_at o i hi)
theorem Cs.uc {w x : World} {b C b6 g7 cap7 : Nat} {tl : List Value} {v5 : Value} {o M out room : List Int} {ac : Act} (h : Cs w b C b6 g7 cap7 tl v5 o M out room ac x) (i : Nat) (hi : i < out.length) : ∀ y, Gr x y → y.cell? ⟨b6, i, none⟩ = some (.int .i64 (out.getD i 0)) ∧ y.frozen? ⟨b6, i, none⟩ = false := fun _ hy => ⟨(h.h6.below hy h.h6.lt).at i _ (intV_at out i hi), (h.h6.below hy h.h6.lt).frozen i⟩
theorem Cs.rc {w x : World} {b C b6 g7 cap7 : Nat} {tl : List Value} {v5 : Value} {o M out room : List Int} {ac : Act} (h : Cs w b C b6 g7 cap7 tl v5 o M out room ac x) (k : Nat) (hk : k < room.length) : ∀ y, Gr x y → y.cell? ⟨g7, k, none⟩ = some (.int .i64 (room.getD k 0)) ∧ y.frozen? ⟨g7, k, none⟩ = false := fun _ hy => ⟨(h.h7.below hy h.h7.lt).at k _ (by rw [List.getElem?_append_left (by rw [intV_len]; exact hk)]; exact intV_at room k hk), (h.h7.below hy h.h7.lt).frozen k⟩
theorem Cs.mc {w x : World} {b C b6 g7 cap7 : Nat} {tl : List Value} {v5 : Value} {o M out room : List Int} {ac : Act} (h : Cs w b C b6 g7 cap7 tl v5 o M out room ac x) (k : Nat) (hk : k < M.length) : ∃ g of cap, v5 = .slice (some ⟨g, of, none⟩) M.length cap ∧ ∀ y, Gr x y → y.cell? ⟨g, of + k, none⟩ = some (.int .i64 (M.getD k 0)) := by
  obtain ⟨g, of, cap, hv, hg, hc⟩ := ints_at h.i5 k hk
  exact ⟨g, of, cap, hv, fun y hy => cell_below (hy.mono (by have := h.h6.lt; have := h.c2; omega)) hg hc⟩
/-! Whom a partition stays with. -/
def kOut (M : List Int) (l : List (Option Nat)) (i : Nat) : List Int := keptV M l ++ List.replicate (8 - i) 0
theorem kOut_len (M : List Int) (l : List (Option Nat)) (i : Nat) (h : l.length = i) (hi : i ≤ 8) : (kOut M l i).length = 8 := by
  unfold kOut
  rw [List.length_append, keptV_len, h, List.length_replicate]; omega
def KMid (M : List Int) (s : List (Option Nat) × List Int) (i k : Nat) (x : Option Nat) (out room : List Int) : Prop :=
  (∃ j, x = some j ∧ j < k ∧ out = kOut M (keepS s x).1 (i + 1) ∧ room = (keepS s x).2) ∨ ((∀ j, x = some j → k ≤ j) ∧ out = kOut M s.1 i ∧ room = s.2)
theorem rclaim_li {Q : Exit → Act → World → Prop} {w x : World} {b C b6 g7 cap7 i : Nat} {tl : List Value} {v5 : Value} {o M : List Int} {ac : Act} {s : List (Option Nat) × List Int} (ho : o.length = 8) (hi : i < 8) (hM : M.Pairwise (· < ·)) (hl : M.length ≤ 17592186043904) (hs1 : s.1.length = i) (hs2 : s.2.length = M.length) (hr8 : R8 s.2) (h : Cs w b C b6 g7 cap7 tl v5 o M (kOut M s.1 i) s.2 ac x) (e8 : ac.eval (.tmp 8) = .int .i64 (i : Int)) (e9 : ac.eval (.tmp 9) = .int .i64 ((0 : Nat) : Int))
    (hend : ∀ ad y, Cs w b C b6 g7 cap7 tl v5 o M (kOut M (keepS s (findI M (o.getD i 0))).1 (i + 1)) (keepS s (findI M (o.getD i 0))).2 ad y → ad.eval (.tmp 8) = .int .i64 (i : Int) → Q .normal ad y) : c44_li.wp Tryz.prog Q ac x := by
  obtain ⟨a5, cap5, hv5⟩ := h.i5.len
  have hkl := keepS_len s (findI M (o.getD i 0))
  have hkr := keepS_R8 (s := s) hr8 (findI M (o.getD i 0))
  unfold c44_li
  refine wp_block ?_
  refine wp_loop (fun ad y => ∃ (k : Nat) (out room : List Int), Cs w b C b6 g7 cap7 tl v5 o M out room ad y ∧ k ≤ M.length ∧ ad.eval (.tmp 8) = .int .i64 (i : Int) ∧ ad.eval (.tmp 9) = .int .i64 (k : Int) ∧ KMid M s i k (findI M (o.getD i 0)) out room) (fun ad _ => M.length - (intOf (ad.eval (.tmp 9))).toNat)
    ⟨0, _, _, h, Nat.zero_le _, e8, e9, .inr ⟨fun _ _ => Nat.zero_le _, rfl, rfl⟩⟩ (fun a0 x0 ⟨k, out, room, h0, hk, f8, f9, hmid⟩ => ?_)
  unfold c44_ri
  refine wp_seq (wp_seq (r44_10 h0.z k M.length cap5 a5 f9 (by rw [h0.e5, hv5]) (fun a2 x2 A2 o2 G2 => ?_)))
  have h2 := h0.gr A2 (by decide) G2
  have g8 := A2.get f8 (by decide)
  have g9 := A2.get f9 (by decide)
  show Code.wp Tryz.prog (Code.cond _ _ _) _ a2 x2
  refine wp_cond_split o2 (fun q => ?_) (fun q => ?_)
  · have q : (k : Int) < (M.length : Int) := of_decide_eq_true q
    have hkl' : k < M.length := by omega
    have holen : out.length = 8 ∧ room.length = M.length ∧ R8 room := by
      rcases hmid with ⟨j, _, _, rfl, rfl⟩ | ⟨_, rfl, rfl⟩
      · exact ⟨kOut_len _ _ _ (by rw [hkl.1, hs1]) (by omega), by rw [hkl.2, hs2], hkr⟩
      · exact ⟨kOut_len _ _ _ hs1 (by omega), hs2, hr8⟩
    obtain ⟨hol, hrl, hrr⟩ := holen
    obtain ⟨g, of, cap, hv, hX⟩ := h2.mc k hkl'
    have fiff := find_iff hM k hkl' (o.getD i 0)
    have fin : ∀ a4 x4 out' room', Cs w b C b6 g7 cap7 tl v5 o M out' room' a4 x4 → a4.eval (.tmp 8) = .int .i64 (i : Int) → a4.eval (.tmp 9) = .int .i64 (k : Int) → KMid M s i (k + 1) (findI M (o.getD i 0)) out' room' → (Code.region 11 q44_11 false).wp Tryz.prog (Exit.then (fun a' w' => (∃ (k : Nat) (out room : List Int), Cs w b C b6 g7 cap7 tl v5 o M out room a' w' ∧ k ≤ M.length ∧ a'.eval (.tmp 8) = .int .i64 (i : Int) ∧ a'.eval (.tmp 9) = .int .i64 (k : Int) ∧ KMid M s i k (findI M (o.getD i 0)) out room) ∧ M.length - (intOf (a'.eval (.tmp 9))).toNat < M.length - (intOf (a0.eval (.tmp 9))).toNat) (Exit.inBlock 2 Q)) a4 x4 := fun a4 x4 out' room' h4 m8 m9 hm4 => by
      refine r44_11 h4.z k (by omega) m9 (fun a5 x5 A5 o5 G5 => ?_)
      refine ⟨⟨k + 1, out', room', h4.gr A5 (by decide) G5, by omega, A5.get m8 (by decide), o5, hm4⟩, ?_⟩
      rw [o5, f9]
      simp only [intOf]
      omega
    refine wp_skip ?_
    show Code.wp Tryz.prog (Code.seq _ _) _ a2 x2
    refine wp_seq (wp_block ?_)
    by_cases he : o.getD i 0 = M.getD k 0
    · have hf : findI M (o.getD i 0) = some k := fiff.2 he.symm
      have hnot : out = kOut M s.1 i ∧ room = s.2 := by
        rcases hmid with ⟨j, hj, hjk, _, _⟩ | ⟨_, h1, h2⟩
        · rw [hf] at hj; cases hj; omega
        · exact ⟨h1, h2⟩
      obtain ⟨rfl, rfl⟩ := hnot
      refine wp_seq (r44_12t h2.z g of M.length cap k _ hkl' hX b i _ hi (h2.oc i (by omega)) g7 cap7 _ (fun y hy => (h2.rc k (by omega) y hy).1) he g8 h2.e2 (by rw [h2.e5, hv]) g9 h2.e7 (fun a3 x3 A3 o3 G3 => ?_))
      have h3 := h2.gr A3 (by decide) G3
      show Code.wp Tryz.prog (Code.cond _ _ _) _ a3 x3
      refine wp_cond_split o3 (fun q' => ?_) (fun q' => ?_)
      · have q' : s.2.getD k 0 > 0 := of_decide_eq_true q'
        have hks : keepS s (some k) = (s.1 ++ [some k], s.2.set k (s.2.getD k 0 - 1)) := by
          show (if 0 < s.2.getD k 0 then _ else _) = _
          rw [if_pos q']
        refine wp_seq (r44_13 h3.z g of M.length cap k _ hkl' (fun y hy => hX y (G3.trans hy)) b6 i hi _ (h3.uc i (by omega)) (A3.get g8 (by decide)) (by rw [h3.e5, hv]) (A3.get g9 (by decide)) h3.e6 (fun a4 x4 A4 G4 => ?_))
        have h4 := (h3.gr A4 (by decide) G4).setOut i (M.getD k 0)
        show Code.wp Tryz.prog (Code.region 14 q44_14 false) _ a4 _
        refine r44_14 h4.z g7 M.length cap7 k hkl' (s.2.getD k 0) (hr8 k) (h4.rc k (by omega)) h4.e7 (A4.get (A3.get g9 (by decide)) (by decide)) (fun a5 x5 A5 G5 => ?_)
        have h5 := (h4.gr A5 (by decide) G5).setRoom k (by omega) (s.2.getD k 0 - 1)
        refine fin a5 _ _ _ h5 (A5.get (A4.get (A3.get g8 (by decide)) (by decide)) (by decide)) (A5.get (A4.get (A3.get g9 (by decide)) (by decide)) (by decide)) (.inl ⟨k, hf, by omega, ?_, ?_⟩)
        · rw [hf, hks]
          exact (kept_some M s.1 k _ i hi hs1 rfl).symm
        · rw [hf, hks]
      · have q' : ¬ s.2.getD k 0 > 0 := of_decide_eq_false q'
        have hks : keepS s (some k) = (s.1 ++ [none], s.2) := by
          show (if 0 < s.2.getD k 0 then _ else _) = _
          rw [if_neg q']
        refine wp_skip ?_
        refine fin a3 x3 _ _ h3 (A3.get g8 (by decide)) (A3.get g9 (by decide)) (.inl ⟨k, hf, by omega, ?_, ?_⟩)
        · rw [hf, hks]
          exact (kept_none M s.1 i hi).symm
        · rw [hf, hks]
    · refine wp_seq (r44_12f h2.z g of M.length cap k _ hkl' hX b i _ hi (h2.oc i (by omega)) he g8 h2.e2 (by rw [h2.e5, hv]) g9 (fun a3 x3 A3 o3 G3 => ?_))
      have h3 := h2.gr A3 (by decide) G3
      show Code.wp Tryz.prog (Code.cond _ _ _) _ a3 x3
      refine wp_cond_split o3 (fun q' => by cases q') (fun _ => wp_skip ?_)
      refine fin a3 x3 _ _ h3 (A3.get g8 (by decide)) (A3.get g9 (by decide)) ?_
      rcases hmid with ⟨j, hj, hjk, h1, h2⟩ | ⟨hj, h1, h2⟩
      · exact .inl ⟨j, hj, by omega, h1, h2⟩
      · refine .inr ⟨fun j hj' => ?_, h1, h2⟩
        have h9 := hj j hj'
        have h8 : j ≠ k := fun e => by subst e; exact he (fiff.1 hj').symm
        omega
  · have q : ¬ (k : Int) < (M.length : Int) := of_decide_eq_false q
    refine wp_exit (hend a2 x2 ?_ g8)
    rcases hmid with ⟨j, hj, hjk, rfl, rfl⟩ | ⟨hj, rfl, rfl⟩
    · exact h2
    · have hn : findI M (o.getD i 0) = none := by
        cases hf : findI M (o.getD i 0) with
        | none => rfl
        | some j =>
          have h9 := hj j hf
          have h8 := (findI_some hM hf).1
          omega
      rw [hn]
      have e : kOut M (keepS s none).1 (i + 1) = kOut M s.1 i := kept_none M s.1 i hi
      rw [e]
      exact h2
def kpTo (M o : List Int) (room : List Int) (i : Nat) : List (Option Nat) × List Int := ((o.map (findI M)).take i).foldl keepS ([], room)
theorem kpTo_succ (M o room : List Int) (i : Nat) (hi : i < o.length) : kpTo M o room (i + 1) = keepS (kpTo M o room i) (findI M (o.getD i 0)) := by
  unfold kpTo
  rw [List.take_succ_eq_append_getElem (by simpa using hi), List.foldl_append]
  simp [List.getD_eq_getElem?_getD, hi]
theorem kpTo_facts (M o room : List Int) (hr : room.length = M.length) (hr8 : R8 room) : ∀ i, i ≤ o.length → (kpTo M o room i).1.length = i ∧ (kpTo M o room i).2.length = M.length ∧ R8 (kpTo M o room i).2
  | 0, _ => ⟨rfl, hr, hr8⟩
  | i + 1, h => by
    obtain ⟨a, b, c⟩ := kpTo_facts M o room hr hr8 i (by omega)
    rw [kpTo_succ M o room i (by omega)]
    have := keepS_len (kpTo M o room i) (findI M (o.getD i 0))
    exact ⟨by omega, by omega, keepS_R8 c _⟩
theorem rclaim_la {Q : Exit → Act → World → Prop} {w x : World} {b C b6 g7 cap7 : Nat} {tl : List Value} {v5 : Value} {o M room : List Int} {ac : Act} (ho : o.length = 8) (hM : M.Pairwise (· < ·)) (hl : M.length ≤ 17592186043904) (hr : room.length = M.length) (hr8 : R8 room) (h : Cs w b C b6 g7 cap7 tl v5 o M zl room ac x) (e8 : ac.eval (.tmp 8) = .int .i64 ((0 : Nat) : Int))
    (hend : ∀ ad y, Cs w b C b6 g7 cap7 tl v5 o M (keptV M (keepI (o.map (findI M)) room).1) (keepI (o.map (findI M)) room).2 ad y → Q .normal ad y) : c44_la.wp Tryz.prog Q ac x := by
  unfold c44_la
  refine wp_block ?_
  refine wp_loop (fun ad y => ∃ i : Nat, Cs w b C b6 g7 cap7 tl v5 o M (kOut M (kpTo M o room i).1 i) (kpTo M o room i).2 ad y ∧ i ≤ 8 ∧ ad.eval (.tmp 8) = .int .i64 (i : Int)) (fun ad _ => 8 - (intOf (ad.eval (.tmp 8))).toNat)
    ⟨0, h, by omega, e8⟩ (fun a0 x0 ⟨i, h0, hi, f8⟩ => ?_)
  obtain ⟨k1, k2, k3⟩ := kpTo_facts M o room hr hr8 i (by omega)
  unfold c44_ra
  refine wp_seq (wp_seq (r44_7 h0.z i f8 (fun a2 x2 A2 o2 G2 => ?_)))
  have h2 := h0.gr A2 (by decide) G2
  have g8 := A2.get f8 (by decide)
  show Code.wp Tryz.prog (Code.cond _ _ _) _ a2 x2
  refine wp_cond_split o2 (fun q => ?_) (fun q => ?_)
  · have q : (i : Int) < 8 := of_decide_eq_true q
    have hi8 : i < 8 := by omega
    refine wp_skip ?_
    show Code.wp Tryz.prog (Code.seq _ _) _ a2 x2
    refine wp_seq (wp_block ?_)
    refine wp_seq (r44_9 h2.z (fun a3 x3 A3 o9 G3 => ?_))
    have h3 := h2.gr A3 (by decide) G3
    show Code.wp Tryz.prog c44_li _ a3 x3
    refine rclaim_li ho hi8 hM hl k1 k2 k3 h3 (A3.get g8 (by decide)) o9 (fun a4 x4 h4 m8 => ?_)
    show Code.wp Tryz.prog (Code.region 8 q44_8 false) _ a4 x4
    refine r44_8 h4.z i (by omega) m8 (fun a5 x5 A5 o5 G5 => ?_)
    have h5 := h4.gr A5 (by decide) G5
    rw [← kpTo_succ M o room i (by omega)] at h5
    refine ⟨⟨i + 1, h5, by omega, o5⟩, ?_⟩
    rw [o5, f8]
    simp only [intOf]
    omega
  · have q : ¬ (i : Int) < 8 := of_decide_eq_false q
    obtain rfl : i = 8 := by omega
    have e1 : kpTo M o room 8 = keepI (o.map (findI M)) room := by
      unfold kpTo keepI
      rw [List.take_of_length_le (by simp [ho])]
    have e2 : kOut M (kpTo M o room 8).1 8 = keptV M (kpTo M o room 8).1 := by simp [kOut]
    rw [e2, e1] at h2
    exact wp_exit (hend a2 x2 h2)
/-! Whom the rest goes to. -/
theorem rclaim_lj {Q : Exit → Act → World → Prop} {w x : World} {b C b6 g7 cap7 i : Nat} {tl : List Value} {v5 : Value} {o M : List Int} {ac : Act} {s : List Nat × List Int × Nat} {y0 : Option Nat} {left : List (Option Nat)} (hi : i < 8) (hp : ∀ x ∈ M, 0 < x) (hl : M.length ≤ 17592186043904) (hM0 : 0 < M.length) (hs1 : s.1.length = i) (hll : (y0 :: left).length = 8 - i) (hin : ∀ j, y0 = some j → j < M.length) (hok : FillOk M.length s (y0 :: left)) (h : Cs w b C b6 g7 cap7 tl v5 o M (midV M s.1 (y0 :: left)) s.2.1 ac x) (e10 : ac.eval (.tmp 10) = .int .i64 (i : Int)) (e11 : ac.eval (.tmp 11) = .int .i64 ((0 : Nat) : Int))
    (hend : ∀ ad y, Cs w b C b6 g7 cap7 tl v5 o M (midV M (fillS s y0).1 left) (fillS s y0).2.1 ad y → ad.eval (.tmp 10) = .int .i64 (i : Int) → Q .normal ad y) : c44_lj.wp Tryz.prog Q ac x := by
  obtain ⟨a5, cap5, hv5⟩ := h.i5.len
  have hpos : ∀ j, j < M.length → 0 < M.getD j 0 := fun j hj => hp _ (by rw [List.getD_eq_getElem?_getD, List.getElem?_eq_getElem hj]; exact List.getElem_mem hj)
  have hml : (midV M s.1 (y0 :: left)).length = 8 := by rw [midV_len, hll, hs1]; omega
  have hat : (midV M s.1 (y0 :: left)).getD i 0 = valI M y0 := by
    unfold midV
    rw [List.getD_eq_getElem?_getD, List.getElem?_append_right (by rw [outV_len]; omega), outV_len, hs1, Nat.sub_self]
    rfl
  unfold c44_lj
  refine wp_block ?_
  cases y0 with
  | some j =>
    have hj := hin j rfl
    refine wp_loop (fun ad y => Cs w b C b6 g7 cap7 tl v5 o M (midV M s.1 (some j :: left)) s.2.1 ad y ∧ ad.eval (.tmp 10) = .int .i64 (i : Int) ∧ ad.eval (.tmp 11) = .int .i64 ((0 : Nat) : Int)) (fun _ _ => 0) ⟨h, e10, e11⟩ (fun a0 x0 ⟨h0, f10, f11⟩ => ?_)
    unfold c44_rj
    refine wp_seq (wp_seq (r44_19t h0.z 0 M.length cap5 a5 hM0 b6 i _ hi (fun y hy => (h0.uc i (by omega) y hy).1) f11 (by rw [h0.e5, hv5]) f10 h0.e6 (fun a2 x2 A2 o2 G2 => ?_)))
    rw [hat] at o2
    have h2 := h0.gr A2 (by decide) G2
    show Code.wp Tryz.prog (Code.cond _ _ _) _ a2 x2
    refine wp_cond_split o2 (fun q => ?_) (fun _ => ?_)
    · have q := of_decide_eq_true q
      have := hpos j hj
      exfalso
      have : M.getD j 0 = 0 := q
      omega
    · refine wp_exit (hend a2 x2 ?_ (A2.get f10 (by decide)))
      have e : midV M (fillS s (some j)).1 left = midV M s.1 (some j :: left) := midV_some M s.1 j left
      rw [e]
      exact h2
  | none =>
    have hsum : 0 < s.2.1.sum := by rw [hok.sum]; simp
    obtain ⟨k0, k1, k2, k3⟩ := skip_facts s.2.1 s.2.2 hok.zeros hsum
    have hlen := hok.len
    have hfs : fillS s none = (s.1 ++ [skipI s.2.1 s.2.2], s.2.1.set (skipI s.2.1 s.2.2) (s.2.1.getD (skipI s.2.1 s.2.2) 0 - 1), skipI s.2.1 s.2.2) := rfl
    generalize skipI s.2.1 s.2.2 = sk at *
    have hout : midV M (fillS s none).1 left = (midV M s.1 (none :: left)).set i (M.getD sk 0) := by
      rw [hfs]
      have := midV_none M s.1 sk left
      rw [hs1] at this
      exact this
    refine wp_loop (fun ad y => ∃ k : Nat, ad.eval (.tmp 10) = .int .i64 (i : Int) ∧ ad.eval (.tmp 11) = .int .i64 (k : Int) ∧ ((k ≤ sk ∧ Cs w b C b6 g7 cap7 tl v5 o M (midV M s.1 (none :: left)) s.2.1 ad y) ∨ (k = sk + 1 ∧ Cs w b C b6 g7 cap7 tl v5 o M (midV M (fillS s none).1 left) (fillS s none).2.1 ad y))) (fun ad _ => M.length + 1 - (intOf (ad.eval (.tmp 11))).toNat)
      ⟨0, e10, e11, .inl ⟨Nat.zero_le _, h⟩⟩ (fun a0 x0 ⟨k, f10, f11, hst⟩ => ?_)
    unfold c44_rj
    rcases hst with ⟨hk, h0⟩ | ⟨hk, h0⟩
    · have hkn : k < M.length := by omega
      refine wp_seq (wp_seq (r44_19t h0.z k M.length cap5 a5 hkn b6 i _ hi (fun y hy => (h0.uc i (by omega) y hy).1) f11 (by rw [h0.e5, hv5]) f10 h0.e6 (fun a2 x2 A2 o2 G2 => ?_)))
      rw [hat] at o2
      have h2 := h0.gr A2 (by decide) G2
      have g10 := A2.get f10 (by decide)
      have g11 := A2.get f11 (by decide)
      show Code.wp Tryz.prog (Code.cond _ _ _) _ a2 x2
      refine wp_cond_split o2 (fun _ => ?_) (fun q => absurd (show valI M none = 0 from rfl) (of_decide_eq_false q))
      refine wp_skip ?_
      show Code.wp Tryz.prog (Code.seq _ _) _ a2 x2
      refine wp_seq (wp_block ?_)
      refine wp_seq (r44_21 h2.z M.length k hkn g7 cap7 _ (fun y hy => (h2.rc k (by omega) y hy).1) h2.e7 g11 (fun a3 x3 A3 o3 G3 => ?_))
      have h3 := h2.gr A3 (by decide) G3
      have m10 := A3.get g10 (by decide)
      have m11 := A3.get g11 (by decide)
      show Code.wp Tryz.prog (Code.cond _ _ _) _ a3 x3
      refine wp_cond_split o3 (fun q => ?_) (fun q => ?_)
      · have q : s.2.1.getD k 0 > 0 := of_decide_eq_true q
        have hksk : k = sk := by
          rcases Nat.lt_or_ge k sk with q' | q'
          · have := k3 k q'; omega
          · omega
        subst hksk
        obtain ⟨g, of, cap, hv, hX⟩ := h3.mc k hkn
        refine wp_seq (r44_22 h3.z g of M.length cap k _ hkn hX b6 i hi _ (h3.uc i (by omega)) m10 (by rw [h3.e5, hv]) m11 h3.e6 (fun a4 x4 A4 G4 => ?_))
        have h4 := (h3.gr A4 (by decide) G4).setOut i (M.getD k 0)
        show Code.wp Tryz.prog (Code.region 23 q44_23 false) _ a4 _
        refine r44_23 h4.z g7 M.length cap7 k hkn (s.2.1.getD k 0) (hok.r8 k) (h4.rc k (by omega)) h4.e7 (A4.get m11 (by decide)) (fun a5 x5 A5 G5 => ?_)
        have h5 := (h4.gr A5 (by decide) G5).setRoom k (by omega) (s.2.1.getD k 0 - 1)
        show Code.wp Tryz.prog (Code.region 20 q44_20 false) _ a5 _
        refine r44_20 h5.z k (by omega) (A5.get (A4.get m11 (by decide)) (by decide)) (fun a6 x6 A6 o6 G6 => ?_)
        have h6 := h5.gr A6 (by decide) G6
        refine ⟨⟨k + 1, A6.get (A5.get (A4.get m10 (by decide)) (by decide)) (by decide), o6, .inr ⟨rfl, ?_⟩⟩, ?_⟩
        · rw [hout, hfs]; exact h6
        · show M.length + 1 - (intOf (a6.eval (.tmp 11))).toNat < M.length + 1 - (intOf (a0.eval (.tmp 11))).toNat
          rw [o6, f11]
          simp only [intOf]
          omega
      · have q : ¬ s.2.1.getD k 0 > 0 := of_decide_eq_false q
        have hlt : k < sk := by
          rcases Nat.lt_or_ge k sk with q' | q'
          · exact q'
          · have e : k = sk := by omega
            subst e
            have := hok.r8 k
            omega
        refine wp_skip ?_
        show Code.wp Tryz.prog (Code.region 20 q44_20 false) _ a3 x3
        refine r44_20 h3.z k (by omega) m11 (fun a6 x6 A6 o6 G6 => ?_)
        refine ⟨⟨k + 1, A6.get m10 (by decide), o6, .inl ⟨by omega, h3.gr A6 (by decide) G6⟩⟩, ?_⟩
        show M.length + 1 - (intOf (a6.eval (.tmp 11))).toNat < M.length + 1 - (intOf (a0.eval (.tmp 11))).toNat
        rw [o6, f11]
        simp only [intOf]
        omega
    · by_cases hkn : k < M.length
      · have hol : (midV M (fillS s none).1 left).length = 8 := by rw [hout, List.length_set]; exact hml
        refine wp_seq (wp_seq (r44_19t h0.z k M.length cap5 a5 hkn b6 i _ hi (fun y hy => (h0.uc i (by omega) y hy).1) f11 (by rw [h0.e5, hv5]) f10 h0.e6 (fun a2 x2 A2 o2 G2 => ?_)))
        have h2 := h0.gr A2 (by decide) G2
        show Code.wp Tryz.prog (Code.cond _ _ _) _ a2 x2
        refine wp_cond_split o2 (fun q => ?_) (fun _ => ?_)
        · have q := of_decide_eq_true q
          rw [hout, getD_set_eq, if_pos ⟨rfl, by omega⟩] at q
          have := hpos sk (by omega)
          omega
        · exact wp_exit (hend a2 x2 h2 (A2.get f10 (by decide)))
      · refine wp_seq (wp_seq (r44_19f h0.z k M.length cap5 a5 hkn f11 (by rw [h0.e5, hv5]) (fun a2 x2 A2 o2 G2 => ?_)))
        have h2 := h0.gr A2 (by decide) G2
        show Code.wp Tryz.prog (Code.cond _ _ _) _ a2 x2
        refine wp_cond_split o2 (fun q => by cases q) (fun _ => ?_)
        exact wp_exit (hend a2 x2 h2 (A2.get f10 (by decide)))
theorem rclaim_lb {Q : Exit → Act → World → Prop} {w x : World} {b C b6 g7 cap7 : Nat} {tl : List Value} {v5 : Value} {o M room : List Int} {kept : List (Option Nat)} {ac : Act} (hp : ∀ x ∈ M, 0 < x) (hl : M.length ≤ 17592186043904) (hM0 : 0 < M.length) (hk8 : kept.length = 8) (hin : ∀ i, some i ∈ kept → i < M.length) (hok : FillOk M.length ([], room, 0) kept) (h : Cs w b C b6 g7 cap7 tl v5 o M (keptV M kept) room ac x) (e10 : ac.eval (.tmp 10) = .int .i64 ((0 : Nat) : Int))
    (hend : ∀ ad y r', Cs w b C b6 g7 cap7 tl v5 o M (outV M (fillI kept room)) r' ad y → Q .normal ad y) : c44_lb.wp Tryz.prog Q ac x := by
  unfold c44_lb
  refine wp_block ?_
  refine wp_loop (fun ad y => ∃ i : Nat, Cs w b C b6 g7 cap7 tl v5 o M (midV M ((kept.take i).foldl fillS ([], room, 0)).1 (kept.drop i)) ((kept.take i).foldl fillS ([], room, 0)).2.1 ad y ∧ i ≤ 8 ∧ ad.eval (.tmp 10) = .int .i64 (i : Int)) (fun ad _ => 8 - (intOf (ad.eval (.tmp 10))).toNat)
    ⟨0, h, by omega, e10⟩ (fun a0 x0 ⟨i, h0, hi, f10⟩ => ?_)
  have hok' := fill_ok M.length kept i _ hok
  have hsl : ((kept.take i).foldl fillS ([], room, 0)).1.length = i := by rw [fold_len]; simp; omega
  unfold c44_rb
  refine wp_seq (wp_seq (r44_16 h0.z i f10 (fun a2 x2 A2 o2 G2 => ?_)))
  have h2 := h0.gr A2 (by decide) G2
  have g10 := A2.get f10 (by decide)
  show Code.wp Tryz.prog (Code.cond _ _ _) _ a2 x2
  refine wp_cond_split o2 (fun q => ?_) (fun q => ?_)
  · have q : (i : Int) < 8 := of_decide_eq_true q
    have hi8 : i < 8 := by omega
    have hik : i < kept.length := by omega
    have hdrop : kept.drop i = kept[i] :: kept.drop (i + 1) := List.drop_eq_getElem_cons hik
    have htake : (kept.take (i + 1)).foldl fillS ([], room, 0) = fillS ((kept.take i).foldl fillS ([], room, 0)) kept[i] := by
      rw [List.take_succ_eq_append_getElem hik, List.foldl_append]; rfl
    have hll : (kept[i] :: kept.drop (i + 1)).length = 8 - i := by rw [← hdrop, List.length_drop]; omega
    rw [hdrop] at h2 hok'
    refine wp_skip ?_
    show Code.wp Tryz.prog (Code.seq _ _) _ a2 x2
    refine wp_seq (wp_block ?_)
    refine wp_seq (r44_18 h2.z (fun a3 x3 A3 o11 G3 => ?_))
    have h3 := h2.gr A3 (by decide) G3
    show Code.wp Tryz.prog c44_lj _ a3 x3
    refine rclaim_lj hi8 hp hl hM0 hsl hll (fun j hj => hin j (by rw [← hj]; exact List.getElem_mem hik)) hok' h3 (A3.get g10 (by decide)) o11 (fun a4 x4 h4 m10 => ?_)
    show Code.wp Tryz.prog (Code.region 17 q44_17 false) _ a4 x4
    refine r44_17 h4.z i (by omega) m10 (fun a5 x5 A5 o5 G5 => ?_)
    have h5 := h4.gr A5 (by decide) G5
    rw [← htake] at h5
    refine ⟨⟨i + 1, h5, by omega, o5⟩, ?_⟩
    rw [o5, f10]
    simp only [intOf]
    omega
  · have q : ¬ (i : Int) < 8 := of_decide_eq_false q
    obtain rfl : i = 8 := by omega
    have e1 : kept.take 8 = kept := List.take_of_length_le (by omega)
    have e2 : kept.drop 8 = [] := List.drop_eq_nil_of_le (by omega)
    rw [e1, e2] at h2
    have e3 : midV M (kept.foldl fillS ([], room, 0)).1 [] = outV M (fillI kept room) := by simp [midV, keptV, fillI]
    rw [e3] at h2
    exact wp_exit (hend a2 x2 _ h2)
theorem owns_holds {w : World} {base n : Nat} {v : Value} {l : List Int} (h : w.ownsRow base 3 1 v n (intV l)) (hn : 0 < n) (hl : l.length = n) : ∃ g cap tl, v = .slice (some ⟨g, 0, none⟩) n cap ∧ base ≤ g ∧ Holds w g (intV l ++ tl) 3 := by
  rcases h.2 with ⟨_, h0⟩ | ⟨g, cap, cur, e, hng, hg, hc, _, hs, ht⟩
  · omega
  · refine ⟨g, cap, cur.toList.drop n, e, hng, ?_⟩
    unfold Holds
    rw [hg]
    congr 2
    rw [← ht, Nat.mul_one, List.take_append_drop, Array.toArray_toList]
theorem ret_row {x : World} {ac : Act} {b4 : Nat} {l : List Int} {R : Ending → World → Prop} (df : ac.defers = []) (e4 : ac.eval (.tmp 4) = .pointer (some ⟨b4, 0, none⟩)) (hl : l.length = 8) (h : Holds x b4 (intV l) 43) (hR : R (.returned (.agg (intV l).toArray)) x) : bodyPost Tryz.prog Tryz.f44 R .ret ac x :=
  bodyPost_ret (results_cell_row (p := 4) (by kernel_rfl) _ x b4 43 (intV l).toArray (0, 0) _ e4 h und23 rfl (by rw [siz23, List.size_toArray, intV_len, hl])) df hR
set_option maxHeartbeats 1000000 in
theorem rclaim_any (v1 : Value) (o ms : List Int) (w : World) (ho : o.length = 8) (hm : Ints w.heap.size w v1 ms) (hl : ms.length ≤ 17592186043904) :
    Calls Tryz.prog 44 #[.agg (intV o).toArray, v1] w fun e z => e = .returned (.agg (intV (claimL o ms)).toArray) ∧ Gr w z := by
  obtain ⟨b, hwb⟩ : ∃ b, w.heap.size = b := ⟨_, rfl⟩
  rw [hwb] at hm
  obtain ⟨hM, hmem⟩ := risen_facts ms
  have hp : ∀ x ∈ risenL ms, 0 < x := fun x hx => ((hmem x).1 hx).2
  have hml : (risenL ms).length ≤ 17592186043904 := by
    have h1 : (risenL ms).length ≤ (sortL (posL ms)).length := by
      unfold risenL Lib.compact Lib.compactUpTo
      rw [List.length_map]
      exact Nat.le_trans (List.length_filter_le ..) (by simp)
    have h2 := posL_len ms
    rw [sortL_len] at h1
    omega
  have hcl : claimL o ms = if (risenL ms).length = 0 then List.replicate 8 0 else outV (risenL ms) (claimI (risenL ms).length (o.map (findI (risenL ms)))) := rfl
  have hcm := fun hn => claim_mid (risenL ms) o hM ho hn
  have hth : ∀ y, Below b w y → b ≤ y.heap.size → Calls Tryz.prog 72 #[v1] y fun e z => ∃ u, e = .returned u ∧ Gr y z ∧ (intsF (risenL ms)).holds u z := fun y hy hb => (those_any v1 ms y ((hm.below hy).mono hb) hl).mono fun e z ⟨u, p1, p2, p3⟩ => ⟨u, p1, p3, p2⟩
  have hclen := claimL_len o ms ho
  generalize risenL ms = M at *
  generalize claimL o ms = CL at *
  refine calls_by (c := c44) Tryz.func44 (by kernel_rfl) 92 (by rw [Tryz.ntmps44]; rfl) (fun ac z df hv => ?_)
  have e0 := hv 0 _ rfl
  have e1 := hv 1 _ rfl
  clear hv
  have hol : (intV o).length = 8 := by rw [intV_len, ho]
  unfold c44
  refine wp_seq (r44_0 z b hwb o e0 (fun a1 w1 x1 A1 o2 o4 N1 N2 => ?_))
  have z1 := A1.size.trans z
  have hb1 : Below b w x1 := N1.below.trans (N2.below.mono (by omega))
  have hH2 : Holds x1 b (intV o) 43 := N1.holds.below N2.below (by omega)
  have hs1 : x1.heap.size = b + 2 := N2.size
  show Code.wp Tryz.prog (Code.seq _ _) _ a1 x1
  refine wp_seq (r44_1 z1 v1 M (fun y hy => hth y (hb1.trans (hy.mono (by omega))) (by have := hy.size; omega)) (A1.get e1 (by decide)) (fun a2 x2 A2 i5 G2 => ?_))
  have z2 := A2.size.trans z1
  have f2 := A2.get o2 (by decide)
  have f4 := A2.get o4 (by decide)
  generalize he5 : a2.eval (.tmp 5) = v5 at i5
  have i5' : Ints x2.heap.size x2 v5 M := i5
  have hs2 : b + 2 ≤ x2.heap.size := by have := G2.size; omega
  show Code.wp Tryz.prog (Code.seq _ _) _ a2 x2
  refine wp_seq (r44_2 z2 x2.heap.size rfl (fun a3 x3 A3 o6 N3 => ?_))
  have z3 := A3.size.trans z2
  have df3 : a3.defers = [] := A3.defers.trans (A2.defers.trans (A1.defers.trans df))
  have k2 := A3.get f2 (by decide)
  have k4 := A3.get f4 (by decide)
  have k5 := A3.get he5 (by decide)
  have H2 : Holds x3 b (intV o) 43 := (hH2.below G2 hH2.lt).below N3.below (by omega)
  have H4 : Holds x3 (b + 1) (intV zl) 43 := (N2.holds.below G2 N2.holds.lt).below N3.below (by omega)
  have B3 : Below b w x3 := (hb1.trans (Below.mono G2 (by omega))).trans (N3.below.mono (by omega))
  have I3 : Ints x2.heap.size x3 v5 M := i5'.below N3.below
  have hs3 : x3.heap.size = x2.heap.size + 1 := N3.size
  obtain ⟨a5, cap5, hv5⟩ := I3.len
  show Code.wp Tryz.prog (Code.seq c44_c3 _) _ a3 x3
  unfold c44_c3
  refine wp_seq (wp_seq (r44_3 z3 M.length cap5 a5 (by rw [k5, hv5]) (fun a4 x4 A4 o16 G4 => ?_)))
  have z4 := A4.size.trans z3
  have df4 : a4.defers = [] := A4.defers.trans df3
  show Code.wp Tryz.prog (Code.cond _ _ _) _ a4 x4
  refine wp_cond_split o16 (fun q => ?_) (fun q => ?_)
  · have q : (M.length : Int) = 0 := of_decide_eq_true q
    refine wp_seq (r44_4 z4 (b + 1) x2.heap.size zl zl rfl rfl (N3.holds.below G4 N3.holds.lt) (H4.below G4 H4.lt) (A4.get o6 (by decide)) (A4.get k4 (by decide)) (fun a5' x5 A5 H5 B5 => ?_))
    rw [hcl, if_pos (by omega)]
    refine wp_ret (show bodyPost Tryz.prog Tryz.f44 (fun e z => e = .returned (.agg (intV zl).toArray) ∧ Gr w z) .ret a5' x5 from ret_row (A5.defers.trans df4) (A5.get (A4.get k4 (by decide)) (by decide)) rfl H5 ⟨rfl, ?_⟩)
    unfold Gr
    rw [hwb]
    exact (B3.trans (Below.mono G4 (by omega))).trans (B5.mono (by omega))
  · have q : ¬ (M.length : Int) = 0 := of_decide_eq_false q
    have hM0 : 0 < M.length := by omega
    obtain ⟨c1, c2, c3⟩ := hcm hM0
    rw [if_neg (by omega)] at hcl
    have hsl : (shareI (tallyI M.length (o.map (findI M)))).length = M.length := by rw [shareI_len, tallyI_len]
    refine wp_skip ?_
    show Code.wp Tryz.prog (Code.seq _ _) _ a4 x4
    have I4 : Ints x2.heap.size x4 v5 M := I3.below (Below.mono G4 (by omega))
    have H2' := H2.below G4 H2.lt
    have hs4 : x2.heap.size + 1 ≤ x4.heap.size := by have := G4.size; omega
    refine wp_seq (r44_5 z4 b v5 M.length (intV (shareI (tallyI M.length (o.map (findI M))))) o hol H2' (fun y hy => (quotas_any v5 o M y ho ((I4.below (Below.mono hy (by omega))).mono (by have := hy.size; omega)) hM hp hml).mono fun e z ⟨u, p1, p2, p3⟩ => ⟨u, p1, p3, p2.mono hy.size⟩) (A4.get k2 (by decide)) (A4.get k5 (by decide)) (fun a6 x6 A6 own7 G6 => ?_))
    generalize he7 : a6.eval (.tmp 7) = v7 at own7
    have own7' : x6.ownsRow x4.heap.size 3 1 v7 M.length (intV (shareI (tallyI M.length (o.map (findI M))))) := own7
    obtain ⟨g7, cap7, tl, hv7, hg7, H7⟩ := owns_holds own7' hM0 hsl
    have G46 := G4.trans G6
    have hC : Cs w b x2.heap.size x2.heap.size g7 cap7 tl v5 o M zl (shareI (tallyI M.length (o.map (findI M)))) a6 x6 :=
      ⟨A6.size.trans z4, A6.defers.trans df4, A6.get (A4.get k2 (by decide)) (by decide), A6.get (A4.get k4 (by decide)) (by decide), A6.get (A4.get k5 (by decide)) (by decide), A6.get (A4.get o6 (by decide)) (by decide), he7.trans hv7, B3.trans (Below.mono G46 (by omega)), H2.below G46 H2.lt, H4.below G46 H4.lt, I4.below (Below.mono G6 (by omega)), N3.holds.below G46 N3.holds.lt, H7, by omega, Nat.le_refl _, by omega⟩
    show Code.wp Tryz.prog (Code.seq (Code.seq _ c44_la) _) _ a6 x6
    refine wp_seq (wp_seq (r44_6 hC.z (fun a7 x7 A7 o8 G7 => ?_)))
    show Code.wp Tryz.prog c44_la _ a7 x7
    refine rclaim_la ho hM hml hsl (shareI_R8 _) (hC.gr A7 (by decide) G7) o8 (fun a8 x8 h8 => ?_)
    show Code.wp Tryz.prog (Code.seq (Code.seq _ c44_lb) c44_fin) _ a8 x8
    refine wp_seq (wp_seq (r44_15 h8.z (fun a9 x9 A9 o10 G9 => ?_)))
    show Code.wp Tryz.prog c44_lb _ a9 x9
    refine rclaim_lb hp hml hM0 c1 c2 c3 (h8.gr A9 (by decide) G9) o10 (fun a10 x10 r' h10 => ?_)
    show Code.wp Tryz.prog c44_fin _ a10 x10
    have hCL : outV M (fillI (keepI (o.map (findI M)) (shareI (tallyI M.length (o.map (findI M))))).1 (keepI (o.map (findI M)) (shareI (tallyI M.length (o.map (findI M))))).2) = CL := hcl.symm
    rw [hCL] at h10
    unfold c44_fin
    refine wp_seq (r44_24 h10.z (b + 1) x2.heap.size CL zl (by rw [intV_len, hclen]) rfl h10.h6 h10.h4 h10.e6 h10.e4 (fun a11 x11 A11 H11 B11 => ?_))
    refine wp_ret (ret_row (A11.defers.trans h10.df) (A11.get h10.e4 (by decide)) hclen H11 ⟨rfl, ?_⟩)
    unfold Gr
    rw [hwb]
    exact h10.bl.trans (B11.mono (by omega))
end Go.Proofs.YthmnjebmnocoiaaGreat.En
