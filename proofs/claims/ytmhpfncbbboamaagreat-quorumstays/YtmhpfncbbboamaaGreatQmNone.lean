/- Sorting nothing; copies of nothing. -/
import Derived.Test.YtmhpfncbbboamaaGreatQmSmall
namespace Go.Proofs.YtmhpfncbbboamaaGreat
open Go.RowKit

set_option maxRecDepth 100000 in
theorem len64_zero (w : World) : Calls Tryz.prog 88 #[.int .u64 0] w fun e w' => e = .returned (.int .i64 0) ∧ w' = w := by
  go_enter Tryz.func88, Tryz.ntmps88
  go_wp2
  go_ret
  exact ⟨by kernel_rfl, rfl⟩
set_option maxRecDepth 100000 in
theorem len_zero (w : World) : Calls Tryz.prog 58 #[.int .u64 0] w fun e w' => e = .returned (.int .i64 0) ∧ w' = w := by
  have h88 : Hid (∀ W, Calls Tryz.prog 88 #[.int .u64 0] W fun e w' => e = .returned (.int .i64 0) ∧ w' = W) := len64_zero
  go_enter Tryz.func58, Tryz.ntmps58
  go_wp2_with (go_at_call 88; refine (h88.out _).mono ?_; rintro e w2 ⟨rfl, rfl⟩)
  go_ret
  exact ⟨rfl, rfl⟩
set_option maxRecDepth 100000 in
theorem ins79_none (f : Value) (w : World) : Calls Tryz.prog 79 #[.slice none 0 0, .int .i64 0, .int .i64 0, f] w fun e w' => e = .returned (.tuple #[]) ∧ w' = w := by
  go_enter Tryz.func79, Tryz.ntmps79
  go_wp2
  refine wp_loop_once ?_
  go_wp2
  refine bodyPost_end (results_none (by kernel_rfl) _ _ _) rfl ?_
  exact ⟨rfl, rfl⟩
set_option maxRecDepth 100000 in
theorem pdq57_none (f : Value) (w : World) : Calls Tryz.prog 57 #[.slice none 0 0, .int .i64 0, .int .i64 0, .int .i64 0, f] w fun e w' => e = .returned (.tuple #[]) ∧ w' = w := by
  have hi : Hid (∀ W, Calls Tryz.prog 79 #[.slice none 0 0, .int .i64 0, .int .i64 0, f] W fun e w' => e = .returned (.tuple #[]) ∧ w' = W) := fun W => ins79_none f W
  go_enter Tryz.func57, Tryz.ntmps57
  go_wp2
  refine wp_loop_once ?_
  go_wp2_with (go_at_call 79; refine (hi.out _).mono ?_; rintro e w2 ⟨rfl, rfl⟩)
  refine bodyPost_ret (results_none (by kernel_rfl) _ _ _) rfl ?_
  exact ⟨rfl, rfl⟩
set_option maxRecDepth 100000 in
theorem sort45_none (f : Value) (w : World) : Calls Tryz.prog 45 #[.slice none 0 0, f] w fun e w' => e = .returned (.tuple #[]) ∧ w' = w := by
  have hp : Hid (∀ W, Calls Tryz.prog 57 #[.slice none 0 0, .int .i64 0, .int .i64 0, .int .i64 0, f] W fun e w' => e = .returned (.tuple #[]) ∧ w' = W) := fun W => pdq57_none f W
  have hl : Hid (∀ W, Calls Tryz.prog 58 #[.int .u64 0] W fun e w' => e = .returned (.int .i64 0) ∧ w' = W) := len_zero
  go_enter Tryz.func45, Tryz.ntmps45
  go_wp2_with (first | (go_at_call 58; refine (hl.out _).mono ?_; rintro e w2 ⟨rfl, rfl⟩) | (go_at_call 57; refine (hp.out _).mono ?_; rintro e w2 ⟨rfl, rfl⟩))
  refine bodyPost_end (results_none (by kernel_rfl) _ _ _) rfl ?_
  exact ⟨rfl, rfl⟩
set_option maxRecDepth 100000 in
theorem ins128_none (f : Value) (w : World) : Calls Tryz.prog 128 #[.slice none 0 0, .int .i64 0, .int .i64 0, f] w fun e w' => e = .returned (.tuple #[]) ∧ w' = w := by
  go_enter Tryz.func128, Tryz.ntmps128
  go_wp2
  refine wp_loop_once ?_
  go_wp2
  refine bodyPost_end (results_none (by kernel_rfl) _ _ _) rfl ?_
  exact ⟨rfl, rfl⟩
set_option maxRecDepth 100000 in
theorem pdq119_none (f : Value) (w : World) : Calls Tryz.prog 119 #[.slice none 0 0, .int .i64 0, .int .i64 0, .int .i64 0, f] w fun e w' => e = .returned (.tuple #[]) ∧ w' = w := by
  have hi : Hid (∀ W, Calls Tryz.prog 128 #[.slice none 0 0, .int .i64 0, .int .i64 0, f] W fun e w' => e = .returned (.tuple #[]) ∧ w' = W) := fun W => ins128_none f W
  go_enter Tryz.func119, Tryz.ntmps119
  go_wp2
  refine wp_loop_once ?_
  go_wp2_with (go_at_call 128; refine (hi.out _).mono ?_; rintro e w2 ⟨rfl, rfl⟩)
  refine bodyPost_ret (results_none (by kernel_rfl) _ _ _) rfl ?_
  exact ⟨rfl, rfl⟩
set_option maxRecDepth 100000 in
theorem sort99_none (f : Value) (w : World) : Calls Tryz.prog 99 #[.slice none 0 0, f] w fun e w' => e = .returned (.tuple #[]) ∧ w' = w := by
  have hp : Hid (∀ W, Calls Tryz.prog 119 #[.slice none 0 0, .int .i64 0, .int .i64 0, .int .i64 0, f] W fun e w' => e = .returned (.tuple #[]) ∧ w' = W) := fun W => pdq119_none f W
  have hl : Hid (∀ W, Calls Tryz.prog 58 #[.int .u64 0] W fun e w' => e = .returned (.int .i64 0) ∧ w' = W) := len_zero
  go_enter Tryz.func99, Tryz.ntmps99
  go_wp2_with (first | (go_at_call 58; refine (hl.out _).mono ?_; rintro e w2 ⟨rfl, rfl⟩) | (go_at_call 119; refine (hp.out _).mono ?_; rintro e w2 ⟨rfl, rfl⟩))
  refine bodyPost_end (results_none (by kernel_rfl) _ _ _) rfl ?_
  exact ⟨rfl, rfl⟩
set_option maxRecDepth 100000 in
theorem ins136_none (f : Value) (w : World) : Calls Tryz.prog 136 #[.slice none 0 0, .int .i64 0, .int .i64 0, f] w fun e w' => e = .returned (.tuple #[]) ∧ w' = w := by
  go_enter Tryz.func136, Tryz.ntmps136
  go_wp2
  refine wp_loop_once ?_
  go_wp2
  refine bodyPost_end (results_none (by kernel_rfl) _ _ _) rfl ?_
  exact ⟨rfl, rfl⟩
set_option maxRecDepth 100000 in
theorem pdq120_none (f : Value) (w : World) : Calls Tryz.prog 120 #[.slice none 0 0, .int .i64 0, .int .i64 0, .int .i64 0, f] w fun e w' => e = .returned (.tuple #[]) ∧ w' = w := by
  have hi : Hid (∀ W, Calls Tryz.prog 136 #[.slice none 0 0, .int .i64 0, .int .i64 0, f] W fun e w' => e = .returned (.tuple #[]) ∧ w' = W) := fun W => ins136_none f W
  go_enter Tryz.func120, Tryz.ntmps120
  go_wp2
  refine wp_loop_once ?_
  go_wp2_with (go_at_call 136; refine (hi.out _).mono ?_; rintro e w2 ⟨rfl, rfl⟩)
  refine bodyPost_ret (results_none (by kernel_rfl) _ _ _) rfl ?_
  exact ⟨rfl, rfl⟩
set_option maxRecDepth 100000 in
theorem sort101_none (f : Value) (w : World) : Calls Tryz.prog 101 #[.slice none 0 0, f] w fun e w' => e = .returned (.tuple #[]) ∧ w' = w := by
  have hp : Hid (∀ W, Calls Tryz.prog 120 #[.slice none 0 0, .int .i64 0, .int .i64 0, .int .i64 0, f] W fun e w' => e = .returned (.tuple #[]) ∧ w' = W) := fun W => pdq120_none f W
  have hl : Hid (∀ W, Calls Tryz.prog 58 #[.int .u64 0] W fun e w' => e = .returned (.int .i64 0) ∧ w' = W) := len_zero
  go_enter Tryz.func101, Tryz.ntmps101
  go_wp2_with (first | (go_at_call 58; refine (hl.out _).mono ?_; rintro e w2 ⟨rfl, rfl⟩) | (go_at_call 120; refine (hp.out _).mono ?_; rintro e w2 ⟨rfl, rfl⟩))
  refine bodyPost_end (results_none (by kernel_rfl) _ _ _) rfl ?_
  exact ⟨rfl, rfl⟩
set_option maxRecDepth 100000 in
theorem clone98_none (w : World) : Calls Tryz.prog 98 #[.slice none 0 0] w fun e w' => e = .returned (.slice none 0 0) ∧ w' = w := by
  have he : ∀ W, (binOp .eql 33 (.slice none 0 0) (.slice none 0 0)).run Tryz.prog W = .ok (.bool true) W := fun W => by kernel_rfl
  go_enter Tryz.func98, Tryz.ntmps98
  go_wp2
  go_ret
  exact ⟨rfl, rfl⟩
set_option maxRecDepth 100000 in
theorem clone100_none (w : World) : Calls Tryz.prog 100 #[.slice none 0 0] w fun e w' => e = .returned (.slice none 0 0) ∧ w' = w := by
  have he : ∀ W, (binOp .eql 34 (.slice none 0 0) (.slice none 0 0)).run Tryz.prog W = .ok (.bool true) W := fun W => by kernel_rfl
  go_enter Tryz.func100, Tryz.ntmps100
  go_wp2
  go_ret
  exact ⟨rfl, rfl⟩
end Go.Proofs.YtmhpfncbbboamaaGreat
