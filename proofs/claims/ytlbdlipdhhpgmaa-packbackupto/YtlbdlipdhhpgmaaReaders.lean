/- What the exported readings answer: of no reader, of one that has failed, of one that has not. -/
import Derived.Test.YtlbdlipdhhpgmaaKinds
namespace Go.Proofs.Ytlbdlipdhhpgmaa
open Go.RowKit

set_option maxRecDepth 100000 in
theorem num_nil (w : World) : Calls Try.prog 26 #[.pointer none] w fun x w' => x = .returned (.int .u64 0) ∧ w' = w := by
  go_enter Try.func26, Try.ntmps26
  go_wp2_with (go_at_call 44; refine (take44_42_nil _ _).mono ?_; rintro e w1 ⟨rfl, rfl⟩)
  go_ret
  exact ⟨rfl, rfl⟩
set_option maxRecDepth 100000 in
theorem num_err (b : Nat) (s : ByteArray) (E : Int) (hE : E ≠ 0) (w : World) (hr : Rd w b s E) :
    Calls Try.prog 26 #[.pointer (some ⟨b, 0, none⟩)] w fun x w' => x = .returned (.int .u64 0) ∧ w' = w := by
  go_enter Try.func26, Try.ntmps26
  go_wp2_with (go_at_call 44; refine (take44_42_err b s E hE _ hr _).mono ?_; rintro e w1 ⟨rfl, rfl⟩)
  go_ret
  exact ⟨rfl, rfl⟩
set_option maxRecDepth 100000 in
theorem num_ok (b : Nat) (s : ByteArray) (hs : s.size < 9223372036854775808) (w : World) (hr : Rd w b s 0) :
    Calls Try.prog 26 #[.pointer (some ⟨b, 0, none⟩)] w (TakeP b (.int .u64 (nV s : Int)) (nE s) (nR s) w) := by
  have ht : Hid (Calls Try.prog 44 #[.pointer (some ⟨b, 0, none⟩), .func (.func 42) #[.pointer (some ⟨b, 0, none⟩)] #[]] w (TakeP b (.int .u64 (nV s : Int)) (nE s) (nR s) w)) :=
    take44_42 b s _ _ _ w hr (fun h => by rw [nV_err h]; rfl) (num_q b s hs w hr)
  go_enter Try.func26, Try.ntmps26
  go_wp2_with (go_at_call 44; refine ht.out.mono ?_; rintro e w1 ⟨rfl, h1, u1⟩)
  go_ret
  exact ⟨rfl, h1, u1⟩
set_option maxRecDepth 100000 in
theorem int_nil (w : World) : Calls Try.prog 37 #[.pointer none] w fun x w' => x = .returned (.int .i64 0) ∧ w' = w := by
  go_enter Try.func37, Try.ntmps37
  go_wp2_with (go_at_call 52; refine (take52_53_nil _ _).mono ?_; rintro e w1 ⟨rfl, rfl⟩)
  go_ret
  exact ⟨rfl, rfl⟩
set_option maxRecDepth 100000 in
theorem int_err (b : Nat) (s : ByteArray) (E : Int) (hE : E ≠ 0) (w : World) (hr : Rd w b s E) :
    Calls Try.prog 37 #[.pointer (some ⟨b, 0, none⟩)] w fun x w' => x = .returned (.int .i64 0) ∧ w' = w := by
  go_enter Try.func37, Try.ntmps37
  go_wp2_with (go_at_call 52; refine (take52_53_err b s E hE _ hr _).mono ?_; rintro e w1 ⟨rfl, rfl⟩)
  go_ret
  exact ⟨rfl, rfl⟩
set_option maxRecDepth 100000 in
theorem int_ok (b : Nat) (s : ByteArray) (hs : s.size < 9223372036854775808) (w : World) (hr : Rd w b s 0) :
    Calls Try.prog 37 #[.pointer (some ⟨b, 0, none⟩)] w (TakeP b (.int .i64 (intV (nV s))) (nE s) (nR s) w) := by
  have ht : Hid (Calls Try.prog 52 #[.pointer (some ⟨b, 0, none⟩), .func (.func 53) #[.pointer (some ⟨b, 0, none⟩)] #[]] w (TakeP b (.int .i64 (intV (nV s))) (nE s) (nR s) w)) :=
    take52_53 b s _ _ _ w hr (fun h => by rw [nV_err h]; rfl) (integer_q b s hs w hr)
  go_enter Try.func37, Try.ntmps37
  go_wp2_with (go_at_call 52; refine ht.out.mono ?_; rintro e w1 ⟨rfl, h1, u1⟩)
  go_ret
  exact ⟨rfl, h1, u1⟩
set_option maxRecDepth 100000 in
theorem flag_nil (w : World) : Calls Try.prog 38 #[.pointer none] w fun x w' => x = .returned (.bool false) ∧ w' = w := by
  go_enter Try.func38, Try.ntmps38
  go_wp2_with (go_at_call 54; refine (take54_55_nil _ _).mono ?_; rintro e w1 ⟨rfl, rfl⟩)
  go_ret
  exact ⟨rfl, rfl⟩
set_option maxRecDepth 100000 in
theorem flag_err (b : Nat) (s : ByteArray) (E : Int) (hE : E ≠ 0) (w : World) (hr : Rd w b s E) :
    Calls Try.prog 38 #[.pointer (some ⟨b, 0, none⟩)] w fun x w' => x = .returned (.bool false) ∧ w' = w := by
  go_enter Try.func38, Try.ntmps38
  go_wp2_with (go_at_call 54; refine (take54_55_err b s E hE _ hr _).mono ?_; rintro e w1 ⟨rfl, rfl⟩)
  go_ret
  exact ⟨rfl, rfl⟩
set_option maxRecDepth 100000 in
theorem flag_ok (b : Nat) (s : ByteArray) (w : World) (hr : Rd w b s 0) :
    Calls Try.prog 38 #[.pointer (some ⟨b, 0, none⟩)] w (TakeP b (.bool (flV s)) (fE s) (fR s) w) := by
  have ht : Hid (Calls Try.prog 54 #[.pointer (some ⟨b, 0, none⟩), .func (.func 55) #[.pointer (some ⟨b, 0, none⟩)] #[]] w (TakeP b (.bool (flV s)) (fE s) (fR s) w)) :=
    take54_55 b s _ _ _ w hr (fun h => by rw [flV, if_neg h]) (flag_q b s w hr)
  go_enter Try.func38, Try.ntmps38
  go_wp2_with (go_at_call 54; refine ht.out.mono ?_; rintro e w1 ⟨rfl, h1, u1⟩)
  go_ret
  exact ⟨rfl, h1, u1⟩
set_option maxRecDepth 100000 in
theorem text_nil (w : World) : Calls Try.prog 39 #[.pointer none] w fun x w' => x = .returned (.string ⟨#[]⟩) ∧ w' = w := by
  go_enter Try.func39, Try.ntmps39
  go_wp2_with (go_at_call 56; refine (take56_57_nil _ _).mono ?_; rintro e w1 ⟨rfl, rfl⟩)
  go_ret
  exact ⟨rfl, rfl⟩
set_option maxRecDepth 100000 in
theorem text_err (b : Nat) (s : ByteArray) (E : Int) (hE : E ≠ 0) (w : World) (hr : Rd w b s E) :
    Calls Try.prog 39 #[.pointer (some ⟨b, 0, none⟩)] w fun x w' => x = .returned (.string ⟨#[]⟩) ∧ w' = w := by
  go_enter Try.func39, Try.ntmps39
  go_wp2_with (go_at_call 56; refine (take56_57_err b s E hE _ hr _).mono ?_; rintro e w1 ⟨rfl, rfl⟩)
  go_ret
  exact ⟨rfl, rfl⟩
set_option maxRecDepth 100000 in
theorem text_ok (b : Nat) (s : ByteArray) (hs : s.size < 9223372036854775808) (w : World) (hr : Rd w b s 0) :
    Calls Try.prog 39 #[.pointer (some ⟨b, 0, none⟩)] w (TakeP b (.string (txV s)) (textE s) (textR s) w) := by
  have ht : Hid (Calls Try.prog 56 #[.pointer (some ⟨b, 0, none⟩), .func (.func 57) #[.pointer (some ⟨b, 0, none⟩)] #[]] w (TakeP b (.string (txV s)) (textE s) (textR s) w)) :=
    take56_57 b s _ _ _ w hr (fun h => by rw [txV, if_neg h]) (text_q b s hs w hr)
  go_enter Try.func39, Try.ntmps39
  go_wp2_with (go_at_call 56; refine ht.out.mono ?_; rintro e w1 ⟨rfl, h1, u1⟩)
  go_ret
  exact ⟨rfl, h1, u1⟩
set_option maxRecDepth 100000 in
theorem raw_nil (n : Int) (w : World) : Calls Try.prog 40 #[.pointer none, .int .i64 n] w fun x w' => x = .returned (.string ⟨#[]⟩) ∧ w' = w := by
  go_enter Try.func40, Try.ntmps40
  go_wp2_with (go_at_call 56; refine (take56_58_nil _ _).mono ?_; rintro e w1 ⟨rfl, rfl⟩)
  go_ret
  exact ⟨rfl, rfl⟩
set_option maxRecDepth 100000 in
theorem raw_err (b : Nat) (s : ByteArray) (E : Int) (hE : E ≠ 0) (n : Int) (w : World) (hr : Rd w b s E) :
    Calls Try.prog 40 #[.pointer (some ⟨b, 0, none⟩), .int .i64 n] w fun x w' => x = .returned (.string ⟨#[]⟩) ∧ w' = w := by
  go_enter Try.func40, Try.ntmps40
  go_wp2_with (go_at_call 56; refine (take56_58_err b s E hE _ hr _).mono ?_; rintro e w1 ⟨rfl, rfl⟩)
  go_ret
  exact ⟨rfl, rfl⟩
set_option maxRecDepth 100000 in
theorem raw_ok (b : Nat) (s : ByteArray) (hs : s.size < 9223372036854775808) (n : Int) (w : World) (hr : Rd w b s 0) :
    Calls Try.prog 40 #[.pointer (some ⟨b, 0, none⟩), .int .i64 n] w (TakeP b (.string (rwV s n)) (rawE s n) (rawR s n) w) := by
  have ht : Hid (Calls Try.prog 56 #[.pointer (some ⟨b, 0, none⟩), .func (.func 58) #[.agg #[.pointer (some ⟨b, 0, none⟩), .int .i64 n]] #[]] w (TakeP b (.string (rwV s n)) (rawE s n) (rawR s n) w)) :=
    take56_58 b s _ _ _ w hr n (fun h => by rw [rwV, if_neg h]) (raw_q b s n hs w hr)
  go_enter Try.func40, Try.ntmps40
  go_wp2_with (go_at_call 56; refine ht.out.mono ?_; rintro e w1 ⟨rfl, h1, u1⟩)
  go_ret
  exact ⟨rfl, h1, u1⟩
set_option maxRecDepth 100000 in
theorem many_nil (n : Int) (w : World) : Calls Try.prog 27 #[.pointer none, .int .i64 n] w fun x w' => x = .returned (.int .i64 0) ∧ w' = w := by
  go_enter Try.func27, Try.ntmps27
  go_wp2_with (go_at_call 45; refine (take45_46_nil _ _).mono ?_; rintro e w1 ⟨rfl, rfl⟩)
  go_ret
  exact ⟨rfl, rfl⟩
set_option maxRecDepth 100000 in
theorem many_err (b : Nat) (s : ByteArray) (E : Int) (hE : E ≠ 0) (n : Int) (w : World) (hr : Rd w b s E) :
    Calls Try.prog 27 #[.pointer (some ⟨b, 0, none⟩), .int .i64 n] w fun x w' => x = .returned (.int .i64 0) ∧ w' = w := by
  go_enter Try.func27, Try.ntmps27
  go_wp2_with (go_at_call 45; refine (take45_46_err b s E hE _ hr _).mono ?_; rintro e w1 ⟨rfl, rfl⟩)
  go_ret
  exact ⟨rfl, rfl⟩
set_option maxRecDepth 100000 in
theorem many_ok (b : Nat) (s : ByteArray) (hs : s.size < 9223372036854775808) (n : Int) (w : World) (hr : Rd w b s 0) :
    Calls Try.prog 27 #[.pointer (some ⟨b, 0, none⟩), .int .i64 n] w (TakeP b (.int .i64 (mnV s n : Int)) (manyE s n) (nR s) w) := by
  have ht : Hid (Calls Try.prog 45 #[.pointer (some ⟨b, 0, none⟩), .func (.func 46) #[.agg #[.pointer (some ⟨b, 0, none⟩), .int .i64 n]] #[]] w (TakeP b (.int .i64 (mnV s n : Int)) (manyE s n) (nR s) w)) :=
    take45_46 b s _ _ _ w hr n (fun h => by rw [mnV, if_neg h]; rfl) (many_q b s n hs w hr)
  go_enter Try.func27, Try.ntmps27
  go_wp2_with (go_at_call 45; refine ht.out.mono ?_; rintro e w1 ⟨rfl, h1, u1⟩)
  go_ret
  exact ⟨rfl, h1, u1⟩
end Go.Proofs.Ytlbdlipdhhpgmaa
