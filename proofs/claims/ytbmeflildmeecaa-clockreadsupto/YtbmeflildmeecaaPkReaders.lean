/- What the exported readings answer: of no reader, of one that has failed, of one that has not. -/
import Derived.Test.YtbmeflildmeecaaPkKinds
namespace Go.Proofs.Ytbmeflildmeecaa.Pk
open Go.RowKit

set_option maxRecDepth 100000 in
theorem num_nil (w : World) : Calls Try.prog 49 #[.pointer none] w fun x w' => x = .returned (.int .u64 0) ∧ w' = w := by
  go_enter Try.func49, Try.ntmps49
  go_wp2_with (go_at_call 64; refine (take44_42_nil _ _).mono ?_; rintro e w1 ⟨rfl, rfl⟩)
  go_ret
  exact ⟨rfl, rfl⟩
set_option maxRecDepth 100000 in
theorem num_err (b : Nat) (s : ByteArray) (E : Int) (hE : E ≠ 0) (w : World) (hr : Rd w b s E) :
    Calls Try.prog 49 #[.pointer (some ⟨b, 0, none⟩)] w fun x w' => x = .returned (.int .u64 0) ∧ w' = w := by
  go_enter Try.func49, Try.ntmps49
  go_wp2_with (go_at_call 64; refine (take44_42_err b s E hE _ hr _).mono ?_; rintro e w1 ⟨rfl, rfl⟩)
  go_ret
  exact ⟨rfl, rfl⟩
set_option maxRecDepth 100000 in
theorem num_ok (b : Nat) (s : ByteArray) (hs : s.size < 9223372036854775808) (w : World) (hr : Rd w b s 0) :
    Calls Try.prog 49 #[.pointer (some ⟨b, 0, none⟩)] w (TakeP b (.int .u64 (nV s : Int)) (nE s) (nR s) w) := by
  have ht : Hid (Calls Try.prog 64 #[.pointer (some ⟨b, 0, none⟩), .func (.func 65) #[.pointer (some ⟨b, 0, none⟩)] #[]] w (TakeP b (.int .u64 (nV s : Int)) (nE s) (nR s) w)) :=
    take44_42 b s _ _ _ w hr (fun h => by rw [nV_err h]; rfl) (num_q b s hs w hr)
  go_enter Try.func49, Try.ntmps49
  go_wp2_with (go_at_call 64; refine ht.out.mono ?_; rintro e w1 ⟨rfl, h1, u1⟩)
  go_ret
  exact ⟨rfl, h1, u1⟩
set_option maxRecDepth 100000 in
theorem many_nil (n : Int) (w : World) : Calls Try.prog 48 #[.pointer none, .int .i64 n] w fun x w' => x = .returned (.int .i64 0) ∧ w' = w := by
  go_enter Try.func48, Try.ntmps48
  go_wp2_with (go_at_call 62; refine (take45_46_nil _ _).mono ?_; rintro e w1 ⟨rfl, rfl⟩)
  go_ret
  exact ⟨rfl, rfl⟩
set_option maxRecDepth 100000 in
theorem many_err (b : Nat) (s : ByteArray) (E : Int) (hE : E ≠ 0) (n : Int) (w : World) (hr : Rd w b s E) :
    Calls Try.prog 48 #[.pointer (some ⟨b, 0, none⟩), .int .i64 n] w fun x w' => x = .returned (.int .i64 0) ∧ w' = w := by
  go_enter Try.func48, Try.ntmps48
  go_wp2_with (go_at_call 62; refine (take45_46_err b s E hE _ hr _).mono ?_; rintro e w1 ⟨rfl, rfl⟩)
  go_ret
  exact ⟨rfl, rfl⟩
set_option maxRecDepth 100000 in
theorem many_ok (b : Nat) (s : ByteArray) (hs : s.size < 9223372036854775808) (n : Int) (w : World) (hr : Rd w b s 0) :
    Calls Try.prog 48 #[.pointer (some ⟨b, 0, none⟩), .int .i64 n] w (TakeP b (.int .i64 (mnV s n : Int)) (manyE s n) (nR s) w) := by
  have ht : Hid (Calls Try.prog 62 #[.pointer (some ⟨b, 0, none⟩), .func (.func 63) #[.agg #[.pointer (some ⟨b, 0, none⟩), .int .i64 n]] #[]] w (TakeP b (.int .i64 (mnV s n : Int)) (manyE s n) (nR s) w)) :=
    take45_46 b s _ _ _ w hr n (fun h => by rw [mnV, if_neg h]; rfl) (many_q b s n hs w hr)
  go_enter Try.func48, Try.ntmps48
  go_wp2_with (go_at_call 62; refine ht.out.mono ?_; rintro e w1 ⟨rfl, h1, u1⟩)
  go_ret
  exact ⟨rfl, h1, u1⟩
end Go.Proofs.Ytbmeflildmeecaa.Pk
