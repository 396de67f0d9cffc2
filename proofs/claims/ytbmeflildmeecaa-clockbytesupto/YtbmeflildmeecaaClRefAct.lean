/- ref06.Actor (35), and Parts (32). -/
import Derived.Test.YtbmeflildmeecaaClActor
namespace Go.Proofs.Ytbmeflildmeecaa
open Go.RowKit Go.Shelf Go.Sort Go.Lib Pk

theorem act2_raw (a b c : Int) : IntKind.u64.wrap (IntKind.u64.wrap (IntKind.u64.wrap ((IntKind.u64.wrap a).tmod 65536 * 281474976710656) + IntKind.u64.wrap ((IntKind.u64.wrap b).tmod 65536 * 4294967296)) + (IntKind.u64.wrap c).tmod 4294967296) = (actN a b c : Int) := by
  have t : ∀ x : Int, 0 ≤ IntKind.u64.wrap x := fun x => by rw [wrap_u64]; omega
  rw [Int.tmod_eq_emod_of_nonneg (t a), Int.tmod_eq_emod_of_nonneg (t b), Int.tmod_eq_emod_of_nonneg (t c)]
  simp only [wrap_u64]
  unfold actN
  omega
set_option maxRecDepth 100000 in
set_option maxHeartbeats 1000000 in
theorem refActor_any (a b c : Int) (w : World) : Calls Try.prog 35 #[.int .i64 a, .int .i64 b, .int .i64 c] w fun e w' => e = .returned (.int .u64 (actN a b c : Int)) ∧ w' = w := by
  have h := act2_raw a b c
  go_enter Try.func35, Try.ntmps35
  go_wp2
  go_ret
  exact ⟨rfl, rfl⟩
set_option maxRecDepth 100000 in
set_option maxHeartbeats 1000000 in
theorem parts_any (n : Nat) (hn : n < 18446744073709551616) (w : World) : Calls Try.prog 32 #[.int .u64 (n : Int)] w fun e w' => e = .returned (.tuple #[.int .i64 ((n : Int) / 281474976710656), .int .i64 ((n : Int) / 4294967296 % 65536), .int .i64 ((n : Int) % 4294967296)]) ∧ w' = w := by
  have h : wrap64 (IntKind.u16.wrap ((n : Int) / 4294967296)) = (n : Int) / 4294967296 % 65536 := by rw [wrap_u16]; unfold wrap64; omega
  have h2 : wrap64 ((n : Int) / 281474976710656) = (n : Int) / 281474976710656 := by unfold wrap64; omega
  go_enter Try.func32, Try.ntmps32
  go_wp2
  exact bodyPost_ret (results_tmp3 (t := 2) (u := 3) (v := 4) (by kernel_rfl) _ _ _) rfl ⟨by simp [h], rfl⟩
theorem parts_act (a b c : Int) : (actN a b c : Int) / 281474976710656 = a % 65536 ∧ (actN a b c : Int) / 4294967296 % 65536 = b % 65536 ∧ (actN a b c : Int) % 4294967296 = c % 4294967296 := by
  unfold actN
  omega
end Go.Proofs.Ytbmeflildmeecaa
