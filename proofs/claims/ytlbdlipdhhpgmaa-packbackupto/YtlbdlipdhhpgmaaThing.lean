/- The statements' lay and take: at no writer and no reader, at a writer, at a reader that has failed, and at one that has not. -/
import Derived.Test.YtlbdlipdhhpgmaaAwake
namespace Go.Proofs.Ytlbdlipdhhpgmaa
open Go.RowKit

set_option maxHeartbeats 800000 in
set_option maxRecDepth 100000 in
theorem lay_nil (k l : Int) (n : Nat) (s : ByteArray) (w : World) :
    Calls Try.prog 10 #[.pointer none, .agg #[.int .i64 k, .int .i64 l, .int .u64 (n : Int), .string s]] w fun e w' => e = .returned (.tuple #[]) ∧ Below w.heap.size w w' := by
  by_cases h1 : k = 1
  · subst h1
    go_enter Try.func10, Try.ntmps10
    go_wp2_with (go_at_call 28; refine (wints_nil _ _).mono ?_; rintro e w2 ⟨rfl, rfl⟩)
    all_goals exact bodyPost_end (results_none (by kernel_rfl) _ _ _) rfl ⟨rfl, ((Below.refl _ _).alloc (Nat.le_refl _) _).alloc (by simp) _⟩
  by_cases h2 : k = 2
  · subst h2
    go_enter Try.func10, Try.ntmps10
    go_wp2_with (go_at_call 29; refine (wflags_nil _ _).mono ?_; rintro e w2 ⟨rfl, rfl⟩)
    all_goals exact bodyPost_end (results_none (by kernel_rfl) _ _ _) rfl ⟨rfl, ((Below.refl _ _).alloc (Nat.le_refl _) _).alloc (by simp) _⟩
  by_cases h3 : k = 3
  · subst h3
    go_enter Try.func10, Try.ntmps10
    go_wp2_with (go_at_call 13; refine (wtexts_nil _ _).mono ?_; rintro e w2 ⟨rfl, rfl⟩)
    all_goals exact bodyPost_end (results_none (by kernel_rfl) _ _ _) rfl ⟨rfl, ((Below.refl _ _).alloc (Nat.le_refl _) _).alloc (by simp) _⟩
  by_cases h4 : k = 4
  · subst h4
    go_enter Try.func10, Try.ntmps10
    go_wp2_with (go_at_call 30; refine (wraws_nil _ _).mono ?_; rintro e w2 ⟨rfl, rfl⟩)
    all_goals exact bodyPost_end (results_none (by kernel_rfl) _ _ _) rfl ⟨rfl, ((Below.refl _ _).alloc (Nat.le_refl _) _).alloc (by simp) _⟩
  · go_enter Try.func10, Try.ntmps10
    go_wp2_with (go_at_call 12; refine (wnums_nil _ _).mono ?_; rintro e w2 ⟨rfl, rfl⟩)
    all_goals exact bodyPost_end (results_none (by kernel_rfl) _ _ _) rfl ⟨rfl, ((Below.refl _ _).alloc (Nat.le_refl _) _).alloc (by simp) _⟩

set_option maxHeartbeats 1600000 in
set_option maxRecDepth 100000 in
theorem take_nil (k l : Int) (n : Nat) (s : ByteArray) (w : World) :
    Calls Try.prog 19 #[.pointer none, .agg #[.int .i64 k, .int .i64 l, .int .u64 (n : Int), .string s]] w fun e w' => e = .returned (.agg #[.int .i64 k, .int .i64 l, .int .u64 0, .string ⟨#[]⟩]) ∧ Below w.heap.size w w' := by
  by_cases h1 : k = 1
  · subst h1
    go_enter Try.func19, Try.ntmps19
    go_wp2_with (go_at_call 37; refine (int_nil _).mono ?_; rintro e w2 ⟨rfl, rfl⟩)
    all_goals exact bodyPost_ret (v := .agg #[.int .i64 1, .int .i64 l, .int .u64 0, .string ⟨#[]⟩]) (by simp [results, Try.results19, go_sem]) rfl ⟨rfl, (((Below.refl _ _).alloc (Nat.le_refl _) _).alloc (by simp) _).alloc (by simp; omega) _⟩
  by_cases h2 : k = 2
  · subst h2
    go_enter Try.func19, Try.ntmps19
    go_wp2_with (go_at_call 38; refine (flag_nil _).mono ?_; rintro e w2 ⟨rfl, rfl⟩)
    all_goals exact bodyPost_ret (v := .agg #[.int .i64 2, .int .i64 l, .int .u64 0, .string ⟨#[]⟩]) (by simp [results, Try.results19, go_sem]) rfl ⟨rfl, (((Below.refl _ _).alloc (Nat.le_refl _) _).alloc (by simp) _).alloc (by simp; omega) _⟩
  by_cases h3 : k = 3
  · subst h3
    go_enter Try.func19, Try.ntmps19
    go_wp2_with (go_at_call 39; refine (text_nil _).mono ?_; rintro e w2 ⟨rfl, rfl⟩)
    all_goals exact bodyPost_ret (v := .agg #[.int .i64 3, .int .i64 l, .int .u64 0, .string ⟨#[]⟩]) (by simp [results, Try.results19, go_sem]) rfl ⟨rfl, (((Below.refl _ _).alloc (Nat.le_refl _) _).alloc (by simp) _).alloc (by simp; omega) _⟩
  by_cases h4 : k = 4
  · subst h4
    go_enter Try.func19, Try.ntmps19
    go_wp2_with (go_at_call 40; refine (raw_nil _ _).mono ?_; rintro e w2 ⟨rfl, rfl⟩)
    all_goals exact bodyPost_ret (v := .agg #[.int .i64 4, .int .i64 l, .int .u64 0, .string ⟨#[]⟩]) (by simp [results, Try.results19, go_sem]) rfl ⟨rfl, (((Below.refl _ _).alloc (Nat.le_refl _) _).alloc (by simp) _).alloc (by simp; omega) _⟩
  by_cases h5 : k = 5
  · subst h5
    go_enter Try.func19, Try.ntmps19
    go_wp2_with (go_at_call 27; refine (many_nil _ _).mono ?_; rintro e w2 ⟨rfl, rfl⟩)
    all_goals exact bodyPost_ret (v := .agg #[.int .i64 5, .int .i64 l, .int .u64 0, .string ⟨#[]⟩]) (by simp [results, Try.results19, go_sem]) rfl ⟨rfl, (((Below.refl _ _).alloc (Nat.le_refl _) _).alloc (by simp) _).alloc (by simp; omega) _⟩
  · go_enter Try.func19, Try.ntmps19
    go_wp2_with (go_at_call 26; refine (num_nil _).mono ?_; rintro e w2 ⟨rfl, rfl⟩)
    all_goals exact bodyPost_ret (v := .agg #[.int .i64 k, .int .i64 l, .int .u64 0, .string ⟨#[]⟩]) (by simp [results, Try.results19, go_sem]) rfl ⟨rfl, (((Below.refl _ _).alloc (Nat.le_refl _) _).alloc (by simp) _).alloc (by simp; omega) _⟩
end Go.Proofs.Ytlbdlipdhhpgmaa
