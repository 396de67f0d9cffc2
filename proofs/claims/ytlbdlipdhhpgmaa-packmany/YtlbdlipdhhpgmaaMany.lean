/- The function of the statement PackMany, called with whatever text and size, answers true; nothing that was there is turned. -/
import Derived.Test.YtlbdlipdhhpgmaaAwake
namespace Go.Proofs.Ytlbdlipdhhpgmaa
open Go.RowKit

theorem many_fits (s : ByteArray) (k : Int) : mnV s k = 0 ∨ mnV s k ≤ (restR (manyE s k) (nR s)).size / (max k 1).toNat := by
  by_cases h : manyE s k = 0
  · right
    rw [mnV, if_pos h, restR, if_pos h]
    unfold manyE at h
    split at h
    · split at h
      · cases h
      · omega
    · contradiction
  · left
    rw [mnV, if_neg h]
theorem rest_size (E : Int) (s : ByteArray) : (restR E (nR s)).size ≤ s.size := by
  unfold restR
  split
  · exact nR_size s
  · exact Nat.zero_le _

set_option maxHeartbeats 1000000 in
set_option maxRecDepth 100000 in
theorem packMany_walk (s : ByteArray) (hs : s.size ≤ maxLen) (k : Int) (w : World) :
    Calls Try.prog 8 #[.string s, .int .i64 k] w fun e w' => e = .returned (.bool true) ∧ Below w.heap.size w w' := by
  unfold maxLen at hs
  obtain ⟨n, hn⟩ : ∃ n, w.heap.size = n := ⟨_, rfl⟩
  have c27 : Hid (∀ (W : World) (b : Nat), Rd W b s 0 → Calls Try.prog 27 #[.pointer (some ⟨b, 0, none⟩), .int .i64 k] W (TakeP b (.int .i64 (mnV s k : Int)) (manyE s k) (nR s) W)) := fun W b hW => many_ok b s (by omega) k W hW
  have hV := many_fits s k
  have hS := rest_size (manyE s k) s
  unfold TakeP at c27
  generalize mnV s k = V at *
  generalize restR (manyE s k) (nR s) = S at *
  generalize manyE s k = E at *
  have hS' : (S.size : Int) ≤ (s.size : Int) := by omega
  rw [hn]
  by_cases hk : k < 1
  · have hmax : (max k 1).toNat = 1 := by omega
    rw [hmax, Nat.div_one] at hV
    have hV1 : (V : Int) = 0 ∨ (V : Int) ≤ (S.size : Int) := by omega
    by_cases hV0 : (V : Int) = 0
    all_goals
      have hV2 : (V : Int) ≤ (S.size : Int) := by omega
      clear hV
      go_enter Try.func8, Try.ntmps8
      go_wp2_with (first
        | (go_at_call 9; refine (awake_any _).mono ?_; rintro e w1 ⟨rfl, b1⟩; obtain ⟨n1, hn1⟩ : ∃ n1, w1.heap.size = n1 := ⟨_, rfl⟩)
        | (go_at_call 18; refine (read_any s _).mono ?_; rw [hn1]; rintro e w2 ⟨rfl, r2, b2⟩)
        | (go_at_call 27; refine (c27.out _ n1 r2).mono ?_; rintro e w3 ⟨rfl, r3, u3⟩)
        | (go_at_call 21; refine (left_some n1 S E _ r3).mono ?_; rintro e w4 ⟨rfl, rfl⟩))
      go_ret
      have z1 := b1.size
      exact ⟨rfl, (b1.mono (by omega)).trans ((b2.mono (by omega)).trans (u3.below (by omega) (by have := b2.size; omega)))⟩
  · obtain ⟨m, rfl⟩ := Int.eq_ofNat_of_zero_le (by omega : 0 ≤ k)
    have hmax : (max (m : Int) 1).toNat = m := by omega
    rw [hmax] at hV
    have hV1 : (V : Int) = 0 ∨ (V : Int) ≤ (S.size : Int) / (m : Int) := by
      rcases hV with h | h
      · left; omega
      · right
        have e : (S.size : Int) / (m : Int) = ((S.size / m : Nat) : Int) := by simp
        rw [e]; omega
    have q0 : (0 : Int) ≤ (S.size : Int) / (m : Int) := Int.ediv_nonneg (by omega) (by omega)
    have q1 : (S.size : Int) / (m : Int) ≤ (S.size : Int) := Int.ediv_le_self _ (by omega)
    have hm0 : ¬ (m : Int) = 0 := by omega
    have hV2 : (V : Int) ≤ (S.size : Int) / (m : Int) := by omega
    by_cases hV0 : (V : Int) = 0
    all_goals
      clear hV hV1
      go_enter Try.func8, Try.ntmps8
      go_wp2_with (first
        | (go_at_call 9; refine (awake_any _).mono ?_; rintro e w1 ⟨rfl, b1⟩; obtain ⟨n1, hn1⟩ : ∃ n1, w1.heap.size = n1 := ⟨_, rfl⟩)
        | (go_at_call 18; refine (read_any s _).mono ?_; rw [hn1]; rintro e w2 ⟨rfl, r2, b2⟩)
        | (go_at_call 27; refine (c27.out _ n1 r2).mono ?_; rintro e w3 ⟨rfl, r3, u3⟩)
        | (go_at_call 21; refine (left_some n1 S E _ r3).mono ?_; rintro e w4 ⟨rfl, rfl⟩))
      go_ret
      have z1 := b1.size
      exact ⟨rfl, (b1.mono (by omega)).trans ((b2.mono (by omega)).trans (u3.below (by omega) (by have := b2.size; omega)))⟩
end Go.Proofs.Ytlbdlipdhhpgmaa
