/- PackOne's function, for each kind. -/
import Derived.Test.YtlbdlipdhhpgmaaOneWay
namespace Go.Proofs.Ytlbdlipdhhpgmaa
open Go.RowKit

theorem thL_0 (n : Nat) (s : ByteArray) : thL 0 n s = numL n := by simp [thL]
theorem thL_1 (n : Nat) (s : ByteArray) : thL 1 n s = numL (zig (wrap64 (n : Int))) := by simp [thL]
theorem thL_2 (n : Nat) (s : ByteArray) : thL 2 n s = flagL ((n : Int) % 2 == 1) := by simp [thL]
theorem thL_3 (n : Nat) (s : ByteArray) : thL 3 n s = textL s := by simp [thL]
theorem cast0 : ((0 : Nat) : Int) = 0 := rfl
theorem packOne_walk (s : ByteArray) (hs : s.size ≤ 140737488355228) (kd : Int) (w : World) :
    Calls Try.prog 5 #[.string s, .int .i64 kd] w fun e w' => e = .returned (.bool true) ∧ Below w.heap.size w w' := by
  have hs' : s.size < 9223372036854775808 := by omega
  obtain ⟨kk, hkk⟩ : ∃ kk : Int, kk = if kd.tmod 4 < 0 then -kd.tmod 4 else kd.tmod 4 := ⟨_, rfl⟩
  have hc4 : -4 < kd.tmod 4 ∧ kd.tmod 4 < 4 := by
    have h1 := Int.tmod_lt_of_pos kd (by decide : (0 : Int) < 4)
    have h2 := Int.tmod_lt_of_pos (-kd) (by decide : (0 : Int) < 4)
    rw [Int.neg_tmod] at h2
    omega
  have hr : kk = 0 ∨ kk = 1 ∨ kk = 2 ∨ kk = 3 := by
    split at hkk <;> omega
  rcases hr with rfl | rfl | rfl | rfl
  · refine packOne_core s hs kd 0 hkk (nV s) (nV_lt s) ⟨#[]⟩ (nE s) (nR s) (fun b W hW => ?_) (fun h => ?_) w
    · have := took_num b s hs' 0 (by decide) (by decide) (by decide) (by decide) (by decide) 0 0 ⟨#[]⟩ W hW
      rw [cast0] at this
      exact this
    · rw [thL_0]
      exact num_parts s h
  · obtain ⟨m, hm, hm2⟩ := u64_nat (intV (nV s))
    refine packOne_core s hs kd 1 hkk m hm2 ⟨#[]⟩ (nE s) (nR s) (fun b W hW => ?_) (fun h => ?_) w
    · have := took_int b s hs' 0 0 ⟨#[]⟩ W hW
      rw [hm, cast0] at this
      exact this
    · rw [thL_1, ← hm, wrap_wrap _ (intV_fits _ (nV_lt s)), zig_intV]
      exact num_parts s h
  · obtain ⟨m, hm, hm2, hm3⟩ : ∃ m : Nat, (if flV s then (1 : Int) else 0) = (m : Int) ∧ m < 18446744073709551616 ∧ ((m : Int) % 2 == 1) = flV s := by
      cases flV s
      · exact ⟨0, rfl, by omega, rfl⟩
      · exact ⟨1, rfl, by omega, rfl⟩
    refine packOne_core s hs kd 2 hkk m hm2 ⟨#[]⟩ (fE s) (fR s) (fun b W hW => ?_) (fun h => ?_) w
    · have := took_flag b s 0 0 ⟨#[]⟩ W hW
      rw [hm, cast0] at this
      exact this
    · rw [thL_2, hm3]
      exact flag_parts s h
  · refine packOne_core s hs kd 3 hkk 0 (by omega) (txV s) (textE s) (textR s) (fun b W hW => ?_) (fun h => ?_) w
    · have := took_text b s hs' 0 0 ⟨#[]⟩ W hW
      rw [cast0] at this ⊢
      exact this
    · rw [thL_3]
      exact (text_parts s h).1
end Go.Proofs.Ytlbdlipdhhpgmaa
