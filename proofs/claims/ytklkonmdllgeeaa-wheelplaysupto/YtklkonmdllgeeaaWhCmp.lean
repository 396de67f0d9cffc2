/- The orders of package wheel: cmp.Compare, cmp.Or. -/
import Derived.Test.YtklkonmdllgeeaaWhPure
import Derived.Test.YtklkonmdllgeeaaLaws
import Derived.Test.YtklkonmdllgeeaaProg
import Derived.BigQuiet
namespace Go.Proofs.Ytklkonmdllgeeaa
open Go.RowKit

def cmpN (a b : Int) : Int := if a < b then -1 else if b < a then 1 else 0
theorem nan_int (x : Int) (w : World) : Calls Try.prog 28 #[.int .i64 x] w fun e w' => e = .returned (.bool false) ∧ w' = w := by
  go_enter Try.func28, Try.ntmps28
  go_wp2
  go_ret
  simp
theorem nan_u64 (x : Int) (w : World) : Calls Try.prog 29 #[.int .u64 x] w fun e w' => e = .returned (.bool false) ∧ w' = w := by
  go_enter Try.func29, Try.ntmps29
  go_wp2
  go_ret
  simp
set_option maxRecDepth 100000 in
theorem compare_int (x y : Int) (w : World) : Calls Try.prog 24 #[.int .i64 x, .int .i64 y] w fun e w' => e = .returned (.int .i64 (cmpN x y)) ∧ w' = w := by
  unfold cmpN
  have h1 := nan_int x w
  have h2 := nan_int y w
  go_enter Try.func24, Try.ntmps24
  by_cases hl : x < y
  · simp only [hl, if_true]
    go_wp2_with (first | (go_at_call 28; refine h1.mono ?_; rintro e w' ⟨rfl, rfl⟩) | (go_at_call 28; refine h2.mono ?_; rintro e w' ⟨rfl, rfl⟩))
    go_ret
    exact ⟨rfl, rfl⟩
  · by_cases hg : y < x
    · simp only [hl, hg, if_true, if_false]
      go_wp2_with (first | (go_at_call 28; refine h1.mono ?_; rintro e w' ⟨rfl, rfl⟩) | (go_at_call 28; refine h2.mono ?_; rintro e w' ⟨rfl, rfl⟩))
      go_ret
      exact ⟨rfl, rfl⟩
    · simp only [hl, hg, if_false]
      go_wp2_with (first | (go_at_call 28; refine h1.mono ?_; rintro e w' ⟨rfl, rfl⟩) | (go_at_call 28; refine h2.mono ?_; rintro e w' ⟨rfl, rfl⟩))
      go_ret
      exact ⟨rfl, rfl⟩
set_option maxRecDepth 100000 in
theorem compare_u64 (x y : Int) (w : World) : Calls Try.prog 25 #[.int .u64 x, .int .u64 y] w fun e w' => e = .returned (.int .i64 (cmpN x y)) ∧ w' = w := by
  unfold cmpN
  have h1 := nan_u64 x w
  have h2 := nan_u64 y w
  go_enter Try.func25, Try.ntmps25
  by_cases hl : x < y
  · simp only [hl, if_true]
    go_wp2_with (first | (go_at_call 29; refine h1.mono ?_; rintro e w' ⟨rfl, rfl⟩) | (go_at_call 29; refine h2.mono ?_; rintro e w' ⟨rfl, rfl⟩))
    go_ret
    exact ⟨rfl, rfl⟩
  · by_cases hg : y < x
    · simp only [hl, hg, if_true, if_false]
      go_wp2_with (first | (go_at_call 29; refine h1.mono ?_; rintro e w' ⟨rfl, rfl⟩) | (go_at_call 29; refine h2.mono ?_; rintro e w' ⟨rfl, rfl⟩))
      go_ret
      exact ⟨rfl, rfl⟩
    · simp only [hl, hg, if_false]
      go_wp2_with (first | (go_at_call 29; refine h1.mono ?_; rintro e w' ⟨rfl, rfl⟩) | (go_at_call 29; refine h2.mono ?_; rintro e w' ⟨rfl, rfl⟩))
      go_ret
      exact ⟨rfl, rfl⟩
set_option maxRecDepth 100000 in
set_option maxHeartbeats 1000000 in
theorem or_two (g : Nat) (x y : Int) (w : World) (h : Holds w g [.int .i64 x, .int .i64 y] 3) : Calls Try.prog 23 #[.slice (some ⟨g, 0, none⟩) 2 2] w fun e w' => e = .returned (.int .i64 (if x = 0 then y else x)) ∧ w' = w := by
  have c0 := h.at 0 _ rfl
  have c1 := h.at 1 _ rfl
  go_enter Try.func23, Try.ntmps23
  go_wp2
  go_loopw [8] (fun c wr => wr = w ∧ (c = .int .i64 0 ∨ (c = .int .i64 1 ∧ x = 0) ∨ (c = .int .i64 2 ∧ x = 0 ∧ y = 0))) (fun c _ => 2 - (intOf c).toNat)
  case atStart => exact ⟨rfl, Or.inl rfl⟩
  case round =>
  obtain ⟨rfl, rfl | ⟨rfl, rfl⟩ | ⟨rfl, rfl, rfl⟩⟩ := hrel
  · by_cases hx : x = 0
    · subst hx
      go_wp2
      exact ⟨⟨trivial, by simp⟩, by simp [intOf]⟩
    · have hb : (x == 0) = false := by simpa using hx
      go_wp2
      go_ret
      simp
  · by_cases hx : y = 0
    · subst hx
      go_wp2
      exact ⟨⟨trivial, by simp⟩, by simp [intOf]⟩
    · have hb : (y == 0) = false := by simpa using hx
      go_wp2
      go_ret
      simp
  · go_wp2
    go_ret
    simp
theorem belowD (B : Nat) (w : World) (q : Nat) : Below B w (w.drewN q) := by
  induction q with
  | zero => exact Below.refl _ _
  | succ q ih => exact ih.trans (Below.drew (Below.refl _ _))
end Go.Proofs.Ytklkonmdllgeeaa
