/- The law WheelNil (5). -/
import Derived.Test.YtklkonmdllgeeaaWhAwake
import Derived.Deep.Cut
namespace Go.Proofs.Ytklkonmdllgeeaa
open Go.RowKit

theorem one_due (k : List UInt8) (a : Int) : dueT a [(k, a, 1)] = [(k, a, 1)] := by
  have hf : Fine [(k, a, 1)] 1 := ⟨by simp, by simp, by simp, by simp⟩
  refine (due_sorted hf ?_ (by simp)).symm
  simp [upT]
set_option maxHeartbeats 3200000 in
set_option maxRecDepth 100000 in
theorem wheelNil_walk (hsort : SortOk) (a : Int) (k : List UInt8) (hk : k.length ≤ maxLen) (w : World) : Calls Try.prog 5 #[.int .i64 a, .string (strL k)] w fun e w' => e = .returned (.bool true) ∧ Below w.heap.size w w' := by
  obtain ⟨N, hN⟩ : ∃ N, w.heap.size = N := ⟨_, rfl⟩
  have HN : Hid (w.heap.size = N) := hN
  rw [hN]
  have hz : Hid (Win N N w [] 0 (w.alloc (.cells #[.map none, .int .u64 0] 50))) := by
    have := wheel_new N w (by omega)
    rw [hN] at this
    exact ⟨this, WUpd.ofBelow ((Below.refl _ _).alloc (Nat.le_refl _) _) (by omega)⟩
  have hs0 : Hid (∀ v W, Calls Try.prog 13 #[.pointer none, .int .i64 a, v] W fun e w' => e = .returned (.tuple #[]) ∧ w' = W) := fun v W => set_nil a v W
  have hn0 : Hid (∀ W, Calls Try.prog 15 #[.pointer none] W fun e w' => e = .returned (.tuple #[.int .i64 0, .bool false]) ∧ w' = W) := fun W => next_nil W
  have ha0 : Hid (∀ v W, Calls Try.prog 18 #[.pointer none, v] W fun e w' => e = .returned (.tuple #[.int .i64 0, .bool false]) ∧ w' = W) := fun v W => at_nil v W
  have hc0 : Hid (∀ v W, Calls Try.prog 9 #[.pointer none, v] W fun e w' => e = .returned (.int .i64 0) ∧ w' = W) := fun v W => cancel_nil v W
  have hl0 : Hid (∀ W, Calls Try.prog 17 #[.pointer none] W fun e w' => e = .returned (.int .i64 0) ∧ w' = W) := fun W => len_nil W
  have hd0 : Hid (∀ v W, Calls Try.prog 10 #[.pointer none, v] W fun e w' => e = .returned (.slice none 0 0) ∧ w' = W) := fun v W => due_nil v W
  have hs1 : Hid (∀ W, Hid (Win N N w [] 0 W) → Calls Try.prog 13 #[.pointer (some ⟨N, 0, none⟩), .int .i64 a, .slice (some ⟨W.heap.size, 0, none⟩) 1 1] (W.alloc (.cells #[.string (strL k)] 9)) fun e w' => e = .returned (.tuple #[]) ∧ Hid (Win N N w [(k, a, 1)] 1 w')) := fun W h => win_set_lit h.out a [k] (fun j hj => by simp at hj; subst hj; exact hk) (by simp)
  have haw : Hid (∀ W, Hid (Win N N w [(k, a, 1)] 1 W) → Calls Try.prog 6 #[] W fun e w' => e = .returned (.bool true) ∧ Hid (Win N N w [(k, a, 1)] 1 w')) := fun W h => (awake_any hsort W).mono fun _ _ ⟨e1, e2⟩ => ⟨e1, h.out.below e2.out h.out.low⟩
  have hle : Hid (∀ W, Hid (Win N N w [(k, a, 1)] 1 W) → Calls Try.prog 17 #[.pointer (some ⟨N, 0, none⟩)] W fun e w' => e = .returned (.int .i64 1) ∧ w' = W) := fun W h => win_len h.out
  have hdu : Hid (∀ W, Hid (Win N N w [(k, a, 1)] 1 W) → Calls Try.prog 10 #[.pointer (some ⟨N, 0, none⟩), .int .i64 a] W fun e w' => ∃ q c, e = .returned (.slice q 1 c) ∧ Hid (Below N w w')) := fun W h => (win_due hsort h.out a (by decide) 1 (by rw [one_due]; rfl)).mono fun _ _ ⟨q, c, e1, e2⟩ => ⟨q, c, e1, e2.out.2.1.upd.toBelow⟩
  clear hN hsort
  go_enter Try.func5, Try.ntmps5
  go_upto_region 3 with fail
  rw [HN.out]
  generalize w.alloc (.cells #[.map none, .int .u64 0] 50) = w0 at hz ⊢
  have hz1 : Hid (Win N N w [] 0 (w0.alloc (.cells #[.string (strL k)] 9))) := hz.out.alloc _
  go_wp2_with (first
    | (go_at_call 13; refine (hs0.out _ _).mono ?_; rintro e w2 ⟨rfl, e2⟩; rw [e2]; clear e2 hs0; generalize w0.alloc (.cells #[.string (strL k)] 9) = w1 at hz1 ⊢; clear hz)
    | (go_at_call 15; refine (hn0.out _).mono ?_; rintro e w3 ⟨rfl, e3⟩; rw [e3]; clear e3 hn0)
    | (go_at_call 18; refine (ha0.out _ _).mono ?_; rintro e w4 ⟨rfl, e4⟩; rw [e4]; clear e4 ha0)
    | (go_at_call 13; refine (hs1.out w1 hz1).mono ?_; rintro e w5 ⟨rfl, h5⟩; clear hs1 hz1)
    | (go_at_call 6; refine (haw.out w5 h5).mono ?_; rintro e w6 ⟨rfl, h6⟩; clear haw h5; have h7 : Hid (Win N N w [(k, a, 1)] 1 (w6.alloc (.cells #[.string (strL k)] 9))) := h6.out.alloc _)
    | (go_at_call 9; refine (hc0.out _ _).mono ?_; rintro e w7 ⟨rfl, e7⟩; rw [e7]; clear e7 hc0; generalize w6.alloc (.cells #[.string (strL k)] 9) = w7 at h7 ⊢; clear h6)
    | (go_at_call 17; refine (hl0.out _).mono ?_; rintro e w8 ⟨rfl, e8⟩; rw [e8]; clear e8 hl0)
    | (go_at_call 10; refine (hd0.out _ _).mono ?_; rintro e w9 ⟨rfl, e9⟩; rw [e9]; clear e9 hd0)
    | (go_at_call 17; refine (hle.out w7 h7).mono ?_; rintro e w10 ⟨rfl, e10⟩; rw [e10]; clear e10 hle)
    | (go_at_call 10; refine (hdu.out w7 h7).mono ?_; rintro e w11 ⟨q, c, rfl, h11⟩; clear hdu))
  go_ret
  exact ⟨rfl, h11.out⟩
end Go.Proofs.Ytklkonmdllgeeaa
