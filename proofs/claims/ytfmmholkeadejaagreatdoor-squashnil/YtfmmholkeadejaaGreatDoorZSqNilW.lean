/- SquashNil (9): the walk. -/
import Derived.Test.YtfmmholkeadejaaGreatDoorZS3
import Derived.Test.YtfmmholkeadejaaGreatDoorZC4
namespace Go.Proofs.YtfmmholkeadejaaGreatDoor
open Go.RowKit

theorem disk_zero (z : Nat) (w : World) (h : Holds w z zeroC 28) : Calls Tryz.prog 27 #[.pointer (some ⟨z, 0, none⟩)] w fun e w' => e = .returned (.pointer none) ∧ w' = w := by
  have h66 := none_zero z w h
  go_enter Tryz.func27, Tryz.ntmps27
  go_wp2_with (go_at_call 66; refine h66.mono ?_; rintro e w1 ⟨rfl, e1⟩; rw [e1]; clear e1)
  go_ret
  exact ⟨rfl, rfl⟩
set_option maxRecDepth 100000 in
theorem segments_zero (z : Nat) (w : World) (h : Holds w z zeroC 28) : Calls Tryz.prog 24 #[.pointer (some ⟨z, 0, none⟩)] w fun e w' => ∃ a q, e = .returned (.slice a 0 q) ∧ Below w.heap.size w w' := by
  have h65 : Hid (Calls Tryz.prog 65 #[.slice none 0 0] w fun e w' => ∃ a q, e = .returned (.slice a 0 q) ∧ Below w.heap.size w w') := (clone_row 0 (.slice none 0 0) 0 [] w (World.ownsRow_nil _ _ _ _) (by omega) (by simp)).mono fun e w' ⟨v, e1, e2, e3⟩ => by
    obtain ⟨a, q, rfl⟩ := row_slice e2
    exact ⟨a, q, e1, e3⟩
  have c3 := h.at 3 _ rfl
  go_enter Tryz.func24, Tryz.ntmps24
  go_wp2_with (go_at_call 65; refine h65.out.mono ?_; rintro e w1 ⟨a, q, rfl, b1⟩)
  go_ret
  exact ⟨a, q, rfl, b1⟩
theorem squash_nil (w : World) : Calls Tryz.prog 39 #[.pointer none] w fun e w' => e = .returned (.tuple #[.int .i64 0, .int .i64 1]) ∧ w' = w := by
  go_enter Tryz.func39, Tryz.ntmps39
  go_wp2_with (first
    | (go_at_call 24; refine (segments_nil _).mono ?_; rintro e w1 ⟨rfl, e1⟩; rw [e1]; clear e1)
    | (go_at_call 27; refine (disk_nil _).mono ?_; rintro e w1 ⟨rfl, e1⟩; rw [e1]; clear e1))
  go_ret2
  exact ⟨rfl, rfl⟩
set_option maxRecDepth 100000 in
theorem squash_zero (z : Nat) (w : World) (h : Holds w z zeroC 28) : Calls Tryz.prog 39 #[.pointer (some ⟨z, 0, none⟩)] w fun e w' => e = .returned (.tuple #[.int .i64 0, .int .i64 1]) ∧ Below w.heap.size w w' := by
  have h24 : Hid (Calls Tryz.prog 24 #[.pointer (some ⟨z, 0, none⟩)] w fun e w' => ∃ a q, e = .returned (.slice a 0 q) ∧ Hid (Holds w' z zeroC 28 ∧ Below w.heap.size w w')) := (segments_zero z w h).mono fun e w' ⟨a, q, e1, e2⟩ => ⟨a, q, e1, h.below e2 h.lt, e2⟩
  have h27 : Hid (∀ W, Holds W z zeroC 28 → Calls Tryz.prog 27 #[.pointer (some ⟨z, 0, none⟩)] W fun e w' => e = .returned (.pointer none) ∧ w' = W) := fun W h => disk_zero z W h
  clear h
  go_enter Tryz.func39, Tryz.ntmps39
  go_wp2_with (first
    | (go_at_call 27; refine (h27.out _ s1.out.1).mono ?_; rintro e w2 ⟨rfl, e2⟩; rw [e2]; clear e2)
    | (go_at_call 24; refine h24.out.mono ?_; rintro e w1 ⟨a, q, rfl, s1⟩))
  go_ret2
  exact ⟨rfl, s1.out.2⟩
theorem clean_nil (s : ByteArray) (w : World) : Calls Tryz.prog 40 #[.pointer none, .string s] w fun e w' => e = .returned (.tuple #[.int .i64 0, .int .i64 1]) ∧ w' = w := by
  have h87 := snamed_nil s w
  go_enter Tryz.func40, Tryz.ntmps40
  go_wp2_with (go_at_call 87; refine h87.mono ?_; rintro e w1 ⟨rfl, e1⟩; rw [e1]; clear e1)
  go_ret2
  exact ⟨rfl, rfl⟩
theorem newc_nil (s : ByteArray) (w : World) : Calls Tryz.prog 41 #[.pointer none, .string s] w fun e w' => e = .returned (.tuple #[.pointer none, .int .i64 1]) ∧ w' = w := by
  have h87 := snamed_nil s w
  go_enter Tryz.func41, Tryz.ntmps41
  go_wp2_with (go_at_call 87; refine h87.mono ?_; rintro e w1 ⟨rfl, e1⟩; rw [e1]; clear e1)
  go_ret2
  exact ⟨rfl, rfl⟩
theorem due_nil (w : World) : Calls Tryz.prog 45 #[.pointer none] w fun e w' => e = .returned (.bool false) ∧ w' = w := by
  go_enter Tryz.func45, Tryz.ntmps45
  go_wp2_with (first
    | (go_at_call 25; refine (dead_nil _).mono ?_; rintro e w1 ⟨rfl, e1⟩; rw [e1]; clear e1)
    | (go_at_call 22; refine (len_nil _).mono ?_; rintro e w1 ⟨rfl, e1⟩; rw [e1]; clear e1))
  go_ret
  exact ⟨rfl, rfl⟩
set_option maxHeartbeats 1600000 in
set_option maxRecDepth 100000 in
theorem squashNil_walk (s : ByteArray) (w : World) (hT : ∀ W, Below w.heap.size w W → Tab W.heap.size W) :
    Calls Tryz.prog 9 #[.string s] w fun e w' => e = .returned (.bool true) ∧ Below w.heap.size w w' := by
  have hA : Hid (∀ W, Hid (Below w.heap.size w W) → Calls Tryz.prog 43 #[] W fun e w' => e = .returned (.bool true) ∧ Hid (Below w.heap.size w w')) := fun W hb => (awake5_any W (hT W hb.out)).mono fun e w' ⟨e1, e2⟩ => ⟨e1, hb.out.trans (e2.out.mono hb.out.size)⟩
  obtain ⟨n, hn⟩ : ∃ n, w.heap.size = n := ⟨_, rfl⟩
  have hz : Hid (Holds (w.alloc (.cells #[.int .u64 0, .pointer none, .string ⟨#[]⟩, .int .u64 0, .bool false] 72)) n [.int .u64 0, .pointer none, .string ⟨#[]⟩, .int .u64 0, .bool false] 72) := hn ▸ holds_new w [.int .u64 0, .pointer none, .string ⟨#[]⟩, .int .u64 0, .bool false] 72
  have hb0 : Hid (Below n w (w.alloc (.cells #[.int .u64 0, .pointer none, .string ⟨#[]⟩, .int .u64 0, .bool false] 72))) := (Below.refl _ w).alloc (by omega) _
  have hzc : Hid (Holds ((w.alloc (.cells #[.int .u64 0, .pointer none, .string ⟨#[]⟩, .int .u64 0, .bool false] 72)).alloc (.cells #[.nilIface, .map none, .int .i64 0, .slice none 0 0, .int .i64 0, .bool false, .bool false] 28)) (n + 1) zeroC 28) := by
    have := holds_new (w.alloc (.cells #[.int .u64 0, .pointer none, .string ⟨#[]⟩, .int .u64 0, .bool false] 72)) zeroC 28
    rw [World.size_alloc, hn] at this
    exact this
  have h39 : Hid (Calls Tryz.prog 39 #[.pointer (some ⟨n + 1, 0, none⟩)] ((w.alloc (.cells #[.int .u64 0, .pointer none, .string ⟨#[]⟩, .int .u64 0, .bool false] 72)).alloc (.cells #[.nilIface, .map none, .int .i64 0, .slice none 0 0, .int .i64 0, .bool false, .bool false] 28)) fun e w' => e = .returned (.tuple #[.int .i64 0, .int .i64 1]) ∧ Hid (Holds w' n [.int .u64 0, .pointer none, .string ⟨#[]⟩, .int .u64 0, .bool false] 72 ∧ Below n w w')) := (squash_zero (n + 1) _ hzc.out).mono fun e w' ⟨e1, e2⟩ => ⟨e1, (hz.out.alloc _).below e2 (hz.out.alloc _).lt, (hb0.out.alloc (by simp; omega) _).trans (e2.mono (by simp; omega))⟩
  have h42 : Hid (∀ W, Holds W n [.int .u64 0, .pointer none, .string ⟨#[]⟩, .int .u64 0, .bool false] 72 → Calls Tryz.prog 42 #[.pointer (some ⟨n, 0, none⟩)] W fun e w' => e = .returned (.tuple #[.int .u64 0, .int .i64 1]) ∧ w' = W) := fun W h => next_zero n W h
  rw [hn] at hA ⊢
  clear hT hz hb0 hzc
  go_enter Tryz.func9, Tryz.ntmps9
  go_wp2_with (first
    | (go_at_call 45; refine (due_nil _).mono ?_; rintro e w1 ⟨rfl, e1⟩; rw [e1]; clear e1)
    | (go_at_call 44; refine (leased_nil _).mono ?_; rintro e w1 ⟨rfl, e1⟩; rw [e1]; clear e1)
    | (go_at_call 43; refine (hA.out _ s1.out.2).mono ?_; rintro e w3 ⟨rfl, s3⟩)
    | (go_at_call_of 42 (Value.pointer none); refine (next_nil _).mono ?_; rintro e w1 ⟨rfl, e1⟩; rw [e1]; clear e1)
    | (go_at_call 42; refine (h42.out _ s1.out.1).mono ?_; rintro e w1 ⟨rfl, e1⟩; rw [e1]; clear e1)
    | (go_at_call 41; refine (newc_nil _ _).mono ?_; rintro e w1 ⟨rfl, e1⟩; rw [e1]; clear e1)
    | (go_at_call 40; refine (clean_nil _ _).mono ?_; rintro e w1 ⟨rfl, e1⟩; rw [e1]; clear e1)
    | (go_at_call_of 39 (Value.pointer none); refine (squash_nil _).mono ?_; rintro e w1 ⟨rfl, e1⟩; rw [e1]; clear e1)
    | (go_at_call 39; refine h39.out.mono ?_; rintro e w2 ⟨rfl, s1⟩))
  go_ret
  exact ⟨rfl, s3.out⟩
end Go.Proofs.YtfmmholkeadejaaGreatDoor
