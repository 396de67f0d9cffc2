/- CaskNil's walk, given that awake says yes. -/
import Derived.Test.YtfmmholkeadejaaGreatDoorZC4
namespace Go.Proofs.YtfmmholkeadejaaGreatDoor
open Go.RowKit

/-- The zero dead cask. -/
theorem dead_zero (z : Nat) (w : World) (h : Holds w z zeroC 28) : Calls Tryz.prog 25 #[.pointer (some ⟨z, 0, none⟩)] w fun e w' => e = .returned (.int .i64 0) ∧ Below w.heap.size w w' := by
  have c1 := h.at 1 _ rfl
  have c2 := h.at 2 _ rfl
  have hl := fun (W : World) ty => Maps.len_nil (P := Tryz.prog) (w := W) cund25 ty
  go_enter Tryz.func25, Tryz.ntmps25
  go_wp2
  go_region
  all_goals
    go_wp2
    go_ret
    exact ⟨rfl, (Below.refl _ _).drew⟩
set_option maxHeartbeats 1000000 in
set_option maxRecDepth 100000 in
theorem caskNil_walk (s : ByteArray) (w : World) (hA : Hid (∀ W, Below w.heap.size w W → Calls Tryz.prog 17 #[] W fun e w' => e = .returned (.bool true) ∧ Below W.heap.size W w')) :
    Calls Tryz.prog 3 #[.string s] w fun e w' => e = .returned (.bool true) ∧ Below w.heap.size w w' := by
  obtain ⟨W0, hW0⟩ : ∃ W0, w.alloc (.cells #[.nilIface, .map none, .int .i64 0, .slice none 0 0, .int .i64 0, .bool false, .bool false] 28) = W0 := ⟨_, rfl⟩
  have hz : Holds W0 w.heap.size zeroC 28 := by rw [← hW0]; exact holds_new w zeroC 28
  have h0 : Below w.heap.size w W0 := by rw [← hW0]; exact (Below.refl _ w).alloc (Nat.le_refl _) _
  have hs0 : W0.heap.size = w.heap.size + 1 := by rw [← hW0]; simp
  have hA' : Hid (Calls Tryz.prog 17 #[] W0 fun e w' => e = .returned (.bool true) ∧ Holds w' w.heap.size zeroC 28 ∧ Below w.heap.size w w') := (hA.out W0 h0).mono fun e w' ⟨q, b⟩ => ⟨q, hz.below b hz.lt, h0.trans (b.mono (by omega))⟩
  clear hA hz h0 hs0
  go_enter Tryz.func3, Tryz.ntmps3
  go_wp2_with (first
    | (go_at_call 15; refine (get_nil' s _).mono ?_; rintro e w1 ⟨rfl, e1⟩; rw [e1]; clear e1)
    | (go_at_call 16; refine (opens_nil _ _).mono ?_; rintro e w1 ⟨rfl, e1⟩; rw [e1]; clear e1)
    | (go_at_call 17; first | rw [hW0] | skip; refine hA'.out.mono ?_; rintro e w2 ⟨rfl, z2, b2⟩)
    | (go_at_call_of 18 (Value.pointer none); refine (put_nil _ _ _).mono ?_; rintro e w1 ⟨rfl, e1⟩; rw [e1]; clear e1)
    | (go_at_call_of 18 (Value.pointer (some ⟨w.heap.size, 0, none⟩)); refine (put_zero w.heap.size _ _ _ z2).mono ?_; rintro e w1 ⟨rfl, e1⟩; rw [e1]; clear e1)
    | (go_at_call_of 19 (Value.pointer none); refine (delete_nilc _ _ _ _).mono ?_; rintro e w1 ⟨rfl, e1⟩; rw [e1]; clear e1)
    | (go_at_call_of 20 (Value.pointer none); refine (sync_nilc _).mono ?_; rintro e w1 ⟨rfl, e1⟩; rw [e1]; clear e1)
    | (go_at_call_of 20 (Value.pointer (some ⟨w.heap.size, 0, none⟩)); refine (sync_zero w.heap.size _ (z2.alloc _)).mono ?_; rintro e w1 ⟨rfl, e1⟩; rw [e1]; clear e1)
    | (go_at_call_of 21 (Value.pointer none); refine (reopen_nil _).mono ?_; rintro e w1 ⟨rfl, e1⟩; rw [e1]; clear e1)
    | (go_at_call_of 22 (Value.pointer none); refine (len_nil _).mono ?_; rintro e w1 ⟨rfl, e1⟩; rw [e1]; clear e1)
    | (go_at_call_of 23 (Value.pointer none); refine (fold_nil _).mono ?_; rintro e w1 ⟨rfl, e1⟩; rw [e1]; clear e1)
    | (go_at_call_of 24 (Value.pointer none); refine (segments_nil _).mono ?_; rintro e w1 ⟨rfl, e1⟩; rw [e1]; clear e1)
    | (go_at_call_of 25 (Value.pointer none); refine (dead_nil _).mono ?_; rintro e w1 ⟨rfl, e1⟩; rw [e1]; clear e1)
    | (go_at_call_of 22 (Value.pointer (some ⟨w.heap.size, 0, none⟩)); refine (len_zero w.heap.size _ (z2.alloc _)).mono ?_; rintro e w1 ⟨rfl, e1⟩; rw [e1]; clear e1)
    | (go_at_call_of 25 (Value.pointer (some ⟨w.heap.size, 0, none⟩)); refine (dead_zero w.heap.size _ (z2.alloc _)).mono ?_; rintro e w5 ⟨rfl, b5⟩)
    | (go_at_call_of 26 (Value.pointer none); refine (name_nil _).mono ?_; rintro e w1 ⟨rfl, e1⟩; rw [e1]; clear e1)
    | (go_at_call_of 27 (Value.pointer none); refine (disk_nil _).mono ?_; rintro e w1 ⟨rfl, e1⟩; rw [e1]; clear e1)
    | (go_at_call_of 28 (Value.pointer none); refine (broken_nil _).mono ?_; rintro e w1 ⟨rfl, e1⟩; rw [e1]; clear e1))
  go_ret
  have s2 := b2.size
  refine ⟨rfl, (b2.alloc s2 _).trans (b5.mono ?_)⟩
  rw [World.size_alloc]
  omega
end Go.Proofs.YtfmmholkeadejaaGreatDoor
