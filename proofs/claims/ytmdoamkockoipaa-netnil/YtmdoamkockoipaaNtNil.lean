/- The law NetNil (5). -/
import Derived.Test.YtmdoamkockoipaaNtAwake
namespace Go.Proofs.Ytmdoamkockoipaa
open Go.RowKit Go.Maps

theorem okS0 : OkS nt0 := fun m hm => by simp [nt0] at hm
set_option maxHeartbeats 6400000 in
set_option maxRecDepth 100000 in
theorem netNil_walk (a b : Int) (ha : okI a) (hb : okI b) (w : World) : Calls Try.prog 5 #[.int .i64 a, .int .i64 b] w fun e w' => e = .returned (.bool true) ∧ Below w.heap.size w w' := by
  obtain ⟨N, hN⟩ : ∃ N, w.heap.size = N := ⟨_, rfl⟩
  have hz : Hid (NIn (fun k => k < N) N w N nt0 (w.alloc (.cells #[.slice none 0 0, .int .i64 0, .map none] 46))) := by
    subst hN
    exact ⟨net_new _ w (fun k hk => hk), (Below.refl _ _).alloc (Nat.le_refl _) _, fun k hk => hk⟩
  rw [hN]
  have c10 : Hid (∀ W, Calls Try.prog 10 #[.pointer none, .int .i64 a, .int .i64 b] W fun e w' => e = .returned (.tuple #[]) ∧ w' = W) := fun W => cut_nil a b W
  have c11 : Hid (∀ W, Hid (NIn (fun k => k < N) N w N nt0 W) → Calls Try.prog 11 #[.pointer none, .int .i64 a] W fun e w' => e = .returned (.tuple #[.agg #[.int .i64 0, .int .i64 0, .int .i64 0, .string ⟨#[]⟩], .bool false]) ∧ Hid (NIn (fun k => k < N) N w N nt0 w')) := fun W h => (take_nil a W).mono fun _ _ ⟨e1, e2⟩ => ⟨e1, h.out.ofBelow e2⟩
  have t11 : Hid (∀ W, Hid (NIn (fun k => k < N) N w N nt0 W) → Calls Try.prog 11 #[.pointer (some ⟨N, 0, none⟩), .int .i64 a] W fun e w' => e = .returned (.tuple #[.agg #[.int .i64 0, .int .i64 0, .int .i64 0, .string ⟨#[]⟩], .bool false]) ∧ Hid (NIn (fun k => k < N) N w N nt0 w')) := fun W h => (in_take_none h.out okS0 a rfl).mono fun _ _ ⟨e1, e2⟩ => ⟨e1, e2.out.1⟩
  have aw : Hid (∀ W, Hid (NIn (fun k => k < N) N w N nt0 W) → Calls Try.prog 7 #[] W fun e w' => e = .returned (.bool true) ∧ Hid (NIn (fun k => k < N) N w N nt0 w')) := fun W h => (awake_any W).mono fun _ _ ⟨e1, e2⟩ => ⟨e1, h.out.ofBelow e2.out⟩
  have c16 : Hid (∀ W, Calls Try.prog 16 #[.pointer none, .int .i64 a] W fun e w' => e = .returned (.bool false) ∧ w' = W) := fun W => drop_nil a W
  have c15 : Hid (∀ W, Calls Try.prog 15 #[.pointer none, .int .i64 a] W fun e w' => e = .returned (.bool false) ∧ w' = W) := fun W => double_nil a W
  have c9 : Hid (∀ v W, Calls Try.prog 9 #[.pointer none, .int .i64 a, .int .i64 b, v] W fun e w' => e = .returned (.int .i64 0) ∧ w' = W) := fun v W => send_nil a b v W
  have c13 : Hid (∀ W, Calls Try.prog 13 #[.pointer none, .slice none 0 0] W fun e w' => e = .returned (.int .i64 0) ∧ w' = W) := fun W => heal_nil _ W
  have c17 : Hid (∀ W, Hid (NIn (fun k => k < N) N w N nt0 W) → Calls Try.prog 17 #[.pointer none, .int .i64 a] W fun e w' => e = .returned (.int .i64 0) ∧ Hid (NIn (fun k => k < N) N w N nt0 w')) := fun W h => (lose_nil a W).mono fun _ _ ⟨e1, e2⟩ => ⟨e1, h.out.ofBelow e2⟩
  have c14 : Hid (∀ W, Calls Try.prog 14 #[.pointer none, .slice none 0 0] W fun e w' => e = .returned (.slice none 0 0) ∧ w' = W) := fun W => waits_nil _ W
  have c12 : Hid (∀ W, Calls Try.prog 12 #[.pointer none, .int .i64 a, .int .i64 b] W fun e w' => e = .returned (.bool true) ∧ w' = W) := fun W => joined_nil a b W
  have t12 : Hid (∀ W, Hid (NIn (fun k => k < N) N w N nt0 W) → Calls Try.prog 12 #[.pointer (some ⟨N, 0, none⟩), .int .i64 a, .int .i64 b] W fun e w' => e = .returned (.bool true) ∧ Hid (NIn (fun k => k < N) N w N nt0 w')) := fun W h => (in_joined h.out a b ha hb).mono fun _ _ ⟨e1, e2⟩ => ⟨e1, e2.out.1⟩
  have t9 : Hid (∀ W, Hid (NIn (fun k => k < N) N w N nt0 W) → Calls Try.prog 9 #[.pointer (some ⟨N, 0, none⟩), .int .i64 a, .int .i64 b, .slice (some ⟨W.heap.size, 0, none⟩) 1 1] (W.alloc (.cells #[.string ⟨#[120]⟩] 9)) fun e w' => e = .returned (.int .i64 1) ∧ Hid (Below N w w')) := fun W h => (in_send h.out a b [⟨#[120]⟩] (by decide) (by decide)).mono fun _ _ ⟨e1, e2⟩ => ⟨e1, e2.out.1.below⟩
  go_enter Try.func5, Try.ntmps5
  go_upto_region 3 with fail
  generalize w.alloc (.cells #[.slice none 0 0, .int .i64 0, .map none] 46) = w1 at hz ⊢
  clear hN
  go_wp2_with (first
    | (go_at_call 10; refine (c10.out _).mono ?_; rintro e w2 ⟨rfl, e2⟩; rw [e2]; clear e2 c10)
    | (go_at_call_of 11 (Value.pointer none); refine (c11.out w1 hz).mono ?_; rintro e w2 ⟨rfl, h2⟩; clear c11 hz; have g2 : Hid (NIn (fun k => k < N) N w N nt0 (w2.alloc (.cells #[.int .i64 0, .int .i64 0, .int .i64 0, .string ⟨#[]⟩] 34))) := h2.out.alloc _; clear h2)
    | (go_at_call 11; refine (t11.out _ g2).mono ?_; rintro e w3 ⟨rfl, h3⟩; clear t11 g2; have g3 : Hid (NIn (fun k => k < N) N w N nt0 (w3.alloc (.cells #[.int .i64 0, .int .i64 0, .int .i64 0, .string ⟨#[]⟩] 34))) := h3.out.alloc _; clear h3)
    | (go_at_call 7; refine (aw.out _ g3).mono ?_; rintro e w4 ⟨rfl, h4⟩; clear aw g3; have g4 : Hid (NIn (fun k => k < N) N w N nt0 (w4.alloc (.cells #[.string ⟨#[120]⟩] 9))) := h4.out.alloc _)
    | (go_at_call 16; refine (c16.out _).mono ?_; rintro e w5 ⟨rfl, e5⟩; rw [e5]; clear e5 c16)
    | (go_at_call 15; refine (c15.out _).mono ?_; rintro e w5 ⟨rfl, e5⟩; rw [e5]; clear e5 c15)
    | (go_at_call_of 9 (Value.pointer none); refine (c9.out _ _).mono ?_; rintro e w5 ⟨rfl, e5⟩; rw [e5]; clear e5 c9)
    | (go_at_call 13; refine (c13.out _).mono ?_; rintro e w5 ⟨rfl, e5⟩; rw [e5]; clear e5 c13)
    | (go_at_call 17; refine (c17.out _ g4).mono ?_; rintro e w5 ⟨rfl, h5⟩; clear c17 g4)
    | (go_at_call 14; refine (c14.out _).mono ?_; rintro e w6 ⟨rfl, e6⟩; rw [e6]; clear e6 c14)
    | (go_at_call_of 12 (Value.pointer none); refine (c12.out _).mono ?_; rintro e w6 ⟨rfl, e6⟩; rw [e6]; clear e6 c12)
    | (go_at_call 12; refine (t12.out _ h5).mono ?_; rintro e w6 ⟨rfl, h6⟩; clear t12 h5)
    | (go_at_call 9; refine (t9.out _ h6).mono ?_; rintro e w7 ⟨rfl, h7⟩; clear t9 h6))
  go_ret
  exact ⟨rfl, h7.out⟩
end Go.Proofs.Ytmdoamkockoipaa
