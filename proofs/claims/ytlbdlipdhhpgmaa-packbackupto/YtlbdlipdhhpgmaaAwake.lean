/- The statements' awake answers true. -/
import Derived.Test.YtlbdlipdhhpgmaaFrame
namespace Go.Proofs.Ytlbdlipdhhpgmaa
open Go.RowKit

theorem num300 : numL 300 = [172, 2] := by rw [numL_big (by decide), numL_small (by decide)]; rfl
theorem num128 : numL 128 = [128, 1] := by rw [numL_big (by decide), numL_small (by decide)]; rfl
theorem num127 : numL 127 = [127] := by rw [numL_small (by decide)]; rfl
theorem num2 : numL 2 = [2] := by rw [numL_small (by decide)]; rfl
theorem num1 : numL 1 = [1] := by rw [numL_small (by decide)]; rfl
theorem num0 : numL 0 = [0] := by rw [numL_small (by decide)]; rfl
theorem crc_hi : crc [104, 105] = 3633523372#32 := by decide +kernel
def hiB : ByteArray := ⟨#[104, 105]⟩
theorem text_hi : textL hiB = [2, 104, 105] := by
  show numL 2 ++ [104, 105] = _
  rw [num2]; rfl
theorem frame_hi : strL (frameL hiB) = ⟨#[2, 104, 105, 216, 147, 42, 172]⟩ := by
  have h : crc hiB.data.toList = 3633523372#32 := crc_hi
  rw [frameL, text_hi, h]
  decide +kernel
def ill : ByteArray := ⟨#[128, 0]⟩
theorem ill_err : nE ill = 11 := by decide +kernel

set_option maxHeartbeats 1000000 in
set_option maxRecDepth 100000 in
theorem awake_any (w : World) : Calls Try.prog 9 #[] w fun e w' => e = .returned (.bool true) ∧ Below w.heap.size w w' := by
  obtain ⟨n, hn⟩ : ∃ n, w.heap.size = n := ⟨_, rfl⟩
  rw [hn]
  have hW0 : Wr (w.alloc (.cells #[.slice none 0 0] 29)) n [] := hn ▸ wr_new w
  have hb0 : Below n w (w.alloc (.cells #[.slice none 0 0] 29)) := (Below.refl _ _).alloc (by omega) _
  have hz0 : (w.alloc (.cells #[.slice none 0 0] 29)).heap.size = n + 1 := by simp [hn]
  have c12 : Hid (Calls Try.prog 12 #[.pointer (some ⟨n, 0, none⟩), .slice (some ⟨n + 1, 0, none⟩) 4 4] ((w.alloc (.cells #[.slice none 0 0] 29)).alloc (.cells #[.int .u64 0, .int .u64 127, .int .u64 128, .int .u64 300] 31)) fun e w' => e = .returned (.pointer (some ⟨n, 0, none⟩)) ∧ Wr w' n [0, 127, 128, 1, 172, 2] ∧ WUpd n (w.alloc (.cells #[.slice none 0 0] 29)) w') := by
    have := wnums_new n [] [0, 127, 128, 300] (by decide) (w.alloc (.cells #[.slice none 0 0] 29)) (n + 1) hz0 hW0 (by simp [num0, num127, num128, num300]) (by decide)
    rw [show ([0, 127, 128, 300] : List Nat).flatMap numL = [0, 127, 128, 1, 172, 2] by simp [num0, num127, num128, num300]] at this
    exact this
  have c28 : Hid (∀ (W : World) (N : Nat), W.heap.size = N → Wr W n [0, 127, 128, 1, 172, 2] → Calls Try.prog 28 #[.pointer (some ⟨n, 0, none⟩), .slice (some ⟨N, 0, none⟩) 4 4] (W.alloc (.cells #[.int .i64 0, .int .i64 (-1), .int .i64 1, .int .i64 (-64)] 2)) fun e w' => e = .returned (.pointer (some ⟨n, 0, none⟩)) ∧ Wr w' n [0, 127, 128, 1, 172, 2, 0, 1, 2, 127] ∧ WUpd n W w') := fun W N hN hW => by
    have hf : ([0, -1, 1, -64] : List Int).flatMap (fun x => numL (zig x)) = [0, 1, 2, 127] := by
      simp [show zig 0 = 0 by decide, show zig (-1) = 1 by decide, show zig 1 = 2 by decide, show zig (-64) = 127 by decide, num0, num1, num2, num127]
    have := wints_new n [0, 127, 128, 1, 172, 2] [0, -1, 1, -64] (by decide) W N hN hW (by rw [hf]; decide) (by decide)
    rw [hf] at this
    exact this
  have c13 : Hid (∀ (W : World) (N : Nat), W.heap.size = N → Wr W n [0, 127, 128, 1, 172, 2, 0, 1, 2, 127] → Calls Try.prog 13 #[.pointer (some ⟨n, 0, none⟩), .slice (some ⟨N, 0, none⟩) 1 1] (W.alloc (.cells #[.string ⟨#[104, 105]⟩] 9)) fun e w' => e = .returned (.pointer (some ⟨n, 0, none⟩)) ∧ Wr w' n [0, 127, 128, 1, 172, 2, 0, 1, 2, 127, 2, 104, 105] ∧ WUpd n W w') := fun W N hN hW => by
    have := wtexts_one n [0, 127, 128, 1, 172, 2, 0, 1, 2, 127] hiB trivial W N hN hW (by rw [text_hi]; decide)
    rw [text_hi] at this
    exact this
  have c29 : Hid (∀ (W : World) (N : Nat), W.heap.size = N → Wr W n [0, 127, 128, 1, 172, 2, 0, 1, 2, 127, 2, 104, 105] → Calls Try.prog 29 #[.pointer (some ⟨n, 0, none⟩), .slice (some ⟨N, 0, none⟩) 1 1] (W.alloc (.cells #[.bool true] 4)) fun e w' => e = .returned (.pointer (some ⟨n, 0, none⟩)) ∧ Wr w' n [0, 127, 128, 1, 172, 2, 0, 1, 2, 127, 2, 104, 105, 1] ∧ WUpd n W w') := fun W N hN hW =>
    wflags_one n [0, 127, 128, 1, 172, 2, 0, 1, 2, 127, 2, 104, 105] true trivial W N hN hW (by decide)
  have c23 : Hid (∀ W, Calls Try.prog 23 #[.string ⟨#[104, 105]⟩] W fun e w' => e = .returned (.tuple #[.string ⟨#[2, 104, 105, 216, 147, 42, 172]⟩, .int .i64 0]) ∧ Below W.heap.size W w') := fun W => by
    have := frame_ok hiB (by decide) W
    rw [frame_hi] at this
    exact this
  have c18 : Hid (∀ (W : World) (N : Nat), W.heap.size = N → Calls Try.prog 18 #[.string ⟨#[128, 0]⟩] W fun x w' => x = .returned (.pointer (some ⟨N, 0, none⟩)) ∧ Rd w' N ill 0 ∧ Below N W w') := fun W N hN => hN ▸ read_any ill W
  have c26 : Hid (∀ (W : World) (b : Nat), Rd W b ill 0 → Calls Try.prog 26 #[.pointer (some ⟨b, 0, none⟩)] W fun x w' => x = .returned (.int .u64 0) ∧ Rd w' b ⟨#[]⟩ 11 ∧ Upd b W w') := fun W b hW => by
    refine (num_ok b ill (by decide) W hW).mono fun x w' ⟨h1, h2, h3⟩ => ?_
    rw [ill_err] at h2
    exact ⟨by rw [h1, nV_err (by rw [ill_err]; decide)]; rfl, h2, h3⟩
  have c16 : Hid (∀ W, Wr W n [0, 127, 128, 1, 172, 2, 0, 1, 2, 127, 2, 104, 105, 1] → Calls Try.prog 16 #[.pointer (some ⟨n, 0, none⟩)] W fun e w' => e = .returned (.string ⟨#[0, 127, 128, 1, 172, 2, 0, 1, 2, 127, 2, 104, 105, 1]⟩) ∧ w' = W) := fun W hW => bytes_some n _ W hW
  have c22 : Hid (∀ (W : World) (b : Nat), Rd W b ⟨#[]⟩ 11 → Calls Try.prog 22 #[.pointer (some ⟨b, 0, none⟩)] W fun x w' => x = .returned (.int .i64 11) ∧ w' = W) := fun W b hW => done_some b _ _ W hW
  go_enter Try.func9, Try.ntmps9
  go_wp2_with (first
    | (go_at_call 12; refine c12.out.mono ?_; rintro e w1 ⟨rfl, h1, u1⟩; obtain ⟨n1, hn1⟩ : ∃ n1, w1.heap.size = n1 := ⟨_, rfl⟩)
    | (go_at_call 28; refine (c28.out w1 n1 hn1 h1).mono ?_; rintro e w2 ⟨rfl, h2, u2⟩; obtain ⟨n2, hn2⟩ : ∃ n2, w2.heap.size = n2 := ⟨_, rfl⟩)
    | (go_at_call 13; refine (c13.out w2 n2 hn2 h2).mono ?_; rintro e w3 ⟨rfl, h3, u3⟩; obtain ⟨n3, hn3⟩ : ∃ n3, w3.heap.size = n3 := ⟨_, rfl⟩)
    | (go_at_call 29; refine (c29.out w3 n3 hn3 h3).mono ?_; rintro e w4 ⟨rfl, h4, u4⟩)
    | (go_at_call 23; refine (c23.out w4).mono ?_; rintro e w5 ⟨rfl, b5⟩; obtain ⟨n5, hn5⟩ : ∃ n5, w5.heap.size = n5 := ⟨_, rfl⟩; have h5 := h4.below b5)
    | (go_at_call 18; refine (c18.out w5 n5 hn5).mono ?_; rintro e w6 ⟨rfl, r6, b6⟩; have h6 := h5.below (hn5 ▸ b6))
    | (go_at_call 26; refine (c26.out w6 n5 r6).mono ?_; rintro e w7 ⟨rfl, r7, u7⟩; have h7 := h6.upd u7 (by have := h5.lt; omega) (r6.notByte (by decide)))
    | (go_at_call 16; refine (c16.out w7 h7).mono ?_; rintro e w8 ⟨rfl, rfl⟩)
    | (go_at_call 22; refine (c22.out _ n5 r7).mono ?_; rintro e w9 ⟨rfl, rfl⟩))
  go_ret
  have z1 := u1.size
  have z2 := u2.size
  have z3 := u3.size
  have z4 := u4.size
  have z5 := b5.size
  refine ⟨rfl, ?_⟩
  refine (hb0.trans (((u1.trans u2).trans (u3.trans u4)).below (Nat.le_refl _))).trans ?_
  refine (b5.mono (by omega)).trans ?_
  exact (b6.mono (by omega)).trans (u7.below (by omega) (by have := b6.size; omega))
end Go.Proofs.Ytlbdlipdhhpgmaa
