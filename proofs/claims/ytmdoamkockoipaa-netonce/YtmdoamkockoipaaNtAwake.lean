/- What the law asks first (awake, 7). -/
import Derived.Test.YtmdoamkockoipaaNtIn
namespace Go.Proofs.Ytmdoamkockoipaa
open Go.RowKit Go.Maps

def bA : ByteArray := ⟨#[97]⟩
def bB : ByteArray := ⟨#[98]⟩
def bC : ByteArray := ⟨#[99]⟩
def st1 : Nt := ⟨[(1, 1, 2, bA), (2, 1, 2, bB)], 2, []⟩
def st2 : Nt := ⟨[(1, 1, 2, bA), (2, 1, 2, bB), (3, 2, 1, bC)], 3, []⟩
def st3 : Nt := ⟨[(1, 1, 2, bA), (2, 1, 2, bB), (3, 2, 1, bC)], 3, [(1, 2)]⟩
def st5 : Nt := ⟨[(1, 1, 2, bA), (3, 2, 1, bC)], 3, []⟩
def st6 : Nt := ⟨[(1, 1, 2, bA), (3, 2, 1, bC), (4, 1, 2, bA)], 4, []⟩
def st7 : Nt := ⟨[(1, 1, 2, bA), (4, 1, 2, bA)], 4, []⟩
theorem aw1 : sendN nt0 1 2 ([bA, bB].take (fitN nt0 [bA, bB])) = st1 := rfl
theorem aw2 : sendN st1 2 1 ([bC].take (fitN st1 [bC])) = st2 := rfl
theorem aw3 : ({ st2 with cuts := cutL st2.cuts 1 2 } : Nt) = st3 := rfl
theorem aw4 : (mayL st3).length = 0 := rfl
theorem aw5 : healN st3 [] = st2 := rfl
theorem aw6 : pickO st2 4 = some (1, (2, 1, 2, bB)) := rfl
theorem aw7 : dropN st2 1 = st5 := rfl
theorem aw8 : addN st5 1 2 bA = st6 := rfl
theorem aw9 : dropN st6 (placeN 1 st6.l.length) = st7 := rfl
theorem aw10 : waitL st7 [2] = st7.l := rfl
theorem okI_small {a : Int} (h : 0 ≤ a) (h2 : a ≤ 1000) : okI a := (okI_iff a).2 (by omega)
theorem okS2 : OkS st2 := fun m hm => by
  simp [st2] at hm
  rcases hm with rfl | rfl | rfl <;> exact ⟨okI_small (by decide) (by decide), okI_small (by decide) (by decide)⟩
theorem okS7 : OkS st7 := fun m hm => by
  simp [st7] at hm
  rcases hm with rfl | rfl <;> exact ⟨okI_small (by decide) (by decide), okI_small (by decide) (by decide)⟩
set_option maxHeartbeats 6400000 in
set_option maxRecDepth 100000 in
theorem awake_any (w : World) : Calls Try.prog 7 #[] w fun e w' => e = .returned (.bool true) ∧ Hid (Below w.heap.size w w') := by
  obtain ⟨N, hN⟩ : ∃ N, w.heap.size = N := ⟨_, rfl⟩
  have hnew := in_new N w hN
  rw [hN]
  clear hN
  have hs1 : Hid (∀ W, Hid (NIn (fun k => k < N) N w N nt0 W) → Calls Try.prog 9 #[.pointer (some ⟨N, 0, none⟩), .int .i64 1, .int .i64 2, .slice (some ⟨W.heap.size, 0, none⟩) 2 2] (W.alloc (.cells #[.string ⟨#[97]⟩, .string ⟨#[98]⟩] 9)) fun e w' => e = .returned (.int .i64 2) ∧ Hid (NIn (fun k => k < N) N w N st1 w')) := fun W h => (in_send h.out 1 2 [bA, bB] (by decide) (by decide)).mono fun _ _ ⟨e1, e2⟩ => ⟨e1, aw1 ▸ e2.out.1⟩
  have hs2 : Hid (∀ W, Hid (NIn (fun k => k < N) N w N st1 W) → Calls Try.prog 9 #[.pointer (some ⟨N, 0, none⟩), .int .i64 2, .int .i64 1, .slice (some ⟨W.heap.size, 0, none⟩) 1 1] (W.alloc (.cells #[.string ⟨#[99]⟩] 9)) fun e w' => e = .returned (.int .i64 1) ∧ Hid (NIn (fun k => k < N) N w N st2 w')) := fun W h => (in_send h.out 2 1 [bC] (by decide) (by decide)).mono fun _ _ ⟨e1, e2⟩ => ⟨e1, aw2 ▸ e2.out.1⟩
  have hcu : Hid (∀ W, Hid (NIn (fun k => k < N) N w N st2 W) → Calls Try.prog 10 #[.pointer (some ⟨N, 0, none⟩), .int .i64 1, .int .i64 2] W fun e w' => e = .returned (.tuple #[]) ∧ Hid (NIn (fun k => k < N) N w N st3 w')) := fun W h => (in_cut h.out 1 2 (okI_small (by decide) (by decide)) (okI_small (by decide) (by decide)) (by decide)).mono fun _ _ ⟨e1, e2⟩ => ⟨e1, aw3 ▸ e2.out.1⟩
  have hwa : Hid (∀ W, Hid (NIn (fun k => k < N) N w N st3 W) → Calls Try.prog 14 #[.pointer (some ⟨N, 0, none⟩), .slice none 0 0] W fun e w' => ∃ a c, e = .returned (.slice a 0 c) ∧ Hid (NIn (fun k => k < N) N w N st3 w')) := fun W h => (in_waits h.out (okS2)).mono fun _ _ ⟨a, c, e1, e2⟩ => ⟨a, c, e1, e2.out.1⟩
  have hhe : Hid (∀ W, Hid (NIn (fun k => k < N) N w N st3 W) → Calls Try.prog 13 #[.pointer (some ⟨N, 0, none⟩), .slice none 0 0] W fun e w' => e = .returned (.int .i64 1) ∧ Hid (NIn (fun k => k < N) N w N st2 w')) := fun W h => (in_heal h.out (by decide)).mono fun _ _ ⟨e1, e2⟩ => ⟨e1, aw5 ▸ e2.out.1⟩
  have hta : Hid (∀ W, Hid (NIn (fun k => k < N) N w N st2 W) → Calls Try.prog 11 #[.pointer (some ⟨N, 0, none⟩), .int .i64 4] W fun e w' => e = .returned (.tuple #[.agg #[.int .i64 2, .int .i64 1, .int .i64 2, .string ⟨#[98]⟩], .bool true]) ∧ Hid (NIn (fun k => k < N) N w N st5 w')) := fun W h => (in_take_some h.out okS2 4 (okI_small (by decide) (by decide)) 1 _ aw6).mono fun _ _ ⟨e1, e2⟩ => ⟨e1, aw7 ▸ e2.out.1⟩
  have hdo : Hid (∀ W M, Hid (NIn (fun k => k < N ∨ k = M) N w N st5 W) → Hid (Holds W M [.int .i64 2, .int .i64 1, .int .i64 2, .string ⟨#[98]⟩] 34) → Calls Try.prog 15 #[.pointer (some ⟨N, 0, none⟩), .int .i64 0] W fun e w' => e = .returned (.bool true) ∧ Hid (NIn (fun k => k < N ∨ k = M) N w N st6 w') ∧ Hid (Holds w' M [.int .i64 2, .int .i64 1, .int .i64 2, .string ⟨#[98]⟩] 34)) := fun W M h hH => (double_some 0 (okI_small (by decide) (by decide)) (by decide) (by decide) 1 1 2 bA rfl h.out.net).mono fun _ _ ⟨e1, e2⟩ => ⟨e1, h.out.of (aw8 ▸ e2.out.1) e2.out.2, hH.out.keeps e2.out.2 (.inr rfl)⟩
  have hdr : Hid (∀ W M, Hid (NIn (fun k => k < N ∨ k = M) N w N st6 W) → Hid (Holds W M [.int .i64 2, .int .i64 1, .int .i64 2, .string ⟨#[98]⟩] 34) → Calls Try.prog 16 #[.pointer (some ⟨N, 0, none⟩), .int .i64 1] W fun e w' => e = .returned (.bool true) ∧ Hid (NIn (fun k => k < N ∨ k = M) N w N st7 w') ∧ Hid (Holds w' M [.int .i64 2, .int .i64 1, .int .i64 2, .string ⟨#[98]⟩] 34)) := fun W M h hH => (drop_some 1 (okI_small (by decide) (by decide)) (by decide) h.out.net).mono fun _ _ ⟨e1, e2⟩ => ⟨e1, h.out.of (aw9 ▸ e2.out.1) e2.out.2, hH.out.keeps e2.out.2 (.inr rfl)⟩
  have hw2 : Hid (∀ W M, Hid (NIn (fun k => k < N ∨ k = M) N w N st7 W) → Hid (Holds W M [.int .i64 2, .int .i64 1, .int .i64 2, .string ⟨#[98]⟩] 34) → Calls Try.prog 14 #[.pointer (some ⟨N, 0, none⟩), .slice (some ⟨W.heap.size, 0, none⟩) 1 1] (W.alloc (.cells #[.int .i64 2] 3)) fun e w' => ∃ g c, e = .returned (.slice (some ⟨g, 0, none⟩) 2 c) ∧ w'.cell? ⟨g, 4, none⟩ = some (.int .i64 4) ∧ w'.cell? ⟨g, 7, none⟩ = some (.string ⟨#[97]⟩) ∧ Hid (NIn (fun k => k < N ∨ k = M) N w N st7 w') ∧ Hid (Holds w' M [.int .i64 2, .int .i64 1, .int .i64 2, .string ⟨#[98]⟩] 34)) := fun W M h hH => by
    refine (waits_any _ [2] (by simpa using okI_small (by decide) (by decide)) (by decide) okS7 (ints_one W 2) (h.out.alloc _).net).mono ?_
    rintro e w' ⟨x, rfl, q1, q2⟩
    rw [aw10] at q1
    have q3 : w'.ownsRow 0 34 4 x st7.l.length (mgF st7.l) := by
      obtain ⟨a1, a2⟩ := q1
      refine ⟨a1, a2.imp id ?_⟩
      rintro ⟨g, cap, cur, e, hb, r⟩
      exact ⟨g, cap, cur, e, Nat.zero_le _, r⟩
    obtain ⟨g, c, rfl, hr⟩ := row_msg q3 1 (4, 1, 2, bA) rfl
    exact ⟨g, c, rfl, hr 0 _ rfl, hr 3 _ rfl, (h.out.alloc _).ofBelow q2, (hH.out.alloc _).below q2 (by have := hH.out.lt; simp; omega)⟩
  have hjo : Hid (∀ W M, Hid (NIn (fun k => k < N ∨ k = M) N w N st7 W) → Calls Try.prog 12 #[.pointer (some ⟨N, 0, none⟩), .int .i64 1, .int .i64 2] W fun e w' => e = .returned (.bool true) ∧ Hid (NIn (fun k => k < N ∨ k = M) N w N st7 w')) := fun W M h => (in_joined h.out 1 2 (okI_small (by decide) (by decide)) (okI_small (by decide) (by decide))).mono fun _ _ ⟨e1, e2⟩ => ⟨e1, e2.out.1⟩
  have hlo : Hid (∀ W M, Hid (NIn (fun k => k < N ∨ k = M) N w N st7 W) → Calls Try.prog 17 #[.pointer (some ⟨N, 0, none⟩), .int .i64 1] W fun e w' => e = .returned (.int .i64 2) ∧ Hid (Below N w w')) := fun W M h => (lose_all 1 (by decide) (by decide) h.out.net).mono fun _ _ ⟨e1, e2⟩ => ⟨e1, h.out.below.trans (e2.out.toBelow h.out.low)⟩
  go_enter Try.func7, Try.ntmps7
  go_wp2_with (first
    | (go_at_call 8; refine hnew.mono ?_; rintro e w1 ⟨rfl, h1, -⟩; clear hnew)
    | (go_at_call 9; refine (hs1.out w1 h1).mono ?_; rintro e w2 ⟨rfl, h2⟩; clear hs1 h1)
    | (go_at_call 9; refine (hs2.out w2 h2).mono ?_; rintro e w3 ⟨rfl, h3⟩; clear hs2 h2)
    | (go_at_call 10; refine (hcu.out w3 h3).mono ?_; rintro e w4 ⟨rfl, h4⟩; clear hcu h3)
    | (go_at_call 14; refine (hwa.out w4 h4).mono ?_; rintro e w5 ⟨a5, c5, rfl, h5⟩; clear hwa h4)
    | (go_at_call 13; refine (hhe.out w5 h5).mono ?_; rintro e w6 ⟨rfl, h6⟩; clear hhe h5)
    | (go_at_call 11; refine (hta.out w6 h6).mono ?_; rintro e w7 ⟨rfl, h7⟩; clear hta h6; have g7 : Hid (NIn (fun k => k < N ∨ k = w7.heap.size) N w N st5 (w7.alloc (.cells #[.int .i64 2, .int .i64 1, .int .i64 2, .string ⟨#[98]⟩] 34))) := h7.out.guard _; have m7 : Hid (Holds (w7.alloc (.cells #[.int .i64 2, .int .i64 1, .int .i64 2, .string ⟨#[98]⟩] 34)) w7.heap.size [.int .i64 2, .int .i64 1, .int .i64 2, .string ⟨#[98]⟩] 34) := holds_new w7 _ _; clear h7)
    | (go_at_call 15; refine (hdo.out _ _ g7 m7).mono ?_; rintro e w8 ⟨rfl, h8, m8⟩; clear hdo g7 m7)
    | (go_at_call 16; refine (hdr.out _ _ h8 m8).mono ?_; rintro e w9 ⟨rfl, h9, m9⟩; clear hdr h8 m8)
    | (go_at_call 14; refine (hw2.out _ _ h9 m9).mono ?_; rintro e w10 ⟨g, c, rfl, x0, x3, h10, m10⟩; clear hw2 h9 m9; have y0 := m10.out.at 0 _ rfl; have y1 := m10.out.at 1 _ rfl; have y2 := m10.out.at 2 _ rfl; have y3 := m10.out.at 3 _ rfl; clear m10)
    | (go_at_call 12; refine (hjo.out _ _ h10).mono ?_; rintro e w11 ⟨rfl, h11⟩; clear hjo h10)
    | (go_at_call 17; refine (hlo.out _ _ h11).mono ?_; rintro e w12 ⟨rfl, h12⟩; clear hlo h11))
  go_ret
  exact ⟨rfl, h12⟩
end Go.Proofs.Ytmdoamkockoipaa
