/- The function of the statement PackOne, called with whatever text and kind, answers true; nothing that was there is turned. -/
import Derived.Test.YtlbdlipdhhpgmaaSame
import Derived.Deep.RegionWith
import Derived.Deep.RegionLaw
namespace Go.Proofs.Ytlbdlipdhhpgmaa
open Go.RowKit

set_option maxHeartbeats 1600000 in
set_option maxRecDepth 100000 in
theorem packOne_core (s : ByteArray) (hs : s.size ≤ 140737488355228) (kd kk : Int) (hkk : kk = if kd.tmod 4 < 0 then -kd.tmod 4 else kd.tmod 4) (N : Nat) (hN : N < 18446744073709551616) (S : ByteArray) (E : Int) (R : ByteArray)
    (htook : ∀ b W, Rd W b s 0 → Calls Try.prog 19 #[.pointer (some ⟨b, 0, none⟩), .agg #[.int .i64 kk, .int .i64 0, .int .u64 0, .string ⟨#[]⟩]] W (TookP b kk 0 (N : Int) S E R W))
    (hparts : E = 0 → Parts s (thL kk N S) R) (w : World) :
    Calls Try.prog 5 #[.string s, .int .i64 kd] w fun e w' => e = .returned (.bool true) ∧ Below w.heap.size w w' := by
  have htk : Hid (∀ b W, Rd W b s 0 → Calls Try.prog 19 #[.pointer (some ⟨b, 0, none⟩), .agg #[.int .i64 kk, .int .i64 0, .int .u64 0, .string ⟨#[]⟩]] W (TookP b kk 0 (N : Int) S E R W)) := htook
  clear htook
  obtain ⟨n, hn⟩ : ∃ n, w.heap.size = n := ⟨_, rfl⟩
  have hc4 : -4 < kd.tmod 4 ∧ kd.tmod 4 < 4 := by
    have h1 := Int.tmod_lt_of_pos kd (by decide : (0 : Int) < 4)
    have h2 := Int.tmod_lt_of_pos (-kd) (by decide : (0 : Int) < 4)
    rw [Int.neg_tmod] at h2
    omega
  obtain ⟨c4, hc⟩ : ∃ c4, kd.tmod 4 = c4 := ⟨_, rfl⟩
  rw [hc] at hkk hc4
  rw [hn]
  by_cases hE : E = 0
  · have hP := hparts hE
    have hz := hP.size
    have hh := hP.head
    have hlay : Hid (∀ (B : Nat) (W : World), Wr W B [] → Calls Try.prog 10 #[.pointer (some ⟨B, 0, none⟩), .agg #[.int .i64 kk, .int .i64 0, .int .u64 (N : Int), .string S]] W fun e w' => e = .returned (.tuple #[]) ∧ Wr w' B (thL kk N S) ∧ WUpd B W w') := fun B W hW =>
      lay_some B [] kk 0 N hN S W hW (by simp; omega)
    have hrest : restR E R = R := by rw [restR, if_pos hE]
    unfold TookP at htk
    rw [hrest] at htk
    subst hE
    clear hparts hP hrest
    generalize thL kk N S = L at *
    have hu1 : (0 : Int) ≤ (s.size : Int) - (R.size : Int) := by omega
    have hu2 : ((s.size : Int) - (R.size : Int)).toNat = L.length := by omega
    have hu3 : (s.size : Int) - (R.size : Int) ≤ (s.size : Int) := by omega
    have hcmp : ((strL L).toList == (s.extract 0 L.length).toList) = true := by rw [hh]; simp
    by_cases hneg : c4 < 0
    · rw [if_pos hneg] at hkk
      subst hkk
      by_cases hR : (R.size : Int) = 0
      · have hd : doneV R 0 = 0 := by rw [doneV, if_pos rfl, if_pos (by omega)]
        go_enter Try.func5, Try.ntmps5
        go_wp2_with (first
          | (go_at_call 9; refine (awake_any _).mono ?_; rintro e w1 ⟨rfl, b1⟩; obtain ⟨n1, hn1⟩ : ∃ n1, w1.heap.size = n1 := ⟨_, rfl⟩)
          | (go_at_call 18; refine (read_any s _).mono ?_; rw [hn1]; rintro e w2 ⟨rfl, r2, b2⟩)
          | (go_at_call 19; refine (htk.out n1 _ r2).mono ?_; rintro e w3 ⟨rfl, r3, u3⟩; obtain ⟨n3, hn3⟩ : ∃ n3, w3.heap.size = n3 := ⟨_, rfl⟩; have r4 : Hid (∀ o, Rd (w3.alloc o) n1 R 0) := fun o => r3.alloc o; have hW4 : Hid (∀ o, Wr ((w3.alloc o).alloc (.cells #[.slice none 0 0] 29)) (n3 + 1) []) := fun o => (by have := wr_new (w3.alloc o); simp only [World.size_alloc, hn3] at this; exact this); have b4 : Hid (∀ o, Below n3 w3 ((w3.alloc o).alloc (.cells #[.slice none 0 0] 29))) := fun o => ((Below.refl _ _).alloc (by omega) _).alloc (by simp; omega) _)
          | (go_at_call 21; refine (left_some n1 R 0 _ (r4.out _)).mono ?_; rintro e w5 ⟨rfl, rfl⟩)
          | (go_at_call 22; refine (done_some n1 R 0 _ (r4.out _)).mono ?_; rw [hd]; rintro e w5 ⟨rfl, rfl⟩)
          | (go_at_call 10; refine (hlay.out (n3 + 1) _ (hW4.out _)).mono ?_; rintro e w6 ⟨rfl, h6, u6⟩; have h6d : Wr w6.drew (n3 + 1) L := h6))
        go_region_with (go_at_call 16; refine (bytes_some (n3 + 1) L _ h6d).mono ?_; rintro e w7 ⟨rfl, rfl⟩)
        all_goals
          go_wp2
          go_ret
          have z1 := b1.size
          have z2 := b2.size
          have z3 := u3.size
          have hb : Below n w w2 := (b1.mono (by omega)).trans (b2.mono (by omega))
          exact ⟨rfl, ((hb.trans (u3.below (by omega) (by omega))).trans (((b4.out _).mono (by omega)).trans (u6.below (by omega)))).drew⟩
      · go_enter Try.func5, Try.ntmps5
        go_wp2_with (first
          | (go_at_call 9; refine (awake_any _).mono ?_; rintro e w1 ⟨rfl, b1⟩; obtain ⟨n1, hn1⟩ : ∃ n1, w1.heap.size = n1 := ⟨_, rfl⟩)
          | (go_at_call 18; refine (read_any s _).mono ?_; rw [hn1]; rintro e w2 ⟨rfl, r2, b2⟩)
          | (go_at_call 19; refine (htk.out n1 _ r2).mono ?_; rintro e w3 ⟨rfl, r3, u3⟩; obtain ⟨n3, hn3⟩ : ∃ n3, w3.heap.size = n3 := ⟨_, rfl⟩; have r4 : Hid (∀ o, Rd (w3.alloc o) n1 R 0) := fun o => r3.alloc o; have hW4 : Hid (∀ o, Wr ((w3.alloc o).alloc (.cells #[.slice none 0 0] 29)) (n3 + 1) []) := fun o => (by have := wr_new (w3.alloc o); simp only [World.size_alloc, hn3] at this; exact this); have b4 : Hid (∀ o, Below n3 w3 ((w3.alloc o).alloc (.cells #[.slice none 0 0] 29))) := fun o => ((Below.refl _ _).alloc (by omega) _).alloc (by simp; omega) _)
          | (go_at_call 21; refine (left_some n1 R 0 _ (r4.out _)).mono ?_; rintro e w5 ⟨rfl, rfl⟩)
          | (go_at_call 10; refine (hlay.out (n3 + 1) _ (hW4.out _)).mono ?_; rintro e w6 ⟨rfl, h6, u6⟩; have h6d : Wr w6.drew (n3 + 1) L := h6))
        go_region_with (go_at_call 16; refine (bytes_some (n3 + 1) L _ h6d).mono ?_; rintro e w7 ⟨rfl, rfl⟩)
        all_goals
          go_wp2
          go_ret
          have z1 := b1.size
          have z2 := b2.size
          have z3 := u3.size
          have hb : Below n w w2 := (b1.mono (by omega)).trans (b2.mono (by omega))
          exact ⟨rfl, ((hb.trans (u3.below (by omega) (by omega))).trans (((b4.out _).mono (by omega)).trans (u6.below (by omega)))).drew⟩
    · rw [if_neg hneg] at hkk
      subst hkk
      by_cases hR : (R.size : Int) = 0
      · have hd : doneV R 0 = 0 := by rw [doneV, if_pos rfl, if_pos (by omega)]
        go_enter Try.func5, Try.ntmps5
        go_wp2_with (first
          | (go_at_call 9; refine (awake_any _).mono ?_; rintro e w1 ⟨rfl, b1⟩; obtain ⟨n1, hn1⟩ : ∃ n1, w1.heap.size = n1 := ⟨_, rfl⟩)
          | (go_at_call 18; refine (read_any s _).mono ?_; rw [hn1]; rintro e w2 ⟨rfl, r2, b2⟩)
          | (go_at_call 19; refine (htk.out n1 _ r2).mono ?_; rintro e w3 ⟨rfl, r3, u3⟩; obtain ⟨n3, hn3⟩ : ∃ n3, w3.heap.size = n3 := ⟨_, rfl⟩; have r4 : Hid (∀ o, Rd (w3.alloc o) n1 R 0) := fun o => r3.alloc o; have hW4 : Hid (∀ o, Wr ((w3.alloc o).alloc (.cells #[.slice none 0 0] 29)) (n3 + 1) []) := fun o => (by have := wr_new (w3.alloc o); simp only [World.size_alloc, hn3] at this; exact this); have b4 : Hid (∀ o, Below n3 w3 ((w3.alloc o).alloc (.cells #[.slice none 0 0] 29))) := fun o => ((Below.refl _ _).alloc (by omega) _).alloc (by simp; omega) _)
          | (go_at_call 21; refine (left_some n1 R 0 _ (r4.out _)).mono ?_; rintro e w5 ⟨rfl, rfl⟩)
          | (go_at_call 22; refine (done_some n1 R 0 _ (r4.out _)).mono ?_; rw [hd]; rintro e w5 ⟨rfl, rfl⟩)
          | (go_at_call 10; refine (hlay.out (n3 + 1) _ (hW4.out _)).mono ?_; rintro e w6 ⟨rfl, h6, u6⟩; have h6d : Wr w6.drew (n3 + 1) L := h6))
        go_region_with (go_at_call 16; refine (bytes_some (n3 + 1) L _ h6d).mono ?_; rintro e w7 ⟨rfl, rfl⟩)
        all_goals
          go_wp2
          go_ret
          have z1 := b1.size
          have z2 := b2.size
          have z3 := u3.size
          have hb : Below n w w2 := (b1.mono (by omega)).trans (b2.mono (by omega))
          exact ⟨rfl, ((hb.trans (u3.below (by omega) (by omega))).trans (((b4.out _).mono (by omega)).trans (u6.below (by omega)))).drew⟩
      · go_enter Try.func5, Try.ntmps5
        go_wp2_with (first
          | (go_at_call 9; refine (awake_any _).mono ?_; rintro e w1 ⟨rfl, b1⟩; obtain ⟨n1, hn1⟩ : ∃ n1, w1.heap.size = n1 := ⟨_, rfl⟩)
          | (go_at_call 18; refine (read_any s _).mono ?_; rw [hn1]; rintro e w2 ⟨rfl, r2, b2⟩)
          | (go_at_call 19; refine (htk.out n1 _ r2).mono ?_; rintro e w3 ⟨rfl, r3, u3⟩; obtain ⟨n3, hn3⟩ : ∃ n3, w3.heap.size = n3 := ⟨_, rfl⟩; have r4 : Hid (∀ o, Rd (w3.alloc o) n1 R 0) := fun o => r3.alloc o; have hW4 : Hid (∀ o, Wr ((w3.alloc o).alloc (.cells #[.slice none 0 0] 29)) (n3 + 1) []) := fun o => (by have := wr_new (w3.alloc o); simp only [World.size_alloc, hn3] at this; exact this); have b4 : Hid (∀ o, Below n3 w3 ((w3.alloc o).alloc (.cells #[.slice none 0 0] 29))) := fun o => ((Below.refl _ _).alloc (by omega) _).alloc (by simp; omega) _)
          | (go_at_call 21; refine (left_some n1 R 0 _ (r4.out _)).mono ?_; rintro e w5 ⟨rfl, rfl⟩)
          | (go_at_call 10; refine (hlay.out (n3 + 1) _ (hW4.out _)).mono ?_; rintro e w6 ⟨rfl, h6, u6⟩; have h6d : Wr w6.drew (n3 + 1) L := h6))
        go_region_with (go_at_call 16; refine (bytes_some (n3 + 1) L _ h6d).mono ?_; rintro e w7 ⟨rfl, rfl⟩)
        all_goals
          go_wp2
          go_ret
          have z1 := b1.size
          have z2 := b2.size
          have z3 := u3.size
          have hb : Below n w w2 := (b1.mono (by omega)).trans (b2.mono (by omega))
          exact ⟨rfl, ((hb.trans (u3.below (by omega) (by omega))).trans (((b4.out _).mono (by omega)).trans (u6.below (by omega)))).drew⟩
  · have hrest : restR E R = ⟨#[]⟩ := by rw [restR, if_neg hE]
    have hd : doneV ⟨#[]⟩ E = E := by rw [doneV, if_neg hE]
    unfold TookP at htk
    rw [hrest] at htk
    clear hparts hrest
    by_cases hneg : c4 < 0
    all_goals
      first | rw [if_pos hneg] at hkk | rw [if_neg hneg] at hkk
      subst hkk
      go_enter Try.func5, Try.ntmps5
      go_wp2_with (first
        | (go_at_call 9; refine (awake_any _).mono ?_; rintro e w1 ⟨rfl, b1⟩; obtain ⟨n1, hn1⟩ : ∃ n1, w1.heap.size = n1 := ⟨_, rfl⟩)
        | (go_at_call 18; refine (read_any s _).mono ?_; rw [hn1]; rintro e w2 ⟨rfl, r2, b2⟩)
        | (go_at_call 19; refine (htk.out n1 _ r2).mono ?_; rintro e w3 ⟨rfl, r3, u3⟩; obtain ⟨n3, hn3⟩ : ∃ n3, w3.heap.size = n3 := ⟨_, rfl⟩; have r4 : Hid (∀ o, Rd (w3.alloc o) n1 ⟨#[]⟩ E) := fun o => r3.alloc o)
        | (go_at_call 21; refine (left_some n1 ⟨#[]⟩ E _ (r4.out _)).mono ?_; rintro e w5 ⟨rfl, rfl⟩)
        | (go_at_call 22; refine (done_some n1 ⟨#[]⟩ E _ (r4.out _)).mono ?_; rw [hd]; rintro e w5 ⟨rfl, rfl⟩))
      go_ret
      have z1 := b1.size
      have z2 := b2.size
      have z3 := u3.size
      have hb : Below n w w2 := (b1.mono (by omega)).trans (b2.mono (by omega))
      exact ⟨rfl, (hb.trans (u3.below (by omega) (by omega))).alloc (by omega) _⟩
end Go.Proofs.Ytlbdlipdhhpgmaa
