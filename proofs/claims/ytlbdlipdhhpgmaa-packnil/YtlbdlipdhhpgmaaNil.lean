/- The function of the statement PackNil, called with whatever things, answers true; nothing that was there is turned. -/
import Derived.Test.YtlbdlipdhhpgmaaThing
import Derived.Test.YtlbdlipdhhpgmaaLie
namespace Go.Proofs.Ytlbdlipdhhpgmaa
open Go.RowKit

set_option maxHeartbeats 1600000 in
set_option maxRecDepth 100000 in
theorem packNil_some (ts : List Th) (hlen : ts.length < 9223372036854775808) (g o cap : Nat) (w : World) (hg : g < w.heap.size) (hL : Lie w g o ts) :
    Calls Try.prog 7 #[.slice (some ⟨g, o, none⟩) ts.length cap] w fun e w' => e = .returned (.bool true) ∧ Below w.heap.size w w' := by
  obtain ⟨N, hN⟩ : ∃ N, w.heap.size = N := ⟨_, rfl⟩
  obtain ⟨len, hlen'⟩ : ∃ len, ts.length = len := ⟨_, rfl⟩
  have HL : Hid (ts.length = len) := hlen'
  rw [hlen'] at hlen ⊢
  clear hlen'
  rw [hN]
  have c26 : Hid (∀ (W : World) (b : Nat), Rd W b ⟨#[]⟩ 0 → Calls Try.prog 26 #[.pointer (some ⟨b, 0, none⟩)] W fun x w' => x = .returned (.int .u64 0) ∧ Rd w' b ⟨#[]⟩ 10 ∧ Upd b W w') := fun W b hW => by
    have e10 : nE ⟨#[]⟩ = 10 := by decide +kernel
    refine (num_ok b ⟨#[]⟩ (by decide) W hW).mono fun x w' ⟨h1, h2, h3⟩ => ?_
    rw [e10] at h2
    exact ⟨by rw [h1, nV_err (by rw [e10]; decide)]; rfl, h2, h3⟩
  have c22a : Hid (∀ (W : World) (b : Nat), Rd W b ⟨#[]⟩ 0 → Calls Try.prog 22 #[.pointer (some ⟨b, 0, none⟩)] W fun x w' => x = .returned (.int .i64 0) ∧ w' = W) := fun W b hW => done_some b _ _ W hW
  have c22b : Hid (∀ (W : World) (b : Nat), Rd W b ⟨#[]⟩ 10 → Calls Try.prog 22 #[.pointer (some ⟨b, 0, none⟩)] W fun x w' => x = .returned (.int .i64 10) ∧ w' = W) := fun W b hW => done_some b _ _ W hW
  go_enter Try.func7, Try.ntmps7
  go_wp2_with fail
  go_loopw [5] (fun c wr => ∃ k : Nat, k ≤ len ∧ c = .int .i64 (k : Int) ∧ Below N w wr) (fun c _ => len - (intOf c).toNat)
  case atStart => exact ⟨0, by omega, rfl, Below.refl _ _⟩
  case round =>
    obtain ⟨k, hk, rfl, hb⟩ := hrel
    by_cases hlt : k < len
    · obtain ⟨t, ht⟩ : ∃ t, ts[k]? = some t := ⟨ts[k]'(by have := HL.out; omega), List.getElem?_eq_getElem _⟩
      have hLk := hL.below hb (by omega) k t ht
      obtain ⟨kd, ls, n, s⟩ := t
      have c0 : wr.cell? ⟨g, o + k * 4, none⟩ = some (.int .i64 kd) := hLk 0 _ rfl
      have c1 : wr.cell? ⟨g, o + k * 4 + 1, none⟩ = some (.int .i64 ls) := hLk 1 _ rfl
      have c2 : wr.cell? ⟨g, o + k * 4 + 2, none⟩ = some (.int .u64 (n : Int)) := hLk 2 _ rfl
      have c3 : wr.cell? ⟨g, o + k * 4 + 3, none⟩ = some (.string s) := hLk 3 _ rfl
      clear hLk ht
      go_wp2_with (first
        | (go_at_call 10; refine (lay_nil _ _ _ _ _).mono ?_; rintro e w1 ⟨rfl, b1⟩; have hg1 : g < wr.heap.size := (by have := hb.size; omega); have d0 : w1.cell? ⟨g, o + k * 4, none⟩ = some (.int .i64 kd) := ((World.cell?_of_block (b1.block g hg1)).trans c0); have d1 : w1.cell? ⟨g, o + k * 4 + 1, none⟩ = some (.int .i64 ls) := ((World.cell?_of_block (b1.block g hg1)).trans c1); have d2 : w1.cell? ⟨g, o + k * 4 + 2, none⟩ = some (.int .u64 (n : Int)) := ((World.cell?_of_block (b1.block g hg1)).trans c2); have d3 : w1.cell? ⟨g, o + k * 4 + 3, none⟩ = some (.string s) := ((World.cell?_of_block (b1.block g hg1)).trans c3))
        | (go_at_call 19; refine (take_nil _ _ _ _ _).mono ?_; rintro e w2 ⟨rfl, b2⟩))
      have z0 := hb.size
      have z1 := b1.size
      have z2 := b2.size
      exact ⟨⟨k + 1, by omega, rfl, (hb.trans (b1.mono (by omega))).trans ((b2.mono (by omega)).alloc (by omega) _)⟩, by simp; omega⟩
    · go_wp2_with (first
        | (go_at_call 25; refine (fail_none _ _).mono ?_; rintro e w1 ⟨rfl, rfl⟩; obtain ⟨n1, hn1⟩ : ∃ n1, w1.heap.size = n1 := ⟨_, rfl⟩; have r1 : Rd (w1.alloc (.cells #[.string ⟨#[]⟩, .int .i64 0] 58)) n1 ⟨#[]⟩ 0 := hn1 ▸ holds_new w1 _ _; have z1 : (w1.alloc (.cells #[.string ⟨#[]⟩, .int .i64 0] 58)).heap.size = n1 + 1 := (by simp [hn1]))
        | (go_at_call 9; refine (awake_any _).mono ?_; rintro e w2 ⟨rfl, b2⟩; rw [z1] at b2; have r2 := r1.below b2 (by omega))
        | (go_at_call 16; refine (bytes_nil _).mono ?_; rintro e w3 ⟨rfl, rfl⟩)
        | (go_at_call 12; refine (wnums_nil _ _).mono ?_; rintro e w4 ⟨rfl, rfl⟩; have r4 := r2.alloc (.cells #[.int .u64 1] 31)))
      refine (done_none _).mono ?_
      rintro e w5 ⟨rfl, rfl⟩
      go_wp2_with (go_at_call 21; refine (left_none _).mono ?_; rintro e w6 ⟨rfl, rfl⟩)
      refine (c22a.out _ _ r4).mono ?_
      rintro e w7 ⟨rfl, rfl⟩
      go_wp2_with (go_at_call 26; refine (c26.out _ _ r4).mono ?_; rintro e w8 ⟨rfl, r8, u8⟩)
      refine (c22b.out _ _ r8).mono ?_
      rintro e w9 ⟨rfl, rfl⟩
      go_wp2_with fail
      go_ret
      have z0 := hb.size
      have zz := b2.size
      exact ⟨rfl, (hb.alloc (by omega) _).trans ((b2.mono (by omega)).trans ((((Below.refl _ _).alloc (by omega) _)).trans (u8.below (by omega) (by simp; omega))))⟩

set_option maxHeartbeats 1600000 in
set_option maxRecDepth 100000 in
theorem packNil_none (a0 : Option Addr) (cap : Nat) (w : World) :
    Calls Try.prog 7 #[.slice a0 0 cap] w fun e w' => e = .returned (.bool true) ∧ Below w.heap.size w w' := by
  obtain ⟨N, hN⟩ : ∃ N, w.heap.size = N := ⟨_, rfl⟩
  rw [hN]
  have hb : Below N w w := Below.refl _ _
  have hNle : Hid (N ≤ w.heap.size) := Nat.le_of_eq hN.symm
  clear hN
  have c26 : Hid (∀ (W : World) (b : Nat), Rd W b ⟨#[]⟩ 0 → Calls Try.prog 26 #[.pointer (some ⟨b, 0, none⟩)] W fun x w' => x = .returned (.int .u64 0) ∧ Rd w' b ⟨#[]⟩ 10 ∧ Upd b W w') := fun W b hW => by
    have e10 : nE ⟨#[]⟩ = 10 := by decide +kernel
    refine (num_ok b ⟨#[]⟩ (by decide) W hW).mono fun x w' ⟨h1, h2, h3⟩ => ?_
    rw [e10] at h2
    exact ⟨by rw [h1, nV_err (by rw [e10]; decide)]; rfl, h2, h3⟩
  have c22a : Hid (∀ (W : World) (b : Nat), Rd W b ⟨#[]⟩ 0 → Calls Try.prog 22 #[.pointer (some ⟨b, 0, none⟩)] W fun x w' => x = .returned (.int .i64 0) ∧ w' = W) := fun W b hW => done_some b _ _ W hW
  have c22b : Hid (∀ (W : World) (b : Nat), Rd W b ⟨#[]⟩ 10 → Calls Try.prog 22 #[.pointer (some ⟨b, 0, none⟩)] W fun x w' => x = .returned (.int .i64 10) ∧ w' = W) := fun W b hW => done_some b _ _ W hW
  go_enter Try.func7, Try.ntmps7
  go_wp2_with fail
  refine wp_loop_rounds 1 ?_
  rw [rounds_succ]
  go_wp2_with (first
    | (go_at_call 25; refine (fail_none _ _).mono ?_; rintro e w1 ⟨rfl, rfl⟩; obtain ⟨n1, hn1⟩ : ∃ n1, w1.heap.size = n1 := ⟨_, rfl⟩; have r1 : Rd (w1.alloc (.cells #[.string ⟨#[]⟩, .int .i64 0] 58)) n1 ⟨#[]⟩ 0 := hn1 ▸ holds_new w1 _ _; have z1 : (w1.alloc (.cells #[.string ⟨#[]⟩, .int .i64 0] 58)).heap.size = n1 + 1 := (by simp [hn1]))
    | (go_at_call 9; refine (awake_any _).mono ?_; rintro e w2 ⟨rfl, b2⟩; rw [z1] at b2; have r2 := r1.below b2 (by omega))
    | (go_at_call 16; refine (bytes_nil _).mono ?_; rintro e w3 ⟨rfl, rfl⟩)
    | (go_at_call 12; refine (wnums_nil _ _).mono ?_; rintro e w4 ⟨rfl, rfl⟩; have r4 := r2.alloc (.cells #[.int .u64 1] 31)))
  refine (done_none _).mono ?_
  rintro e w5 ⟨rfl, rfl⟩
  go_wp2_with (go_at_call 21; refine (left_none _).mono ?_; rintro e w6 ⟨rfl, rfl⟩)
  refine (c22a.out _ _ r4).mono ?_
  rintro e w7 ⟨rfl, rfl⟩
  go_wp2_with (go_at_call 26; refine (c26.out _ _ r4).mono ?_; rintro e w8 ⟨rfl, r8, u8⟩)
  refine (c22b.out _ _ r8).mono ?_
  rintro e w9 ⟨rfl, rfl⟩
  go_wp2_with fail
  go_ret
  have z0 := hNle.out
  have zz := b2.size
  exact ⟨rfl, (hb.alloc (by omega) _).trans ((b2.mono (by omega)).trans ((((Below.refl _ _).alloc (by omega) _)).trans (u8.below (by omega) (by simp; omega))))⟩
end Go.Proofs.Ytlbdlipdhhpgmaa
