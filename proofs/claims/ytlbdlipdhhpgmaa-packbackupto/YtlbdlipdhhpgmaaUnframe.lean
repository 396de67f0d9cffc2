/- Which error Unframe tells. -/
import Derived.Test.YtlbdlipdhhpgmaaFrame
namespace Go.Proofs.Ytlbdlipdhhpgmaa
open Go.RowKit

/-- The body and the check of what stands behind the number. -/
def uB (s : ByteArray) : ByteArray := (nR s).extract 0 (nV s)
def uC (s : ByteArray) : ByteArray := ((nR s).extract (nV s) (nR s).size).extract 0 4
/-- Unframe's error. -/
def uE (s : ByteArray) : Int :=
  if nE s = 0 then (if 65536 < nV s then 12 else if (nR s).size < nV s + 4 then 10 else if ((uC s).toList == (strL (four (crc (uB s).data.toList))).toList) then 0 else 13) else nE s
/-- What Unframe leaves. -/
def UnP (E : Int) (w : World) (x : Ending) (w' : World) : Prop := ∃ (b : ByteArray) (n : Int), x = .returned (.tuple #[.string b, .int .i64 n, .int .i64 E]) ∧ Below w.heap.size w w'

set_option maxHeartbeats 1600000 in
set_option maxRecDepth 100000 in
theorem unframe_any (s : ByteArray) (hs : s.size < 9223372036854775808) (w : World) : Calls Try.prog 24 #[.string s] w (UnP (uE s) w) := by
  obtain ⟨m, hm⟩ : ∃ m, w.heap.size = m := ⟨_, rfl⟩
  have c18 : Hid (Calls Try.prog 18 #[.string s] w fun x w' => x = .returned (.pointer (some ⟨m, 0, none⟩)) ∧ Rd w' m s 0 ∧ Below m w w') := hm ▸ read_any s w
  have c42 : Hid (∀ W, Rd W m s 0 → Calls Try.prog 42 #[.pointer (some ⟨m, 0, none⟩)] W (ReadP m (.int .u64 (nV s : Int)) (nE s) (nR s) W)) := fun W hW => num_read m s hs W hW
  have hlt := nV_lt s
  have hz := nR_size s
  have h41 : Hid (∀ W, Calls Try.prog 41 #[.string (uB s)] W fun e w' => e = .returned (.string (strL (four (crc (uB s).data.toList)))) ∧ Below W.heap.size W w') := fun W => checkOf_any (uB s) (by unfold uB; simp; omega) W
  obtain ⟨E0, hE0⟩ : ∃ E0, uE s = E0 := ⟨_, rfl⟩
  rw [hE0]
  have HE : Hid (uE s = E0) := hE0
  clear hE0
  unfold uE uB uC at HE
  unfold uB at h41
  generalize nV s = n at *
  generalize nE s = E at *
  generalize nR s = R at *
  by_cases hE : E = 0
  · subst hE
    by_cases h1 : (65536 : Int) < (n : Int)
    · have hq : E0 = 12 := by have := HE.out; rw [if_pos rfl, if_pos (by omega)] at this; exact this.symm
      subst hq
      go_enter Try.func24, Try.ntmps24
      go_wp2_with (first
        | (go_at_call 18; refine c18.out.mono ?_; rintro e w1 ⟨rfl, r1, b1⟩)
        | (go_at_call 42; refine (c42.out _ r1).mono ?_; rintro e w2 ⟨rfl, ⟨s', r2, h2⟩, u2⟩; have h2 := h2 rfl; subst h2))
      go_ret3
      exact ⟨_, _, rfl, hm ▸ (b1.trans (u2.below (Nat.le_refl _) (by have := b1.size; omega)))⟩
    · by_cases h2 : (R.size : Int) < (n : Int) + 4
      · have hq : E0 = 10 := by have := HE.out; rw [if_pos rfl, if_neg (by omega), if_pos (by omega)] at this; exact this.symm
        subst hq
        go_enter Try.func24, Try.ntmps24
        go_wp2_with (first
          | (go_at_call 18; refine c18.out.mono ?_; rintro e w1 ⟨rfl, r1, b1⟩)
          | (go_at_call 42; refine (c42.out _ r1).mono ?_; rintro e w2 ⟨rfl, ⟨s', r2, h2⟩, u2⟩; have h2 := h2 rfl; subst h2; have c2 : w2.cell? ⟨m, 0, none⟩ = some (.string s') := r2.at 0 _ rfl))
        go_ret3
        exact ⟨_, _, rfl, hm ▸ (b1.trans (u2.below (Nat.le_refl _) (by have := b1.size; omega)))⟩
      · have HE2 : Hid ((if ((R.extract n R.size).extract 0 4).toList == (strL (four (crc (R.extract 0 n).data.toList))).toList then (0 : Int) else 13) = E0) := by
          have := HE.out
          rw [if_pos rfl, if_neg (by omega), if_neg (by omega)] at this
          exact this
        clear HE
        have hRn : (R.extract n R.size).size = R.size - n := by simp
        generalize hR2 : R.extract n R.size = R2 at *
        generalize hB : R.extract 0 n = Bd at *
        generalize strL (four (crc Bd.data.toList)) = Q at *
        have k43 : Hid (∀ W, Rd W m R 0 → Calls Try.prog 43 #[.pointer (some ⟨m, 0, none⟩), .int .i64 (n : Int)] W fun x w' => x = .returned (.string Bd) ∧ Rd w' m R2 0 ∧ Upd m W w') := fun W hW => by
          have := cut_any m R 0 n (by omega) W hW
          rw [hR2, hB] at this
          exact this
        have k43b : Hid (∀ W, Rd W m R2 0 → Calls Try.prog 43 #[.pointer (some ⟨m, 0, none⟩), .int .i64 4] W fun x w' => x = .returned (.string (R2.extract 0 4)) ∧ Rd w' m (R2.extract 4 R2.size) 0 ∧ Upd m W w') := fun W hW => cut_any m R2 0 4 (by omega) W hW
        generalize R2.extract 0 4 = C4 at *
        generalize R2.extract 4 R2.size = R3 at *
        clear hR2 hB
        cases hcmp : (C4.toList == Q.toList) with
        | false =>
          have hq : E0 = 13 := by have := HE2.out; rw [hcmp] at this; exact this.symm
          subst hq
          go_enter Try.func24, Try.ntmps24
          go_wp2_with (first
            | (go_at_call 18; refine c18.out.mono ?_; rintro e w1 ⟨rfl, r1, b1⟩)
            | (go_at_call 42; refine (c42.out _ r1).mono ?_; rintro e w2 ⟨rfl, ⟨s', r2, h2⟩, u2⟩; have h2 := h2 rfl; subst h2; have c2 : w2.cell? ⟨m, 0, none⟩ = some (.string s') := r2.at 0 _ rfl)
            | (go_at_call 43; refine (k43b.out _ r3).mono ?_; rintro e w4 ⟨rfl, r4, u4⟩)
            | (go_at_call 43; refine (k43.out _ r2).mono ?_; rintro e w3 ⟨rfl, r3, u3⟩)
            | (go_at_call 41; refine (h41.out _).mono ?_; rintro e w5 ⟨rfl, b5⟩))
          go_ret3
          have z1 := b1.size
          have z4 : m ≤ w4.heap.size := by have := u2.size; have := u3.size; have := u4.size; omega
          have hb : Below m w w5 := (b1.trans ((u2.trans (u3.trans u4)).below (Nat.le_refl _) (by omega))).trans (b5.mono (by omega))
          exact ⟨_, _, rfl, hm ▸ hb⟩
        | true =>
          have hq : E0 = 0 := by have := HE2.out; rw [hcmp] at this; exact this.symm
          subst hq
          go_enter Try.func24, Try.ntmps24
          go_wp2_with (first
            | (go_at_call 18; refine c18.out.mono ?_; rintro e w1 ⟨rfl, r1, b1⟩)
            | (go_at_call 42; refine (c42.out _ r1).mono ?_; rintro e w2 ⟨rfl, ⟨s', r2, h2⟩, u2⟩; have h2 := h2 rfl; subst h2; have c2 : w2.cell? ⟨m, 0, none⟩ = some (.string s') := r2.at 0 _ rfl)
            | (go_at_call 43; refine (k43b.out _ r3).mono ?_; rintro e w4 ⟨rfl, r4, u4⟩)
            | (go_at_call 43; refine (k43.out _ r2).mono ?_; rintro e w3 ⟨rfl, r3, u3⟩)
            | (go_at_call 41; refine (h41.out _).mono ?_; rintro e w5 ⟨rfl, b5⟩; have r5 := r4.below b5 r4.lt; have c5 : w5.cell? ⟨m, 0, none⟩ = some (.string R3) := r5.at 0 _ rfl))
          have z1 := b1.size
          have z4 : m ≤ w4.heap.size := by have := u2.size; have := u3.size; have := u4.size; omega
          have hb : Below m w w5 := (b1.trans ((u2.trans (u3.trans u4)).below (Nat.le_refl _) (by omega))).trans (b5.mono (by omega))
          go_region
          all_goals
            go_wp2
            go_ret3
            exact ⟨_, _, rfl, hm ▸ hb.drew⟩
  · have hq : E0 = E := by have := HE.out; rw [if_neg hE] at this; exact this.symm
    subst hq
    go_enter Try.func24, Try.ntmps24
    go_wp2_with (first
      | (go_at_call 18; refine c18.out.mono ?_; rintro e w1 ⟨rfl, r1, b1⟩)
      | (go_at_call 42; refine (c42.out _ r1).mono ?_; rintro e w2 ⟨rfl, ⟨s', r2, h2⟩, u2⟩))
    go_ret3
    exact ⟨_, _, rfl, hm ▸ (b1.trans (u2.below (Nat.le_refl _) (by have := b1.size; omega)))⟩
end Go.Proofs.Ytlbdlipdhhpgmaa
