/- What a reader's integer, flag, text, raw and many do. -/
import Derived.Test.YtlbdlipdhhpgmaaTake
namespace Go.Proofs.Ytlbdlipdhhpgmaa
open Go.RowKit

abbrev nE (s : ByteArray) : Int := numE s.data.toList
abbrev nV (s : ByteArray) : Nat := numV s.data.toList
/-- What stands behind the number with which a text begins. -/
def nR (s : ByteArray) : ByteArray := s.extract (lead s.data.toList + 1) s.size
theorem nV_lt (s : ByteArray) : nV s < 18446744073709551616 := by
  unfold nV numV
  split
  · rename_i h
    exact valN_well (numE_ok h).2.1
  · omega
theorem nR_size (s : ByteArray) : (nR s).size ≤ s.size := by simp [nR]

theorem num_read (b : Nat) (s : ByteArray) (hs : s.size < 9223372036854775808) (w : World) (hr : Rd w b s 0) :
    Calls Try.prog 42 #[.pointer (some ⟨b, 0, none⟩)] w (ReadP b (.int .u64 (nV s : Int)) (nE s) (nR s) w) :=
  (num_any b s 0 hs w hr).mono fun _ _ ⟨h1, ⟨s', h2, _, h4⟩, h5⟩ => ⟨h1, ⟨s', h2, h4⟩, h5⟩

theorem wrap_i64 (n : Int) : IntKind.i64.wrap n = (n + 9223372036854775808) % 18446744073709551616 - 9223372036854775808 := by
  simp [IntKind.wrap, IntKind.bits, IntKind.signed]
  split <;> omega
theorem not_i64 (m : Nat) (h : m < 9223372036854775808) : bits .xor .i64 (-1) (m : Int) = -(m : Int) - 1 := by
  show IntKind.i64.wrap ((BitVec.ofInt 64 (-1) ^^^ BitVec.ofInt 64 (m : Int)).toNat : Int) = _
  rw [show BitVec.ofInt 64 (-1) = BitVec.allOnes 64 by decide, BitVec.allOnes_xor, BitVec.toNat_not, ofInt_nat 64 m (by omega), wrap_i64]
  omega
/-- The integer that a number says. -/
def intV (n : Nat) : Int := if n % 2 = 1 then -((n / 2 : Nat) : Int) - 1 else ((n / 2 : Nat) : Int)

set_option maxRecDepth 100000 in
theorem integer_read (b : Nat) (s : ByteArray) (hs : s.size < 9223372036854775808) (w : World) (hr : Rd w b s 0) :
    Calls Try.prog 53 #[.pointer (some ⟨b, 0, none⟩)] w (ReadP b (.int .i64 (intV (nV s))) (nE s) (nR s) w) := by
  have hn : Hid (Calls Try.prog 42 #[.pointer (some ⟨b, 0, none⟩)] w (ReadP b (.int .u64 (nV s : Int)) (nE s) (nR s) w)) := num_read b s hs w hr
  have hlt := nV_lt s
  generalize nV s = n at *
  generalize nE s = E at *
  generalize nR s = R at *
  by_cases h1 : (n : Int) % 2 = 1
  · go_enter Try.func53, Try.ntmps53
    go_wp2_with (go_at_call 42; refine hn.out.mono ?_; rintro e w1 ⟨rfl, ⟨s', h2, h3⟩, u1⟩)
    · go_ret2
      have e1 : bits .xor .i64 (-1) ((n : Int) / 2) = intV n := by
        have := not_i64 (n / 2) (by omega)
        rw [intV, if_pos (by omega), ← this]; simp
      exact ⟨by rw [← e1]; rfl, ⟨s', h2, h3⟩, u1⟩
  · go_enter Try.func53, Try.ntmps53
    go_wp2_with (go_at_call 42; refine hn.out.mono ?_; rintro e w1 ⟨rfl, ⟨s', h2, h3⟩, u1⟩)
    go_ret2
    have e1 : ((n : Int) / 2) = intV n := by rw [intV, if_neg (by omega)]; omega
    exact ⟨by rw [← e1]; rfl, ⟨s', h2, h3⟩, u1⟩

/-- A flag's error. -/
def fE (s : ByteArray) : Int := if s.size = 0 then 10 else if 1 < (s.data.toList.getD 0 0).toNat then 11 else 0
def fV (s : ByteArray) : Bool := (s.data.toList.getD 0 0).toNat == 1
def fR (s : ByteArray) : ByteArray := s.extract 1 s.size
set_option maxRecDepth 100000 in
theorem flag_read (b : Nat) (s : ByteArray) (w : World) (hr : Rd w b s 0) :
    Calls Try.prog 55 #[.pointer (some ⟨b, 0, none⟩)] w fun x w' => ∃ v, ReadP b (.bool v) (fE s) (fR s) w x w' ∧ (fE s = 0 → v = fV s) := by
  have c0 : w.cell? ⟨b, 0, none⟩ = some (.string s) := hr.at 0 _ rfl
  by_cases h0 : s.size = 0
  · have hE : fE s = 10 := by rw [fE, if_pos h0]
    have hne := emp_true h0
    go_enter Try.func55, Try.ntmps55
    go_wp2
    go_ret2
    rw [hE]
    exact ⟨false, ⟨rfl, ⟨s, hr, fun h => by cases h⟩, Upd.refl b w⟩, fun h => by cases h⟩
  · have hne := emp_false h0
    have h0' : 0 < s.size := by omega
    have hg := get_list s 0 h0'
    have hgd : s.data.toList.getD 0 0 = s[0]'h0' := by rw [List.getD_eq_getElem?_getD, hg]; rfl
    by_cases h1 : (1 : Int) < ((s[0]'h0').toNat : Int)
    · go_enter Try.func55, Try.ntmps55
      go_wp2
      go_ret2
      rw [fE, if_neg h0, hgd, if_pos (by omega)]
      exact ⟨false, ⟨rfl, ⟨s, hr, fun h => by cases h⟩, Upd.refl b w⟩, fun h => by cases h⟩
    · have hv : ((s.extract 0 1).toList == [1]) = fV s := by
        rw [ByteArray.toList_eq, ext_head, fV, hgd]
        cases hd : s.data.toList with
        | nil => rw [hd] at hg; simp at hg
        | cons x r =>
          rw [hd] at hg
          have hx : x = s[0]'h0' := by simpa using hg
          rw [← hx, Bool.eq_iff_iff]
          simp
          constructor
          · rintro rfl; rfl
          · intro hq
            exact UInt8.toNat_inj.1 hq
      go_enter Try.func55, Try.ntmps55
      go_wp2_with (go_at_call 43; refine (cut_any b s 0 1 (by omega) w hr).mono ?_; rintro e w1 ⟨rfl, h2, u2⟩)
      go_ret2
      rw [fE, if_neg h0, hgd, if_neg (by omega)]
      exact ⟨_, ⟨rfl, ⟨_, h2, fun _ => rfl⟩, u2⟩, fun _ => (by first | exact hv | rfl)⟩

def textE (s : ByteArray) : Int := if nE s = 0 then (if (nR s).size < nV s then 10 else 0) else nE s
def textV (s : ByteArray) : ByteArray := (nR s).extract 0 (nV s)
def textR (s : ByteArray) : ByteArray := (nR s).extract (nV s) (nR s).size
set_option maxRecDepth 100000 in
theorem text_read (b : Nat) (s : ByteArray) (hs : s.size < 9223372036854775808) (w : World) (hr : Rd w b s 0) :
    Calls Try.prog 57 #[.pointer (some ⟨b, 0, none⟩)] w fun x w' => ∃ v, ReadP b (.string v) (textE s) (textR s) w x w' ∧ (textE s = 0 → v = textV s) := by
  have hn : Hid (Calls Try.prog 42 #[.pointer (some ⟨b, 0, none⟩)] w (ReadP b (.int .u64 (nV s : Int)) (nE s) (nR s) w)) := num_read b s hs w hr
  have hlt := nV_lt s
  have hz := nR_size s
  unfold textE textV textR
  generalize nV s = n at *
  generalize nE s = E at *
  generalize nR s = R at *
  by_cases hE : E = 0
  · subst hE
    by_cases hR : (R.size : Int) < (n : Int)
    · have h10 : (if (0 : Int) = 0 then (if R.size < n then (10 : Int) else 0) else 0) = 10 := by rw [if_pos rfl, if_pos (by omega)]
      rw [h10]
      go_enter Try.func57, Try.ntmps57
      go_wp2_with (go_at_call 42; refine hn.out.mono ?_; rintro e w1 ⟨rfl, ⟨s', h2, h3⟩, u1⟩; have h3 := h3 rfl; subst h3; have c1 : w1.cell? ⟨b, 0, none⟩ = some (.string s') := h2.at 0 _ rfl)
      go_ret2
      exact ⟨_, ⟨rfl, ⟨_, h2, fun h => by cases h⟩, u1⟩, fun h => by cases h⟩
    · have h10 : (if (0 : Int) = 0 then (if R.size < n then (10 : Int) else 0) else 0) = 0 := by rw [if_pos rfl, if_neg (by omega)]
      rw [h10]
      go_enter Try.func57, Try.ntmps57
      go_wp2_with (first
        | (go_at_call 42; refine hn.out.mono ?_; rintro e w1 ⟨rfl, ⟨s', h2, h3⟩, u1⟩; have h3 := h3 rfl; subst h3; have c1 : w1.cell? ⟨b, 0, none⟩ = some (.string s') := h2.at 0 _ rfl)
        | (go_at_call 43; refine (cut_any b s' 0 n (by omega) _ h2).mono ?_; rintro e w2 ⟨rfl, h4, u2⟩))
      go_ret2
      exact ⟨_, ⟨rfl, ⟨_, h4, fun _ => rfl⟩, u1.trans u2⟩, fun _ => rfl⟩
  · rw [if_neg hE]
    go_enter Try.func57, Try.ntmps57
    go_wp2_with (go_at_call 42; refine hn.out.mono ?_; rintro e w1 ⟨rfl, ⟨s', h2, h3⟩, u1⟩)
    go_ret2
    exact ⟨_, ⟨rfl, ⟨_, h2, fun h => absurd h hE⟩, u1⟩, fun h => absurd h hE⟩

def rawE (s : ByteArray) (n : Int) : Int := if s.size < n.toNat then 10 else 0
def rawV (s : ByteArray) (n : Int) : ByteArray := s.extract 0 n.toNat
def rawR (s : ByteArray) (n : Int) : ByteArray := s.extract n.toNat s.size
set_option maxRecDepth 100000 in
theorem raw_read (b : Nat) (s : ByteArray) (n : Int) (hs : s.size < 9223372036854775808) (w : World) (hr : Rd w b s 0) :
    Calls Try.prog 58 #[.agg #[.pointer (some ⟨b, 0, none⟩), .int .i64 n]] w fun x w' => ∃ v, ReadP b (.string v) (rawE s n) (rawR s n) w x w' ∧ (rawE s n = 0 → v = rawV s n) := by
  have hr1 := hr.alloc (.cells #[.pointer (some ⟨b, 0, none⟩), .int .i64 n] 78)
  have u0 := (Upd.refl b w).alloc (.cells #[.pointer (some ⟨b, 0, none⟩), .int .i64 n] 78)
  have c0 : (w.alloc (.cells #[.pointer (some ⟨b, 0, none⟩), .int .i64 n] 78)).cell? ⟨b, 0, none⟩ = some (.string s) := hr1.at 0 _ rfl
  by_cases h0 : (s.size : Int) < n
  · go_enter Try.func58, Try.ntmps58
    go_wp2
    go_ret2
    rw [rawE, if_pos (by omega)]
    exact ⟨_, ⟨rfl, ⟨s, hr1, fun h => by cases h⟩, u0⟩, fun h => by cases h⟩
  · by_cases hn : 0 ≤ n
    · obtain ⟨m, rfl⟩ := Int.eq_ofNat_of_zero_le hn
      have hcut : Hid (∀ W, Rd W b s 0 → Calls Try.prog 43 #[.pointer (some ⟨b, 0, none⟩), .int .i64 (m : Int)] W fun x w' => x = .returned (.string (s.extract 0 m)) ∧ Rd w' b (s.extract m s.size) 0 ∧ Upd b W w') := fun W hW => cut_any b s 0 m (by omega) W hW
      go_enter Try.func58, Try.ntmps58
      go_wp2_with (go_at_call 43; refine (hcut.out _ hr1).mono ?_; rintro e w1 ⟨rfl, h2, u2⟩)
      go_ret2
      rw [rawE, if_neg (by omega)]
      exact ⟨_, ⟨rfl, ⟨_, h2, fun _ => rfl⟩, u0.trans u2⟩, fun _ => rfl⟩
    · have hcut : Hid (∀ W, Rd W b s 0 → Calls Try.prog 43 #[.pointer (some ⟨b, 0, none⟩), .int .i64 0] W fun x w' => x = .returned (.string (s.extract 0 0)) ∧ Rd w' b (s.extract 0 s.size) 0 ∧ Upd b W w') := fun W hW => cut_any b s 0 0 (by omega) W hW
      have hn0 : n.toNat = 0 := by omega
      go_enter Try.func58, Try.ntmps58
      go_wp2_with (go_at_call 43; refine (hcut.out _ hr1).mono ?_; rintro e w1 ⟨rfl, h2, u2⟩)
      go_ret2
      rw [rawE, rawR, rawV, hn0, if_neg (by omega)]
      exact ⟨_, ⟨rfl, ⟨_, h2, fun _ => rfl⟩, u0.trans u2⟩, fun _ => (by first | rfl | exact (ByteArray.ext (by simp)))⟩

def manyE (s : ByteArray) (k : Int) : Int := if nE s = 0 then (if (nR s).size / (max k 1).toNat < nV s then 10 else 0) else nE s
/-- What many leaves. -/
def ManyP (b : Nat) (n : Nat) (E : Int) (R : ByteArray) (w : World) (x : Ending) (w' : World) : Prop := ∃ v : Int, ReadP b (.int .i64 v) E R w x w' ∧ (E = 0 → v = n)
set_option maxHeartbeats 800000 in
set_option maxRecDepth 100000 in
theorem many_read (b : Nat) (s : ByteArray) (k : Int) (hs : s.size < 9223372036854775808) (w : World) (hr : Rd w b s 0) :
    Calls Try.prog 46 #[.agg #[.pointer (some ⟨b, 0, none⟩), .int .i64 k]] w (ManyP b (nV s) (manyE s k) (nR s) w) := by
  have hr1 := hr.alloc (.cells #[.pointer (some ⟨b, 0, none⟩), .int .i64 k] 78)
  have u0 := (Upd.refl b w).alloc (.cells #[.pointer (some ⟨b, 0, none⟩), .int .i64 k] 78)
  have hN : Holds (w.alloc (.cells #[.pointer (some ⟨b, 0, none⟩), .int .i64 k] 78)) w.heap.size [.pointer (some ⟨b, 0, none⟩), .int .i64 k] 78 := holds_new w _ _
  have hbn : w.heap.size ≠ b := fun h => by have := hr.lt; omega
  have hn : Hid (∀ W, Rd W b s 0 → Calls Try.prog 42 #[.pointer (some ⟨b, 0, none⟩)] W (ReadP b (.int .u64 (nV s : Int)) (nE s) (nR s) W)) := fun W hW => num_read b s hs W hW
  have hlt := nV_lt s
  have hz := nR_size s
  unfold manyE
  generalize nV s = n at *
  generalize nE s = E at *
  generalize nR s = R at *
  by_cases hE : E = 0
  · subst hE
    by_cases hk : 1 ≤ k
    · obtain ⟨m, rfl⟩ := Int.eq_ofNat_of_zero_le (by omega : 0 ≤ k)
      have hmax : (max (m : Int) 1).toNat = m := by omega
      rw [if_pos rfl, hmax]
      have q0 : (0 : Int) ≤ (R.size : Int) / (m : Int) := Int.ediv_nonneg (by omega) (by omega)
      have q1 : (R.size : Int) / (m : Int) ≤ (R.size : Int) := Int.ediv_le_self _ (by omega)
      have hm0 : ¬ (m : Int) = 0 := by omega
      by_cases hc : (R.size : Int) / (m : Int) < (n : Int)
      all_goals
        go_enter Try.func46, Try.ntmps46
        go_wp2_with (go_at_call 42; refine (hn.out _ hr1).mono ?_; rintro e w1 ⟨rfl, ⟨s', h2, h3⟩, u1⟩; have h3 := h3 rfl; subst h3; have c1 : w1.cell? ⟨b, 0, none⟩ = some (.string s') := h2.at 0 _ rfl; have hN1 := hN.upd u1 hbn; have c2 := hN1.at 0 _ rfl; have c3 := hN1.at 1 _ rfl)
        go_region
      · all_goals
          go_wp2
          go_ret2
          exact ⟨_, ⟨rfl, ⟨_, h2, fun h => by cases h⟩, (u0.trans u1).drew⟩, fun h => by cases h⟩
      · all_goals
          go_wp2
          go_ret2
          exact ⟨_, ⟨rfl, ⟨_, h2, fun _ => rfl⟩, (u0.trans u1).drew⟩, fun _ => rfl⟩
    · have hmax : (max k 1).toNat = 1 := by omega
      rw [if_pos rfl, hmax, Nat.div_one]
      by_cases hc : (R.size : Int) < (n : Int)
      all_goals
        go_enter Try.func46, Try.ntmps46
        go_wp2_with (go_at_call 42; refine (hn.out _ hr1).mono ?_; rintro e w1 ⟨rfl, ⟨s', h2, h3⟩, u1⟩; have h3 := h3 rfl; subst h3; have c1 : w1.cell? ⟨b, 0, none⟩ = some (.string s') := h2.at 0 _ rfl; have hN1 := hN.upd u1 hbn; have c2 := hN1.at 0 _ rfl; have c3 := hN1.at 1 _ rfl)
        go_region
      · all_goals
          go_wp2
          go_ret2
          exact ⟨_, ⟨rfl, ⟨_, h2, fun h => by cases h⟩, (u0.trans u1).drew⟩, fun h => by cases h⟩
      · all_goals
          go_wp2
          go_ret2
          exact ⟨_, ⟨rfl, ⟨_, h2, fun _ => rfl⟩, (u0.trans u1).drew⟩, fun _ => rfl⟩
  · rw [if_neg hE]
    have hk0 : 1 ≤ k → ¬ k = 0 := fun h => by omega
    by_cases hk : 1 ≤ k
    all_goals
      try have hk0 := hk0 hk
      go_enter Try.func46, Try.ntmps46
      go_wp2_with (go_at_call 42; refine (hn.out _ hr1).mono ?_; rintro e w1 ⟨rfl, ⟨s', h2, h3⟩, u1⟩; have c1 : w1.cell? ⟨b, 0, none⟩ = some (.string s') := h2.at 0 _ rfl; have hN1 := hN.upd u1 hbn; have c2 := hN1.at 0 _ rfl; have c3 := hN1.at 1 _ rfl)
      go_region
      all_goals
        go_wp2
        go_ret2
        exact ⟨_, ⟨rfl, ⟨_, h2, h3⟩, (u0.trans u1).drew⟩, fun h => absurd h hE⟩

theorem num_q (b : Nat) (s : ByteArray) (hs : s.size < 9223372036854775808) (w : World) (hr : Rd w b s 0) :
    Hid (Calls Try.prog 42 #[.pointer (some ⟨b, 0, none⟩)] w (ReadQ b (.int .u64 (nV s : Int)) (nE s) (nR s) w)) :=
  (num_read b s hs w hr).mono fun _ _ h => ⟨_, h, fun _ => rfl⟩
theorem integer_q (b : Nat) (s : ByteArray) (hs : s.size < 9223372036854775808) (w : World) (hr : Rd w b s 0) :
    Hid (Calls Try.prog 53 #[.pointer (some ⟨b, 0, none⟩)] w (ReadQ b (.int .i64 (intV (nV s))) (nE s) (nR s) w)) :=
  (integer_read b s hs w hr).mono fun _ _ h => ⟨_, h, fun _ => rfl⟩
/-- What Flag, Text, Raw and Many tell. -/
def flV (s : ByteArray) : Bool := if fE s = 0 then fV s else false
def txV (s : ByteArray) : ByteArray := if textE s = 0 then textV s else ⟨#[]⟩
def rwV (s : ByteArray) (n : Int) : ByteArray := if rawE s n = 0 then rawV s n else ⟨#[]⟩
def mnV (s : ByteArray) (n : Int) : Nat := if manyE s n = 0 then nV s else 0
theorem nV_err {s : ByteArray} (h : nE s ≠ 0) : nV s = 0 := by unfold nV numV; rw [if_neg h]
theorem flag_q (b : Nat) (s : ByteArray) (w : World) (hr : Rd w b s 0) :
    Hid (Calls Try.prog 55 #[.pointer (some ⟨b, 0, none⟩)] w (ReadQ b (.bool (flV s)) (fE s) (fR s) w)) :=
  (flag_read b s w hr).mono fun _ _ ⟨_, h, k⟩ => ⟨_, h, fun e => by rw [k e, flV, if_pos e]⟩
theorem text_q (b : Nat) (s : ByteArray) (hs : s.size < 9223372036854775808) (w : World) (hr : Rd w b s 0) :
    Hid (Calls Try.prog 57 #[.pointer (some ⟨b, 0, none⟩)] w (ReadQ b (.string (txV s)) (textE s) (textR s) w)) :=
  (text_read b s hs w hr).mono fun _ _ ⟨_, h, k⟩ => ⟨_, h, fun e => by rw [k e, txV, if_pos e]⟩
theorem raw_q (b : Nat) (s : ByteArray) (n : Int) (hs : s.size < 9223372036854775808) (w : World) (hr : Rd w b s 0) :
    Hid (Calls Try.prog 58 #[.agg #[.pointer (some ⟨b, 0, none⟩), .int .i64 n]] w (ReadQ b (.string (rwV s n)) (rawE s n) (rawR s n) w)) :=
  (raw_read b s n hs w hr).mono fun _ _ ⟨_, h, k⟩ => ⟨_, h, fun e => by rw [k e, rwV, if_pos e]⟩
theorem many_q (b : Nat) (s : ByteArray) (n : Int) (hs : s.size < 9223372036854775808) (w : World) (hr : Rd w b s 0) :
    Hid (Calls Try.prog 46 #[.agg #[.pointer (some ⟨b, 0, none⟩), .int .i64 n]] w (ReadQ b (.int .i64 (mnV s n : Int)) (manyE s n) (nR s) w)) :=
  (many_read b s n hs w hr).mono fun _ _ ⟨_, h, k⟩ => ⟨_, h, fun e => by rw [k e, mnV, if_pos e]⟩
end Go.Proofs.Ytlbdlipdhhpgmaa
