/- PkTake, PkKinds, PkReaders. -/
import Derived.Test.YthmnjebmnocoiaaGreatZP1
/- What take does with each kind of reading, and the exported readings by them. -/
namespace Go.Proofs.YthmnjebmnocoiaaGreat.Pk
open Go.RowKit

/-- What one reading leaves: a value, an error, and what is left where there is none. -/
def ReadP (b : Nat) (V : Value) (E : Int) (R : ByteArray) (w : World) (x : Ending) (w' : World) : Prop :=
  x = .returned (.tuple #[V, .int .i64 E]) ∧ (∃ s', Rd w' b s' 0 ∧ (E = 0 → s' = R)) ∧ Upd b w w'
/-- The same, of the value only where there is no error. -/
def ReadQ (b : Nat) (V : Value) (E : Int) (R : ByteArray) (w : World) (x : Ending) (w' : World) : Prop := ∃ V', ReadP b V' E R w x w' ∧ (E = 0 → V' = V)
/-- What a reader has behind a reading. -/
def restR (E : Int) (R : ByteArray) : ByteArray := if E = 0 then R else ⟨#[]⟩
/-- What take leaves. -/
def TakeP (b : Nat) (V : Value) (E : Int) (R : ByteArray) (w : World) (x : Ending) (w' : World) : Prop :=
  x = .returned V ∧ Rd w' b (restR E R) E ∧ Upd b w w'

set_option maxRecDepth 100000 in
theorem take44_42 (b : Nat) (s : ByteArray) (V : Value) (E : Int) (R : ByteArray) (w : World) (hr : Rd w b s 0) (hz : E ≠ 0 → V = .int .u64 0)
    (hread : Hid (Calls Tryz.prog 84 #[.pointer (some ⟨b, 0, none⟩)] w (ReadQ b V E R w))) :
    Calls Tryz.prog 83 #[.pointer (some ⟨b, 0, none⟩), .func (.func 84) #[.pointer (some ⟨b, 0, none⟩)] #[]] w (TakeP b V E R w) := by
  have c1 : w.cell? ⟨b, 1, none⟩ = some (.int .i64 0) := hr.at 1 _ rfl
  by_cases hE : E = 0
  · subst hE
    clear hz
    go_enter Tryz.func83, Tryz.ntmps83
    go_wp2_with (go_at_call 84; refine hread.out.mono ?_; rintro e w1 ⟨V', ⟨rfl, ⟨s', h1, h2⟩, u1⟩, hV⟩; have h2 := h2 rfl; subst h2; have hV := hV rfl; subst hV)
    go_ret

    exact ⟨rfl, h1, u1⟩
  · go_enter Tryz.func83, Tryz.ntmps83
    go_wp2_with (first
      | (go_at_call 84; refine hread.out.mono ?_; rintro e w1 ⟨V', ⟨rfl, ⟨s', h1, _⟩, u1⟩, _⟩)
      | (go_at_call 101; refine (fail_new b s' E hE _ h1).mono ?_; rintro e w2 ⟨rfl, h2, u2⟩))
    go_ret
    exact ⟨by rw [hz hE]; rfl, by rw [restR, if_neg hE]; exact h2, u1.trans u2⟩
set_option maxRecDepth 100000 in
theorem take44_42_err (b : Nat) (s : ByteArray) (E : Int) (hE : E ≠ 0) (w : World) (hr : Rd w b s E) (f : Value) :
    Calls Tryz.prog 83 #[.pointer (some ⟨b, 0, none⟩), f] w fun x w' => x = .returned (.int .u64 0) ∧ w' = w := by
  have c1 : w.cell? ⟨b, 1, none⟩ = some (.int .i64 E) := hr.at 1 _ rfl
  go_enter Tryz.func83, Tryz.ntmps83
  go_wp2
  go_ret
  exact ⟨rfl, rfl⟩
set_option maxRecDepth 100000 in
theorem take44_42_nil (w : World) (f : Value) :
    Calls Tryz.prog 83 #[.pointer none, f] w fun x w' => x = .returned (.int .u64 0) ∧ w' = w := by
  go_enter Tryz.func83, Tryz.ntmps83
  go_wp2
  go_ret
  exact ⟨rfl, rfl⟩
set_option maxRecDepth 100000 in
theorem take52_53 (b : Nat) (s : ByteArray) (V : Value) (E : Int) (R : ByteArray) (w : World) (hr : Rd w b s 0) (hz : E ≠ 0 → V = .int .i64 0)
    (hread : Hid (Calls Tryz.prog 82 #[.pointer (some ⟨b, 0, none⟩)] w (ReadQ b V E R w))) :
    Calls Tryz.prog 81 #[.pointer (some ⟨b, 0, none⟩), .func (.func 82) #[.pointer (some ⟨b, 0, none⟩)] #[]] w (TakeP b V E R w) := by
  have c1 : w.cell? ⟨b, 1, none⟩ = some (.int .i64 0) := hr.at 1 _ rfl
  by_cases hE : E = 0
  · subst hE
    clear hz
    go_enter Tryz.func81, Tryz.ntmps81
    go_wp2_with (go_at_call 82; refine hread.out.mono ?_; rintro e w1 ⟨V', ⟨rfl, ⟨s', h1, h2⟩, u1⟩, hV⟩; have h2 := h2 rfl; subst h2; have hV := hV rfl; subst hV)
    go_ret

    exact ⟨rfl, h1, u1⟩
  · go_enter Tryz.func81, Tryz.ntmps81
    go_wp2_with (first
      | (go_at_call 82; refine hread.out.mono ?_; rintro e w1 ⟨V', ⟨rfl, ⟨s', h1, _⟩, u1⟩, _⟩)
      | (go_at_call 101; refine (fail_new b s' E hE _ h1).mono ?_; rintro e w2 ⟨rfl, h2, u2⟩))
    go_ret
    exact ⟨by rw [hz hE]; rfl, by rw [restR, if_neg hE]; exact h2, u1.trans u2⟩
set_option maxRecDepth 100000 in
theorem take52_53_err (b : Nat) (s : ByteArray) (E : Int) (hE : E ≠ 0) (w : World) (hr : Rd w b s E) (f : Value) :
    Calls Tryz.prog 81 #[.pointer (some ⟨b, 0, none⟩), f] w fun x w' => x = .returned (.int .i64 0) ∧ w' = w := by
  have c1 : w.cell? ⟨b, 1, none⟩ = some (.int .i64 E) := hr.at 1 _ rfl
  go_enter Tryz.func81, Tryz.ntmps81
  go_wp2
  go_ret
  exact ⟨rfl, rfl⟩
set_option maxRecDepth 100000 in
theorem take52_53_nil (w : World) (f : Value) :
    Calls Tryz.prog 81 #[.pointer none, f] w fun x w' => x = .returned (.int .i64 0) ∧ w' = w := by
  go_enter Tryz.func81, Tryz.ntmps81
  go_wp2
  go_ret
  exact ⟨rfl, rfl⟩
set_option maxRecDepth 100000 in
theorem take45_46 (b : Nat) (s : ByteArray) (V : Value) (E : Int) (R : ByteArray) (w : World) (hr : Rd w b s 0) (n : Int) (hz : E ≠ 0 → V = .int .i64 0)
    (hread : Hid (Calls Tryz.prog 80 #[.agg #[.pointer (some ⟨b, 0, none⟩), .int .i64 n]] w (ReadQ b V E R w))) :
    Calls Tryz.prog 79 #[.pointer (some ⟨b, 0, none⟩), .func (.func 80) #[.agg #[.pointer (some ⟨b, 0, none⟩), .int .i64 n]] #[]] w (TakeP b V E R w) := by
  have c1 : w.cell? ⟨b, 1, none⟩ = some (.int .i64 0) := hr.at 1 _ rfl
  by_cases hE : E = 0
  · subst hE
    clear hz
    go_enter Tryz.func79, Tryz.ntmps79
    go_wp2_with (go_at_call 80; refine hread.out.mono ?_; rintro e w1 ⟨V', ⟨rfl, ⟨s', h1, h2⟩, u1⟩, hV⟩; have h2 := h2 rfl; subst h2; have hV := hV rfl; subst hV)
    go_ret

    exact ⟨rfl, h1, u1⟩
  · go_enter Tryz.func79, Tryz.ntmps79
    go_wp2_with (first
      | (go_at_call 80; refine hread.out.mono ?_; rintro e w1 ⟨V', ⟨rfl, ⟨s', h1, _⟩, u1⟩, _⟩)
      | (go_at_call 101; refine (fail_new b s' E hE _ h1).mono ?_; rintro e w2 ⟨rfl, h2, u2⟩))
    go_ret
    exact ⟨by rw [hz hE]; rfl, by rw [restR, if_neg hE]; exact h2, u1.trans u2⟩
set_option maxRecDepth 100000 in
theorem take45_46_err (b : Nat) (s : ByteArray) (E : Int) (hE : E ≠ 0) (w : World) (hr : Rd w b s E) (f : Value) :
    Calls Tryz.prog 79 #[.pointer (some ⟨b, 0, none⟩), f] w fun x w' => x = .returned (.int .i64 0) ∧ w' = w := by
  have c1 : w.cell? ⟨b, 1, none⟩ = some (.int .i64 E) := hr.at 1 _ rfl
  go_enter Tryz.func79, Tryz.ntmps79
  go_wp2
  go_ret
  exact ⟨rfl, rfl⟩
set_option maxRecDepth 100000 in
theorem take45_46_nil (w : World) (f : Value) :
    Calls Tryz.prog 79 #[.pointer none, f] w fun x w' => x = .returned (.int .i64 0) ∧ w' = w := by
  go_enter Tryz.func79, Tryz.ntmps79
  go_wp2
  go_ret
  exact ⟨rfl, rfl⟩
end Go.Proofs.YthmnjebmnocoiaaGreat.Pk

/- What a reader's integer, flag, text, raw and many do. -/
namespace Go.Proofs.YthmnjebmnocoiaaGreat.Pk
open Go.RowKit

abbrev nE (s : ByteArray) : Int := numE s.data.toList
abbrev nV (s : ByteArray) : Nat := numV s.data.toList
/-- What stands behind the number with which a text begins. -/
def nR (s : ByteArray) : ByteArray := s.extract (lead s.data.toList + 1) s.size
theorem nV_lt (s : ByteArray) : nV s < 18446744073709551616 := by
  unfold nV numV
  split
  · rename_i h
    exact valN_well (numE_ok h).2.1
  · omega
theorem nR_size (s : ByteArray) : (nR s).size ≤ s.size := by simp [nR]

theorem num_read (b : Nat) (s : ByteArray) (hs : s.size < 9223372036854775808) (w : World) (hr : Rd w b s 0) :
    Calls Tryz.prog 84 #[.pointer (some ⟨b, 0, none⟩)] w (ReadP b (.int .u64 (nV s : Int)) (nE s) (nR s) w) :=
  (num_any b s 0 hs w hr).mono fun _ _ ⟨h1, ⟨s', h2, _, h4⟩, h5⟩ => ⟨h1, ⟨s', h2, h4⟩, h5⟩

theorem wrap_i64 (n : Int) : IntKind.i64.wrap n = (n + 9223372036854775808) % 18446744073709551616 - 9223372036854775808 := by
  simp [IntKind.wrap, IntKind.bits, IntKind.signed]
  split <;> omega
theorem not_i64 (m : Nat) (h : m < 9223372036854775808) : bits .xor .i64 (-1) (m : Int) = -(m : Int) - 1 := by
  show IntKind.i64.wrap ((BitVec.ofInt 64 (-1) ^^^ BitVec.ofInt 64 (m : Int)).toNat : Int) = _
  rw [show BitVec.ofInt 64 (-1) = BitVec.allOnes 64 by decide, BitVec.allOnes_xor, BitVec.toNat_not, ofInt_nat 64 m (by omega), wrap_i64]
  omega
/-- The integer that a number says. -/
def intV (n : Nat) : Int := if n % 2 = 1 then -((n / 2 : Nat) : Int) - 1 else ((n / 2 : Nat) : Int)

set_option maxRecDepth 100000 in
theorem integer_read (b : Nat) (s : ByteArray) (hs : s.size < 9223372036854775808) (w : World) (hr : Rd w b s 0) :
    Calls Tryz.prog 82 #[.pointer (some ⟨b, 0, none⟩)] w (ReadP b (.int .i64 (intV (nV s))) (nE s) (nR s) w) := by
  have hn : Hid (Calls Tryz.prog 84 #[.pointer (some ⟨b, 0, none⟩)] w (ReadP b (.int .u64 (nV s : Int)) (nE s) (nR s) w)) := num_read b s hs w hr
  have hlt := nV_lt s
  generalize nV s = n at *
  generalize nE s = E at *
  generalize nR s = R at *
  by_cases h1 : (n : Int) % 2 = 1
  · go_enter Tryz.func82, Tryz.ntmps82
    go_wp2_with (go_at_call 84; refine hn.out.mono ?_; rintro e w1 ⟨rfl, ⟨s', h2, h3⟩, u1⟩)
    · go_ret2
      have e1 : bits .xor .i64 (-1) ((n : Int) / 2) = intV n := by
        have := not_i64 (n / 2) (by omega)
        rw [intV, if_pos (by omega), ← this]; simp
      exact ⟨by rw [← e1]; rfl, ⟨s', h2, h3⟩, u1⟩
  · go_enter Tryz.func82, Tryz.ntmps82
    go_wp2_with (go_at_call 84; refine hn.out.mono ?_; rintro e w1 ⟨rfl, ⟨s', h2, h3⟩, u1⟩)
    go_ret2
    have e1 : ((n : Int) / 2) = intV n := by rw [intV, if_neg (by omega)]; omega
    exact ⟨by rw [← e1]; rfl, ⟨s', h2, h3⟩, u1⟩

/-- A flag's error. -/
def fE (s : ByteArray) : Int := if s.size = 0 then 10 else if 1 < (s.data.toList.getD 0 0).toNat then 11 else 0
def fV (s : ByteArray) : Bool := (s.data.toList.getD 0 0).toNat == 1
def fR (s : ByteArray) : ByteArray := s.extract 1 s.size
def textE (s : ByteArray) : Int := if nE s = 0 then (if (nR s).size < nV s then 10 else 0) else nE s
def textV (s : ByteArray) : ByteArray := (nR s).extract 0 (nV s)
def textR (s : ByteArray) : ByteArray := (nR s).extract (nV s) (nR s).size
def rawE (s : ByteArray) (n : Int) : Int := if s.size < n.toNat then 10 else 0
def rawV (s : ByteArray) (n : Int) : ByteArray := s.extract 0 n.toNat
def rawR (s : ByteArray) (n : Int) : ByteArray := s.extract n.toNat s.size
def manyE (s : ByteArray) (k : Int) : Int := if nE s = 0 then (if (nR s).size / (max k 1).toNat < nV s then 10 else 0) else nE s
/-- What many leaves. -/
def ManyP (b : Nat) (n : Nat) (E : Int) (R : ByteArray) (w : World) (x : Ending) (w' : World) : Prop := ∃ v : Int, ReadP b (.int .i64 v) E R w x w' ∧ (E = 0 → v = n)
set_option maxHeartbeats 800000 in
set_option maxRecDepth 100000 in
theorem many_read (b : Nat) (s : ByteArray) (k : Int) (hs : s.size < 9223372036854775808) (w : World) (hr : Rd w b s 0) :
    Calls Tryz.prog 80 #[.agg #[.pointer (some ⟨b, 0, none⟩), .int .i64 k]] w (ManyP b (nV s) (manyE s k) (nR s) w) := by
  have hr1 := hr.alloc (.cells #[.pointer (some ⟨b, 0, none⟩), .int .i64 k] 112)
  have u0 := (Upd.refl b w).alloc (.cells #[.pointer (some ⟨b, 0, none⟩), .int .i64 k] 112)
  have hN : Holds (w.alloc (.cells #[.pointer (some ⟨b, 0, none⟩), .int .i64 k] 112)) w.heap.size [.pointer (some ⟨b, 0, none⟩), .int .i64 k] 112 := holds_new w _ _
  have hbn : w.heap.size ≠ b := fun h => by have := hr.lt; omega
  have hn : Hid (∀ W, Rd W b s 0 → Calls Tryz.prog 84 #[.pointer (some ⟨b, 0, none⟩)] W (ReadP b (.int .u64 (nV s : Int)) (nE s) (nR s) W)) := fun W hW => num_read b s hs W hW
  have hlt := nV_lt s
  have hz := nR_size s
  unfold manyE
  generalize nV s = n at *
  generalize nE s = E at *
  generalize nR s = R at *
  by_cases hE : E = 0
  · subst hE
    by_cases hk : 1 ≤ k
    · obtain ⟨m, rfl⟩ := Int.eq_ofNat_of_zero_le (by omega : 0 ≤ k)
      have hmax : (max (m : Int) 1).toNat = m := by omega
      rw [if_pos rfl, hmax]
      have q0 : (0 : Int) ≤ (R.size : Int) / (m : Int) := Int.ediv_nonneg (by omega) (by omega)
      have q1 : (R.size : Int) / (m : Int) ≤ (R.size : Int) := Int.ediv_le_self _ (by omega)
      have hm0 : ¬ (m : Int) = 0 := by omega
      by_cases hc : (R.size : Int) / (m : Int) < (n : Int)
      all_goals
        go_enter Tryz.func80, Tryz.ntmps80
        go_wp2_with (go_at_call 84; refine (hn.out _ hr1).mono ?_; rintro e w1 ⟨rfl, ⟨s', h2, h3⟩, u1⟩; have h3 := h3 rfl; subst h3; have c1 : w1.cell? ⟨b, 0, none⟩ = some (.string s') := h2.at 0 _ rfl; have hN1 := hN.upd u1 hbn; have c2 := hN1.at 0 _ rfl; have c3 := hN1.at 1 _ rfl)
        go_region
      · all_goals
          go_wp2
          go_ret2
          exact ⟨_, ⟨rfl, ⟨_, h2, fun h => by cases h⟩, (u0.trans u1).drew⟩, fun h => by cases h⟩
      · all_goals
          go_wp2
          go_ret2
          exact ⟨_, ⟨rfl, ⟨_, h2, fun _ => rfl⟩, (u0.trans u1).drew⟩, fun _ => rfl⟩
    · have hmax : (max k 1).toNat = 1 := by omega
      rw [if_pos rfl, hmax, Nat.div_one]
      by_cases hc : (R.size : Int) < (n : Int)
      all_goals
        go_enter Tryz.func80, Tryz.ntmps80
        go_wp2_with (go_at_call 84; refine (hn.out _ hr1).mono ?_; rintro e w1 ⟨rfl, ⟨s', h2, h3⟩, u1⟩; have h3 := h3 rfl; subst h3; have c1 : w1.cell? ⟨b, 0, none⟩ = some (.string s') := h2.at 0 _ rfl; have hN1 := hN.upd u1 hbn; have c2 := hN1.at 0 _ rfl; have c3 := hN1.at 1 _ rfl)
        go_region
      · all_goals
          go_wp2
          go_ret2
          exact ⟨_, ⟨rfl, ⟨_, h2, fun h => by cases h⟩, (u0.trans u1).drew⟩, fun h => by cases h⟩
      · all_goals
          go_wp2
          go_ret2
          exact ⟨_, ⟨rfl, ⟨_, h2, fun _ => rfl⟩, (u0.trans u1).drew⟩, fun _ => rfl⟩
  · rw [if_neg hE]
    have hk0 : 1 ≤ k → ¬ k = 0 := fun h => by omega
    by_cases hk : 1 ≤ k
    all_goals
      try have hk0 := hk0 hk
      go_enter Tryz.func80, Tryz.ntmps80
      go_wp2_with (go_at_call 84; refine (hn.out _ hr1).mono ?_; rintro e w1 ⟨rfl, ⟨s', h2, h3⟩, u1⟩; have c1 : w1.cell? ⟨b, 0, none⟩ = some (.string s') := h2.at 0 _ rfl; have hN1 := hN.upd u1 hbn; have c2 := hN1.at 0 _ rfl; have c3 := hN1.at 1 _ rfl)
      go_region
      all_goals
        go_wp2
        go_ret2
        exact ⟨_, ⟨rfl, ⟨_, h2, h3⟩, (u0.trans u1).drew⟩, fun h => absurd h hE⟩

theorem num_q (b : Nat) (s : ByteArray) (hs : s.size < 9223372036854775808) (w : World) (hr : Rd w b s 0) :
    Hid (Calls Tryz.prog 84 #[.pointer (some ⟨b, 0, none⟩)] w (ReadQ b (.int .u64 (nV s : Int)) (nE s) (nR s) w)) :=
  (num_read b s hs w hr).mono fun _ _ h => ⟨_, h, fun _ => rfl⟩
theorem integer_q (b : Nat) (s : ByteArray) (hs : s.size < 9223372036854775808) (w : World) (hr : Rd w b s 0) :
    Hid (Calls Tryz.prog 82 #[.pointer (some ⟨b, 0, none⟩)] w (ReadQ b (.int .i64 (intV (nV s))) (nE s) (nR s) w)) :=
  (integer_read b s hs w hr).mono fun _ _ h => ⟨_, h, fun _ => rfl⟩
/-- What Flag, Text, Raw and Many tell. -/
def flV (s : ByteArray) : Bool := if fE s = 0 then fV s else false
def txV (s : ByteArray) : ByteArray := if textE s = 0 then textV s else ⟨#[]⟩
def rwV (s : ByteArray) (n : Int) : ByteArray := if rawE s n = 0 then rawV s n else ⟨#[]⟩
def mnV (s : ByteArray) (n : Int) : Nat := if manyE s n = 0 then nV s else 0
theorem nV_err {s : ByteArray} (h : nE s ≠ 0) : nV s = 0 := by unfold nV numV; rw [if_neg h]
theorem many_q (b : Nat) (s : ByteArray) (n : Int) (hs : s.size < 9223372036854775808) (w : World) (hr : Rd w b s 0) :
    Hid (Calls Tryz.prog 80 #[.agg #[.pointer (some ⟨b, 0, none⟩), .int .i64 n]] w (ReadQ b (.int .i64 (mnV s n : Int)) (manyE s n) (nR s) w)) :=
  (many_read b s n hs w hr).mono fun _ _ ⟨_, h, k⟩ => ⟨_, h, fun e => by rw [k e, mnV, if_pos e]⟩
end Go.Proofs.YthmnjebmnocoiaaGreat.Pk

/- What the exported readings answer: of no reader, of one that has failed, of one that has not. -/
namespace Go.Proofs.YthmnjebmnocoiaaGreat.Pk
open Go.RowKit

set_option maxRecDepth 100000 in
theorem num_nil (w : World) : Calls Tryz.prog 56 #[.pointer none] w fun x w' => x = .returned (.int .u64 0) ∧ w' = w := by
  go_enter Tryz.func56, Tryz.ntmps56
  go_wp2_with (go_at_call 83; refine (take44_42_nil _ _).mono ?_; rintro e w1 ⟨rfl, rfl⟩)
  go_ret
  exact ⟨rfl, rfl⟩
set_option maxRecDepth 100000 in
theorem num_err (b : Nat) (s : ByteArray) (E : Int) (hE : E ≠ 0) (w : World) (hr : Rd w b s E) :
    Calls Tryz.prog 56 #[.pointer (some ⟨b, 0, none⟩)] w fun x w' => x = .returned (.int .u64 0) ∧ w' = w := by
  go_enter Tryz.func56, Tryz.ntmps56
  go_wp2_with (go_at_call 83; refine (take44_42_err b s E hE _ hr _).mono ?_; rintro e w1 ⟨rfl, rfl⟩)
  go_ret
  exact ⟨rfl, rfl⟩
set_option maxRecDepth 100000 in
theorem num_ok (b : Nat) (s : ByteArray) (hs : s.size < 9223372036854775808) (w : World) (hr : Rd w b s 0) :
    Calls Tryz.prog 56 #[.pointer (some ⟨b, 0, none⟩)] w (TakeP b (.int .u64 (nV s : Int)) (nE s) (nR s) w) := by
  have ht : Hid (Calls Tryz.prog 83 #[.pointer (some ⟨b, 0, none⟩), .func (.func 84) #[.pointer (some ⟨b, 0, none⟩)] #[]] w (TakeP b (.int .u64 (nV s : Int)) (nE s) (nR s) w)) :=
    take44_42 b s _ _ _ w hr (fun h => by rw [nV_err h]; rfl) (num_q b s hs w hr)
  go_enter Tryz.func56, Tryz.ntmps56
  go_wp2_with (go_at_call 83; refine ht.out.mono ?_; rintro e w1 ⟨rfl, h1, u1⟩)
  go_ret
  exact ⟨rfl, h1, u1⟩
set_option maxRecDepth 100000 in
theorem int_nil (w : World) : Calls Tryz.prog 55 #[.pointer none] w fun x w' => x = .returned (.int .i64 0) ∧ w' = w := by
  go_enter Tryz.func55, Tryz.ntmps55
  go_wp2_with (go_at_call 81; refine (take52_53_nil _ _).mono ?_; rintro e w1 ⟨rfl, rfl⟩)
  go_ret
  exact ⟨rfl, rfl⟩
set_option maxRecDepth 100000 in
theorem int_err (b : Nat) (s : ByteArray) (E : Int) (hE : E ≠ 0) (w : World) (hr : Rd w b s E) :
    Calls Tryz.prog 55 #[.pointer (some ⟨b, 0, none⟩)] w fun x w' => x = .returned (.int .i64 0) ∧ w' = w := by
  go_enter Tryz.func55, Tryz.ntmps55
  go_wp2_with (go_at_call 81; refine (take52_53_err b s E hE _ hr _).mono ?_; rintro e w1 ⟨rfl, rfl⟩)
  go_ret
  exact ⟨rfl, rfl⟩
set_option maxRecDepth 100000 in
theorem int_ok (b : Nat) (s : ByteArray) (hs : s.size < 9223372036854775808) (w : World) (hr : Rd w b s 0) :
    Calls Tryz.prog 55 #[.pointer (some ⟨b, 0, none⟩)] w (TakeP b (.int .i64 (intV (nV s))) (nE s) (nR s) w) := by
  have ht : Hid (Calls Tryz.prog 81 #[.pointer (some ⟨b, 0, none⟩), .func (.func 82) #[.pointer (some ⟨b, 0, none⟩)] #[]] w (TakeP b (.int .i64 (intV (nV s))) (nE s) (nR s) w)) :=
    take52_53 b s _ _ _ w hr (fun h => by rw [nV_err h]; rfl) (integer_q b s hs w hr)
  go_enter Tryz.func55, Tryz.ntmps55
  go_wp2_with (go_at_call 81; refine ht.out.mono ?_; rintro e w1 ⟨rfl, h1, u1⟩)
  go_ret
  exact ⟨rfl, h1, u1⟩
set_option maxRecDepth 100000 in
theorem many_nil (n : Int) (w : World) : Calls Tryz.prog 54 #[.pointer none, .int .i64 n] w fun x w' => x = .returned (.int .i64 0) ∧ w' = w := by
  go_enter Tryz.func54, Tryz.ntmps54
  go_wp2_with (go_at_call 79; refine (take45_46_nil _ _).mono ?_; rintro e w1 ⟨rfl, rfl⟩)
  go_ret
  exact ⟨rfl, rfl⟩
set_option maxRecDepth 100000 in
theorem many_err (b : Nat) (s : ByteArray) (E : Int) (hE : E ≠ 0) (n : Int) (w : World) (hr : Rd w b s E) :
    Calls Tryz.prog 54 #[.pointer (some ⟨b, 0, none⟩), .int .i64 n] w fun x w' => x = .returned (.int .i64 0) ∧ w' = w := by
  go_enter Tryz.func54, Tryz.ntmps54
  go_wp2_with (go_at_call 79; refine (take45_46_err b s E hE _ hr _).mono ?_; rintro e w1 ⟨rfl, rfl⟩)
  go_ret
  exact ⟨rfl, rfl⟩
set_option maxRecDepth 100000 in
theorem many_ok (b : Nat) (s : ByteArray) (hs : s.size < 9223372036854775808) (n : Int) (w : World) (hr : Rd w b s 0) :
    Calls Tryz.prog 54 #[.pointer (some ⟨b, 0, none⟩), .int .i64 n] w (TakeP b (.int .i64 (mnV s n : Int)) (manyE s n) (nR s) w) := by
  have ht : Hid (Calls Tryz.prog 79 #[.pointer (some ⟨b, 0, none⟩), .func (.func 80) #[.agg #[.pointer (some ⟨b, 0, none⟩), .int .i64 n]] #[]] w (TakeP b (.int .i64 (mnV s n : Int)) (manyE s n) (nR s) w)) :=
    take45_46 b s _ _ _ w hr n (fun h => by rw [mnV, if_neg h]; rfl) (many_q b s n hs w hr)
  go_enter Tryz.func54, Tryz.ntmps54
  go_wp2_with (go_at_call 79; refine ht.out.mono ?_; rintro e w1 ⟨rfl, h1, u1⟩)
  go_ret
  exact ⟨rfl, h1, u1⟩
end Go.Proofs.YthmnjebmnocoiaaGreat.Pk
