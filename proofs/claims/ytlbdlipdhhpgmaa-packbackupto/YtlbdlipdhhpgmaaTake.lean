/- What take does with each kind of reading, and the exported readings by them. -/
import Derived.Test.YtlbdlipdhhpgmaaNum
namespace Go.Proofs.Ytlbdlipdhhpgmaa
open Go.RowKit

/-- What one reading leaves: a value, an error, and what is left where there is none. -/
def ReadP (b : Nat) (V : Value) (E : Int) (R : ByteArray) (w : World) (x : Ending) (w' : World) : Prop :=
  x = .returned (.tuple #[V, .int .i64 E]) ∧ (∃ s', Rd w' b s' 0 ∧ (E = 0 → s' = R)) ∧ Upd b w w'
/-- The same, of the value only where there is no error. -/
def ReadQ (b : Nat) (V : Value) (E : Int) (R : ByteArray) (w : World) (x : Ending) (w' : World) : Prop := ∃ V', ReadP b V' E R w x w' ∧ (E = 0 → V' = V)
/-- What a reader has behind a reading. -/
def restR (E : Int) (R : ByteArray) : ByteArray := if E = 0 then R else ⟨#[]⟩
/-- What take leaves. -/
def TakeP (b : Nat) (V : Value) (E : Int) (R : ByteArray) (w : World) (x : Ending) (w' : World) : Prop :=
  x = .returned V ∧ Rd w' b (restR E R) E ∧ Upd b w w'

set_option maxRecDepth 100000 in
theorem take44_42 (b : Nat) (s : ByteArray) (V : Value) (E : Int) (R : ByteArray) (w : World) (hr : Rd w b s 0) (hz : E ≠ 0 → V = .int .u64 0)
    (hread : Hid (Calls Try.prog 42 #[.pointer (some ⟨b, 0, none⟩)] w (ReadQ b V E R w))) :
    Calls Try.prog 44 #[.pointer (some ⟨b, 0, none⟩), .func (.func 42) #[.pointer (some ⟨b, 0, none⟩)] #[]] w (TakeP b V E R w) := by
  have c1 : w.cell? ⟨b, 1, none⟩ = some (.int .i64 0) := hr.at 1 _ rfl
  by_cases hE : E = 0
  · subst hE
    clear hz
    go_enter Try.func44, Try.ntmps44
    go_wp2_with (go_at_call 42; refine hread.out.mono ?_; rintro e w1 ⟨V', ⟨rfl, ⟨s', h1, h2⟩, u1⟩, hV⟩; have h2 := h2 rfl; subst h2; have hV := hV rfl; subst hV)
    go_ret

    exact ⟨rfl, h1, u1⟩
  · go_enter Try.func44, Try.ntmps44
    go_wp2_with (first
      | (go_at_call 42; refine hread.out.mono ?_; rintro e w1 ⟨V', ⟨rfl, ⟨s', h1, _⟩, u1⟩, _⟩)
      | (go_at_call 25; refine (fail_new b s' E hE _ h1).mono ?_; rintro e w2 ⟨rfl, h2, u2⟩))
    go_ret
    exact ⟨by rw [hz hE]; rfl, by rw [restR, if_neg hE]; exact h2, u1.trans u2⟩
set_option maxRecDepth 100000 in
theorem take44_42_err (b : Nat) (s : ByteArray) (E : Int) (hE : E ≠ 0) (w : World) (hr : Rd w b s E) (f : Value) :
    Calls Try.prog 44 #[.pointer (some ⟨b, 0, none⟩), f] w fun x w' => x = .returned (.int .u64 0) ∧ w' = w := by
  have c1 : w.cell? ⟨b, 1, none⟩ = some (.int .i64 E) := hr.at 1 _ rfl
  go_enter Try.func44, Try.ntmps44
  go_wp2
  go_ret
  exact ⟨rfl, rfl⟩
set_option maxRecDepth 100000 in
theorem take44_42_nil (w : World) (f : Value) :
    Calls Try.prog 44 #[.pointer none, f] w fun x w' => x = .returned (.int .u64 0) ∧ w' = w := by
  go_enter Try.func44, Try.ntmps44
  go_wp2
  go_ret
  exact ⟨rfl, rfl⟩
set_option maxRecDepth 100000 in
theorem take52_53 (b : Nat) (s : ByteArray) (V : Value) (E : Int) (R : ByteArray) (w : World) (hr : Rd w b s 0) (hz : E ≠ 0 → V = .int .i64 0)
    (hread : Hid (Calls Try.prog 53 #[.pointer (some ⟨b, 0, none⟩)] w (ReadQ b V E R w))) :
    Calls Try.prog 52 #[.pointer (some ⟨b, 0, none⟩), .func (.func 53) #[.pointer (some ⟨b, 0, none⟩)] #[]] w (TakeP b V E R w) := by
  have c1 : w.cell? ⟨b, 1, none⟩ = some (.int .i64 0) := hr.at 1 _ rfl
  by_cases hE : E = 0
  · subst hE
    clear hz
    go_enter Try.func52, Try.ntmps52
    go_wp2_with (go_at_call 53; refine hread.out.mono ?_; rintro e w1 ⟨V', ⟨rfl, ⟨s', h1, h2⟩, u1⟩, hV⟩; have h2 := h2 rfl; subst h2; have hV := hV rfl; subst hV)
    go_ret

    exact ⟨rfl, h1, u1⟩
  · go_enter Try.func52, Try.ntmps52
    go_wp2_with (first
      | (go_at_call 53; refine hread.out.mono ?_; rintro e w1 ⟨V', ⟨rfl, ⟨s', h1, _⟩, u1⟩, _⟩)
      | (go_at_call 25; refine (fail_new b s' E hE _ h1).mono ?_; rintro e w2 ⟨rfl, h2, u2⟩))
    go_ret
    exact ⟨by rw [hz hE]; rfl, by rw [restR, if_neg hE]; exact h2, u1.trans u2⟩
set_option maxRecDepth 100000 in
theorem take52_53_err (b : Nat) (s : ByteArray) (E : Int) (hE : E ≠ 0) (w : World) (hr : Rd w b s E) (f : Value) :
    Calls Try.prog 52 #[.pointer (some ⟨b, 0, none⟩), f] w fun x w' => x = .returned (.int .i64 0) ∧ w' = w := by
  have c1 : w.cell? ⟨b, 1, none⟩ = some (.int .i64 E) := hr.at 1 _ rfl
  go_enter Try.func52, Try.ntmps52
  go_wp2
  go_ret
  exact ⟨rfl, rfl⟩
set_option maxRecDepth 100000 in
theorem take52_53_nil (w : World) (f : Value) :
    Calls Try.prog 52 #[.pointer none, f] w fun x w' => x = .returned (.int .i64 0) ∧ w' = w := by
  go_enter Try.func52, Try.ntmps52
  go_wp2
  go_ret
  exact ⟨rfl, rfl⟩
set_option maxRecDepth 100000 in
theorem take54_55 (b : Nat) (s : ByteArray) (V : Value) (E : Int) (R : ByteArray) (w : World) (hr : Rd w b s 0) (hz : E ≠ 0 → V = .bool false)
    (hread : Hid (Calls Try.prog 55 #[.pointer (some ⟨b, 0, none⟩)] w (ReadQ b V E R w))) :
    Calls Try.prog 54 #[.pointer (some ⟨b, 0, none⟩), .func (.func 55) #[.pointer (some ⟨b, 0, none⟩)] #[]] w (TakeP b V E R w) := by
  have c1 : w.cell? ⟨b, 1, none⟩ = some (.int .i64 0) := hr.at 1 _ rfl
  by_cases hE : E = 0
  · subst hE
    clear hz
    go_enter Try.func54, Try.ntmps54
    go_wp2_with (go_at_call 55; refine hread.out.mono ?_; rintro e w1 ⟨V', ⟨rfl, ⟨s', h1, h2⟩, u1⟩, hV⟩; have h2 := h2 rfl; subst h2; have hV := hV rfl; subst hV)
    go_ret

    exact ⟨rfl, h1, u1⟩
  · go_enter Try.func54, Try.ntmps54
    go_wp2_with (first
      | (go_at_call 55; refine hread.out.mono ?_; rintro e w1 ⟨V', ⟨rfl, ⟨s', h1, _⟩, u1⟩, _⟩)
      | (go_at_call 25; refine (fail_new b s' E hE _ h1).mono ?_; rintro e w2 ⟨rfl, h2, u2⟩))
    go_ret
    exact ⟨by rw [hz hE]; rfl, by rw [restR, if_neg hE]; exact h2, u1.trans u2⟩
set_option maxRecDepth 100000 in
theorem take54_55_err (b : Nat) (s : ByteArray) (E : Int) (hE : E ≠ 0) (w : World) (hr : Rd w b s E) (f : Value) :
    Calls Try.prog 54 #[.pointer (some ⟨b, 0, none⟩), f] w fun x w' => x = .returned (.bool false) ∧ w' = w := by
  have c1 : w.cell? ⟨b, 1, none⟩ = some (.int .i64 E) := hr.at 1 _ rfl
  go_enter Try.func54, Try.ntmps54
  go_wp2
  go_ret
  exact ⟨rfl, rfl⟩
set_option maxRecDepth 100000 in
theorem take54_55_nil (w : World) (f : Value) :
    Calls Try.prog 54 #[.pointer none, f] w fun x w' => x = .returned (.bool false) ∧ w' = w := by
  go_enter Try.func54, Try.ntmps54
  go_wp2
  go_ret
  exact ⟨rfl, rfl⟩
set_option maxRecDepth 100000 in
theorem take56_57 (b : Nat) (s : ByteArray) (V : Value) (E : Int) (R : ByteArray) (w : World) (hr : Rd w b s 0) (hz : E ≠ 0 → V = .string ⟨#[]⟩)
    (hread : Hid (Calls Try.prog 57 #[.pointer (some ⟨b, 0, none⟩)] w (ReadQ b V E R w))) :
    Calls Try.prog 56 #[.pointer (some ⟨b, 0, none⟩), .func (.func 57) #[.pointer (some ⟨b, 0, none⟩)] #[]] w (TakeP b V E R w) := by
  have c1 : w.cell? ⟨b, 1, none⟩ = some (.int .i64 0) := hr.at 1 _ rfl
  by_cases hE : E = 0
  · subst hE
    clear hz
    go_enter Try.func56, Try.ntmps56
    go_wp2_with (go_at_call 57; refine hread.out.mono ?_; rintro e w1 ⟨V', ⟨rfl, ⟨s', h1, h2⟩, u1⟩, hV⟩; have h2 := h2 rfl; subst h2; have hV := hV rfl; subst hV)
    go_ret

    exact ⟨rfl, h1, u1⟩
  · go_enter Try.func56, Try.ntmps56
    go_wp2_with (first
      | (go_at_call 57; refine hread.out.mono ?_; rintro e w1 ⟨V', ⟨rfl, ⟨s', h1, _⟩, u1⟩, _⟩)
      | (go_at_call 25; refine (fail_new b s' E hE _ h1).mono ?_; rintro e w2 ⟨rfl, h2, u2⟩))
    go_ret
    exact ⟨by rw [hz hE]; rfl, by rw [restR, if_neg hE]; exact h2, u1.trans u2⟩
set_option maxRecDepth 100000 in
theorem take56_57_err (b : Nat) (s : ByteArray) (E : Int) (hE : E ≠ 0) (w : World) (hr : Rd w b s E) (f : Value) :
    Calls Try.prog 56 #[.pointer (some ⟨b, 0, none⟩), f] w fun x w' => x = .returned (.string ⟨#[]⟩) ∧ w' = w := by
  have c1 : w.cell? ⟨b, 1, none⟩ = some (.int .i64 E) := hr.at 1 _ rfl
  go_enter Try.func56, Try.ntmps56
  go_wp2
  go_ret
  exact ⟨rfl, rfl⟩
set_option maxRecDepth 100000 in
theorem take56_57_nil (w : World) (f : Value) :
    Calls Try.prog 56 #[.pointer none, f] w fun x w' => x = .returned (.string ⟨#[]⟩) ∧ w' = w := by
  go_enter Try.func56, Try.ntmps56
  go_wp2
  go_ret
  exact ⟨rfl, rfl⟩
set_option maxRecDepth 100000 in
theorem take56_58 (b : Nat) (s : ByteArray) (V : Value) (E : Int) (R : ByteArray) (w : World) (hr : Rd w b s 0) (n : Int) (hz : E ≠ 0 → V = .string ⟨#[]⟩)
    (hread : Hid (Calls Try.prog 58 #[.agg #[.pointer (some ⟨b, 0, none⟩), .int .i64 n]] w (ReadQ b V E R w))) :
    Calls Try.prog 56 #[.pointer (some ⟨b, 0, none⟩), .func (.func 58) #[.agg #[.pointer (some ⟨b, 0, none⟩), .int .i64 n]] #[]] w (TakeP b V E R w) := by
  have c1 : w.cell? ⟨b, 1, none⟩ = some (.int .i64 0) := hr.at 1 _ rfl
  by_cases hE : E = 0
  · subst hE
    clear hz
    go_enter Try.func56, Try.ntmps56
    go_wp2_with (go_at_call 58; refine hread.out.mono ?_; rintro e w1 ⟨V', ⟨rfl, ⟨s', h1, h2⟩, u1⟩, hV⟩; have h2 := h2 rfl; subst h2; have hV := hV rfl; subst hV)
    go_ret

    exact ⟨rfl, h1, u1⟩
  · go_enter Try.func56, Try.ntmps56
    go_wp2_with (first
      | (go_at_call 58; refine hread.out.mono ?_; rintro e w1 ⟨V', ⟨rfl, ⟨s', h1, _⟩, u1⟩, _⟩)
      | (go_at_call 25; refine (fail_new b s' E hE _ h1).mono ?_; rintro e w2 ⟨rfl, h2, u2⟩))
    go_ret
    exact ⟨by rw [hz hE]; rfl, by rw [restR, if_neg hE]; exact h2, u1.trans u2⟩
set_option maxRecDepth 100000 in
theorem take56_58_err (b : Nat) (s : ByteArray) (E : Int) (hE : E ≠ 0) (w : World) (hr : Rd w b s E) (f : Value) :
    Calls Try.prog 56 #[.pointer (some ⟨b, 0, none⟩), f] w fun x w' => x = .returned (.string ⟨#[]⟩) ∧ w' = w := by
  have c1 : w.cell? ⟨b, 1, none⟩ = some (.int .i64 E) := hr.at 1 _ rfl
  go_enter Try.func56, Try.ntmps56
  go_wp2
  go_ret
  exact ⟨rfl, rfl⟩
set_option maxRecDepth 100000 in
theorem take56_58_nil (w : World) (f : Value) :
    Calls Try.prog 56 #[.pointer none, f] w fun x w' => x = .returned (.string ⟨#[]⟩) ∧ w' = w := by
  go_enter Try.func56, Try.ntmps56
  go_wp2
  go_ret
  exact ⟨rfl, rfl⟩
set_option maxRecDepth 100000 in
theorem take45_46 (b : Nat) (s : ByteArray) (V : Value) (E : Int) (R : ByteArray) (w : World) (hr : Rd w b s 0) (n : Int) (hz : E ≠ 0 → V = .int .i64 0)
    (hread : Hid (Calls Try.prog 46 #[.agg #[.pointer (some ⟨b, 0, none⟩), .int .i64 n]] w (ReadQ b V E R w))) :
    Calls Try.prog 45 #[.pointer (some ⟨b, 0, none⟩), .func (.func 46) #[.agg #[.pointer (some ⟨b, 0, none⟩), .int .i64 n]] #[]] w (TakeP b V E R w) := by
  have c1 : w.cell? ⟨b, 1, none⟩ = some (.int .i64 0) := hr.at 1 _ rfl
  by_cases hE : E = 0
  · subst hE
    clear hz
    go_enter Try.func45, Try.ntmps45
    go_wp2_with (go_at_call 46; refine hread.out.mono ?_; rintro e w1 ⟨V', ⟨rfl, ⟨s', h1, h2⟩, u1⟩, hV⟩; have h2 := h2 rfl; subst h2; have hV := hV rfl; subst hV)
    go_ret

    exact ⟨rfl, h1, u1⟩
  · go_enter Try.func45, Try.ntmps45
    go_wp2_with (first
      | (go_at_call 46; refine hread.out.mono ?_; rintro e w1 ⟨V', ⟨rfl, ⟨s', h1, _⟩, u1⟩, _⟩)
      | (go_at_call 25; refine (fail_new b s' E hE _ h1).mono ?_; rintro e w2 ⟨rfl, h2, u2⟩))
    go_ret
    exact ⟨by rw [hz hE]; rfl, by rw [restR, if_neg hE]; exact h2, u1.trans u2⟩
set_option maxRecDepth 100000 in
theorem take45_46_err (b : Nat) (s : ByteArray) (E : Int) (hE : E ≠ 0) (w : World) (hr : Rd w b s E) (f : Value) :
    Calls Try.prog 45 #[.pointer (some ⟨b, 0, none⟩), f] w fun x w' => x = .returned (.int .i64 0) ∧ w' = w := by
  have c1 : w.cell? ⟨b, 1, none⟩ = some (.int .i64 E) := hr.at 1 _ rfl
  go_enter Try.func45, Try.ntmps45
  go_wp2
  go_ret
  exact ⟨rfl, rfl⟩
set_option maxRecDepth 100000 in
theorem take45_46_nil (w : World) (f : Value) :
    Calls Try.prog 45 #[.pointer none, f] w fun x w' => x = .returned (.int .i64 0) ∧ w' = w := by
  go_enter Try.func45, Try.ntmps45
  go_wp2
  go_ret
  exact ⟨rfl, rfl⟩
end Go.Proofs.Ytlbdlipdhhpgmaa
