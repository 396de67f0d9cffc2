/- What take does with each kind of reading, and the exported readings by them. -/
import Derived.Test.YtbmeflildmeecaaPkNum
namespace Go.Proofs.Ytbmeflildmeecaa.Pk
open Go.RowKit

/-- What one reading leaves: a value, an error, and what is left where there is none. -/
def ReadP (b : Nat) (V : Value) (E : Int) (R : ByteArray) (w : World) (x : Ending) (w' : World) : Prop :=
  x = .returned (.tuple #[V, .int .i64 E]) ∧ (∃ s', Rd w' b s' 0 ∧ (E = 0 → s' = R)) ∧ Upd b w w'
/-- The same, of the value only where there is no error. -/
def ReadQ (b : Nat) (V : Value) (E : Int) (R : ByteArray) (w : World) (x : Ending) (w' : World) : Prop := ∃ V', ReadP b V' E R w x w' ∧ (E = 0 → V' = V)
/-- What a reader has behind a reading. -/
def restR (E : Int) (R : ByteArray) : ByteArray := if E = 0 then R else ⟨#[]⟩
/-- What take leaves. -/
def TakeP (b : Nat) (V : Value) (E : Int) (R : ByteArray) (w : World) (x : Ending) (w' : World) : Prop :=
  x = .returned V ∧ Rd w' b (restR E R) E ∧ Upd b w w'

set_option maxRecDepth 100000 in
theorem take44_42 (b : Nat) (s : ByteArray) (V : Value) (E : Int) (R : ByteArray) (w : World) (hr : Rd w b s 0) (hz : E ≠ 0 → V = .int .u64 0)
    (hread : Hid (Calls Try.prog 65 #[.pointer (some ⟨b, 0, none⟩)] w (ReadQ b V E R w))) :
    Calls Try.prog 64 #[.pointer (some ⟨b, 0, none⟩), .func (.func 65) #[.pointer (some ⟨b, 0, none⟩)] #[]] w (TakeP b V E R w) := by
  have c1 : w.cell? ⟨b, 1, none⟩ = some (.int .i64 0) := hr.at 1 _ rfl
  by_cases hE : E = 0
  · subst hE
    clear hz
    go_enter Try.func64, Try.ntmps64
    go_wp2_with (go_at_call 65; refine hread.out.mono ?_; rintro e w1 ⟨V', ⟨rfl, ⟨s', h1, h2⟩, u1⟩, hV⟩; have h2 := h2 rfl; subst h2; have hV := hV rfl; subst hV)
    go_ret

    exact ⟨rfl, h1, u1⟩
  · go_enter Try.func64, Try.ntmps64
    go_wp2_with (first
      | (go_at_call 65; refine hread.out.mono ?_; rintro e w1 ⟨V', ⟨rfl, ⟨s', h1, _⟩, u1⟩, _⟩)
      | (go_at_call 80; refine (fail_new b s' E hE _ h1).mono ?_; rintro e w2 ⟨rfl, h2, u2⟩))
    go_ret
    exact ⟨by rw [hz hE]; rfl, by rw [restR, if_neg hE]; exact h2, u1.trans u2⟩
set_option maxRecDepth 100000 in
theorem take44_42_err (b : Nat) (s : ByteArray) (E : Int) (hE : E ≠ 0) (w : World) (hr : Rd w b s E) (f : Value) :
    Calls Try.prog 64 #[.pointer (some ⟨b, 0, none⟩), f] w fun x w' => x = .returned (.int .u64 0) ∧ w' = w := by
  have c1 : w.cell? ⟨b, 1, none⟩ = some (.int .i64 E) := hr.at 1 _ rfl
  go_enter Try.func64, Try.ntmps64
  go_wp2
  go_ret
  exact ⟨rfl, rfl⟩
set_option maxRecDepth 100000 in
theorem take44_42_nil (w : World) (f : Value) :
    Calls Try.prog 64 #[.pointer none, f] w fun x w' => x = .returned (.int .u64 0) ∧ w' = w := by
  go_enter Try.func64, Try.ntmps64
  go_wp2
  go_ret
  exact ⟨rfl, rfl⟩
set_option maxRecDepth 100000 in
theorem take45_46 (b : Nat) (s : ByteArray) (V : Value) (E : Int) (R : ByteArray) (w : World) (hr : Rd w b s 0) (n : Int) (hz : E ≠ 0 → V = .int .i64 0)
    (hread : Hid (Calls Try.prog 63 #[.agg #[.pointer (some ⟨b, 0, none⟩), .int .i64 n]] w (ReadQ b V E R w))) :
    Calls Try.prog 62 #[.pointer (some ⟨b, 0, none⟩), .func (.func 63) #[.agg #[.pointer (some ⟨b, 0, none⟩), .int .i64 n]] #[]] w (TakeP b V E R w) := by
  have c1 : w.cell? ⟨b, 1, none⟩ = some (.int .i64 0) := hr.at 1 _ rfl
  by_cases hE : E = 0
  · subst hE
    clear hz
    go_enter Try.func62, Try.ntmps62
    go_wp2_with (go_at_call 63; refine hread.out.mono ?_; rintro e w1 ⟨V', ⟨rfl, ⟨s', h1, h2⟩, u1⟩, hV⟩; have h2 := h2 rfl; subst h2; have hV := hV rfl; subst hV)
    go_ret

    exact ⟨rfl, h1, u1⟩
  · go_enter Try.func62, Try.ntmps62
    go_wp2_with (first
      | (go_at_call 63; refine hread.out.mono ?_; rintro e w1 ⟨V', ⟨rfl, ⟨s', h1, _⟩, u1⟩, _⟩)
      | (go_at_call 80; refine (fail_new b s' E hE _ h1).mono ?_; rintro e w2 ⟨rfl, h2, u2⟩))
    go_ret
    exact ⟨by rw [hz hE]; rfl, by rw [restR, if_neg hE]; exact h2, u1.trans u2⟩
set_option maxRecDepth 100000 in
theorem take45_46_err (b : Nat) (s : ByteArray) (E : Int) (hE : E ≠ 0) (w : World) (hr : Rd w b s E) (f : Value) :
    Calls Try.prog 62 #[.pointer (some ⟨b, 0, none⟩), f] w fun x w' => x = .returned (.int .i64 0) ∧ w' = w := by
  have c1 : w.cell? ⟨b, 1, none⟩ = some (.int .i64 E) := hr.at 1 _ rfl
  go_enter Try.func62, Try.ntmps62
  go_wp2
  go_ret
  exact ⟨rfl, rfl⟩
set_option maxRecDepth 100000 in
theorem take45_46_nil (w : World) (f : Value) :
    Calls Try.prog 62 #[.pointer none, f] w fun x w' => x = .returned (.int .i64 0) ∧ w' = w := by
  go_enter Try.func62, Try.ntmps62
  go_wp2
  go_ret
  exact ⟨rfl, rfl⟩
end Go.Proofs.Ytbmeflildmeecaa.Pk
