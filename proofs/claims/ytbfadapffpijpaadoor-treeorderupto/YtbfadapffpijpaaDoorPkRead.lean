/- What package pack's readers do: cut, wellFormed, Fail, Left, Done, Read. -/
import Derived.Test.YtbfadapffpijpaaDoorProg
import Derived.Test.YtbfadapffpijpaaDoorLaws
import Derived.Test.YtbfadapffpijpaaDoorPkPure
namespace Go.Proofs.YtbfadapffpijpaaDoor.Pk
open Go.RowKit

/-- A reader at block b: what is left, and its error. -/
def rdV (s : ByteArray) (e : Int) : List Value := [.string s, .int .i64 e]
abbrev Rd (w : World) (b : Nat) (s : ByteArray) (e : Int) : Prop := Holds w b (rdV s e) 58

/-- What Done tells. -/
def doneV (s : ByteArray) (e : Int) : Int := if e = 0 then (if s.size = 0 then 0 else 11) else e
theorem emp_true {s : ByteArray} (h : s.size = 0) : s.toList.isEmpty = true := by
  rw [ByteArray.toList_eq]
  obtain ⟨d⟩ := s
  have : d = #[] := Array.eq_empty_of_size_eq_zero h
  rw [this]; rfl
theorem emp_false {s : ByteArray} (h : s.size ≠ 0) : s.toList.isEmpty = false := by
  rw [ByteArray.toList_eq]
  obtain ⟨d⟩ := s
  cases hd : d.toList with
  | nil => exact absurd (by show d.size = 0; rw [← Array.length_toList, hd]; rfl) h
  | cons x r => rfl
end Go.Proofs.YtbfadapffpijpaaDoor.Pk
