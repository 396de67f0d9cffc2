/- What package pack's readers do: cut, wellFormed, Fail, Left, Done, Read. -/
import Derived.Test.YtbmeflildmeecaaProg
import Derived.Test.YtbmeflildmeecaaLaws
import Derived.Test.YtbmeflildmeecaaPkPure
namespace Go.Proofs.Ytbmeflildmeecaa.Pk
open Go.RowKit

/-- A reader at block b: what is left, and its error. -/
def rdV (s : ByteArray) (e : Int) : List Value := [.string s, .int .i64 e]
abbrev Rd (w : World) (b : Nat) (s : ByteArray) (e : Int) : Prop := Holds w b (rdV s e) 91

set_option maxRecDepth 100000 in
theorem cut_any (b : Nat) (s : ByteArray) (e : Int) (n : Nat) (hn : n ≤ s.size) (w : World) (hr : Rd w b s e) :
    Calls Try.prog 81 #[.pointer (some ⟨b, 0, none⟩), .int .i64 (n : Int)] w fun x w' => x = .returned (.string (s.extract 0 n)) ∧ Rd w' b (s.extract n s.size) e ∧ Upd b w w' := by
  have c0 : w.cell? ⟨b, 0, none⟩ = some (.string s) := hr.at 0 _ rfl
  have f0 : w.frozen? ⟨b, 0, none⟩ = false := hr.frozen 0
  go_enter Try.func81, Try.ntmps81
  go_wp2
  go_ret
  exact ⟨rfl, hr.set 0 (.string (s.extract n s.size)), (Upd.refl b w).setCell 0 _⟩

/-- What Done tells. -/
def doneV (s : ByteArray) (e : Int) : Int := if e = 0 then (if s.size = 0 then 0 else 11) else e
theorem emp_true {s : ByteArray} (h : s.size = 0) : s.toList.isEmpty = true := by
  rw [ByteArray.toList_eq]
  obtain ⟨d⟩ := s
  have : d = #[] := Array.eq_empty_of_size_eq_zero h
  rw [this]; rfl
theorem emp_false {s : ByteArray} (h : s.size ≠ 0) : s.toList.isEmpty = false := by
  rw [ByteArray.toList_eq]
  obtain ⟨d⟩ := s
  cases hd : d.toList with
  | nil => exact absurd (by show d.size = 0; rw [← Array.length_toList, hd]; rfl) h
  | cons x r => rfl
set_option maxRecDepth 100000 in
theorem fail_none (e : Int) (w : World) : Calls Try.prog 80 #[.pointer none, .int .i64 e] w fun x w' => x = .returned (.tuple #[]) ∧ w' = w := by
  go_enter Try.func80, Try.ntmps80
  go_wp2
  exact bodyPost_ret (results_none (by kernel_rfl) _ _ _) rfl ⟨rfl, rfl⟩
set_option maxRecDepth 100000 in
theorem fail_new (b : Nat) (s : ByteArray) (e : Int) (he : e ≠ 0) (w : World) (hr : Rd w b s 0) :
    Calls Try.prog 80 #[.pointer (some ⟨b, 0, none⟩), .int .i64 e] w fun x w' => x = .returned (.tuple #[]) ∧ Rd w' b ⟨#[]⟩ e ∧ Upd b w w' := by
  have c0 : w.cell? ⟨b, 0, none⟩ = some (.string s) := hr.at 0 _ rfl
  have f0 : w.frozen? ⟨b, 0, none⟩ = false := hr.frozen 0
  have c1 : w.cell? ⟨b, 1, none⟩ = some (.int .i64 0) := hr.at 1 _ rfl
  have f1 : w.frozen? ⟨b, 1, none⟩ = false := hr.frozen 1
  go_enter Try.func80, Try.ntmps80
  go_wp2
  exact bodyPost_end (results_none (by kernel_rfl) _ _ _) rfl ⟨rfl, (hr.set 0 (.string ⟨#[]⟩)).set 1 (.int .i64 e), ((Upd.refl b w).setCell 0 _).setCell 1 _⟩

set_option maxRecDepth 100000 in
theorem read_any (s : ByteArray) (w : World) :
    Calls Try.prog 47 #[.string s] w fun x w' => x = .returned (.pointer (some ⟨w.heap.size, 0, none⟩)) ∧ Rd w' w.heap.size s 0 ∧ Below w.heap.size w w' := by
  go_enter Try.func47, Try.ntmps47
  go_wp2
  go_ret
  exact ⟨rfl, holds_new w _ _, (Below.refl _ _).alloc (Nat.le_refl _) _⟩

set_option maxRecDepth 100000 in
theorem well_any (s : ByteArray) (h0 : 0 < s.size) (hs : s.size < 9223372036854775808) (w : World) :
    Calls Try.prog 82 #[.string s] w fun x w' => x = .returned (.bool (wellF s.data.toList)) ∧ w' = w := by
  have hl : s.data.toList.length = s.size := rfl
  have hx : s.data.toList.getLast? = some (s[s.size - 1]'(by omega)) := by
    rw [List.getLast?_eq_getElem?, hl, List.getElem?_eq_getElem (by omega)]; rfl
  by_cases h10 : 10 < s.size
  · have hd : wellF s.data.toList = false := wellF_many h10
    rw [hd]
    go_enter Try.func82, Try.ntmps82
    go_wp2
    go_ret
    exact ⟨rfl, rfl⟩
  · go_enter Try.func82, Try.ntmps82
    go_wp2
    · rename_i h1 h2
      have h2 : (s.size : Int) = 10 := by simpa using h2
      rw [wellF_ten (by omega) hx]
      go_ret
      exact ⟨rfl, rfl⟩
    · rename_i h1 h2 h3
      have h2 : (s.size : Int) ≠ 10 := by simpa using h2
      rw [wellF_zero (by omega) hx h3]
      go_ret
      exact ⟨rfl, rfl⟩
    · rename_i h1 h2 h3
      have h2 : (s.size : Int) ≠ 10 := by simpa using h2
      rw [wellF_pos (by omega) hx h3]
      go_ret
      exact ⟨rfl, rfl⟩
end Go.Proofs.Ytbmeflildmeecaa.Pk
