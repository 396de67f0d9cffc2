/- What package pack's readers do: cut, wellFormed, Fail, Left, Done, Read. -/
import Derived.Test.YtlbdlipdhhpgmaaProg
import Derived.Test.YtlbdlipdhhpgmaaLaws
import Derived.Test.YtlbdlipdhhpgmaaPure
namespace Go.Proofs.Ytlbdlipdhhpgmaa
open Go.RowKit

/-- A reader at block b: what is left, and its error. -/
def rdV (s : ByteArray) (e : Int) : List Value := [.string s, .int .i64 e]
abbrev Rd (w : World) (b : Nat) (s : ByteArray) (e : Int) : Prop := Holds w b (rdV s e) 58

set_option maxRecDepth 100000 in
theorem cut_any (b : Nat) (s : ByteArray) (e : Int) (n : Nat) (hn : n ≤ s.size) (w : World) (hr : Rd w b s e) :
    Calls Try.prog 43 #[.pointer (some ⟨b, 0, none⟩), .int .i64 (n : Int)] w fun x w' => x = .returned (.string (s.extract 0 n)) ∧ Rd w' b (s.extract n s.size) e ∧ Upd b w w' := by
  have c0 : w.cell? ⟨b, 0, none⟩ = some (.string s) := hr.at 0 _ rfl
  have f0 : w.frozen? ⟨b, 0, none⟩ = false := hr.frozen 0
  go_enter Try.func43, Try.ntmps43
  go_wp2
  go_ret
  exact ⟨rfl, hr.set 0 (.string (s.extract n s.size)), (Upd.refl b w).setCell 0 _⟩

set_option maxRecDepth 100000 in
theorem left_some (b : Nat) (s : ByteArray) (e : Int) (w : World) (hr : Rd w b s e) :
    Calls Try.prog 21 #[.pointer (some ⟨b, 0, none⟩)] w fun x w' => x = .returned (.int .i64 (s.size : Int)) ∧ w' = w := by
  have c0 : w.cell? ⟨b, 0, none⟩ = some (.string s) := hr.at 0 _ rfl
  go_enter Try.func21, Try.ntmps21
  go_wp2
  go_ret
  exact ⟨rfl, rfl⟩
set_option maxRecDepth 100000 in
theorem left_none (w : World) : Calls Try.prog 21 #[.pointer none] w fun x w' => x = .returned (.int .i64 0) ∧ w' = w := by
  go_enter Try.func21, Try.ntmps21
  go_wp2
  go_ret
  exact ⟨rfl, rfl⟩

set_option maxRecDepth 100000 in
theorem done_none (w : World) : Calls Try.prog 22 #[.pointer none] w fun x w' => x = .returned (.int .i64 1) ∧ w' = w := by
  go_enter Try.func22, Try.ntmps22
  go_wp2
  go_ret
  exact ⟨rfl, rfl⟩
/-- What Done tells. -/
def doneV (s : ByteArray) (e : Int) : Int := if e = 0 then (if s.size = 0 then 0 else 11) else e
theorem emp_true {s : ByteArray} (h : s.size = 0) : s.toList.isEmpty = true := by
  rw [ByteArray.toList_eq]
  obtain ⟨d⟩ := s
  have : d = #[] := Array.eq_empty_of_size_eq_zero h
  rw [this]; rfl
theorem emp_false {s : ByteArray} (h : s.size ≠ 0) : s.toList.isEmpty = false := by
  rw [ByteArray.toList_eq]
  obtain ⟨d⟩ := s
  cases hd : d.toList with
  | nil => exact absurd (by show d.size = 0; rw [← Array.length_toList, hd]; rfl) h
  | cons x r => rfl
set_option maxRecDepth 100000 in
theorem done_some (b : Nat) (s : ByteArray) (e : Int) (w : World) (hr : Rd w b s e) :
    Calls Try.prog 22 #[.pointer (some ⟨b, 0, none⟩)] w fun x w' => x = .returned (.int .i64 (doneV s e)) ∧ w' = w := by
  have c0 : w.cell? ⟨b, 0, none⟩ = some (.string s) := hr.at 0 _ rfl
  have c1 : w.cell? ⟨b, 1, none⟩ = some (.int .i64 e) := hr.at 1 _ rfl
  by_cases he : e = 0
  · subst he
    by_cases hs : s.size = 0
    · have hd : doneV s 0 = 0 := by rw [doneV, if_pos rfl, if_pos hs]
      have hne := emp_true hs
      rw [hd]
      go_enter Try.func22, Try.ntmps22
      go_wp2
      go_ret
      exact ⟨rfl, rfl⟩
    · have hd : doneV s 0 = 11 := by rw [doneV, if_pos rfl, if_neg hs]
      have hne := emp_false hs
      rw [hd]
      go_enter Try.func22, Try.ntmps22
      go_wp2
      go_ret
      exact ⟨rfl, rfl⟩
  · have hd : doneV s e = e := by rw [doneV, if_neg he]
    rw [hd]
    go_enter Try.func22, Try.ntmps22
    go_wp2
    go_ret
    exact ⟨rfl, rfl⟩

set_option maxRecDepth 100000 in
theorem fail_none (e : Int) (w : World) : Calls Try.prog 25 #[.pointer none, .int .i64 e] w fun x w' => x = .returned (.tuple #[]) ∧ w' = w := by
  go_enter Try.func25, Try.ntmps25
  go_wp2
  exact bodyPost_ret (results_none (by kernel_rfl) _ _ _) rfl ⟨rfl, rfl⟩
set_option maxRecDepth 100000 in
theorem fail_new (b : Nat) (s : ByteArray) (e : Int) (he : e ≠ 0) (w : World) (hr : Rd w b s 0) :
    Calls Try.prog 25 #[.pointer (some ⟨b, 0, none⟩), .int .i64 e] w fun x w' => x = .returned (.tuple #[]) ∧ Rd w' b ⟨#[]⟩ e ∧ Upd b w w' := by
  have c0 : w.cell? ⟨b, 0, none⟩ = some (.string s) := hr.at 0 _ rfl
  have f0 : w.frozen? ⟨b, 0, none⟩ = false := hr.frozen 0
  have c1 : w.cell? ⟨b, 1, none⟩ = some (.int .i64 0) := hr.at 1 _ rfl
  have f1 : w.frozen? ⟨b, 1, none⟩ = false := hr.frozen 1
  go_enter Try.func25, Try.ntmps25
  go_wp2
  exact bodyPost_end (results_none (by kernel_rfl) _ _ _) rfl ⟨rfl, (hr.set 0 (.string ⟨#[]⟩)).set 1 (.int .i64 e), ((Upd.refl b w).setCell 0 _).setCell 1 _⟩

set_option maxRecDepth 100000 in
theorem read_any (s : ByteArray) (w : World) :
    Calls Try.prog 18 #[.string s] w fun x w' => x = .returned (.pointer (some ⟨w.heap.size, 0, none⟩)) ∧ Rd w' w.heap.size s 0 ∧ Below w.heap.size w w' := by
  go_enter Try.func18, Try.ntmps18
  go_wp2
  go_ret
  exact ⟨rfl, holds_new w _ _, (Below.refl _ _).alloc (Nat.le_refl _) _⟩

set_option maxRecDepth 100000 in
theorem well_any (s : ByteArray) (h0 : 0 < s.size) (hs : s.size < 9223372036854775808) (w : World) :
    Calls Try.prog 60 #[.string s] w fun x w' => x = .returned (.bool (wellF s.data.toList)) ∧ w' = w := by
  have hl : s.data.toList.length = s.size := rfl
  have hx : s.data.toList.getLast? = some (s[s.size - 1]'(by omega)) := by
    rw [List.getLast?_eq_getElem?, hl, List.getElem?_eq_getElem (by omega)]; rfl
  by_cases h10 : 10 < s.size
  · have hd : wellF s.data.toList = false := wellF_many h10
    rw [hd]
    go_enter Try.func60, Try.ntmps60
    go_wp2
    go_ret
    exact ⟨rfl, rfl⟩
  · go_enter Try.func60, Try.ntmps60
    go_wp2
    · rename_i h1 h2
      have h2 : (s.size : Int) = 10 := by simpa using h2
      rw [wellF_ten (by omega) hx]
      go_ret
      exact ⟨rfl, rfl⟩
    · rename_i h1 h2 h3
      have h2 : (s.size : Int) ≠ 10 := by simpa using h2
      rw [wellF_zero (by omega) hx h3]
      go_ret
      exact ⟨rfl, rfl⟩
    · rename_i h1 h2 h3
      have h2 : (s.size : Int) ≠ 10 := by simpa using h2
      rw [wellF_pos (by omega) hx h3]
      go_ret
      exact ⟨rfl, rfl⟩
end Go.Proofs.Ytlbdlipdhhpgmaa
