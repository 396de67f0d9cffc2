/- The document's reader: Fail (84), Raw (85) of one byte, Num (68). -/
import Derived.Test.YtbmeflildmeecaaClRead
namespace Go.Proofs.Ytbmeflildmeecaa
open Go.RowKit Go.Shelf Go.Sort Go.Lib Pk

/-- The document's reader at block B. -/
abbrev Rq (w : World) (B : Nat) (s : ByteArray) (e : Int) : Prop := Holds w B [.string s, .int .i64 e] 78

set_option maxRecDepth 100000 in
theorem rfail_new (b : Nat) (s : ByteArray) (e : Int) (he : e ≠ 0) (w : World) (hr : Rq w b s 0) :
    Calls Try.prog 84 #[.pointer (some ⟨b, 0, none⟩), .int .i64 e] w fun x w' => x = .returned (.tuple #[]) ∧ Rq w' b ⟨#[]⟩ e ∧ Upd b w w' := by
  have c0 : w.cell? ⟨b, 0, none⟩ = some (.string s) := hr.at 0 _ rfl
  have f0 : w.frozen? ⟨b, 0, none⟩ = false := hr.frozen 0
  have c1 : w.cell? ⟨b, 1, none⟩ = some (.int .i64 0) := hr.at 1 _ rfl
  have f1 : w.frozen? ⟨b, 1, none⟩ = false := hr.frozen 1
  have he' : (e == 0) = false := beq_eq_false_iff_ne.2 he
  go_enter Try.func84, Try.ntmps84
  go_wp2
  refine bodyPost_end (results_none (by kernel_rfl) _ _ _) rfl ⟨rfl, ?_, ?_⟩
  · first
      | exact (hr.set 0 (.string ⟨#[]⟩)).set 1 (.int .i64 e)
      | exact (hr.set 1 (.int .i64 e)).set 0 (.string ⟨#[]⟩)
  · first
      | exact ((Upd.refl b w).setCell 0 _).setCell 1 _
      | exact ((Upd.refl b w).setCell 1 _).setCell 0 _
set_option maxRecDepth 100000 in
theorem rfail_old (b : Nat) (s : ByteArray) (E e : Int) (hE : E ≠ 0) (w : World) (hr : Rq w b s E) :
    Calls Try.prog 84 #[.pointer (some ⟨b, 0, none⟩), .int .i64 e] w fun x w' => x = .returned (.tuple #[]) ∧ w' = w := by
  have c1 : w.cell? ⟨b, 1, none⟩ = some (.int .i64 E) := hr.at 1 _ rfl
  have he' : (E == 0) = false := beq_eq_false_iff_ne.2 hE
  go_enter Try.func84, Try.ntmps84
  go_wp2
  exact bodyPost_end (results_none (by kernel_rfl) _ _ _) rfl ⟨rfl, rfl⟩
theorem one_byte {s : ByteArray} {x : UInt8} (h : s.data.toList[0]? = some x) : s.extract 0 1 = ⟨#[x]⟩ := by
  obtain ⟨d⟩ := s
  apply ByteArray.ext
  apply Array.toList_inj.1
  have h1 : ((⟨d⟩ : ByteArray).extract 0 1).data.toList = d.toList.take 1 := ext_head ⟨d⟩ 1
  rw [h1]
  have h : d.toList[0]? = some x := h
  cases hd : d.toList with
  | nil => rw [hd] at h; simp at h
  | cons y r => rw [hd] at h; simp at h; rw [h]; rfl
set_option maxRecDepth 100000 in
set_option maxHeartbeats 1000000 in
theorem raw_some (b : Nat) (s : ByteArray) (x : UInt8) (hx : s.data.toList[0]? = some x) (w : World) (hr : Rq w b s 0) :
    Calls Try.prog 85 #[.pointer (some ⟨b, 0, none⟩), .int .i64 1] w fun e w' => e = .returned (.string ⟨#[x]⟩) ∧ Rq w' b (s.extract 1 s.size) 0 ∧ Upd b w w' := by
  have c0 : w.cell? ⟨b, 0, none⟩ = some (.string s) := hr.at 0 _ rfl
  have f0 : w.frozen? ⟨b, 0, none⟩ = false := hr.frozen 0
  have c1 : w.cell? ⟨b, 1, none⟩ = some (.int .i64 0) := hr.at 1 _ rfl
  have hs : 0 < s.size := by
    have := (List.getElem?_eq_some_iff.1 hx).1
    exact this
  have h1 : ¬ (s.size : Int) < 1 := by omega
  have h2 : (1 : Int) ≤ (s.size : Int) := by omega
  have hb := one_byte hx
  go_enter Try.func85, Try.ntmps85
  go_wp2
  go_ret
  exact ⟨by simp, hr.set 0 (.string (s.extract 1 s.size)), (Upd.refl b w).setCell 0 _⟩
set_option maxRecDepth 100000 in
set_option maxHeartbeats 1000000 in
theorem raw_none (b : Nat) (s : ByteArray) (hs : s.size = 0) (w : World) (hr : Rq w b s 0) :
    Calls Try.prog 85 #[.pointer (some ⟨b, 0, none⟩), .int .i64 1] w fun e w' => e = .returned (.string ⟨#[]⟩) ∧ Rq w' b ⟨#[]⟩ 10 ∧ Upd b w w' := by
  have c0 : w.cell? ⟨b, 0, none⟩ = some (.string s) := hr.at 0 _ rfl
  have h84 := rfail_new b s 10 (by decide) w hr
  go_enter Try.func85, Try.ntmps85
  go_wp2_with (go_at_call 84; refine h84.mono ?_; rintro e w1 ⟨rfl, r1, u1⟩; have c2 : w1.cell? ⟨b, 1, none⟩ = some (.int .i64 10) := r1.at 1 _ rfl)
  go_ret
  exact ⟨rfl, r1, u1⟩
set_option maxRecDepth 100000 in
set_option maxHeartbeats 1000000 in
theorem raw_err (b : Nat) (s : ByteArray) (hs : s.size = 0) (E : Int) (hE : E ≠ 0) (w : World) (hr : Rq w b s E) :
    Calls Try.prog 85 #[.pointer (some ⟨b, 0, none⟩), .int .i64 1] w fun e w' => e = .returned (.string ⟨#[]⟩) ∧ w' = w := by
  have c0 : w.cell? ⟨b, 0, none⟩ = some (.string s) := hr.at 0 _ rfl
  have c1 : w.cell? ⟨b, 1, none⟩ = some (.int .i64 E) := hr.at 1 _ rfl
  have he' : (E == 0) = false := beq_eq_false_iff_ne.2 hE
  have h84 := rfail_old b s E 10 hE w hr
  go_enter Try.func85, Try.ntmps85
  go_wp2_with (go_at_call 84; refine h84.mono ?_; rintro e w1 ⟨rfl, hw1⟩; have hw1 := hw1.symm; subst hw1)
  go_ret
  exact ⟨rfl, rfl⟩
end Go.Proofs.Ytbmeflildmeecaa
