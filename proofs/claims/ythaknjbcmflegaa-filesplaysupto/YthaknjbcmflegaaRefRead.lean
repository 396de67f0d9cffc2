/- The document's disk: Read, Rename. -/
import Derived.Test.YthaknjbcmflegaaRefRemove
namespace Go.Proofs.Ythaknjbcmflegaa
open Go.RowKit Go.Maps Go.WideMaps

set_option maxHeartbeats 1600000 in
set_option maxRecDepth 100000 in
theorem rread_some (N r : Nat) (S : Dk) (s : ByteArray) (hs : s.size < 9223372036854775808) (w : World) (h : RefAt w N r S) : Calls Try.prog 18 #[.pointer (some ⟨r, 0, none⟩), .string s] w fun e w' => e = .returned (.tuple #[.string (readV S s), .int .i64 (foundE S s)]) ∧ Below w.heap.size w w' := by
  have hask : Hid (Calls Try.prog 44 #[.pointer (some ⟨r, 0, none⟩), .string s, .bool true] w fun e w' => e = .returned (.int .i64 (foundE S s)) ∧ w' = w) := rask_some N r S s hs true w h
  by_cases h0 : foundE S s = 0
  · obtain ⟨_, _, f, hf⟩ := found_zero h0
    rw [show readV S s = strL f.bytes by rw [readV, if_pos h0, hf]]
    rw [h0] at hask ⊢
    obtain ⟨i, hi, hai, hfi⟩ := atI_of_some h.good.rise hf
    have hat : Hid (∀ n, Calls Try.prog 45 #[.pointer (some ⟨r, 0, none⟩), .string s] (w.drewN n) fun e w' => e = .returned (.int .i64 (i : Int)) ∧ w' = w.drewN n) := fun n => by
      have := rat_some N r S s _ (h.drewN n)
      rw [hai] at this; exact this
    obtain ⟨fs, a, c, hfs, c0, hrow⟩ := h.rows
    rw [hfs] at hi hfi
    obtain ⟨g, rfl, hc⟩ := hrow i _ hfi
    have c1 : w.cell? ⟨g, i * 3 + 1, none⟩ = some (.string (strL f.bytes)) := hc 1 _ rfl
    generalize strL f.bytes = D at *
    generalize fs.length = m at *
    have g1 : (i : Int) < (m : Int) := by omega
    have g2 : (0 : Int) ≤ (i : Int) := by omega
    have g3 : ((i : Int)).toNat = i := by omega
    clear h hf hai hfi hrow hc h0 hfs hs
    go_enter Try.func18, Try.ntmps18
    go_wp2_with (go_at_call 44; refine hask.out.mono ?_; rintro e w2 ⟨rfl, rfl⟩)
    go_quiet (first | (go_at_call 45; exact Calls.quiet_of_same (hat.out _)))
    go_wp2
    exact bodyPost_ret (v := .tuple #[.string D, .int .i64 0]) (by simp [results, Try.results18, go_sem]) rfl ⟨rfl, below_drewN (Below.refl _ _) _⟩
  · rw [show readV S s = ⟨#[]⟩ by rw [readV, if_neg h0]]
    have hne : ((foundE S s) == 0) = false := by simpa using h0
    have hne2 : ((foundE S s) != 0) = true := by simpa using h0
    generalize foundE S s = E at *
    clear h h0 hs
    go_enter Try.func18, Try.ntmps18
    go_wp2_with (go_at_call 44; refine hask.out.mono ?_; rintro e w2 ⟨rfl, rfl⟩)
    exact bodyPost_ret (v := .tuple #[.string ⟨#[]⟩, .int .i64 E]) (by simp [results, Try.results18, go_sem]) rfl ⟨rfl, Below.refl _ _⟩
end Go.Proofs.Ythaknjbcmflegaa
