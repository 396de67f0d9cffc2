/- One call of both disks, by its kind: Append. -/
import Derived.Test.YthaknjbcmflegaaDoesA
namespace Go.Proofs.Ythaknjbcmflegaa
open Go.RowKit Go.Maps Go.WideMaps

set_option maxHeartbeats 3200000 in
set_option maxRecDepth 100000 in
theorem does_1 (N d r : Nat) (S : Dk) (o : Cl) (ho : o.Ok) (na pa ka : Option Addr) (nc pc kc : Nat) (w : World) (hP : Pair w N d r S) (hC : ClAt w N o na pa ka kc) (hlen : S.fs.length < 256) (t : Int) (ht : Int.tmod o.kind 9 = t) (htk : t = 1 ∨ t = 1 - 9) :
    Calls Try.prog 7 #[.pointer (some ⟨d, 0, none⟩), .pointer (some ⟨r, 0, none⟩), .agg #[.int .i64 o.kind, .int .i64 o.num, .slice na o.names.length nc, .slice pa o.parts.length pc, .slice ka o.picks.length kc]] w fun e w' => e = .returned (.bool true) ∧ Left w w' N d r S := by
  have hat0 : Hid (Calls Try.prog 25 #[.slice na o.names.length nc, .int .i64 0] (w.alloc (.cells #[.int .i64 o.kind, .int .i64 o.num, .slice na o.names.length nc, .slice pa o.parts.length pc, .slice ka o.picks.length kc] 32)) fun e w' => e = .returned (.string (atS o.names 0)) ∧ w' = (w.alloc (.cells #[.int .i64 o.kind, .int .i64 o.num, .slice na o.names.length nc, .slice pa o.parts.length pc, .slice ka o.picks.length kc] 32))) := at_any N o.names 0 (by decide) na nc _ ((mid_start (d := d) hP).names hC.names)
  have hat1 : Hid (Calls Try.prog 25 #[.slice na o.names.length nc, .int .i64 1] (w.alloc (.cells #[.int .i64 o.kind, .int .i64 o.num, .slice na o.names.length nc, .slice pa o.parts.length pc, .slice ka o.picks.length kc] 32)) fun e w' => e = .returned (.string (atS o.names 1)) ∧ w' = (w.alloc (.cells #[.int .i64 o.kind, .int .i64 o.num, .slice na o.names.length nc, .slice pa o.parts.length pc, .slice ka o.picks.length kc] 32))) := at_any N o.names 1 (by decide) na nc _ ((mid_start (d := d) hP).names hC.names)
  have hs0 : (atS o.names 0).size < 9223372036854775808 := by
    unfold atS
    split
    · rename_i s hs; exact ho.names s (List.mem_of_getElem? hs)
    · decide
  have hs1 : (atS o.names 1).size < 9223372036854775808 := by
    unfold atS
    split
    · rename_i s hs; exact ho.names s (List.mem_of_getElem? hs)
    · decide
  have hz0 := hs0
  have hP2 := hP
  have M0 : Hid (Mid w (w.alloc (.cells #[.int .i64 o.kind, .int .i64 o.num, .slice na o.names.length nc, .slice pa o.parts.length pc, .slice ka o.picks.length kc] 32)).drew N d r w.heap.size S S [.int .i64 o.kind, .int .i64 o.num, .slice na o.names.length nc, .slice pa o.parts.length pc, .slice ka o.picks.length kc]) := (mid_start hP).keep (Below.drew (Below.refl _ _))
  have hjs : (strL (joins o.parts)).size = lens o.parts := by rw [strL_size, joins_len]
  have hjl : (strL (joins o.parts)).data.toList = joins o.parts := by simp [strL]
  obtain ⟨E, S1, hk1, hk2⟩ : ∃ (E : Int) (S1 : Dk), (∀ W, Mid w W N d r w.heap.size S S [.int .i64 o.kind, .int .i64 o.num, .slice na o.names.length nc, .slice pa o.parts.length pc, .slice ka o.picks.length kc] → Calls Try.prog 19 #[.pointer (some ⟨d, 0, none⟩), .string (atS o.names 0), .slice pa o.parts.length pc] W fun e w' => e = .returned (.int .i64 E) ∧ Mid w w' N d r w.heap.size S S1 [.int .i64 o.kind, .int .i64 o.num, .slice na o.names.length nc, .slice pa o.parts.length pc, .slice ka o.picks.length kc]) ∧
      (∀ W, Mid w W N d r w.heap.size S S1 [.int .i64 o.kind, .int .i64 o.num, .slice na o.names.length nc, .slice pa o.parts.length pc, .slice ka o.picks.length kc] → Calls Try.prog 31 #[.pointer (some ⟨r, 0, none⟩), .string (atS o.names 0), .string (strL (joins o.parts))] W fun e w' => e = .returned (.int .i64 E) ∧ Left w w' N d r S) := by
    by_cases h1 : namedE S [atS o.names 0] = 0
    · obtain ⟨hon, hok⟩ := named_ok h1
      by_cases h2 : used S.fs + lens o.parts ≤ S.room
      · have hnf : ¬ FullAt S (atS o.names 0).data.toList (strL (joins o.parts)).size := by
          rintro (⟨_, h⟩ | h)
          · omega
          · omega
        refine ⟨stepE S, stepS (layS S (atS o.names 0).data.toList o.parts), fun W hW => ?_, fun W hW => ?_⟩
        · exact (append_ok N d S _ hon hok o.parts ho.parts ho.pl pa pc W hW.disk ((hC.parts.below hW.low).strs (by have := hW.ref.lt; omega)) (by rw [fitB]; simpa using h2) hlen).mono fun e w' ⟨j1, j2, j3⟩ => ⟨j1, ⟨j2, hW.ref.dupd j3, hW.low.trans (j3.below (by have := hW.ref.lt; omega)), hW.box.dupd j3 (by decide) (by decide) (by decide)⟩⟩
        · refine (rappend_ok N r S _ _ hon hok W hW.ref hnf).mono fun e w' ⟨j1, j2, j3⟩ => ⟨j1, left_of hW ?_ ?_ j3⟩
          · rw [stepS_fs]; exact len_put_le _ _ _
          · rw [layS_layD, step_lay, ← hjl]; exact j2
      · have hf : FullAt S (atS o.names 0).data.toList (strL (joins o.parts)).size := .inr (by omega)
        refine ⟨22, S, fun W hW => ?_, fun W hW => ?_⟩
        · exact (append_full N d S _ hon hok o.parts ho.parts ho.pl pa pc W hW.disk ((hC.parts.below hW.low).strs (by have := hW.ref.lt; omega)) (by rw [fitB]; simpa using h2) hlen).mono fun e w' ⟨j1, j2⟩ => ⟨j1, hW.keep j2⟩
        · exact (rappend_full N r S _ _ hon hok W hW.ref hf).mono fun e w' ⟨j1, j2⟩ => ⟨j1, left_of hW (Nat.le_succ _) (hW.ref.below j2) (RUpd.ofBelow j2)⟩
    · refine ⟨namedE S [atS o.names 0], S, fun W hW => ?_, fun W hW => ?_⟩
      · exact (append_bad N d S _ hs0 pa o.parts.length pc W hW.disk h1).mono fun e w' ⟨j1, j2⟩ => ⟨j1, hW.keep j2⟩
      · exact (rappend_bad N r S _ _ hs0 W hW.ref h1).mono fun e w' ⟨j1, j2⟩ => ⟨j1, left_of hW (Nat.le_succ _) (by rw [j2]; exact hW.ref) (by rw [j2]; exact RUpd.refl _ _)⟩
  have k1 : Hid (∀ W, Mid w W N d r w.heap.size S S [.int .i64 o.kind, .int .i64 o.num, .slice na o.names.length nc, .slice pa o.parts.length pc, .slice ka o.picks.length kc] → Calls Try.prog 19 #[.pointer (some ⟨d, 0, none⟩), .string (atS o.names 0), .slice pa o.parts.length pc] W fun e w' => e = .returned (.int .i64 E) ∧ Mid w w' N d r w.heap.size S S1 [.int .i64 o.kind, .int .i64 o.num, .slice na o.names.length nc, .slice pa o.parts.length pc, .slice ka o.picks.length kc]) := hk1
  have k2 : Hid (∀ W, Mid w W N d r w.heap.size S S1 [.int .i64 o.kind, .int .i64 o.num, .slice na o.names.length nc, .slice pa o.parts.length pc, .slice ka o.picks.length kc] → Calls Try.prog 31 #[.pointer (some ⟨r, 0, none⟩), .string (atS o.names 0), .string (strL (joins o.parts))] W fun e w' => e = .returned (.int .i64 E) ∧ Left w w' N d r S) := hk2
  have k3 : Hid (∀ W, Mid w W N d r w.heap.size S S1 [.int .i64 o.kind, .int .i64 o.num, .slice na o.names.length nc, .slice pa o.parts.length pc, .slice ka o.picks.length kc] → Calls Try.prog 32 #[.slice pa o.parts.length pc] W fun e w' => e = .returned (.string (strL (joins o.parts))) ∧ w' = W) := fun W hW => all_any N o.parts ho.pl ho.sum pa pc W (hC.parts.below hW.low)
  generalize strL (joins o.parts) = J at *
  have e0 : (E == E) = true := by simp
  clear hk1 hk2 hP2 hz0 hjs hjl
  have b0 : (w.alloc (.cells #[.int .i64 o.kind, .int .i64 o.num, .slice na o.names.length nc, .slice pa o.parts.length pc, .slice ka o.picks.length kc] 32)).cell? ⟨w.heap.size, 0, none⟩ = some (.int .i64 o.kind) := (holds_new w [.int .i64 o.kind, .int .i64 o.num, .slice na o.names.length nc, .slice pa o.parts.length pc, .slice ka o.picks.length kc] 32).at 0 _ rfl
  have b1 : (w.alloc (.cells #[.int .i64 o.kind, .int .i64 o.num, .slice na o.names.length nc, .slice pa o.parts.length pc, .slice ka o.picks.length kc] 32)).cell? ⟨w.heap.size, 1, none⟩ = some (.int .i64 o.num) := (holds_new w [.int .i64 o.kind, .int .i64 o.num, .slice na o.names.length nc, .slice pa o.parts.length pc, .slice ka o.picks.length kc] 32).at 1 _ rfl
  have b2 : (w.alloc (.cells #[.int .i64 o.kind, .int .i64 o.num, .slice na o.names.length nc, .slice pa o.parts.length pc, .slice ka o.picks.length kc] 32)).cell? ⟨w.heap.size, 2, none⟩ = some (.slice na o.names.length nc) := (holds_new w [.int .i64 o.kind, .int .i64 o.num, .slice na o.names.length nc, .slice pa o.parts.length pc, .slice ka o.picks.length kc] 32).at 2 _ rfl
  have b3 : (w.alloc (.cells #[.int .i64 o.kind, .int .i64 o.num, .slice na o.names.length nc, .slice pa o.parts.length pc, .slice ka o.picks.length kc] 32)).cell? ⟨w.heap.size, 3, none⟩ = some (.slice pa o.parts.length pc) := (holds_new w [.int .i64 o.kind, .int .i64 o.num, .slice na o.names.length nc, .slice pa o.parts.length pc, .slice ka o.picks.length kc] 32).at 3 _ rfl
  have b4 : (w.alloc (.cells #[.int .i64 o.kind, .int .i64 o.num, .slice na o.names.length nc, .slice pa o.parts.length pc, .slice ka o.picks.length kc] 32)).cell? ⟨w.heap.size, 4, none⟩ = some (.slice ka o.picks.length kc) := (holds_new w [.int .i64 o.kind, .int .i64 o.num, .slice na o.names.length nc, .slice pa o.parts.length pc, .slice ka o.picks.length kc] 32).at 4 _ rfl
  clear ho hP hC hlen
  generalize atS o.names 0 = A0 at *
  generalize atS o.names 1 = A1 at *
  rcases htk with rfl | rfl
  all_goals
    go_enter Try.func7, Try.ntmps7
    go_wp2_with (first
      | (go_at_call_of 25 (Value.int IntKind.i64 1); refine hat1.out.mono ?_; rintro e w2 ⟨rfl, e2⟩; subst e2)
      | (go_at_call 25; refine hat0.out.mono ?_; rintro e w2 ⟨rfl, e2⟩; subst e2))
    go_region_with (first
      | (go_at_call 31; refine (k2.out _ m3).mono ?_; rintro e w4 ⟨rfl, l4⟩)
      | (go_at_call 32; refine (k3.out _ m3).mono ?_; rintro e w5 ⟨rfl, e5⟩; subst e5)
      | (go_at_call 19; refine (k1.out _ M0.out).mono ?_; rintro e w3 ⟨rfl, m3⟩; have y3 := m3.box.at 3 _ rfl))
    all_goals
      go_wp2
      go_ret
      exact ⟨rfl, l4⟩
end Go.Proofs.Ythaknjbcmflegaa
