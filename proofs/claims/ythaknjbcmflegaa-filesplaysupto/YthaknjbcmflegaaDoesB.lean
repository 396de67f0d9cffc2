/- One call of both disks, by its kind: Limit, Crash, Rename, Read and List. -/
import Derived.Test.YthaknjbcmflegaaDoesA
namespace Go.Proofs.Ythaknjbcmflegaa
open Go.RowKit Go.Maps Go.WideMaps

set_option maxHeartbeats 3200000 in
set_option maxRecDepth 100000 in
theorem does_5 (N d r : Nat) (S : Dk) (o : Cl) (ho : o.Ok) (na pa ka : Option Addr) (nc pc kc : Nat) (w : World) (hP : Pair w N d r S) (hC : ClAt w N o na pa ka kc) (t : Int) (ht : Int.tmod o.kind 9 = t) (htk : t = 5 ∨ t = 5 - 9) :
    Calls Try.prog 7 #[.pointer (some ⟨d, 0, none⟩), .pointer (some ⟨r, 0, none⟩), .agg #[.int .i64 o.kind, .int .i64 o.num, .slice na o.names.length nc, .slice pa o.parts.length pc, .slice ka o.picks.length kc]] w fun e w' => e = .returned (.bool true) ∧ Left w w' N d r S := by
  have hat0 : Hid (Calls Try.prog 25 #[.slice na o.names.length nc, .int .i64 0] (w.alloc (.cells #[.int .i64 o.kind, .int .i64 o.num, .slice na o.names.length nc, .slice pa o.parts.length pc, .slice ka o.picks.length kc] 32)) fun e w' => e = .returned (.string (atS o.names 0)) ∧ w' = (w.alloc (.cells #[.int .i64 o.kind, .int .i64 o.num, .slice na o.names.length nc, .slice pa o.parts.length pc, .slice ka o.picks.length kc] 32))) := at_any N o.names 0 (by decide) na nc _ ((mid_start (d := d) hP).names hC.names)
  have hat1 : Hid (Calls Try.prog 25 #[.slice na o.names.length nc, .int .i64 1] (w.alloc (.cells #[.int .i64 o.kind, .int .i64 o.num, .slice na o.names.length nc, .slice pa o.parts.length pc, .slice ka o.picks.length kc] 32)) fun e w' => e = .returned (.string (atS o.names 1)) ∧ w' = (w.alloc (.cells #[.int .i64 o.kind, .int .i64 o.num, .slice na o.names.length nc, .slice pa o.parts.length pc, .slice ka o.picks.length kc] 32))) := at_any N o.names 1 (by decide) na nc _ ((mid_start (d := d) hP).names hC.names)
  have hs0 : (atS o.names 0).size < 9223372036854775808 := by
    unfold atS
    split
    · rename_i s hs; exact ho.names s (List.mem_of_getElem? hs)
    · decide
  have hs1 : (atS o.names 1).size < 9223372036854775808 := by
    unfold atS
    split
    · rename_i s hs; exact ho.names s (List.mem_of_getElem? hs)
    · decide
  have k1 : Hid (Calls Try.prog 23 #[.pointer (some ⟨d, 0, none⟩), .int .i64 o.num] (w.alloc (.cells #[.int .i64 o.kind, .int .i64 o.num, .slice na o.names.length nc, .slice pa o.parts.length pc, .slice ka o.picks.length kc] 32)) fun e w' => e = .returned (.tuple #[]) ∧ Mid w w' N d r w.heap.size S { S with room := roomN o.num } [.int .i64 o.kind, .int .i64 o.num, .slice na o.names.length nc, .slice pa o.parts.length pc, .slice ka o.picks.length kc]) :=
    (limit_some N d S o.num _ (hP.disk.alloc _)).mono fun e w' ⟨h1, h2, h3⟩ => ⟨h1, mid_of hP h2 h3⟩
  have k2 : Hid (∀ W, Calls Try.prog 24 #[.int .i64 o.num] W fun e w' => e = .returned (.int .i64 (roomN o.num : Int)) ∧ w' = W) := fun W => refRoom_any o.num W
  have k3 : Hid (∀ W, Mid w W N d r w.heap.size S { S with room := roomN o.num } [.int .i64 o.kind, .int .i64 o.num, .slice na o.names.length nc, .slice pa o.parts.length pc, .slice ka o.picks.length kc] → (∃ u, W.cell? ⟨r, 1, none⟩ = some u) ∧ W.frozen? ⟨r, 1, none⟩ = false ∧ Left w (W.setCell ⟨r, 1, none⟩ (.int .i64 (roomN o.num : Int))) N d r S) := fun W hW => by
    have hM := hW
    obtain ⟨v, q1, q2, q3, q4⟩ := hW.ref
    obtain ⟨j1, j2, j3⟩ := ref_set (T := { S with room := roomN o.num }) q1 q2 q3 rfl 1 (.int .i64 (roomN o.num : Int)) rfl
    exact ⟨⟨_, q1.at 1 _ rfl⟩, q1.frozen 1, left_of hM (Nat.le_succ _) ⟨v, j1, q2, j2, ⟨⟨q4.rise, q4.len, q4.used, roomN_le _, q4.keys, q4.ahead⟩, q4.arm, q4.firm⟩⟩ j3⟩
  generalize (roomN o.num : Int) = RM at *
  generalize ({ S with room := roomN o.num } : Dk) = S1 at *
  have b0 : (w.alloc (.cells #[.int .i64 o.kind, .int .i64 o.num, .slice na o.names.length nc, .slice pa o.parts.length pc, .slice ka o.picks.length kc] 32)).cell? ⟨w.heap.size, 0, none⟩ = some (.int .i64 o.kind) := (holds_new w [.int .i64 o.kind, .int .i64 o.num, .slice na o.names.length nc, .slice pa o.parts.length pc, .slice ka o.picks.length kc] 32).at 0 _ rfl
  have b1 : (w.alloc (.cells #[.int .i64 o.kind, .int .i64 o.num, .slice na o.names.length nc, .slice pa o.parts.length pc, .slice ka o.picks.length kc] 32)).cell? ⟨w.heap.size, 1, none⟩ = some (.int .i64 o.num) := (holds_new w [.int .i64 o.kind, .int .i64 o.num, .slice na o.names.length nc, .slice pa o.parts.length pc, .slice ka o.picks.length kc] 32).at 1 _ rfl
  have b2 : (w.alloc (.cells #[.int .i64 o.kind, .int .i64 o.num, .slice na o.names.length nc, .slice pa o.parts.length pc, .slice ka o.picks.length kc] 32)).cell? ⟨w.heap.size, 2, none⟩ = some (.slice na o.names.length nc) := (holds_new w [.int .i64 o.kind, .int .i64 o.num, .slice na o.names.length nc, .slice pa o.parts.length pc, .slice ka o.picks.length kc] 32).at 2 _ rfl
  have b3 : (w.alloc (.cells #[.int .i64 o.kind, .int .i64 o.num, .slice na o.names.length nc, .slice pa o.parts.length pc, .slice ka o.picks.length kc] 32)).cell? ⟨w.heap.size, 3, none⟩ = some (.slice pa o.parts.length pc) := (holds_new w [.int .i64 o.kind, .int .i64 o.num, .slice na o.names.length nc, .slice pa o.parts.length pc, .slice ka o.picks.length kc] 32).at 3 _ rfl
  have b4 : (w.alloc (.cells #[.int .i64 o.kind, .int .i64 o.num, .slice na o.names.length nc, .slice pa o.parts.length pc, .slice ka o.picks.length kc] 32)).cell? ⟨w.heap.size, 4, none⟩ = some (.slice ka o.picks.length kc) := (holds_new w [.int .i64 o.kind, .int .i64 o.num, .slice na o.names.length nc, .slice pa o.parts.length pc, .slice ka o.picks.length kc] 32).at 4 _ rfl
  clear ho hP hC
  generalize atS o.names 0 = A0 at *
  generalize atS o.names 1 = A1 at *
  rcases htk with rfl | rfl
  all_goals
    go_enter Try.func7, Try.ntmps7
    go_wp2_with (first
      | (go_at_call 24; refine (k2.out _).mono ?_; rintro e w4 ⟨rfl, e4⟩; subst e4)
      | (go_at_call 23; refine k1.out.mono ?_; rintro e w3 ⟨rfl, m3⟩; have y0 := m3.box.at 0 _ rfl; have y1 := m3.box.at 1 _ rfl; obtain ⟨⟨u, z0⟩, z1, l4⟩ := k3.out _ m3; have L4 : Hid (Left w (w3.setCell ⟨r, 1, none⟩ (.int .i64 RM)) N d r S) := l4; clear l4)
      | (go_at_call_of 25 (Value.int IntKind.i64 1); refine hat1.out.mono ?_; rintro e w2 ⟨rfl, e2⟩; subst e2)
      | (go_at_call 25; refine hat0.out.mono ?_; rintro e w2 ⟨rfl, e2⟩; subst e2))
    go_ret
    exact ⟨rfl, L4.out⟩

set_option maxHeartbeats 3200000 in
set_option maxRecDepth 100000 in
theorem does_7 (N d r : Nat) (S : Dk) (o : Cl) (ho : o.Ok) (na pa ka : Option Addr) (nc pc kc : Nat) (w : World) (hP : Pair w N d r S) (hC : ClAt w N o na pa ka kc) (t : Int) (ht : Int.tmod o.kind 9 = t) (htk : t = 7 ∨ t = 7 - 9) :
    Calls Try.prog 7 #[.pointer (some ⟨d, 0, none⟩), .pointer (some ⟨r, 0, none⟩), .agg #[.int .i64 o.kind, .int .i64 o.num, .slice na o.names.length nc, .slice pa o.parts.length pc, .slice ka o.picks.length kc]] w fun e w' => e = .returned (.bool true) ∧ Left w w' N d r S := by
  have hat0 : Hid (Calls Try.prog 25 #[.slice na o.names.length nc, .int .i64 0] (w.alloc (.cells #[.int .i64 o.kind, .int .i64 o.num, .slice na o.names.length nc, .slice pa o.parts.length pc, .slice ka o.picks.length kc] 32)) fun e w' => e = .returned (.string (atS o.names 0)) ∧ w' = (w.alloc (.cells #[.int .i64 o.kind, .int .i64 o.num, .slice na o.names.length nc, .slice pa o.parts.length pc, .slice ka o.picks.length kc] 32))) := at_any N o.names 0 (by decide) na nc _ ((mid_start (d := d) hP).names hC.names)
  have hat1 : Hid (Calls Try.prog 25 #[.slice na o.names.length nc, .int .i64 1] (w.alloc (.cells #[.int .i64 o.kind, .int .i64 o.num, .slice na o.names.length nc, .slice pa o.parts.length pc, .slice ka o.picks.length kc] 32)) fun e w' => e = .returned (.string (atS o.names 1)) ∧ w' = (w.alloc (.cells #[.int .i64 o.kind, .int .i64 o.num, .slice na o.names.length nc, .slice pa o.parts.length pc, .slice ka o.picks.length kc] 32))) := at_any N o.names 1 (by decide) na nc _ ((mid_start (d := d) hP).names hC.names)
  have hs0 : (atS o.names 0).size < 9223372036854775808 := by
    unfold atS
    split
    · rename_i s hs; exact ho.names s (List.mem_of_getElem? hs)
    · decide
  have hs1 : (atS o.names 1).size < 9223372036854775808 := by
    unfold atS
    split
    · rename_i s hs; exact ho.names s (List.mem_of_getElem? hs)
    · decide
  have k1 : Hid (Calls Try.prog 12 #[.pointer (some ⟨d, 0, none⟩), .slice ka o.picks.length kc] (w.alloc (.cells #[.int .i64 o.kind, .int .i64 o.num, .slice na o.names.length nc, .slice pa o.parts.length pc, .slice ka o.picks.length kc] 32)) fun e w' => e = .returned (.tuple #[]) ∧ Mid w w' N d r w.heap.size S (crashS S o.picks) [.int .i64 o.kind, .int .i64 o.num, .slice na o.names.length nc, .slice pa o.parts.length pc, .slice ka o.picks.length kc]) :=
    (crash_some N d S o.picks ho.picks ka kc hC.cap.1 hC.cap.2 _ (hP.disk.alloc _) ((hC.picks.below (mid_start (d := d) hP).low).ints (by have := hP.le; simp; omega))).mono fun e w' ⟨h1, h2, h3⟩ => ⟨h1, mid_of hP h2 h3⟩
  have k2 : Hid (∀ W, Mid w W N d r w.heap.size S (crashS S o.picks) [.int .i64 o.kind, .int .i64 o.num, .slice na o.names.length nc, .slice pa o.parts.length pc, .slice ka o.picks.length kc] → Calls Try.prog 13 #[.pointer (some ⟨r, 0, none⟩), .slice ka o.picks.length kc] W fun e w' => e = .returned (.tuple #[]) ∧ Left w w' N d r S) := fun W hW =>
    (rcrash_some N r S o.picks ho.picks ka kc ho.kl W hW.ref (hC.picks.below hW.low)).mono fun e w' ⟨h1, h2, h3⟩ => ⟨h1, left_of hW (by show (crashD S.fs o.picks).1.length ≤ _; rw [crashD_len]; omega) h2 h3⟩
  generalize crashS S o.picks = S1 at *
  have b0 : (w.alloc (.cells #[.int .i64 o.kind, .int .i64 o.num, .slice na o.names.length nc, .slice pa o.parts.length pc, .slice ka o.picks.length kc] 32)).cell? ⟨w.heap.size, 0, none⟩ = some (.int .i64 o.kind) := (holds_new w [.int .i64 o.kind, .int .i64 o.num, .slice na o.names.length nc, .slice pa o.parts.length pc, .slice ka o.picks.length kc] 32).at 0 _ rfl
  have b1 : (w.alloc (.cells #[.int .i64 o.kind, .int .i64 o.num, .slice na o.names.length nc, .slice pa o.parts.length pc, .slice ka o.picks.length kc] 32)).cell? ⟨w.heap.size, 1, none⟩ = some (.int .i64 o.num) := (holds_new w [.int .i64 o.kind, .int .i64 o.num, .slice na o.names.length nc, .slice pa o.parts.length pc, .slice ka o.picks.length kc] 32).at 1 _ rfl
  have b2 : (w.alloc (.cells #[.int .i64 o.kind, .int .i64 o.num, .slice na o.names.length nc, .slice pa o.parts.length pc, .slice ka o.picks.length kc] 32)).cell? ⟨w.heap.size, 2, none⟩ = some (.slice na o.names.length nc) := (holds_new w [.int .i64 o.kind, .int .i64 o.num, .slice na o.names.length nc, .slice pa o.parts.length pc, .slice ka o.picks.length kc] 32).at 2 _ rfl
  have b3 : (w.alloc (.cells #[.int .i64 o.kind, .int .i64 o.num, .slice na o.names.length nc, .slice pa o.parts.length pc, .slice ka o.picks.length kc] 32)).cell? ⟨w.heap.size, 3, none⟩ = some (.slice pa o.parts.length pc) := (holds_new w [.int .i64 o.kind, .int .i64 o.num, .slice na o.names.length nc, .slice pa o.parts.length pc, .slice ka o.picks.length kc] 32).at 3 _ rfl
  have b4 : (w.alloc (.cells #[.int .i64 o.kind, .int .i64 o.num, .slice na o.names.length nc, .slice pa o.parts.length pc, .slice ka o.picks.length kc] 32)).cell? ⟨w.heap.size, 4, none⟩ = some (.slice ka o.picks.length kc) := (holds_new w [.int .i64 o.kind, .int .i64 o.num, .slice na o.names.length nc, .slice pa o.parts.length pc, .slice ka o.picks.length kc] 32).at 4 _ rfl
  clear ho hP hC
  generalize atS o.names 0 = A0 at *
  generalize atS o.names 1 = A1 at *
  rcases htk with rfl | rfl
  all_goals
    go_enter Try.func7, Try.ntmps7
    go_wp2_with (first
      | (go_at_call 13; refine (k2.out _ m3).mono ?_; rintro e w4 ⟨rfl, l4⟩)
      | (go_at_call 12; refine k1.out.mono ?_; rintro e w3 ⟨rfl, m3⟩; have y0 := m3.box.at 0 _ rfl; have y4 := m3.box.at 4 _ rfl)
      | (go_at_call_of 25 (Value.int IntKind.i64 1); refine hat1.out.mono ?_; rintro e w2 ⟨rfl, e2⟩; subst e2)
      | (go_at_call 25; refine hat0.out.mono ?_; rintro e w2 ⟨rfl, e2⟩; subst e2))
    go_ret
    exact ⟨rfl, l4⟩

set_option maxHeartbeats 3200000 in
set_option maxRecDepth 100000 in
theorem does_3 (N d r : Nat) (S : Dk) (o : Cl) (ho : o.Ok) (na pa ka : Option Addr) (nc pc kc : Nat) (w : World) (hP : Pair w N d r S) (hC : ClAt w N o na pa ka kc) (t : Int) (ht : Int.tmod o.kind 9 = t) (htk : t = 3 ∨ t = 3 - 9) :
    Calls Try.prog 7 #[.pointer (some ⟨d, 0, none⟩), .pointer (some ⟨r, 0, none⟩), .agg #[.int .i64 o.kind, .int .i64 o.num, .slice na o.names.length nc, .slice pa o.parts.length pc, .slice ka o.picks.length kc]] w fun e w' => e = .returned (.bool true) ∧ Left w w' N d r S := by
  have hat0 : Hid (Calls Try.prog 25 #[.slice na o.names.length nc, .int .i64 0] (w.alloc (.cells #[.int .i64 o.kind, .int .i64 o.num, .slice na o.names.length nc, .slice pa o.parts.length pc, .slice ka o.picks.length kc] 32)) fun e w' => e = .returned (.string (atS o.names 0)) ∧ w' = (w.alloc (.cells #[.int .i64 o.kind, .int .i64 o.num, .slice na o.names.length nc, .slice pa o.parts.length pc, .slice ka o.picks.length kc] 32))) := at_any N o.names 0 (by decide) na nc _ ((mid_start (d := d) hP).names hC.names)
  have hat1 : Hid (Calls Try.prog 25 #[.slice na o.names.length nc, .int .i64 1] (w.alloc (.cells #[.int .i64 o.kind, .int .i64 o.num, .slice na o.names.length nc, .slice pa o.parts.length pc, .slice ka o.picks.length kc] 32)) fun e w' => e = .returned (.string (atS o.names 1)) ∧ w' = (w.alloc (.cells #[.int .i64 o.kind, .int .i64 o.num, .slice na o.names.length nc, .slice pa o.parts.length pc, .slice ka o.picks.length kc] 32))) := at_any N o.names 1 (by decide) na nc _ ((mid_start (d := d) hP).names hC.names)
  have hs0 : (atS o.names 0).size < 9223372036854775808 := by
    unfold atS
    split
    · rename_i s hs; exact ho.names s (List.mem_of_getElem? hs)
    · decide
  have hs1 : (atS o.names 1).size < 9223372036854775808 := by
    unfold atS
    split
    · rename_i s hs; exact ho.names s (List.mem_of_getElem? hs)
    · decide
  have k1 : Hid (Calls Try.prog 21 #[.pointer (some ⟨d, 0, none⟩), .string (atS o.names 0), .string (atS o.names 1)] (w.alloc (.cells #[.int .i64 o.kind, .int .i64 o.num, .slice na o.names.length nc, .slice pa o.parts.length pc, .slice ka o.picks.length kc] 32)) fun e w' => e = .returned (.int .i64 (renE S (atS o.names 0) (atS o.names 1))) ∧ Mid w w' N d r w.heap.size S (renS S (atS o.names 0) (atS o.names 1)) [.int .i64 o.kind, .int .i64 o.num, .slice na o.names.length nc, .slice pa o.parts.length pc, .slice ka o.picks.length kc]) :=
    (rename_some N d S _ _ hs0 hs1 _ (hP.disk.alloc _)).mono fun e w' ⟨h1, h2, h3⟩ => ⟨h1, mid_of hP h2 h3⟩
  have k2 : Hid (∀ W, Mid w W N d r w.heap.size S (renS S (atS o.names 0) (atS o.names 1)) [.int .i64 o.kind, .int .i64 o.num, .slice na o.names.length nc, .slice pa o.parts.length pc, .slice ka o.picks.length kc] → Calls Try.prog 27 #[.pointer (some ⟨r, 0, none⟩), .string (atS o.names 0), .string (atS o.names 1)] W fun e w' => e = .returned (.int .i64 (renE S (atS o.names 0) (atS o.names 1))) ∧ Left w w' N d r S) := fun W hW => by
    by_cases h1 : namedE S [atS o.names 0, atS o.names 1] = 0
    · by_cases h2 : foundE S (atS o.names 0) = 0
      · exact (rename_ok N r S _ _ hs0 hs1 W hW.ref h1 h2).mono fun e w' ⟨j1, j2, j3⟩ => ⟨j1, left_of hW (ren_len S _ _) j2 j3⟩
      · exact (rename_bad N r S _ _ hs0 hs1 W hW.ref (.inr h2)).mono fun e w' ⟨j1, j2, j3⟩ => ⟨j1, left_of hW (ren_len S _ _) (by rw [j2, j3]; exact hW.ref) (by rw [j3]; exact RUpd.refl _ _)⟩
    · exact (rename_bad N r S _ _ hs0 hs1 W hW.ref (.inl h1)).mono fun e w' ⟨j1, j2, j3⟩ => ⟨j1, left_of hW (ren_len S _ _) (by rw [j2, j3]; exact hW.ref) (by rw [j3]; exact RUpd.refl _ _)⟩
  generalize renS S (atS o.names 0) (atS o.names 1) = S1 at *
  generalize renE S (atS o.names 0) (atS o.names 1) = E at *
  have e0 : (E == E) = true := by simp
  have b0 : (w.alloc (.cells #[.int .i64 o.kind, .int .i64 o.num, .slice na o.names.length nc, .slice pa o.parts.length pc, .slice ka o.picks.length kc] 32)).cell? ⟨w.heap.size, 0, none⟩ = some (.int .i64 o.kind) := (holds_new w [.int .i64 o.kind, .int .i64 o.num, .slice na o.names.length nc, .slice pa o.parts.length pc, .slice ka o.picks.length kc] 32).at 0 _ rfl
  have b1 : (w.alloc (.cells #[.int .i64 o.kind, .int .i64 o.num, .slice na o.names.length nc, .slice pa o.parts.length pc, .slice ka o.picks.length kc] 32)).cell? ⟨w.heap.size, 1, none⟩ = some (.int .i64 o.num) := (holds_new w [.int .i64 o.kind, .int .i64 o.num, .slice na o.names.length nc, .slice pa o.parts.length pc, .slice ka o.picks.length kc] 32).at 1 _ rfl
  have b2 : (w.alloc (.cells #[.int .i64 o.kind, .int .i64 o.num, .slice na o.names.length nc, .slice pa o.parts.length pc, .slice ka o.picks.length kc] 32)).cell? ⟨w.heap.size, 2, none⟩ = some (.slice na o.names.length nc) := (holds_new w [.int .i64 o.kind, .int .i64 o.num, .slice na o.names.length nc, .slice pa o.parts.length pc, .slice ka o.picks.length kc] 32).at 2 _ rfl
  have b3 : (w.alloc (.cells #[.int .i64 o.kind, .int .i64 o.num, .slice na o.names.length nc, .slice pa o.parts.length pc, .slice ka o.picks.length kc] 32)).cell? ⟨w.heap.size, 3, none⟩ = some (.slice pa o.parts.length pc) := (holds_new w [.int .i64 o.kind, .int .i64 o.num, .slice na o.names.length nc, .slice pa o.parts.length pc, .slice ka o.picks.length kc] 32).at 3 _ rfl
  have b4 : (w.alloc (.cells #[.int .i64 o.kind, .int .i64 o.num, .slice na o.names.length nc, .slice pa o.parts.length pc, .slice ka o.picks.length kc] 32)).cell? ⟨w.heap.size, 4, none⟩ = some (.slice ka o.picks.length kc) := (holds_new w [.int .i64 o.kind, .int .i64 o.num, .slice na o.names.length nc, .slice pa o.parts.length pc, .slice ka o.picks.length kc] 32).at 4 _ rfl
  clear ho hP hC
  generalize atS o.names 0 = A0 at *
  generalize atS o.names 1 = A1 at *
  rcases htk with rfl | rfl
  all_goals
    go_enter Try.func7, Try.ntmps7
    go_wp2_with (first
      | (go_at_call 27; refine (k2.out _ m3).mono ?_; rintro e w4 ⟨rfl, l4⟩)
      | (go_at_call 21; refine k1.out.mono ?_; rintro e w3 ⟨rfl, m3⟩)
      | (go_at_call_of 25 (Value.int IntKind.i64 1); refine hat1.out.mono ?_; rintro e w2 ⟨rfl, e2⟩; subst e2)
      | (go_at_call 25; refine hat0.out.mono ?_; rintro e w2 ⟨rfl, e2⟩; subst e2))
    go_ret
    exact ⟨rfl, l4⟩

set_option maxHeartbeats 3200000 in
set_option maxRecDepth 100000 in
theorem does_8 (N d r : Nat) (S : Dk) (o : Cl) (ho : o.Ok) (na pa ka : Option Addr) (nc pc kc : Nat) (w : World) (hP : Pair w N d r S) (hC : ClAt w N o na pa ka kc) (t : Int) (ht : Int.tmod o.kind 9 = t) (htk : t = 8 ∨ t = 8 - 9) :
    Calls Try.prog 7 #[.pointer (some ⟨d, 0, none⟩), .pointer (some ⟨r, 0, none⟩), .agg #[.int .i64 o.kind, .int .i64 o.num, .slice na o.names.length nc, .slice pa o.parts.length pc, .slice ka o.picks.length kc]] w fun e w' => e = .returned (.bool true) ∧ Left w w' N d r S := by
  have hat0 : Hid (Calls Try.prog 25 #[.slice na o.names.length nc, .int .i64 0] (w.alloc (.cells #[.int .i64 o.kind, .int .i64 o.num, .slice na o.names.length nc, .slice pa o.parts.length pc, .slice ka o.picks.length kc] 32)) fun e w' => e = .returned (.string (atS o.names 0)) ∧ w' = (w.alloc (.cells #[.int .i64 o.kind, .int .i64 o.num, .slice na o.names.length nc, .slice pa o.parts.length pc, .slice ka o.picks.length kc] 32))) := at_any N o.names 0 (by decide) na nc _ ((mid_start (d := d) hP).names hC.names)
  have hat1 : Hid (Calls Try.prog 25 #[.slice na o.names.length nc, .int .i64 1] (w.alloc (.cells #[.int .i64 o.kind, .int .i64 o.num, .slice na o.names.length nc, .slice pa o.parts.length pc, .slice ka o.picks.length kc] 32)) fun e w' => e = .returned (.string (atS o.names 1)) ∧ w' = (w.alloc (.cells #[.int .i64 o.kind, .int .i64 o.num, .slice na o.names.length nc, .slice pa o.parts.length pc, .slice ka o.picks.length kc] 32))) := at_any N o.names 1 (by decide) na nc _ ((mid_start (d := d) hP).names hC.names)
  have hs0 : (atS o.names 0).size < 9223372036854775808 := by
    unfold atS
    split
    · rename_i s hs; exact ho.names s (List.mem_of_getElem? hs)
    · decide
  have hs1 : (atS o.names 1).size < 9223372036854775808 := by
    unfold atS
    split
    · rename_i s hs; exact ho.names s (List.mem_of_getElem? hs)
    · decide
  have k1 : Hid (Calls Try.prog 17 #[.pointer (some ⟨d, 0, none⟩), .string (atS o.names 0)] (w.alloc (.cells #[.int .i64 o.kind, .int .i64 o.num, .slice na o.names.length nc, .slice pa o.parts.length pc, .slice ka o.picks.length kc] 32)) fun e w' => e = .returned (.tuple #[.string (readV S (atS o.names 0)), .int .i64 (foundE S (atS o.names 0))]) ∧ Mid w w' N d r w.heap.size S S [.int .i64 o.kind, .int .i64 o.num, .slice na o.names.length nc, .slice pa o.parts.length pc, .slice ka o.picks.length kc]) :=
    (read_some N d S _ hs0 _ (hP.disk.alloc _)).mono fun e w' ⟨h1, h2⟩ => ⟨h1, (mid_start hP).keep h2⟩
  have k2 : Hid (∀ W, Mid w W N d r w.heap.size S S [.int .i64 o.kind, .int .i64 o.num, .slice na o.names.length nc, .slice pa o.parts.length pc, .slice ka o.picks.length kc] → Calls Try.prog 18 #[.pointer (some ⟨r, 0, none⟩), .string (atS o.names 0)] W fun e w' => e = .returned (.tuple #[.string (readV S (atS o.names 0)), .int .i64 (foundE S (atS o.names 0))]) ∧ Mid w w' N d r w.heap.size S S [.int .i64 o.kind, .int .i64 o.num, .slice na o.names.length nc, .slice pa o.parts.length pc, .slice ka o.picks.length kc]) := fun W hW =>
    (rread_some N r S _ hs0 W hW.ref).mono fun e w' ⟨h1, h2⟩ => ⟨h1, hW.keep h2⟩
  have k3 : Hid (∀ W, Mid w W N d r w.heap.size S S [.int .i64 o.kind, .int .i64 o.num, .slice na o.names.length nc, .slice pa o.parts.length pc, .slice ka o.picks.length kc] → Calls Try.prog 14 #[.pointer (some ⟨d, 0, none⟩), .string (atS o.names 1)] W fun e w' => ∃ a c, e = .returned (.slice a (listE S (atS o.names 1)).length c) ∧ TextsAt w' a (listE S (atS o.names 1)) ∧ Mid w w' N d r w.heap.size S S [.int .i64 o.kind, .int .i64 o.num, .slice na o.names.length nc, .slice pa o.parts.length pc, .slice ka o.picks.length kc]) := fun W hW =>
    (list_both N d S _ W hW.disk).mono fun e w' ⟨a, c, h1, h2, h3⟩ => ⟨a, c, h1, h2, hW.keep h3⟩
  have k4 : Hid (∀ W a, Mid w W N d r w.heap.size S S [.int .i64 o.kind, .int .i64 o.num, .slice na o.names.length nc, .slice pa o.parts.length pc, .slice ka o.picks.length kc] → TextsAt W a (listE S (atS o.names 1)) → Calls Try.prog 16 #[.pointer (some ⟨r, 0, none⟩), .string (atS o.names 1)] W fun e w' => ∃ a' c', e = .returned (.slice a' (listE S (atS o.names 1)).length c') ∧ TextsAt w' a (listE S (atS o.names 1)) ∧ TextsAt w' a' (listE S (atS o.names 1)) ∧ Mid w w' N d r w.heap.size S S [.int .i64 o.kind, .int .i64 o.num, .slice na o.names.length nc, .slice pa o.parts.length pc, .slice ka o.picks.length kc]) := fun W a hW ha =>
    (rlist_both N r S _ W hW.ref).mono fun e w' ⟨a', c', h1, h2, h3⟩ => ⟨a', c', h1, fun i x hx => by
      obtain ⟨g, o, e, hc⟩ := ha i x hx
      exact ⟨g, o, e, (h3.cell (cell_lt hc)).trans hc⟩, h2, hW.keep h3⟩
  have k5 : Hid (∀ W a a' c c', Mid w W N d r w.heap.size S S [.int .i64 o.kind, .int .i64 o.num, .slice na o.names.length nc, .slice pa o.parts.length pc, .slice ka o.picks.length kc] → TextsAt W a (listE S (atS o.names 1)) → TextsAt W a' (listE S (atS o.names 1)) → Calls Try.prog 15 #[.slice a (listE S (atS o.names 1)).length c, .slice a' (listE S (atS o.names 1)).length c'] W fun e w' => e = .returned (.bool true) ∧ Left w w' N d r S) := fun W a a' c c' hW h1 h2 =>
    (same_any _ (by have := list_len S (atS o.names 1); have := hP.ref.good.len; omega) a a' c c' W h1 h2).mono fun e w' ⟨j1, j2⟩ => ⟨j1, left_of hW (Nat.le_succ _) (hW.ref.below j2) (RUpd.ofBelow j2)⟩
  generalize listE S (atS o.names 1) = L at *
  generalize readV S (atS o.names 0) = RV at *
  generalize foundE S (atS o.names 0) = E at *
  have e0 : (E == E) = true := by simp
  have e1 : (RV.toList == RV.toList) = true := by simp
  have b0 : (w.alloc (.cells #[.int .i64 o.kind, .int .i64 o.num, .slice na o.names.length nc, .slice pa o.parts.length pc, .slice ka o.picks.length kc] 32)).cell? ⟨w.heap.size, 0, none⟩ = some (.int .i64 o.kind) := (holds_new w [.int .i64 o.kind, .int .i64 o.num, .slice na o.names.length nc, .slice pa o.parts.length pc, .slice ka o.picks.length kc] 32).at 0 _ rfl
  have b1 : (w.alloc (.cells #[.int .i64 o.kind, .int .i64 o.num, .slice na o.names.length nc, .slice pa o.parts.length pc, .slice ka o.picks.length kc] 32)).cell? ⟨w.heap.size, 1, none⟩ = some (.int .i64 o.num) := (holds_new w [.int .i64 o.kind, .int .i64 o.num, .slice na o.names.length nc, .slice pa o.parts.length pc, .slice ka o.picks.length kc] 32).at 1 _ rfl
  have b2 : (w.alloc (.cells #[.int .i64 o.kind, .int .i64 o.num, .slice na o.names.length nc, .slice pa o.parts.length pc, .slice ka o.picks.length kc] 32)).cell? ⟨w.heap.size, 2, none⟩ = some (.slice na o.names.length nc) := (holds_new w [.int .i64 o.kind, .int .i64 o.num, .slice na o.names.length nc, .slice pa o.parts.length pc, .slice ka o.picks.length kc] 32).at 2 _ rfl
  have b3 : (w.alloc (.cells #[.int .i64 o.kind, .int .i64 o.num, .slice na o.names.length nc, .slice pa o.parts.length pc, .slice ka o.picks.length kc] 32)).cell? ⟨w.heap.size, 3, none⟩ = some (.slice pa o.parts.length pc) := (holds_new w [.int .i64 o.kind, .int .i64 o.num, .slice na o.names.length nc, .slice pa o.parts.length pc, .slice ka o.picks.length kc] 32).at 3 _ rfl
  have b4 : (w.alloc (.cells #[.int .i64 o.kind, .int .i64 o.num, .slice na o.names.length nc, .slice pa o.parts.length pc, .slice ka o.picks.length kc] 32)).cell? ⟨w.heap.size, 4, none⟩ = some (.slice ka o.picks.length kc) := (holds_new w [.int .i64 o.kind, .int .i64 o.num, .slice na o.names.length nc, .slice pa o.parts.length pc, .slice ka o.picks.length kc] 32).at 4 _ rfl
  clear ho hP hC
  generalize atS o.names 0 = A0 at *
  generalize atS o.names 1 = A1 at *
  rcases htk with rfl | rfl
  all_goals
    go_enter Try.func7, Try.ntmps7
    go_wp2_with (first
      | (go_at_call 15; refine (k5.out _ _ _ _ _ m6 t6 t6').mono ?_; rintro e w7 ⟨rfl, l7⟩)
      | (go_at_call 16; refine (k4.out _ _ m5 t5).mono ?_; rintro e w6 ⟨a', c', rfl, t6, t6', m6⟩)
      | (go_at_call 14; refine (k3.out _ m4).mono ?_; rintro e w5 ⟨a, c, rfl, t5, m5⟩)
      | (go_at_call 18; refine (k2.out _ m3).mono ?_; rintro e w4 ⟨rfl, m4⟩)
      | (go_at_call 17; refine k1.out.mono ?_; rintro e w3 ⟨rfl, m3⟩)
      | (go_at_call_of 25 (Value.int IntKind.i64 1); refine hat1.out.mono ?_; rintro e w2 ⟨rfl, e2⟩; subst e2)
      | (go_at_call 25; refine hat0.out.mono ?_; rintro e w2 ⟨rfl, e2⟩; subst e2))
    go_ret
    exact ⟨rfl, l7⟩
end Go.Proofs.Ythaknjbcmflegaa
