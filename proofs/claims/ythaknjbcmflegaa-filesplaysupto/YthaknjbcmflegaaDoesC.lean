/- One call of both disks, by its kind: Sync, Remove. -/
import Derived.Test.YthaknjbcmflegaaDoesA
namespace Go.Proofs.Ythaknjbcmflegaa
open Go.RowKit Go.Maps Go.WideMaps

set_option maxHeartbeats 3200000 in
set_option maxRecDepth 100000 in
theorem does_2 (N d r : Nat) (S : Dk) (o : Cl) (ho : o.Ok) (na pa ka : Option Addr) (nc pc kc : Nat) (w : World) (hP : Pair w N d r S) (hC : ClAt w N o na pa ka kc) (t : Int) (ht : Int.tmod o.kind 9 = t) (htk : t = 2 ∨ t = 2 - 9) :
    Calls Try.prog 7 #[.pointer (some ⟨d, 0, none⟩), .pointer (some ⟨r, 0, none⟩), .agg #[.int .i64 o.kind, .int .i64 o.num, .slice na o.names.length nc, .slice pa o.parts.length pc, .slice ka o.picks.length kc]] w fun e w' => e = .returned (.bool true) ∧ Left w w' N d r S := by
  have hat0 : Hid (Calls Try.prog 25 #[.slice na o.names.length nc, .int .i64 0] (w.alloc (.cells #[.int .i64 o.kind, .int .i64 o.num, .slice na o.names.length nc, .slice pa o.parts.length pc, .slice ka o.picks.length kc] 32)) fun e w' => e = .returned (.string (atS o.names 0)) ∧ w' = (w.alloc (.cells #[.int .i64 o.kind, .int .i64 o.num, .slice na o.names.length nc, .slice pa o.parts.length pc, .slice ka o.picks.length kc] 32))) := at_any N o.names 0 (by decide) na nc _ ((mid_start (d := d) hP).names hC.names)
  have hat1 : Hid (Calls Try.prog 25 #[.slice na o.names.length nc, .int .i64 1] (w.alloc (.cells #[.int .i64 o.kind, .int .i64 o.num, .slice na o.names.length nc, .slice pa o.parts.length pc, .slice ka o.picks.length kc] 32)) fun e w' => e = .returned (.string (atS o.names 1)) ∧ w' = (w.alloc (.cells #[.int .i64 o.kind, .int .i64 o.num, .slice na o.names.length nc, .slice pa o.parts.length pc, .slice ka o.picks.length kc] 32))) := at_any N o.names 1 (by decide) na nc _ ((mid_start (d := d) hP).names hC.names)
  have hs0 : (atS o.names 0).size < 9223372036854775808 := by
    unfold atS
    split
    · rename_i s hs; exact ho.names s (List.mem_of_getElem? hs)
    · decide
  have hs1 : (atS o.names 1).size < 9223372036854775808 := by
    unfold atS
    split
    · rename_i s hs; exact ho.names s (List.mem_of_getElem? hs)
    · decide
  have k1 : Hid (∀ W, Mid w W N d r w.heap.size S S [.int .i64 o.kind, .int .i64 o.num, .slice na o.names.length nc, .slice pa o.parts.length pc, .slice ka o.picks.length kc] → Calls Try.prog 20 #[.pointer (some ⟨d, 0, none⟩), .slice na o.names.length nc] W fun e w' => e = .returned (.int .i64 (eachR syncS S o.names).1) ∧ Mid w w' N d r w.heap.size S (eachR syncS S o.names).2 [.int .i64 o.kind, .int .i64 o.num, .slice na o.names.length nc, .slice pa o.parts.length pc, .slice ka o.picks.length kc]) := fun W hW =>
    (sync_all N d S o.names ho.names ho.nl na nc W hW.disk ((hW.names hC.names).strs (by have := hW.ref.lt; omega))).mono fun e w' ⟨h1, h2, h3⟩ => ⟨h1, ⟨h2, hW.ref.dupd h3, hW.low.trans (h3.below (by have := hW.ref.lt; omega)), hW.box.dupd h3 (by decide) (by decide) (by decide)⟩⟩
  have k2 : Hid (∀ W, Mid w W N d r w.heap.size S (eachR syncS S o.names).2 [.int .i64 o.kind, .int .i64 o.num, .slice na o.names.length nc, .slice pa o.parts.length pc, .slice ka o.picks.length kc] → Calls Try.prog 26 #[.pointer (some ⟨r, 0, none⟩), .slice na o.names.length nc] W fun e w' => e = .returned (.int .i64 (eachR syncS S o.names).1) ∧ Left w w' N d r S) := fun W hW =>
    (rsync_all N r S o.names ho.names ho.nl na nc W hW.ref (hW.names hC.names)).mono fun e w' ⟨h1, h2, h3⟩ => ⟨h1, left_of hW (by have := sync_len o.names S hW.ref.good; omega) h2 h3⟩
  have M0 : Hid (Mid w (w.alloc (.cells #[.int .i64 o.kind, .int .i64 o.num, .slice na o.names.length nc, .slice pa o.parts.length pc, .slice ka o.picks.length kc] 32)) N d r w.heap.size S S [.int .i64 o.kind, .int .i64 o.num, .slice na o.names.length nc, .slice pa o.parts.length pc, .slice ka o.picks.length kc]) := mid_start hP
  have M1 : Hid (Mid w (w.alloc (.cells #[.int .i64 o.kind, .int .i64 o.num, .slice na o.names.length nc, .slice pa o.parts.length pc, .slice ka o.picks.length kc] 32)).drew N d r w.heap.size S S [.int .i64 o.kind, .int .i64 o.num, .slice na o.names.length nc, .slice pa o.parts.length pc, .slice ka o.picks.length kc]) := (mid_start hP).keep (Below.drew (Below.refl _ _))
  generalize eachR syncS S o.names = X at *
  obtain ⟨E, S1⟩ := X
  have e0 : (E == E) = true := by simp
  have b0 : (w.alloc (.cells #[.int .i64 o.kind, .int .i64 o.num, .slice na o.names.length nc, .slice pa o.parts.length pc, .slice ka o.picks.length kc] 32)).cell? ⟨w.heap.size, 0, none⟩ = some (.int .i64 o.kind) := (holds_new w [.int .i64 o.kind, .int .i64 o.num, .slice na o.names.length nc, .slice pa o.parts.length pc, .slice ka o.picks.length kc] 32).at 0 _ rfl
  have b1 : (w.alloc (.cells #[.int .i64 o.kind, .int .i64 o.num, .slice na o.names.length nc, .slice pa o.parts.length pc, .slice ka o.picks.length kc] 32)).cell? ⟨w.heap.size, 1, none⟩ = some (.int .i64 o.num) := (holds_new w [.int .i64 o.kind, .int .i64 o.num, .slice na o.names.length nc, .slice pa o.parts.length pc, .slice ka o.picks.length kc] 32).at 1 _ rfl
  have b2 : (w.alloc (.cells #[.int .i64 o.kind, .int .i64 o.num, .slice na o.names.length nc, .slice pa o.parts.length pc, .slice ka o.picks.length kc] 32)).cell? ⟨w.heap.size, 2, none⟩ = some (.slice na o.names.length nc) := (holds_new w [.int .i64 o.kind, .int .i64 o.num, .slice na o.names.length nc, .slice pa o.parts.length pc, .slice ka o.picks.length kc] 32).at 2 _ rfl
  have b3 : (w.alloc (.cells #[.int .i64 o.kind, .int .i64 o.num, .slice na o.names.length nc, .slice pa o.parts.length pc, .slice ka o.picks.length kc] 32)).cell? ⟨w.heap.size, 3, none⟩ = some (.slice pa o.parts.length pc) := (holds_new w [.int .i64 o.kind, .int .i64 o.num, .slice na o.names.length nc, .slice pa o.parts.length pc, .slice ka o.picks.length kc] 32).at 3 _ rfl
  have b4 : (w.alloc (.cells #[.int .i64 o.kind, .int .i64 o.num, .slice na o.names.length nc, .slice pa o.parts.length pc, .slice ka o.picks.length kc] 32)).cell? ⟨w.heap.size, 4, none⟩ = some (.slice ka o.picks.length kc) := (holds_new w [.int .i64 o.kind, .int .i64 o.num, .slice na o.names.length nc, .slice pa o.parts.length pc, .slice ka o.picks.length kc] 32).at 4 _ rfl
  clear ho hP hC
  generalize atS o.names 0 = A0 at *
  generalize atS o.names 1 = A1 at *
  rcases htk with rfl | rfl
  all_goals
    go_enter Try.func7, Try.ntmps7
    go_wp2_with (first
      | (go_at_call_of 25 (Value.int IntKind.i64 1); refine hat1.out.mono ?_; rintro e w2 ⟨rfl, e2⟩; subst e2)
      | (go_at_call 25; refine hat0.out.mono ?_; rintro e w2 ⟨rfl, e2⟩; subst e2))
    go_region_with (first
      | (go_at_call 26; refine (k2.out _ m3).mono ?_; rintro e w4 ⟨rfl, l4⟩)
      | (go_at_call 20; refine (k1.out _ M1.out).mono ?_; rintro e w3 ⟨rfl, m3⟩; have y2 := m3.box.at 2 _ rfl))
    all_goals
      go_wp2
      go_ret
      exact ⟨rfl, l4⟩

set_option maxHeartbeats 3200000 in
set_option maxRecDepth 100000 in
theorem does_4 (N d r : Nat) (S : Dk) (o : Cl) (ho : o.Ok) (na pa ka : Option Addr) (nc pc kc : Nat) (w : World) (hP : Pair w N d r S) (hC : ClAt w N o na pa ka kc) (t : Int) (ht : Int.tmod o.kind 9 = t) (htk : t = 4 ∨ t = 4 - 9) :
    Calls Try.prog 7 #[.pointer (some ⟨d, 0, none⟩), .pointer (some ⟨r, 0, none⟩), .agg #[.int .i64 o.kind, .int .i64 o.num, .slice na o.names.length nc, .slice pa o.parts.length pc, .slice ka o.picks.length kc]] w fun e w' => e = .returned (.bool true) ∧ Left w w' N d r S := by
  have hat0 : Hid (Calls Try.prog 25 #[.slice na o.names.length nc, .int .i64 0] (w.alloc (.cells #[.int .i64 o.kind, .int .i64 o.num, .slice na o.names.length nc, .slice pa o.parts.length pc, .slice ka o.picks.length kc] 32)) fun e w' => e = .returned (.string (atS o.names 0)) ∧ w' = (w.alloc (.cells #[.int .i64 o.kind, .int .i64 o.num, .slice na o.names.length nc, .slice pa o.parts.length pc, .slice ka o.picks.length kc] 32))) := at_any N o.names 0 (by decide) na nc _ ((mid_start (d := d) hP).names hC.names)
  have hat1 : Hid (Calls Try.prog 25 #[.slice na o.names.length nc, .int .i64 1] (w.alloc (.cells #[.int .i64 o.kind, .int .i64 o.num, .slice na o.names.length nc, .slice pa o.parts.length pc, .slice ka o.picks.length kc] 32)) fun e w' => e = .returned (.string (atS o.names 1)) ∧ w' = (w.alloc (.cells #[.int .i64 o.kind, .int .i64 o.num, .slice na o.names.length nc, .slice pa o.parts.length pc, .slice ka o.picks.length kc] 32))) := at_any N o.names 1 (by decide) na nc _ ((mid_start (d := d) hP).names hC.names)
  have hs0 : (atS o.names 0).size < 9223372036854775808 := by
    unfold atS
    split
    · rename_i s hs; exact ho.names s (List.mem_of_getElem? hs)
    · decide
  have hs1 : (atS o.names 1).size < 9223372036854775808 := by
    unfold atS
    split
    · rename_i s hs; exact ho.names s (List.mem_of_getElem? hs)
    · decide
  have k1 : Hid (∀ W, Mid w W N d r w.heap.size S S [.int .i64 o.kind, .int .i64 o.num, .slice na o.names.length nc, .slice pa o.parts.length pc, .slice ka o.picks.length kc] → Calls Try.prog 22 #[.pointer (some ⟨d, 0, none⟩), .slice na o.names.length nc] W fun e w' => e = .returned (.int .i64 (eachR dropS S o.names).1) ∧ Mid w w' N d r w.heap.size S (eachR dropS S o.names).2 [.int .i64 o.kind, .int .i64 o.num, .slice na o.names.length nc, .slice pa o.parts.length pc, .slice ka o.picks.length kc]) := fun W hW =>
    (remove_all N d S o.names ho.names ho.nl na nc W hW.disk ((hW.names hC.names).strs (by have := hW.ref.lt; omega))).mono fun e w' ⟨h1, h2, h3⟩ => ⟨h1, ⟨h2, hW.ref.dupd h3, hW.low.trans (h3.below (by have := hW.ref.lt; omega)), hW.box.dupd h3 (by decide) (by decide) (by decide)⟩⟩
  have k2 : Hid (∀ W, Mid w W N d r w.heap.size S (eachR dropS S o.names).2 [.int .i64 o.kind, .int .i64 o.num, .slice na o.names.length nc, .slice pa o.parts.length pc, .slice ka o.picks.length kc] → Calls Try.prog 28 #[.pointer (some ⟨r, 0, none⟩), .slice na o.names.length nc] W fun e w' => e = .returned (.int .i64 (eachR dropS S o.names).1) ∧ Left w w' N d r S) := fun W hW =>
    (rremove_all N r S o.names ho.names ho.nl na nc W hW.ref (hW.names hC.names)).mono fun e w' ⟨h1, h2, h3⟩ => ⟨h1, left_of hW (by have := drop_len o.names S hW.ref.good; omega) h2 h3⟩
  have M0 : Hid (Mid w (w.alloc (.cells #[.int .i64 o.kind, .int .i64 o.num, .slice na o.names.length nc, .slice pa o.parts.length pc, .slice ka o.picks.length kc] 32)) N d r w.heap.size S S [.int .i64 o.kind, .int .i64 o.num, .slice na o.names.length nc, .slice pa o.parts.length pc, .slice ka o.picks.length kc]) := mid_start hP
  have M1 : Hid (Mid w (w.alloc (.cells #[.int .i64 o.kind, .int .i64 o.num, .slice na o.names.length nc, .slice pa o.parts.length pc, .slice ka o.picks.length kc] 32)).drew N d r w.heap.size S S [.int .i64 o.kind, .int .i64 o.num, .slice na o.names.length nc, .slice pa o.parts.length pc, .slice ka o.picks.length kc]) := (mid_start hP).keep (Below.drew (Below.refl _ _))
  generalize eachR dropS S o.names = X at *
  obtain ⟨E, S1⟩ := X
  have e0 : (E == E) = true := by simp
  have b0 : (w.alloc (.cells #[.int .i64 o.kind, .int .i64 o.num, .slice na o.names.length nc, .slice pa o.parts.length pc, .slice ka o.picks.length kc] 32)).cell? ⟨w.heap.size, 0, none⟩ = some (.int .i64 o.kind) := (holds_new w [.int .i64 o.kind, .int .i64 o.num, .slice na o.names.length nc, .slice pa o.parts.length pc, .slice ka o.picks.length kc] 32).at 0 _ rfl
  have b1 : (w.alloc (.cells #[.int .i64 o.kind, .int .i64 o.num, .slice na o.names.length nc, .slice pa o.parts.length pc, .slice ka o.picks.length kc] 32)).cell? ⟨w.heap.size, 1, none⟩ = some (.int .i64 o.num) := (holds_new w [.int .i64 o.kind, .int .i64 o.num, .slice na o.names.length nc, .slice pa o.parts.length pc, .slice ka o.picks.length kc] 32).at 1 _ rfl
  have b2 : (w.alloc (.cells #[.int .i64 o.kind, .int .i64 o.num, .slice na o.names.length nc, .slice pa o.parts.length pc, .slice ka o.picks.length kc] 32)).cell? ⟨w.heap.size, 2, none⟩ = some (.slice na o.names.length nc) := (holds_new w [.int .i64 o.kind, .int .i64 o.num, .slice na o.names.length nc, .slice pa o.parts.length pc, .slice ka o.picks.length kc] 32).at 2 _ rfl
  have b3 : (w.alloc (.cells #[.int .i64 o.kind, .int .i64 o.num, .slice na o.names.length nc, .slice pa o.parts.length pc, .slice ka o.picks.length kc] 32)).cell? ⟨w.heap.size, 3, none⟩ = some (.slice pa o.parts.length pc) := (holds_new w [.int .i64 o.kind, .int .i64 o.num, .slice na o.names.length nc, .slice pa o.parts.length pc, .slice ka o.picks.length kc] 32).at 3 _ rfl
  have b4 : (w.alloc (.cells #[.int .i64 o.kind, .int .i64 o.num, .slice na o.names.length nc, .slice pa o.parts.length pc, .slice ka o.picks.length kc] 32)).cell? ⟨w.heap.size, 4, none⟩ = some (.slice ka o.picks.length kc) := (holds_new w [.int .i64 o.kind, .int .i64 o.num, .slice na o.names.length nc, .slice pa o.parts.length pc, .slice ka o.picks.length kc] 32).at 4 _ rfl
  clear ho hP hC
  generalize atS o.names 0 = A0 at *
  generalize atS o.names 1 = A1 at *
  rcases htk with rfl | rfl
  all_goals
    go_enter Try.func7, Try.ntmps7
    go_wp2_with (first
      | (go_at_call_of 25 (Value.int IntKind.i64 1); refine hat1.out.mono ?_; rintro e w2 ⟨rfl, e2⟩; subst e2)
      | (go_at_call 25; refine hat0.out.mono ?_; rintro e w2 ⟨rfl, e2⟩; subst e2))
    go_region_with (first
      | (go_at_call 28; refine (k2.out _ m3).mono ?_; rintro e w4 ⟨rfl, l4⟩)
      | (go_at_call 22; refine (k1.out _ M1.out).mono ?_; rintro e w3 ⟨rfl, m3⟩; have y2 := m3.box.at 2 _ rfl))
    all_goals
      go_wp2
      go_ret
      exact ⟨rfl, l4⟩
end Go.Proofs.Ythaknjbcmflegaa
