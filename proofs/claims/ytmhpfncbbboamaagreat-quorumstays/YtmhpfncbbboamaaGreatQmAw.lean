/- awake (8) tells true. -/
import Derived.Test.YtmhpfncbbboamaaGreatQmAwP
namespace Go.Proofs.YtmhpfncbbboamaaGreat
open Go.RowKit Go.Maps

def S1 : Ses := [(1, 1, 0), (4, 2, 1), (3, 3, 0)]
def S2 : Ses := [(1, 1, 0), (4, 2, 1), (3, 3, 1)]
def U1 : Ses := [(1, 1, 0), (4, 2, 0), (3, 3, 2)]
def R1 : Ses := [(1, 1, 1), (4, 2, 0), (3, 3, 0)]
def R2 : Ses := [(1, 1, 1), (4, 2, 0), (3, 3, 1)]
theorem cell_keep {w w' : World} {g k : Nat} {v : Value} (h : w.cell? ⟨g, k, none⟩ = some v) (hg : Gr w w') : w'.cell? ⟨g, k, none⟩ = some v := by
  by_cases hlt : g < w.heap.size
  · exact (World.cell?_of_block (a := ⟨g, k, none⟩) (Below.block hg g hlt)).trans h
  · exfalso
    have : w.heap[g]? = none := Array.getElem?_eq_none (by omega)
    simp [World.cell?, this] at h
theorem i64_of (x : Int) (h : -9 ≤ x ∧ x ≤ 9) : I64 x := by unfold I64; omega
set_option maxRecDepth 100000 in
set_option maxHeartbeats 4000000 in
theorem awake_any (w : World) : Calls Tryz.prog 8 #[] w fun e w' => e = .returned (.bool true) ∧ Gr w w' := by
  have c18 : Hid (∀ W, Calls Tryz.prog 18 #[] W fun e w' => ∃ a n c, e = .returned (.slice a n c) ∧ Hid (TgAt w'.heap.size w' (.slice a n c) threeL ∧ Gr W w')) := fun W => (three_any W).mono fun e w' ⟨v, e1, e2, e3⟩ => by
    obtain ⟨a, c, rfl⟩ := e2.len
    exact ⟨_, _, _, e1, e2, e3⟩
  have n15 : Hid (∀ W v, TgAt W.heap.size W v threeL → Gr w W → Calls Tryz.prog 15 #[v, .int .i64 2, .int .i64 1] W fun e w' => ∃ bt, e = .returned (.pointer (some ⟨bt, 0, none⟩)) ∧ Hid (AwT w w' bt S0)) := fun W v h g => aw_new g h
  have y4 : Hid (∀ W bt, AwT w W bt S0 → Calls Tryz.prog 10 #[.pointer (some ⟨bt, 0, none⟩), .slice (some ⟨W.heap.size, 0, none⟩) 1 1] (W.alloc (.cells #[.int .i64 4] 3)) fun e w' => e = .returned (.bool true) ∧ Hid (AwT w w' bt S1)) := fun W bt h => aw_yes (h.gr al1) W.heap.size 4 (i64_of 4 (by decide)) ((holds_new W [.int .i64 4] 3).at 0 _ rfl)
  have v0 : Hid (∀ W bt, AwT w W bt S1 → Calls Tryz.prog 9 #[.pointer (some ⟨bt, 0, none⟩)] W fun e w' => e = .returned (.int .i64 0) ∧ Hid (AwT w w' bt S1)) := fun W bt h => aw_ver h
  have y5 : Hid (∀ W bt, AwT w W bt S1 → Calls Tryz.prog 10 #[.pointer (some ⟨bt, 0, none⟩), .slice (some ⟨W.heap.size, 0, none⟩) 1 1] (W.alloc (.cells #[.int .i64 4] 3)) fun e w' => e = .returned (.bool false) ∧ Hid (AwT w w' bt S1)) := fun W bt h => aw_yes (h.gr al1) W.heap.size 4 (i64_of 4 (by decide)) ((holds_new W [.int .i64 4] 3).at 0 _ rfl)
  have y3 : Hid (∀ W bt, AwT w W bt S1 → Calls Tryz.prog 10 #[.pointer (some ⟨bt, 0, none⟩), .slice (some ⟨W.heap.size, 0, none⟩) 1 1] (W.alloc (.cells #[.int .i64 3] 3)) fun e w' => e = .returned (.bool true) ∧ Hid (AwT w w' bt S2)) := fun W bt h => aw_yes (h.gr al1) W.heap.size 3 (i64_of 3 (by decide)) ((holds_new W [.int .i64 3] 3).at 0 _ rfl)
  have n22 : Hid (∀ W v bt, TgAt W.heap.size W v threeL → AwT w W bt S2 → Calls Tryz.prog 15 #[v, .int .i64 2, .int .i64 2] W fun e w' => ∃ bu, e = .returned (.pointer (some ⟨bu, 0, none⟩)) ∧ Hid (AwU w w' bt S2 bu S0)) := fun W v bt h g => aw_newU g h
  have n3 : Hid (∀ W bt bu, AwU w W bt S2 bu S0 → Calls Tryz.prog 11 #[.pointer (some ⟨bu, 0, none⟩), .slice (some ⟨W.heap.size, 0, none⟩) 1 1] (W.alloc (.cells #[.int .i64 3] 3)) fun e w' => e = .returned (.bool true) ∧ Hid (AwU w w' bt S2 bu U1)) := fun W bt bu h => aw_no (h.gr al1) W.heap.size 3 (i64_of 3 (by decide)) ((holds_new W [.int .i64 3] 3).at 0 _ rfl)
  have n19 : Hid (∀ W v bt bu, TgAt W.heap.size W v threeL → AwU w W bt S2 bu U1 → Calls Tryz.prog 19 #[v, .int .i64 2, .int .i64 1] W fun e w' => ∃ br, e = .returned (.pointer (some ⟨br, 0, none⟩)) ∧ Hid (AwN w w' bt S2 bu U1 br S0)) := fun W v bt bu h g => aw_newR g h
  have c21 : Hid (∀ W, Calls Tryz.prog 21 #[.int .i64 2] W fun e w' => e = .returned E38 ∧ Hid (Gr W w')) := cnew_any
  have g20 : Hid (∀ W bt bu br, AwN w W bt S2 bu U1 br S0 → Calls Tryz.prog 20 #[.pointer (some ⟨br, 0, none⟩), .int .i64 1, E38] W fun e w' => e = .returned (.bool true) ∧ Hid (AwR w w' bt S2 bu U1 br R1 1)) := fun W bt bu br h => aw_got h 1 (i64_of 1 (by decide)) rfl
  have o14 : Hid (∀ W bt bu br, AwR w W bt S2 bu U1 br R1 1 → Calls Tryz.prog 14 #[.pointer (some ⟨br, 0, none⟩), .int .i64 3] W fun e w' => e = .returned (.bool true) ∧ Hid (AwR w w' bt S2 bu U1 br R2 1)) := fun W bt bu br h => aw_none h 3 (i64_of 3 (by decide))
  have p13 : Hid (∀ W bt bu br, AwR w W bt S2 bu U1 br R2 1 → Calls Tryz.prog 13 #[.pointer (some ⟨br, 0, none⟩)] W fun e w' => ∃ g cap, e = .returned (.slice (some ⟨g, 0, none⟩) 1 cap) ∧ Hid (w'.cell? ⟨g, 0, none⟩ = some (.int .i64 3) ∧ AwR w w' bt S2 bu U1 br R2 1)) := fun W bt bu br h => aw_rep h rfl (by decide) (i64_of 1 (by decide)) (i64_of 3 (by decide))
  have vT : Hid (∀ W bt bu br, AwR w W bt S2 bu U1 br R2 1 → Calls Tryz.prog 9 #[.pointer (some ⟨bt, 0, none⟩)] W fun e w' => e = .returned (.int .i64 1) ∧ Hid (Gr W w' ∧ AwR w w' bt S2 bu U1 br R2 1)) := fun W bt bu br h => aw_verT h
  have vU : Hid (∀ W bt bu br, AwR w W bt S2 bu U1 br R2 1 → Calls Tryz.prog 9 #[.pointer (some ⟨bu, 0, none⟩)] W fun e w' => e = .returned (.int .i64 2) ∧ Hid (Gr W w' ∧ AwR w w' bt S2 bu U1 br R2 1)) := fun W bt bu br h => aw_verU h
  have z15 : Hid (∀ W, Calls Tryz.prog 15 #[.slice none 0 0, .int .i64 0, .int .i64 0] W fun e w' => ∃ b, e = .returned (.pointer (some ⟨b, 0, none⟩)) ∧ Hid (TyAt W.heap.size w'.heap.size [] 30 0 0 w' b [] ∧ Gr W w')) := aw_zero
  have z9 : Hid (∀ W n h b, TyAt n h [] 30 0 0 W b [] → Calls Tryz.prog 9 #[.pointer (some ⟨b, 0, none⟩)] W fun e w' => e = .returned (.int .i64 1) ∧ Hid (Gr W w')) := fun W n h b ht => verdict_any ht
  go_enter Tryz.func8, Tryz.ntmps8
  go_upto_region 14 with (first
    | (go_at_call 18; refine (c18.out _).mono ?_; first | (rintro e w10 ⟨a10, m10, k10, rfl, t10⟩; have h10 : Hid (AwU w w10 bt S2 bu U1) := h9.out.gr t10.out.2; have t10' : Hid (TgAt w10.heap.size w10 (.slice a10 m10 k10) threeL) := t10.out.1; clear h9 t10 c18) | (rintro e w7 ⟨a7, m7, k7, rfl, t7⟩; have h7 : Hid (AwT w w7 bt S2) := h6.out.gr t7.out.2; have t7' : Hid (TgAt w7.heap.size w7 (.slice a7 m7 k7) threeL) := t7.out.1; clear h6 t7) | (rintro e w1 ⟨a1, m1, k1, rfl, t1⟩))
    | (go_at_call 15; refine (n15.out _ _ t1.out.1 t1.out.2).mono ?_; rintro e w2 ⟨bt, rfl, h2⟩; clear t1 n15)
    | (go_at_call 10; refine (y4.out _ _ h2.out).mono ?_; rintro e w3 ⟨rfl, h3⟩; clear h2 y4)
    | (go_at_call 9; refine (v0.out _ _ h3.out).mono ?_; rintro e w4 ⟨rfl, h4⟩; clear h3 v0)
    | (go_at_call 10; refine (y5.out _ _ h4.out).mono ?_; rintro e w5 ⟨rfl, h5⟩; clear h4 y5)
    | (go_at_call 10; refine (y3.out _ _ h5.out).mono ?_; rintro e w6 ⟨rfl, h6⟩; clear h5 y3)
    | (go_at_call 15; refine (n22.out _ _ _ t7'.out h7.out).mono ?_; rintro e w8 ⟨bu, rfl, h8⟩; clear h7 t7' n22)
    | (go_at_call 11; refine (n3.out _ _ _ h8.out).mono ?_; rintro e w9 ⟨rfl, h9⟩; clear h8 n3)
    | (go_at_call 19; refine (n19.out _ _ _ _ t10'.out h10.out).mono ?_; rintro e w11 ⟨br, rfl, h11⟩; clear h10 t10' n19)
    | (go_at_call 21; refine (c21.out _).mono ?_; rintro e w13 ⟨rfl, g13⟩; have h13 : Hid (AwN w w13 bt S2 bu U1 br S0) := h11.out.gr g13.out; clear h11 g13 c21)
    | (go_at_call 20; refine (g20.out _ _ _ _ h13.out).mono ?_; rintro e w14 ⟨rfl, h14⟩; clear h13 g20)
    | (go_at_call 14; refine (o14.out _ _ _ _ h14.out).mono ?_; rintro e w15 ⟨rfl, h15⟩; clear h14 o14)
    | (go_at_call 13; refine (p13.out _ _ _ _ h15.out).mono ?_; rintro e w16 ⟨gl, cl, rfl, h16⟩; clear h15 p13))
  go_wp2_with (first
    | (go_at_call 9; refine (vT.out _ _ _ _ h16.out.2).mono ?_; rintro e w17 ⟨rfl, h17⟩; have k17 : Hid (w17.cell? ⟨gl, 0, none⟩ = some (.int .i64 3)) := cell_keep h16.out.1 h17.out.1; clear h16 vT)
    | (go_at_call 9; refine (vU.out _ _ _ _ h17.out.2).mono ?_; rintro e w18 ⟨rfl, h18⟩; have k18 := cell_keep k17.out h18.out.1; have b18 : Hid (Gr w w18) := h18.out.2.elim fun _ ⟨_, _, _, _, q⟩ => q.2.2.2.2.2.2; clear h17 k17 vU h18)
    | (go_at_call 15; refine (z15.out _).mono ?_; rintro e w19 ⟨bz, rfl, h19⟩; have b19 : Hid (Gr w w19) := b18.out.trans h19.out.2; clear b18 z15 k18)
    | (go_at_call 9; refine (z9.out _ _ _ _ h19.out.1).mono ?_; rintro e w20 ⟨rfl, g20'⟩; have b20 : Hid (Gr w w20) := b19.out.trans g20'.out; clear h19 z9 b19 g20'))
  go_ret
  exact ⟨rfl, b20.out⟩
end Go.Proofs.YtmhpfncbbboamaaGreat
