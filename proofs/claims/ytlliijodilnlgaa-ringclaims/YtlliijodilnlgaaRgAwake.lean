/- The law's awake: the document's own answers. -/
import Derived.Test.YtlliijodilnlgaaRgLit
import Derived.Deep.RegionHeld3
import Derived.Deep.RegionWith
namespace Go.Proofs.Ytlliijodilnlgaa
open Go.RowKit

def n1 : Value := .int .i64 1
theorem ints_lit (w : World) (l : List Int) (g : Nat) (hg : Holds w g (intV l) 3) : Ints w.heap.size w (.slice (some ⟨g, 0, none⟩) l.length l.length) l :=
  ⟨_, _, rfl, Nat.le_refl _, Or.inr ⟨g, 0, rfl, hg.lt, fun j hj => by rw [Nat.zero_add]; exact hg.at j _ (intV_at l j hj)⟩⟩
/-- a row that is told, by its cells. -/
theorem row_cells {w : World} {base e size : Nat} {v : Value} {n : Nat} {xs : List Value} (h : w.ownsRow base e size v n xs) (hn : 0 < n) : ∃ g c, v = .slice (some ⟨g, 0, none⟩) n c ∧ base ≤ g ∧ g < w.heap.size ∧ ∀ j, j < n * size → w.cell? ⟨g, j, none⟩ = xs[j]? := by
  rcases h.2 with ⟨_, h0⟩ | ⟨g, cap, cur, rfl, hb, hg, _⟩
  · omega
  · exact ⟨g, cap, rfl, hb, (Array.getElem?_eq_some_iff.1 hg).1, fun j hj => h.cellAt j hj⟩
theorem eq_lit (W : World) : (Op.equalIn 10000 23 (.agg #[.int .i64 1, .int .i64 1, .int .i64 1, .int .i64 2, .int .i64 2, .int .i64 2, .int .i64 3, .int .i64 3]) (.agg #[.int .i64 1, .int .i64 1, .int .i64 1, .int .i64 2, .int .i64 2, .int .i64 2, .int .i64 3, .int .i64 3])).run Try.prog W = .ok true W := by kernel_rfl
theorem cells8 {W : World} {N : Nat} (h : Holds W N (intV [1, 2, 3, 1, 2, 3, 1, 2]) 23) : W.cell? ⟨N, 0, none⟩ = some (.int .i64 1) ∧ W.cell? ⟨N, 1, none⟩ = some (.int .i64 2) ∧ W.cell? ⟨N, 2, none⟩ = some (.int .i64 3) ∧ W.cell? ⟨N, 3, none⟩ = some (.int .i64 1) ∧ W.cell? ⟨N, 4, none⟩ = some (.int .i64 2) ∧ W.cell? ⟨N, 5, none⟩ = some (.int .i64 3) ∧ W.cell? ⟨N, 6, none⟩ = some (.int .i64 1) ∧ W.cell? ⟨N, 7, none⟩ = some (.int .i64 2) :=
  ⟨h.at 0 _ rfl, h.at 1 _ rfl, h.at 2 _ rfl, h.at 3 _ rfl, h.at 4 _ rfl, h.at 5 _ rfl, h.at 6 _ rfl, h.at 7 _ rfl⟩
set_option maxHeartbeats 4000000 in
theorem awake_any (w : World) : Calls Try.prog 7 #[] w fun e w' => e = .returned (.bool true) ∧ Below w.heap.size w w' := by
  obtain ⟨N, hN⟩ : ∃ N, w.heap.size = N := ⟨_, rfl⟩
  rw [hN]
  have HP : Hid (∀ W, Calls Try.prog 15 #[.agg #[.int .i64 1, .int .i64 2, .int .i64 3, .int .i64 1, .int .i64 2, .int .i64 3, .int .i64 1, .int .i64 2], .int .i64 2, .int .i64 3] W fun e w' => ∃ v, e = .returned v ∧ Ints w'.heap.size w' v [3, 1, 2] ∧ Below W.heap.size W w') := fun W => by
    have := primaries_any [1, 2, 3, 1, 2, 3, 1, 2] rfl 2 3 W
    rw [lit_prim] at this
    exact this
  have HS : Hid (∀ W g, Holds W g (intV [1, 3, 4]) 3 → Calls Try.prog 14 #[.agg #[.int .i64 1, .int .i64 2, .int .i64 3, .int .i64 4, .int .i64 1, .int .i64 2, .int .i64 3, .int .i64 4], .int .i64 0, .int .i64 3, .slice (some ⟨g, 0, none⟩) 3 3] W fun e w' => ∃ v, e = .returned v ∧ w'.ownsRow W.heap.size 43 2 v 3 (tgtV [(1, 1), (4, 2), (3, 3)]) ∧ Below W.heap.size W w') := fun W g hg => by
    have := sloppy_any W.heap.size [1, 2, 3, 4, 1, 2, 3, 4] rfl 0 3 _ [1, 3, 4] W (ints_lit W _ g hg) (Nat.le_refl _) (by decide)
    rw [lit_slop] at this
    exact this
  have HC4 : Hid (∀ W g, Holds W g (intV [1, 2, 3, 4]) 3 → Calls Try.prog 10 #[.agg #[.int .i64 1, .int .i64 2, .int .i64 3, .int .i64 1, .int .i64 2, .int .i64 3, .int .i64 1, .int .i64 2], .slice (some ⟨g, 0, none⟩) 4 4] W fun e w' => e = .returned (.agg #[.int .i64 1, .int .i64 2, .int .i64 3, .int .i64 1, .int .i64 2, .int .i64 3, .int .i64 4, .int .i64 4]) ∧ Below W.heap.size W w') := fun W g hg => by
    have := claim_any W.heap.size [1, 2, 3, 1, 2, 3, 1, 2] rfl _ [1, 2, 3, 4] W (ints_lit W _ g hg) (Nat.le_refl _) (by decide)
    rw [lit_claim4] at this
    exact this
  have HT : Hid (∀ W, Calls Try.prog 8 #[.agg #[.int .i64 1, .int .i64 2, .int .i64 3, .int .i64 1, .int .i64 2, .int .i64 3, .int .i64 1, .int .i64 2], .agg #[.int .i64 1, .int .i64 2, .int .i64 3, .int .i64 1, .int .i64 2, .int .i64 3, .int .i64 4, .int .i64 4]] W fun e w' => ∃ v, e = .returned v ∧ w'.ownsRow W.heap.size 29 3 v 2 (mvV [(6, 1, 4), (7, 2, 4)]) ∧ Below W.heap.size W w') := fun W => by
    have := transfers_any [1, 2, 3, 1, 2, 3, 1, 2] [1, 2, 3, 1, 2, 3, 4, 4] rfl rfl W
    rw [lit_mov] at this
    exact this
  go_enter Try.func7, Try.ntmps7
  go_wp2_with (first
    | (refine wpList_alloc_new 1 rfl rfl 23 rfl N hN _ zero23 ?_; intro w1 h1)
    | (refine wpList_store_all rfl 23 (.tmp 1) (.tmp 5) rfl N rfl (intV [1, 2, 3, 1, 2, 3, 1, 2]) rfl 23 _ h1.holds (by rw [siz23]; rfl) rfl (intV_one _) ?_; intro wa ha)
    | (refine wpList_load_all rfl 23 _ rfl _ rfl 23 (intV [1, 2, 3, 1, 2, 3, 1, 2]) 8 3 ha.holds und23 (by rw [siz23]; rfl) ?_)
    | (go_at_call 15; refine (HP.out wa).mono ?_; rintro e w2 ⟨v2, rfl, I2, b2⟩)
    | (go_at_call 14; refine (HS.out _ _ (heap_alloc_new w2 _)).mono ?_; rintro e w4 ⟨v4, rfl, O4, b4⟩))
  have hz1 : wa.heap.size = N + 1 := by rw [ha.size, h1.size]
  have H4 : Holds w4 N (intV [1, 2, 3, 1, 2, 3, 1, 2]) 23 := ((ha.holds.below b2 (by omega)).alloc _).below b4 (by have := b2.size; simp; omega)
  have B4 : Below N w w4 := ((h1.below.trans (ha.below (Nat.le_refl _))).trans (b2.mono (by omega))).trans ((((Below.refl N w2).alloc (by have := b2.size; omega) _)).trans (b4.mono (by have := b2.size; simp; omega)))
  have hs4 : N < w4.heap.size := H4.lt
  obtain ⟨c0, c1, c2, c3, c4, c5, c6, c7⟩ := cells8 H4
  have HI2 : Hid (Ints w2.heap.size w2 v2 [3, 1, 2]) := I2
  have HO4 : Hid (w4.ownsRow (w2.alloc _).heap.size 43 2 v4 3 (tgtV [(1, 1), (4, 2), (3, 3)])) := O4
  have HB4 : Hid (Below N w w4) := B4
  have HH4 : Hid (Holds w4 N (intV [1, 2, 3, 1, 2, 3, 1, 2]) 23) := H4
  clear I2 O4 B4 H4 HP HS
  go_region_held3 (fun W => W.cell? ⟨N, 0, none⟩ = some (.int .i64 1) ∧ W.cell? ⟨N, 1, none⟩ = some (.int .i64 2) ∧ W.cell? ⟨N, 2, none⟩ = some (.int .i64 3) ∧ W.cell? ⟨N, 3, none⟩ = some (.int .i64 1) ∧ W.cell? ⟨N, 4, none⟩ = some (.int .i64 2) ∧ W.cell? ⟨N, 5, none⟩ = some (.int .i64 3) ∧ W.cell? ⟨N, 6, none⟩ = some (.int .i64 1) ∧ W.cell? ⟨N, 7, none⟩ = some (.int .i64 2))
    (first
      | exact ⟨c0, c1, c2, c3, c4, c5, c6, c7⟩
      | exact cells8 (HH4.out.alloc _)
      | exact cells8 (HH4.out.drew.alloc _)
      | exact cells8 H5
      | exact cells8 H6)
    (first
    | (go_at_call 10; refine (HC4.out _ _ ((holds_new w4 (intV [1, 2, 3, 4]) 3).drew)).mono ?_; rintro e w5 ⟨rfl, b5⟩; have H5 : Holds w5 N (intV [1, 2, 3, 1, 2, 3, 1, 2]) 23 := (HH4.out.alloc _).drew.below b5 (by simp; omega))
    | (go_at_call 8; refine (HT.out _).mono ?_; rintro e w6 ⟨v6, rfl, O6, b6⟩; have H6 : Holds w6 N (intV [1, 2, 3, 1, 2, 3, 1, 2]) 23 := H5.below b6 H5.lt))
  have z2 : N < w2.heap.size := by have := b2.size; omega
  have b24 : Below w2.heap.size w2 w4 := ((Below.refl _ w2).alloc (Nat.le_refl _) _).trans (b4.mono (by simp))
  have b45 : Below w4.heap.size w4 w5 := (((Below.refl _ w4).alloc (Nat.le_refl _) _).drew).trans (b5.mono (by simp))
  have b46 : Below w4.heap.size w4 w6 := b45.trans (b6.mono b45.size)
  have b26 : Below w2.heap.size w2 w6 := b24.trans (b46.mono b24.size)
  obtain ⟨a2, p2, rfl⟩ : ∃ a c, v2 = .slice a 3 c := HI2.out.len
  obtain ⟨g2, o2, rfl, d0⟩ := (HI2.out.below b26).cell 0 3 rfl
  obtain ⟨g2', o2', e2, d2⟩ := (HI2.out.below b26).cell 2 2 rfl
  cases e2
  rw [Nat.add_zero] at d0
  obtain ⟨g4, p4, rfl, q4, l4, d4⟩ := row_cells HO4.out (by omega)
  obtain ⟨g6, p6, rfl, q6, l6, d6⟩ := row_cells O6 (by omega)
  have e4a : w6.cell? ⟨g4, 2, none⟩ = some (.int .i64 4) := by rw [World.cell?_of_block (w := w4) (b46.block g4 l4), d4 2 (by omega)]; rfl
  have e4b : w6.cell? ⟨g4, 3, none⟩ = some (.int .i64 2) := by rw [World.cell?_of_block (w := w4) (b46.block g4 l4), d4 3 (by omega)]; rfl
  have e6a : w6.cell? ⟨g6, 0, none⟩ = some (.int .i64 6) := by rw [d6 0 (by omega)]; rfl
  have e6b : w6.cell? ⟨g6, 1, none⟩ = some (.int .i64 1) := by rw [d6 1 (by omega)]; rfl
  have e6c : w6.cell? ⟨g6, 2, none⟩ = some (.int .i64 4) := by rw [d6 2 (by omega)]; rfl
  have HC3 : Hid (∀ W g, Holds W g (intV [1, 2, 3]) 3 → Calls Try.prog 10 #[.agg #[.int .i64 0, .int .i64 0, .int .i64 0, .int .i64 0, .int .i64 0, .int .i64 0, .int .i64 0, .int .i64 0], .slice (some ⟨g, 0, none⟩) 3 3] W fun e w' => e = .returned (.agg #[.int .i64 1, .int .i64 1, .int .i64 1, .int .i64 2, .int .i64 2, .int .i64 2, .int .i64 3, .int .i64 3]) ∧ Below W.heap.size W w') := fun W g hg => by
    have := claim_any W.heap.size [0, 0, 0, 0, 0, 0, 0, 0] rfl _ [1, 2, 3] W (ints_lit W _ g hg) (Nat.le_refl _) (by decide)
    rw [lit_claim3] at this
    exact this
  have HOw : Hid (∀ W, Calls Try.prog 17 #[.agg #[.int .i64 1, .int .i64 2, .int .i64 3, .int .i64 1, .int .i64 2, .int .i64 3, .int .i64 1, .int .i64 2], .int .i64 1] W fun e w' => ∃ a c, e = .returned (.slice a 3 c) ∧ Below W.heap.size W w') := fun W => by
    have := owned_any [1, 2, 3, 1, 2, 3, 1, 2] rfl 1 W
    rw [lit_own] at this
    refine this.mono ?_
    rintro e w' ⟨v, rfl, hown, hb⟩
    obtain ⟨a, c, rfl⟩ := row_slice hown
    exact ⟨a, c, rfl, hb⟩
  have HBa : Hid (∀ W g, Holds W g (intV [1, 2, 3]) 3 → Calls Try.prog 12 #[.agg #[.int .i64 1, .int .i64 2, .int .i64 3, .int .i64 1, .int .i64 2, .int .i64 3, .int .i64 1, .int .i64 2], .slice (some ⟨g, 0, none⟩) 3 3] W fun e w' => e = .returned (.bool true) ∧ Below W.heap.size W w') := fun W g hg => by
    have := balanced_any W.heap.size [1, 2, 3, 1, 2, 3, 1, 2] rfl _ [1, 2, 3] W (ints_lit W _ g hg) (Nat.le_refl _) (by decide)
    rw [lit_bal] at this
    exact this
  have HB6 : Hid (Below N w w6) := HB4.out.trans (b46.mono (by omega))
  have HH6 : Hid (Holds w6 N (intV [1, 2, 3, 1, 2, 3, 1, 2]) 23) := H6
  have HL6 : Hid (g6 < w6.heap.size) := l6
  have HF6 : Hid (∀ W, Below w6.heap.size (w6.alloc (.cells #[.int .i64 1, .int .i64 2, .int .i64 3] 3)) W → Below w6.heap.size w6 W ∧ Holds W N (intV [1, 2, 3, 1, 2, 3, 1, 2]) 23 ∧ W.cell? ⟨g6, 0, none⟩ = some (.int .i64 6) ∧ W.cell? ⟨g6, 1, none⟩ = some (.int .i64 1) ∧ W.cell? ⟨g6, 2, none⟩ = some (.int .i64 4)) := fun W b7 => by
    have b67 : Below w6.heap.size w6 W := ((Below.refl _ w6).alloc (Nat.le_refl _) _).trans b7
    refine ⟨b67, HH6.out.below b67 HH6.out.lt, ?_, ?_, ?_⟩
    · rw [World.cell?_of_block (w := w6) (b67.block g6 HL6.out)]; exact e6a
    · rw [World.cell?_of_block (w := w6) (b67.block g6 HL6.out)]; exact e6b
    · rw [World.cell?_of_block (w := w6) (b67.block g6 HL6.out)]; exact e6c
  clear d6 d4 O6 b6 b5 b46 b45 b26 b24 b4 b2 HI2 HO4 HB4 HC4 HT H5 H6 HH4 ha h1 q4 q6 l4 l6
  have hEq := eq_lit
  go_wp2_with (first
    | (go_at_call 10; refine (HC3.out _ _ (holds_new w6 (intV [1, 2, 3]) 3)).mono ?_; rintro e w7 ⟨rfl, b7⟩; obtain ⟨b67, H7, f6a, f6b, f6c⟩ := HF6.out w7 (b7.mono (by simp)); obtain ⟨k0, k1, k2, k3, k4, k5, k6, k7⟩ := cells8 H7)
    | (go_at_call 17; refine (HOw.out w7).mono ?_; rintro e w8 ⟨a8, c8, rfl, b8⟩; have H8 := H7.below b8 H7.lt; obtain ⟨m0, m1, m2, m3, m4, m5, m6, m7⟩ := cells8 H8)
    | (go_at_call 12; refine (HBa.out _ _ (holds_new w8 (intV [1, 2, 3]) 3)).mono ?_; rintro e w9 ⟨rfl, b9⟩))
  go_ret
  have z6 : N < w6.heap.size := HH6.out.lt
  have z7 : N < w7.heap.size := H7.lt
  have z8 : N < w8.heap.size := H8.lt
  refine ⟨rfl, ((HB6.out.trans (b67.mono (by omega))).trans (b8.mono (by omega))).trans ?_⟩
  exact ((Below.refl N w8).alloc (by omega) _).trans (b9.mono (by simp; omega))
end Go.Proofs.Ytlliijodilnlgaa
