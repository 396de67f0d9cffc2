/- together (42) of two stores of nothing. -/
import Derived.Test.YtmhpfncbbboamaaGreatQmNorm
namespace Go.Proofs.YtmhpfncbbboamaaGreat
open Go.RowKit

structure Pair36 (N : Nat) (w W : World) : Prop where
  b0 : Holds W N C36 36
  b1 : Holds W (N + 1) C36 36
  lo : Below N w W
theorem pair_made (w : World) : Pair36 w.heap.size w ((w.alloc (.cells #[.slice none 0 0, .slice none 0 0] 36)).alloc (.cells #[.slice none 0 0, .slice none 0 0] 36)) :=
  ⟨(holds_new w C36 36).alloc _, new2, al2⟩
theorem Pair36.more {N : Nat} {w W W' : World} (h : Pair36 N w W) (hg : Gr W W') : Pair36 N w W' :=
  ⟨h.b0.below hg h.b0.lt, h.b1.below hg h.b1.lt, h.lo.trans (Below.mono hg (by have := h.b0.lt; omega))⟩
theorem Pair36.set {N : Nat} {w W : World} (h : Pair36 N w W) (i : Nat) (hi : i = 0 ∨ i = 1) : Pair36 N w (W.setCell ⟨N + 1, i, none⟩ (.slice none 0 0)) := by
  refine ⟨h.b0.setOther (N + 1) i _ (by omega), ?_, h.lo.trans ⟨rfl, rfl, rfl, by simp, fun k hk => heap_setCell_other _ _ _ _ (show k ≠ N + 1 by omega)⟩⟩
  have := h.b1.set i (.slice none 0 0)
  rcases hi with rfl | rfl <;> exact this
set_option maxRecDepth 100000 in
set_option maxHeartbeats 1000000 in
theorem together_two (g : Nat) (t : TypeId) (w : World) (hH : Holds w g [nil3, nil3, nil3, nil3] t) : Calls Tryz.prog 42 #[.slice (some ⟨g, 0, none⟩) 2 2] w fun e w' => e = .returned E36 ∧ Gr w w' := by
  have ha : ∀ W, (Builtin.append_ #[33, 33] 33 #[.slice none 0 0, .slice none 0 0]).run Tryz.prog W = .ok (.slice none 0 0) W := fun W => by kernel_rfl
  have hb : ∀ W, (Builtin.append_ #[34, 34] 34 #[.slice none 0 0, .slice none 0 0]).run Tryz.prog W = .ok (.slice none 0 0) W := fun W => by kernel_rfl
  have hP := pair_made w
  have HG : Hid (Holds w g [nil3, nil3, nil3, nil3] t) := hH
  have hgl := hH.lt
  obtain ⟨N, hN⟩ : ∃ N, w.heap.size = N := ⟨_, rfl⟩
  have HN : Hid (w.heap.size = N) := hN
  rw [hN] at hP hgl
  clear hH hN
  go_enter Tryz.func42, Tryz.ntmps42
  go_upto_region 2 with fail
  rw [HN.out]
  generalize (w.alloc (.cells #[.slice none 0 0, .slice none 0 0] 36)).alloc (.cells #[.slice none 0 0, .slice none 0 0] 36) = W2 at hP ⊢
  have HP : Hid (Pair36 N w W2) := hP
  clear hP
  go_wp2
  go_loopw [8] (fun c wr => ∃ i : Nat, c = .int .i64 (i : Int) ∧ i ≤ 2 ∧ Hid (Pair36 N w wr)) (fun c _ => 2 - (intOf c).toNat)
  case atStart => exact ⟨0, rfl, by omega, HP⟩
  case round =>
    obtain ⟨i, rfl, hi, hR⟩ := hrel
    by_cases hlt : i < 2
    · have hg1 := HG.out.below hR.out.lo hgl
      have r0 : wr.cell? ⟨g, i * 2, none⟩ = some (.slice none 0 0) := hg1.at _ _ (by rcases (show i = 0 ∨ i = 1 by omega) with rfl | rfl <;> rfl)
      have r1 : wr.cell? ⟨g, i * 2 + 1, none⟩ = some (.slice none 0 0) := hg1.at _ _ (by rcases (show i = 0 ∨ i = 1 by omega) with rfl | rfl <;> rfl)
      have h3 := hR.out.more (Gr.alloc wr (.cells #[.slice none 0 0, .slice none 0 0] 36))
      have c0 := h3.b1.at 0 _ rfl
      have z0 := h3.b1.frozen 0
      have h4 := h3.set 0 (.inl rfl)
      have c1 := h4.b1.at 1 _ rfl
      have z1 := h4.b1.frozen 1
      have H5 : Hid (Pair36 N w _) := h4.set 1 (.inr rfl)
      clear hR h3 h4 hg1
      go_wp2
      exact ⟨⟨i + 1, by simp, by omega, H5⟩, by simp [intOf]; omega⟩
    · obtain rfl : i = 2 := by omega
      have d0 := hR.out.b1.at 0 _ rfl
      have d1 := hR.out.b1.at 1 _ rfl
      go_wp2_with (refine wpList_store_all rfl 36 _ _ rfl N rfl C36 rfl 36 C36 hR.out.b0 siz36 rfl one36 ?_; intro W9 t9)
      exact bodyPost_ret (results_cell_row (p := 2) (by kernel_rfl) _ _ N 36 C36.toArray (0, 0) _ rfl t9.holds Tryz.underlying36 rfl siz36) rfl ⟨rfl, by unfold Gr; rw [HN.out]; exact hR.out.lo.trans (t9.below (Nat.le_refl _))⟩
end Go.Proofs.YtmhpfncbbboamaaGreat
