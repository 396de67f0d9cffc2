/- awake (10): the document's own answers. -/
import Derived.Test.YtbmeflildmeecaaClBack
namespace Go.Proofs.Ytbmeflildmeecaa
open Go.RowKit Go.Shelf Go.Sort Go.Lib Pk

theorem row_new (w : World) (l : List Dt) : Row (w.alloc (.cells (cellsD l).toArray 33)) w.heap.size 0 l := by
  have h := holds_new w (cellsD l) 33
  rw [← List.append_nil (cellsD l)] at h
  have := Holds.row h
  rwa [List.append_nil] at this
def CW : List Dt := [(1, 2), (300, 1)]
def MW : List Dt := [(1, 2), (5, 1), (7, 3)]
theorem awake_norm : norm [[(1, 2), (5, 1)], [(1, 1), (7, 3)]].flatten = MW := by decide

set_option maxRecDepth 100000 in
set_option maxHeartbeats 8000000 in
theorem awake_any (w : World) : Calls Try.prog 10 #[] w fun e w' => e = .returned (.bool true) ∧ Below w.heap.size w w' := by
  obtain ⟨m, hm⟩ : ∃ m, w.heap.size = m := ⟨_, rfl⟩
  have r0 : Clk (Lt (w.alloc (.cells #[.int .u64 1, .int .u64 2, .int .u64 5, .int .u64 1] 33)).heap.size) (w.alloc (.cells #[.int .u64 1, .int .u64 2, .int .u64 5, .int .u64 1] 33)) (.slice (some ⟨m, 0, none⟩) 2 2) [(1, 2), (5, 1)] := hm ▸ clk_row (l := [(1, 2), (5, 1)]) (by simp) (row_new w [(1, 2), (5, 1)])
  have r1 : Clk (Lt ((w.alloc (.cells #[.int .u64 1, .int .u64 2, .int .u64 5, .int .u64 1] 33)).alloc (.cells #[.int .u64 1, .int .u64 1, .int .u64 7, .int .u64 3] 33)).heap.size) ((w.alloc (.cells #[.int .u64 1, .int .u64 2, .int .u64 5, .int .u64 1] 33)).alloc (.cells #[.int .u64 1, .int .u64 1, .int .u64 7, .int .u64 3] 33)) (.slice (some ⟨m + 1, 0, none⟩) 2 2) [(1, 1), (7, 3)] := by
    have := clk_row (cap := 2) (G := Lt ((w.alloc (.cells #[.int .u64 1, .int .u64 2, .int .u64 5, .int .u64 1] 33)).alloc (.cells #[.int .u64 1, .int .u64 1, .int .u64 7, .int .u64 3] 33)).heap.size) (l := [(1, 1), (7, 3)]) (b := m + 1) (by simp [hm]) (by
      have := row_new (w.alloc (.cells #[.int .u64 1, .int .u64 2, .int .u64 5, .int .u64 1] 33)) [(1, 1), (7, 3)]
      rw [show (w.alloc (.cells #[.int .u64 1, .int .u64 2, .int .u64 5, .int .u64 1] 33)).heap.size = m + 1 by simp [hm]] at this
      exact this)
    exact this
  have r0' := (r0.up (below_alloc _ (.cells #[.int .u64 1, .int .u64 1, .int .u64 7, .int .u64 3] 33))).up (below_alloc _ (.cells #[.slice (some ⟨m, 0, none⟩) 2 2, .slice (some ⟨m + 1, 0, none⟩) 2 2] 28))
  have r1' := r1.up (below_alloc _ (.cells #[.slice (some ⟨m, 0, none⟩) 2 2, .slice (some ⟨m + 1, 0, none⟩) 2 2] 28))
  have hn := holds_new ((w.alloc (.cells #[.int .u64 1, .int .u64 2, .int .u64 5, .int .u64 1] 33)).alloc (.cells #[.int .u64 1, .int .u64 1, .int .u64 7, .int .u64 3] 33)) [.slice (some ⟨m, 0, none⟩) 2 2, .slice (some ⟨m + 1, 0, none⟩) 2 2] 28
  have hB0 : Below w.heap.size w (((w.alloc (.cells #[.int .u64 1, .int .u64 2, .int .u64 5, .int .u64 1] 33)).alloc (.cells #[.int .u64 1, .int .u64 1, .int .u64 7, .int .u64 3] 33)).alloc (.cells #[.slice (some ⟨m, 0, none⟩) 2 2, .slice (some ⟨m + 1, 0, none⟩) 2 2] 28)) := below_trans (below_trans (below_alloc w _) (below_alloc _ _)) (below_alloc _ _)
  have hsz : ((w.alloc (.cells #[.int .u64 1, .int .u64 2, .int .u64 5, .int .u64 1] 33)).alloc (.cells #[.int .u64 1, .int .u64 1, .int .u64 7, .int .u64 3] 33)).heap.size = m + 1 + 1 := by simp [hm]
  rw [hsz] at hn
  have h17 := merge_makes (.slice (some ⟨m + 1 + 1, 0, none⟩) 2 2) [[(1, 2), (5, 1)], [(1, 1), (7, 3)]] (by simp) (by simp) (by simp) _ (clks_two (by simp; omega) (hn.at 0 _ rfl) (hn.at 1 _ rfl) r0' r1')
  rw [awake_norm] at h17
  have h31 := fun W => parse_any ⟨#[48, 50, 48, 49, 48, 50, 97, 99, 48, 50, 48, 49]⟩ (by decide) W
  rw [awake_parse.1, awake_parse.2] at h31
  have h31' : ∀ W, Calls Try.prog 31 #[.string ⟨#[48, 50, 48, 49, 48, 50, 97, 99, 48, 50, 48, 49]⟩] W (MakesE W CW 0) := h31
  clear h31 r0 r1 r0' r1' hn
  have H17 : Hid (Calls Try.prog 17 #[.slice (some ⟨m + 1 + 1, 0, none⟩) 2 2] (((w.alloc (.cells #[.int .u64 1, .int .u64 2, .int .u64 5, .int .u64 1] 33)).alloc (.cells #[.int .u64 1, .int .u64 1, .int .u64 7, .int .u64 3] 33)).alloc (.cells #[.slice (some ⟨m, 0, none⟩) 2 2, .slice (some ⟨m + 1, 0, none⟩) 2 2] 28)) (Makes (((w.alloc (.cells #[.int .u64 1, .int .u64 2, .int .u64 5, .int .u64 1] 33)).alloc (.cells #[.int .u64 1, .int .u64 1, .int .u64 7, .int .u64 3] 33)).alloc (.cells #[.slice (some ⟨m, 0, none⟩) 2 2, .slice (some ⟨m + 1, 0, none⟩) 2 2] 28)) MW)) := h17
  clear h17
  have h29 : ∀ W a c, Clk (Lt W.heap.size) W (.slice a 2 c) CW → Calls Try.prog 29 #[.slice a 2 c] W fun e w' => e = .returned (.string ⟨#[48, 50, 48, 49, 48, 50, 97, 99, 48, 50, 48, 49]⟩) ∧ Below W.heap.size W w' := fun W a c h => by
    have := text_any (.slice a 2 c) CW (by decide) awake_fit W h
    rwa [show strL (textC CW) = _ from awake_text] at this
  have h16a : ∀ W a c, Clk (Lt W.heap.size) W (.slice a 2 c) CW → Calls Try.prog 16 #[.slice a 2 c, dotV (300, 1)] W fun e w' => e = .returned (.bool true) ∧ Below W.heap.size W w' := fun W a c h => by
    have := covers_any (.slice a 2 c) CW (300, 1) (by decide) W h
    rwa [show covers CW (300, 1) = true by decide] at this
  have h16b : ∀ W a c, Clk (Lt W.heap.size) W (.slice a 2 c) CW → Calls Try.prog 16 #[.slice a 2 c, dotV (300, 2)] W fun e w' => e = .returned (.bool false) ∧ Below W.heap.size W w' := fun W a c h => by
    have := covers_any (.slice a 2 c) CW (300, 2) (by decide) W h
    rwa [show covers CW (300, 2) = false by decide] at this
  have h23 : ∀ W a c b d, Clk (Lt W.heap.size) W (.slice a 2 c) CW → Clk (Lt W.heap.size) W (.slice b 3 d) MW → Calls Try.prog 23 #[.slice a 2 c, .slice b 3 d] W fun e w' => e = .returned (.int .i64 2) ∧ Below W.heap.size W w' := fun W a c b d h k => by
    have := compare_clk (.slice a 2 c) (.slice b 3 d) CW MW (by decide) W h k
    rwa [show cmpV CW MW = 2 by decide] at this
  have h15 : ∀ W b d, Clk (Lt W.heap.size) W (.slice b 3 d) MW → Calls Try.prog 15 #[.slice b 3 d, .int .u64 9] W fun e w' => e = .returned (dotV (9, 1)) ∧ Below W.heap.size W w' := fun W b d h => by
    have := next_any (.slice b 3 d) MW 9 (by decide) (by decide) W h
    rwa [show nextN MW 9 = 1 by decide] at this
  have heq : ∀ w, (Op.equalIn 10000 33 (dotV (9, 1)) (dotV (9, 1))).run Try.prog w = .ok true w := fun w => by rw [eql_dot]; simp
  have hguard := dotGuard
  go_enter Try.func10, Try.ntmps10
  go_wp2_with (first
    | (go_at_call 15; refine (h15 _ _ _ (k7.up (below_trans b3 (below_trans b4 (below_trans b5 (below_trans b6 b7)))))).mono ?_; rintro e w8 ⟨rfl, b8⟩)
    | (go_at_call 23; refine (h23 _ _ _ _ _ (k3.up (below_trans b4 (below_trans b5 b6))) (k2.up (below_trans b3 (below_trans b4 (below_trans b5 b6))))).mono ?_; rintro e w7 ⟨rfl, b7⟩; have k7 := k2)
    | (go_at_call 16; refine (h16b _ _ _ (k3.up (below_trans b4 b5))).mono ?_; rintro e w6 ⟨rfl, b6⟩)
    | (go_at_call 16; refine (h16a _ _ _ (k3.up b4)).mono ?_; rintro e w5 ⟨rfl, b5⟩)
    | (go_at_call 29; refine (h29 _ _ _ k3).mono ?_; rintro e w4 ⟨rfl, b4⟩)
    | (go_at_call 31; refine (h31' _).mono ?_; rintro e w3 ⟨a3, cap3, rfl, hc3, b3⟩; have k3 : Clk (Lt w3.heap.size) w3 (.slice a3 2 cap3) CW := hc3.made; obtain ⟨ax, cx, hax, hrx⟩ := k2.up b3; obtain ⟨bx, ox, hbx, _, hrow⟩ := hrx (by decide); have hax2 : (Value.slice a2 3 cap2) = .slice ax 3 cx := hax; cases hax2; subst hbx; have cell1 := (hrow 0 (1, 2) rfl).2; have cell2 := (hrow 2 (7, 3) rfl).1)
    | (go_at_call 17; refine H17.out.mono ?_; rintro e w2 ⟨a2, cap2, rfl, hc2, b2⟩; have k2 : Clk (Lt w2.heap.size) w2 (.slice a2 3 cap2) MW := hc2.made))
  go_ret
  exact ⟨rfl, below_trans hB0 (below_trans b2 (below_trans b3 (below_trans b4 (below_trans b5 (below_trans b6 (below_trans b7 b8))))))⟩
end Go.Proofs.Ytbmeflildmeecaa
