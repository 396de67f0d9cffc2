/- Cells of nothing are joined and held against one another. -/
import Derived.Test.YtmhpfncbbboamaaGreatQmJnR
import Derived.Test.YtmhpfncbbboamaaGreatQmMerge
import Derived.Test.YtmhpfncbbboamaaGreatQmTog
namespace Go.Proofs.YtmhpfncbbboamaaGreat
open Go.RowKit

abbrev Z38 : List Value := [.int .i64 0, .slice none 0 0, .slice none 0 0, .slice none 0 0]
set_option maxRecDepth 100000 in
theorem equal62_none (w : World) : Calls Tryz.prog 62 #[.slice none 0 0, .slice none 0 0] w fun e w' => e = .returned (.bool true) ∧ w' = w := by
  go_enter Tryz.func62, Tryz.ntmps62
  go_wp2
  refine wp_loop_once ?_
  go_wp2
  go_ret
  exact ⟨rfl, rfl⟩
set_option maxRecDepth 100000 in
theorem equal90_none (w : World) : Calls Tryz.prog 90 #[.slice none 0 0, .slice none 0 0] w fun e w' => e = .returned (.bool true) ∧ w' = w := by
  go_enter Tryz.func90, Tryz.ntmps90
  go_wp2
  refine wp_loop_once ?_
  go_wp2
  go_ret
  exact ⟨rfl, rfl⟩
set_option maxRecDepth 100000 in
theorem equal91_none (f : Value) (w : World) : Calls Tryz.prog 91 #[.slice none 0 0, .slice none 0 0, f] w fun e w' => e = .returned (.bool true) ∧ w' = w := by
  go_enter Tryz.func91, Tryz.ntmps91
  go_wp2
  refine wp_loop_once ?_
  go_wp2
  go_ret
  exact ⟨rfl, rfl⟩
set_option maxRecDepth 100000 in
theorem equal_none : Tells 61 #[E36, E36] (.bool true) := fun w => by
  have h90 : Hid (∀ W, Calls Tryz.prog 90 #[.slice none 0 0, .slice none 0 0] W fun e w' => e = .returned (.bool true) ∧ w' = W) := equal90_none
  have h91 : Hid (∀ f W, Calls Tryz.prog 91 #[.slice none 0 0, .slice none 0 0, f] W fun e w' => e = .returned (.bool true) ∧ w' = W) := equal91_none
  go_enter Tryz.func61, Tryz.ntmps61
  go_wp2_with (first | (go_at_call 90; refine (h90.out _).mono ?_; rintro e w2 ⟨rfl, rfl⟩) | (go_at_call 91; refine (h91.out _ _).mono ?_; rintro e w2 ⟨rfl, rfl⟩))
  go_ret
  exact ⟨rfl, al2⟩
theorem norm63_none (w : World) : Calls Tryz.prog 63 #[.slice none 0 0] w fun e w' => e = .returned (.slice none 0 0) ∧ Gr w w' := by
  have h37 : Hid (∀ W, Calls Tryz.prog 37 #[.slice (some ⟨W.heap.size, 0, none⟩) 1 1] (W.alloc (.cells #[.slice none 0 0] 32)) fun e w' => e = .returned (.slice none 0 0) ∧ Hid (Gr W w')) := fun W => (merge_nils 1 W.heap.size 32 _ (.inl rfl) rfl _ (holds_new W [.slice none 0 0] 32)).mono fun _ _ ⟨e1, e2⟩ => ⟨e1, (Gr.alloc _ _).trans e2⟩
  go_enter Tryz.func63, Tryz.ntmps63
  go_wp2_with (go_at_call 37; refine (h37.out _).mono ?_; rintro e w2 ⟨rfl, g2⟩)
  go_ret
  exact ⟨rfl, g2.out⟩
set_option maxRecDepth 100000 in
theorem compare_none (w : World) : Calls Tryz.prog 50 #[.slice none 0 0, .slice none 0 0] w fun e w' => e = .returned (.int .i64 0) ∧ Gr w w' := by
  have h37 : Hid (∀ W, Calls Tryz.prog 37 #[.slice (some ⟨W.heap.size, 0, none⟩) 2 2] (W.alloc (.cells #[.slice none 0 0, .slice none 0 0] 32)) fun e w' => e = .returned (.slice none 0 0) ∧ Hid (Gr W w')) := fun W => (merge_nils 2 W.heap.size 32 _ (.inr rfl) rfl _ (holds_new W [.slice none 0 0, .slice none 0 0] 32)).mono fun _ _ ⟨e1, e2⟩ => ⟨e1, (Gr.alloc _ _).trans e2⟩
  have hg : Hid (Gr w w) := Gr.refl w
  have h63 : Hid (∀ W, Gr w W → Calls Tryz.prog 63 #[.slice none 0 0] W fun e w' => e = .returned (.slice none 0 0) ∧ Hid (Gr w w')) := fun W g => (norm63_none W).mono fun _ _ ⟨e1, e2⟩ => ⟨e1, g.trans e2⟩
  have h62 : Hid (∀ W, Calls Tryz.prog 62 #[.slice none 0 0, .slice none 0 0] W fun e w' => e = .returned (.bool true) ∧ w' = W) := equal62_none
  go_enter Tryz.func50, Tryz.ntmps50
  go_wp2_with (first | (go_at_call 37; refine (h37.out _).mono ?_; rintro e w2 ⟨rfl, hg⟩) | (go_at_call 63; refine (h63.out _ hg.out).mono ?_; rintro e w2 ⟨rfl, hg⟩) | (go_at_call 62; refine (h62.out _).mono ?_; rintro e w3 ⟨rfl, e3⟩; rw [e3]; clear e3))
  go_ret
  exact ⟨rfl, hg.out⟩
theorem same40_none : Tells 40 #[.slice none 0 0, .slice none 0 0] (.bool true) := fun w => by
  have h50 : Hid (∀ W, Calls Tryz.prog 50 #[.slice none 0 0, .slice none 0 0] W fun e w' => e = .returned (.int .i64 0) ∧ Hid (Gr W w')) := compare_none
  go_enter Tryz.func40, Tryz.ntmps40
  go_wp2_with (go_at_call 50; refine (h50.out _).mono ?_; rintro e w2 ⟨rfl, g2⟩)
  go_ret
  exact ⟨rfl, g2.out⟩
set_option maxRecDepth 100000 in
theorem same49_none : Tells 49 #[E36, E36] (.bool true) := fun w => by
  have hP := pair_made w
  go_enter Tryz.func49, Tryz.ntmps49
  go_upto_region 1 with fail
  generalize hN : w.heap.size = N at hP ⊢
  generalize (w.alloc (.cells #[.slice none 0 0, .slice none 0 0] 36)).alloc (.cells #[.slice none 0 0, .slice none 0 0] 36) = W2 at hP ⊢
  refine r49_1 rfl N (N + 1) norm_none equal_none hP.b0 hP.b1 rfl rfl (fun z g => ?_)
  simp only [putsL, List.foldl_cons, List.foldl_nil, put_lit, List.set_cons_succ, List.set_cons_zero]
  have G2 : Hid (Gr w z) := by
    show Below w.heap.size w z
    rw [hN]; exact hP.lo.trans (Below.mono g (by have := hP.b0.lt; omega))
  clear hP g
  go_wp2
  go_ret
  exact ⟨rfl, G2.out⟩
set_option maxRecDepth 100000 in
theorem same39_none : Tells 39 #[.agg #[.int .i64 2, .slice none 0 0, .slice none 0 0], .agg #[.int .i64 2, .slice none 0 0, .slice none 0 0]] (.bool true) := fun w => by
  have hg : Hid (Gr w ((w.alloc (.cells #[.int .i64 2, .slice none 0 0, .slice none 0 0] 79)).alloc (.cells #[.int .i64 2, .slice none 0 0, .slice none 0 0] 79))) := al2
  have h49 : Hid (∀ W, Gr w W → Calls Tryz.prog 49 #[E36, E36] W fun e w' => e = .returned (.bool true) ∧ Hid (Gr w w')) := fun W g => (same49_none W).mono fun _ _ ⟨e1, e2⟩ => ⟨e1, g.trans e2⟩
  go_enter Tryz.func39, Tryz.ntmps39
  go_wp2_with (go_at_call 49; refine (h49.out _ hg.out).mono ?_; rintro e w2 ⟨rfl, g2⟩)
  go_ret
  exact ⟨rfl, g2.out⟩
set_option maxRecDepth 100000 in
theorem same33_none : Tells 33 #[E38, E38] (.bool true) := fun w => by
  have hp : Holds ((w.alloc (.cells #[.int .i64 2, .slice none 0 0, .slice none 0 0, .slice none 0 0] 81)).alloc (.cells #[.int .i64 2, .slice none 0 0, .slice none 0 0, .slice none 0 0] 81)) w.heap.size C38 81 := (holds_new w C38 81).alloc _
  have hq : Holds ((w.alloc (.cells #[.int .i64 2, .slice none 0 0, .slice none 0 0, .slice none 0 0] 81)).alloc (.cells #[.int .i64 2, .slice none 0 0, .slice none 0 0, .slice none 0 0] 81)) (w.heap.size + 1) C38 81 := new2
  have hg : Gr w ((w.alloc (.cells #[.int .i64 2, .slice none 0 0, .slice none 0 0, .slice none 0 0] 81)).alloc (.cells #[.int .i64 2, .slice none 0 0, .slice none 0 0, .slice none 0 0] 81)) := al2
  have h39 : Hid (∀ W, Calls Tryz.prog 39 #[.agg #[.int .i64 2, .slice none 0 0, .slice none 0 0], .agg #[.int .i64 2, .slice none 0 0, .slice none 0 0]] W fun e w' => e = .returned (.bool true) ∧ Hid (Gr W w')) := same39_none
  have h40 : Hid (∀ W, Gr w W → Calls Tryz.prog 40 #[.slice none 0 0, .slice none 0 0] W fun e w' => e = .returned (.bool true) ∧ Hid (Gr w w')) := fun W g => (same40_none W).mono fun _ _ ⟨e1, e2⟩ => ⟨e1, g.trans e2⟩
  have HP : Hid (Holds _ w.heap.size C38 81 ∧ Holds _ (w.heap.size + 1) C38 81 ∧ Gr w _) := ⟨hp, hq, hg⟩
  clear hp hq hg
  go_enter Tryz.func33, Tryz.ntmps33
  go_wp2_with (first | (go_at_call 39; refine (h39.out _).mono ?_; rintro e w2 ⟨rfl, g2⟩; have G2 : Hid (Gr w w2) := HP.out.2.2.trans g2.out; have c1 := (HP.out.1.below g2.out HP.out.1.lt).at 3 _ rfl; have c2 := (HP.out.2.1.below g2.out HP.out.2.1.lt).at 3 _ rfl; clear g2) | (go_at_call 40; refine (h40.out _ G2.out).mono ?_; rintro e w3 ⟨rfl, g3⟩))
  go_ret
  exact ⟨rfl, g3.out⟩
end Go.Proofs.YtmhpfncbbboamaaGreat
