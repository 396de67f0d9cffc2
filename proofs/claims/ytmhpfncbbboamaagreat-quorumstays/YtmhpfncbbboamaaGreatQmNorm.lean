/- A store of nothing: normed (51), Norm (41), together (42), staying (43). -/
import Derived.Test.YtmhpfncbbboamaaGreatQmNormR
import Derived.Test.YtmhpfncbbboamaaGreatQmBd
import Derived.Deep.Cut
namespace Go.Proofs.YtmhpfncbbboamaaGreat
open Go.RowKit

theorem run_store_func {P : Program} {w : World} {a : Addr} {m : Mode} (f : Fn) (x y : Array Value) : (store a (.func f x y) m).run P w = stored P w a (.func f x y) m := run_store P w a _ m rfl
attribute [local go_sem] run_store_func
abbrev E36 : Value := .agg #[.slice none 0 0, .slice none 0 0]
abbrev C36 : List Value := [.slice none 0 0, .slice none 0 0]
/-- Four blocks that a call of normed makes. -/
structure Four (c1 : List Value) (t1 : TypeId) (N : Nat) (w W : World) : Prop where
  b0 : Holds W N C36 36
  b1 : Holds W (N + 1) c1 t1
  b2 : Holds W (N + 1 + 1) C36 36
  b3 : Holds W (N + 1 + 1 + 1) C36 36
  gr : Gr w W
theorem Four.more {c1 : List Value} {t1 : TypeId} {N : Nat} {w W W' : World} (h : Four c1 t1 N w W) (hg : Gr W W') : Four c1 t1 N w W' :=
  ⟨h.b0.below hg h.b0.lt, h.b1.below hg h.b1.lt, h.b2.below hg h.b2.lt, h.b3.below hg h.b3.lt, h.gr.trans hg⟩
theorem four_made (c1 : List Value) (t1 : TypeId) (w : World) : Four c1 t1 w.heap.size w ((((w.alloc (.cells #[.slice none 0 0, .slice none 0 0] 36)).alloc (.cells c1.toArray t1)).alloc (.cells #[.slice none 0 0, .slice none 0 0] 36)).alloc (.cells #[.slice none 0 0, .slice none 0 0] 36)) := by
  have e1 := sz1 w (.cells #[.slice none 0 0, .slice none 0 0] 36)
  have e2 := sz1 (w.alloc (.cells #[.slice none 0 0, .slice none 0 0] 36)) (.cells c1.toArray t1)
  have e3 := sz1 ((w.alloc (.cells #[.slice none 0 0, .slice none 0 0] 36)).alloc (.cells c1.toArray t1)) (.cells #[.slice none 0 0, .slice none 0 0] 36)
  refine ⟨?_, ?_, ?_, ?_, al2.trans al2⟩
  · exact (((holds_new w C36 36).alloc _).alloc _).alloc _
  · have := ((holds_new (w.alloc (.cells #[.slice none 0 0, .slice none 0 0] 36)) c1 t1).alloc (.cells #[.slice none 0 0, .slice none 0 0] 36)).alloc (.cells #[.slice none 0 0, .slice none 0 0] 36)
    rw [e1] at this; exact this
  · have := (holds_new ((w.alloc (.cells #[.slice none 0 0, .slice none 0 0] 36)).alloc (.cells c1.toArray t1)) C36 36).alloc (.cells #[.slice none 0 0, .slice none 0 0] 36)
    rw [e2, e1] at this; exact this
  · have := holds_new (((w.alloc (.cells #[.slice none 0 0, .slice none 0 0] 36)).alloc (.cells c1.toArray t1)).alloc (.cells #[.slice none 0 0, .slice none 0 0] 36)) C36 36
    rw [e3, e2, e1] at this; exact this
set_option maxRecDepth 100000 in
set_option maxHeartbeats 1000000 in
theorem normed_none (w : World) : Calls Tryz.prog 51 #[E36, .int .i64 8] w fun e w' => e = .returned E36 ∧ Gr w w' := by
  have h64 : Hid (∀ W, Calls Tryz.prog 64 #[] W fun e w' => ∃ q, e = .returned (.func (.func 107) #[] #[q]) ∧ Hid (Gr W w')) := bySize_any
  have h4 := four_made [.int .i64 8] 3 w
  go_enter Tryz.func51, Tryz.ntmps51
  go_upto_region 2 with fail
  generalize hN : w.heap.size = N at h4 ⊢
  generalize ((((w.alloc (.cells #[.slice none 0 0, .slice none 0 0] 36)).alloc (.cells #[.int .i64 8] 3)).alloc (.cells #[.slice none 0 0, .slice none 0 0] 36)).alloc (.cells #[.slice none 0 0, .slice none 0 0] 36)) = W4 at h4 ⊢
  have H4 : Hid (Four [.int .i64 8] 3 N w W4) := h4
  clear h4
  go_upto_region 3 with (go_at_call 64; refine (h64.out _).mono ?_; rintro e w5 ⟨q5, rfl, g5⟩; have n0 := (holds_new w5 [.nilFunc] 114).at 0 _ rfl; have n1 := (holds_new w5 [.nilFunc] 114).frozen 0)
  have h6 := H4.out.more (g5.out.trans (Gr.alloc w5 (.cells #[.func (.func 107) #[] #[q5]] 114)))
  generalize w5.alloc (.cells #[.func (.func 107) #[] #[q5]] 114) = W6 at h6 ⊢
  generalize w5.heap.size = g6
  clear g5 H4 h64
  refine r51_3 rfl N (N + 1 + 1 + 1) g6 h6.b0 rfl rfl rfl (fun W7 u10 g7 => ?_)
  simp only [putsL, List.foldl_cons, List.foldl_nil, put_lit, List.set_cons_succ, List.set_cons_zero]
  have h7 := h6.more g7
  have H7 : Hid (Four [.int .i64 8] 3 N w W7) := h7
  have c1 := h7.b1.at 0 _ rfl
  clear h6 h7 g7
  go_upto_region 6 with fail
  refine r51_6 rfl N (N + 1 + 1 + 1) (N + 1) H7.out.b0 rfl rfl rfl (fun W8 u18 g8 => ?_)
  simp only [putsL, List.foldl_cons, List.foldl_nil, put_lit, List.set_cons_succ, List.set_cons_zero]
  have h8 := H7.out.more g8
  have H8 : Hid (Four [.int .i64 8] 3 N w W8) := h8
  have d0 := h8.b3.at 0 _ rfl
  have d1 := h8.b3.at 1 _ rfl
  have f0 := h8.b2.at 0 _ rfl
  have f1 := h8.b2.at 1 _ rfl
  have z0 := h8.b2.frozen 0
  have z1 := h8.b2.frozen 1
  clear h8 g8 H7 c1
  go_wp2_with (refine wpList_store_all rfl 36 _ _ rfl (N + 1 + 1) rfl C36 rfl 36 C36 H8.out.b2 siz36 rfl (by intro v hv; simp at hv; rcases hv with rfl <;> rfl) ?_; intro W9 t9)
  exact bodyPost_ret (results_cell_row (p := 4) (by kernel_rfl) _ _ (N + 1 + 1) 36 C36.toArray (0, 0) _ rfl t9.holds Tryz.underlying36 rfl siz36) rfl ⟨rfl, Below.trans H8.out.gr (t9.below (by omega))⟩
theorem one36 : ∀ v ∈ C36, v.oneCell' = true := by intro v hv; simp at hv; rcases hv with rfl <;> rfl
set_option maxRecDepth 100000 in
theorem norm_none (w : World) : Calls Tryz.prog 41 #[E36] w fun e w' => e = .returned E36 ∧ Gr w w' := by
  have h51 : Hid (∀ W, Calls Tryz.prog 51 #[E36, .int .i64 8] W fun e w' => e = .returned E36 ∧ Hid (Gr W w')) := normed_none
  have h2 : Holds ((w.alloc (.cells #[.slice none 0 0, .slice none 0 0] 36)).alloc (.cells #[.slice none 0 0, .slice none 0 0] 36)) (w.heap.size + 1) C36 36 := new2
  have hg : Hid (Gr w ((w.alloc (.cells #[.slice none 0 0, .slice none 0 0] 36)).alloc (.cells #[.slice none 0 0, .slice none 0 0] 36))) := al2
  have H2 : Hid (Holds ((w.alloc (.cells #[.slice none 0 0, .slice none 0 0] 36)).alloc (.cells #[.slice none 0 0, .slice none 0 0] 36)) (w.heap.size + 1) C36 36) := h2
  clear h2
  go_enter Tryz.func41, Tryz.ntmps41
  go_wp2_with (first | (go_at_call 51; refine (h51.out _).mono ?_; rintro e w3 ⟨rfl, g3⟩; have H3 : Hid (Holds w3 (w.heap.size + 1) C36 36) := H2.out.below g3.out H2.out.lt) | (refine wpList_store_all rfl 36 _ _ rfl (w.heap.size + 1) rfl C36 rfl 36 C36 H3.out siz36 rfl one36 ?_; intro W9 t9))
  exact bodyPost_ret (results_cell_row (p := 2) (by kernel_rfl) _ _ (w.heap.size + 1) 36 C36.toArray (0, 0) _ rfl t9.holds Tryz.underlying36 rfl siz36) rfl ⟨rfl, Below.trans (hg.out.trans g3.out) (t9.below (by omega))⟩
set_option maxRecDepth 100000 in
theorem staying_none (w : World) : Calls Tryz.prog 43 #[E36, E36, .slice none 0 0] w fun e w' => e = .returned E36 ∧ Gr w w' := by
  have h52 : Hid (∀ W, Calls Tryz.prog 52 #[] W fun e w' => ∃ q, e = .returned (.func (.func 107) #[] #[q]) ∧ Hid (Gr W w')) := byDot_any
  have h4 := four_made C36 36 w
  go_enter Tryz.func43, Tryz.ntmps43
  go_upto_region 2 with fail
  generalize hN : w.heap.size = N at h4 ⊢
  generalize ((((w.alloc (.cells #[.slice none 0 0, .slice none 0 0] 36)).alloc (.cells #[.slice none 0 0, .slice none 0 0] 36)).alloc (.cells #[.slice none 0 0, .slice none 0 0] 36)).alloc (.cells #[.slice none 0 0, .slice none 0 0] 36)) = W4 at h4 ⊢
  have H4 : Hid (Four C36 36 N w W4) := h4
  clear h4
  go_wp2_with (go_at_call 52; refine (h52.out _).mono ?_; rintro e w5 ⟨q5, rfl, g5⟩; have H5 : Hid (Four C36 36 N w w5) := H4.out.more g5.out; have c0 := H5.out.b0.at 0 _ rfl; have c1 := H5.out.b0.at 1 _ rfl; have d0 := H5.out.b3.at 0 _ rfl; have d1 := H5.out.b3.at 1 _ rfl; clear g5 H4)
  refine wp_loop_once ?_
  go_wp2
  refine wp_loop_once ?_
  go_wp2_with (refine wpList_store_all rfl 36 _ _ rfl (N + 1 + 1) rfl C36 rfl 36 C36 H5.out.b2 siz36 rfl one36 ?_; intro W9 t9)
  exact bodyPost_ret (results_cell_row (p := 6) (by kernel_rfl) _ _ (N + 1 + 1) 36 C36.toArray (0, 0) _ rfl t9.holds Tryz.underlying36 rfl siz36) rfl ⟨rfl, Below.trans H5.out.gr (t9.below (by omega))⟩
end Go.Proofs.YtmhpfncbbboamaaGreat
