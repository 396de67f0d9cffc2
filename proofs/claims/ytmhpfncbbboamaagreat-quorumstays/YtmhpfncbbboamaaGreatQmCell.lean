/- Join (36), joined (30), cell.Join (17), cell.Same (25), of nothing. -/
import Derived.Test.YtmhpfncbbboamaaGreatQmJn
namespace Go.Proofs.YtmhpfncbbboamaaGreat
open Go.RowKit

def q36_1 : Array Oper := #[{ dst := some 9, op := Op.load 36 (Operand.tmp 4), type := 36, pos := "store.go:16", after := #[], guard := none }, { dst := some 10, op := Op.call { callee := Callee.value (Operand.func 41), args := #[Operand.tmp 9], argTypes := #[36] }, type := 36, pos := "store.go:16", after := #[{ on := 0, ground := Ground.data }], guard := none }, { dst := some 11, op := Op.load 36 (Operand.tmp 6), type := 36, pos := "store.go:16", after := #[], guard := none }, { dst := some 12, op := Op.call { callee := Callee.value (Operand.func 41), args := #[Operand.tmp 11], argTypes := #[36] }, type := 36, pos := "store.go:16", after := #[{ on := 2, ground := Ground.data }, { on := 1, ground := Ground.chain }], guard := none }, { dst := none, op := Op.store 36 (Operand.tmp 4) (Operand.tmp 10), type := 0, pos := "store.go:16", after := #[{ on := 1, ground := Ground.data }, { on := 3, ground := Ground.chain }, { on := 0, ground := Ground.phase }, { on := 1, ground := Ground.phase }, { on := 2, ground := Ground.textOnly Departure.lateStores }, { on := 3, ground := Ground.textOnly Departure.lateStoresUnsure }], guard := none }, { dst := none, op := Op.store 36 (Operand.tmp 6) (Operand.tmp 12), type := 0, pos := "store.go:16", after := #[{ on := 3, ground := Ground.data }, { on := 4, ground := Ground.chain }, { on := 0, ground := Ground.phase }, { on := 1, ground := Ground.phase }, { on := 2, ground := Ground.phase }, { on := 3, ground := Ground.phase }, { on := 4, ground := Ground.phase }], guard := none }]
/-- Three blocks of nothing, and all below them as it was. -/
structure Tri (N g4 g6 g8 : Nat) (w x : World) : Prop where
  b4 : Holds x g4 C36 36
  b6 : Holds x g6 C36 36
  b8 : Holds x g8 C36 36
  lo : Below N w x
theorem Tri.gr {N g4 g6 g8 : Nat} {w x y : World} (h : Tri N g4 g6 g8 w x) (hN : N ≤ g4) (hg : Gr x y) : Tri N g4 g6 g8 w y :=
  ⟨h.b4.below hg h.b4.lt, h.b6.below hg h.b6.lt, h.b8.below hg h.b8.lt, h.lo.trans (Below.mono hg (by have := h.b4.lt; omega))⟩
theorem Tri.turn {N g4 g6 g8 g : Nat} {w x y : World} (h : Tri N g4 g6 g8 w x) (hg : N ≤ g) (hT : Turned g x y C36 36) : Tri N g4 g6 g8 w y := by
  have key : ∀ k, Holds x k C36 36 → Holds y k C36 36 := fun k hk => by
    by_cases e : k = g
    · subst e; exact hT.holds
    · unfold Holds; rw [hT.others k e]; exact hk
  exact ⟨key _ h.b4, key _ h.b6, key _ h.b8, h.lo.trans (hT.below hg)⟩
set_option maxRecDepth 100000 in
theorem r36_1 {Q : Exit → Act → World → Prop} {a0 : Act} {w0 w : World} (hz : a0.tmps.size = 24) (N g4 g6 g8 : Nat) (hN : N ≤ g4 ∧ N ≤ g6) (h : Tri N g4 g6 g8 w0 w) (e4 : a0.eval (.tmp 4) = .pointer (some ⟨g4, 0, none⟩)) (e6 : a0.eval (.tmp 6) = .pointer (some ⟨g6, 0, none⟩))
    (hend : ∀ z, Tri N g4 g6 g8 w0 z → Q .normal (putsL a0 [(9, E36), (10, E36), (11, E36), (12, E36)]) z) : (Code.region 1 q36_1 true).wp Tryz.prog Q a0 w := by
  refine region_inv (by kernel_rfl) (by kernel_rfl) (by kernel_rfl) (fun f x => Tri N g4 g6 g8 w0 x ∧ (∀ s v, f s = some v → v = E36) ∧ ∀ s, s ∉ [9, 10, 11, 12] → f s = none) ⟨h.gr hN.1 (Gr.drew w), (fun _ _ q => nomatch q), fun _ _ => rfl⟩ (fun i o ho f a x hov hI hneed _ => ?_) (fun f a x hov hI hall => ?_)
  · obtain ⟨hT, hf, hout⟩ := hI
    have p4 : a.eval (.tmp 4) = .pointer (some ⟨g4, 0, none⟩) := (hov.old (hout 4 (by decide))).trans e4
    have p6 : a.eval (.tmp 6) = .pointer (some ⟨g6, 0, none⟩) := (hov.old (hout 6 (by decide))).trans e6
    have got : ∀ s, s < 24 → (f s).isSome = true → a.eval (.tmp s) = E36 := fun s hs hq => by
      obtain ⟨v, hv⟩ := Option.isSome_iff_exists.1 hq
      rw [hov.get (by rw [hz]; exact hs) hv]; exact hf s v hv
    have put : ∀ d y, d ∈ [9, 10, 11, 12] → Tri N g4 g6 g8 w0 y → Tri N g4 g6 g8 w0 y ∧ (∀ s v, putE f (some d) E36 s = some v → v = E36) ∧ ∀ s, s ∉ [9, 10, 11, 12] → putE f (some d) E36 s = none := fun d y hd hy => ⟨hy, fun s v hv => by
      unfold putE at hv
      split at hv
      · exact (Option.some.inj hv).symm
      · exact hf s v hv, fun s hs => by
      unfold putE
      rw [if_neg (fun e => hs (by cases e; exact hd))]
      exact hout s hs⟩
    have hi : i < 6 := (Array.getElem?_eq_some_iff.1 ho).1
    match i, hi with
    | 0, _ =>
      cases ho
      exact .inl ⟨wanted_none rfl _, op_row 36 (.tmp 4) 2 _ C36 rfl g4 0 p4 Tryz.underlying36 rfl siz36 rfl (hT.b4.range 0 C36 (fun j u hj => by match j, hj with | 0, h => exact h | 1, h => exact h)) ⟨E36, rfl, put_of 9 rfl (put 9 x (by decide) hT)⟩⟩
    | 1, _ =>
      have h9 := hneed 9 (by cases ho; kernel_rfl)
      cases ho
      exact .inl ⟨wanted_none rfl _, op_call 41 _ _ rfl #[E36] (by simp [got 9 (by decide) h9]) (enters_of Tryz.func41 (by kernel_rfl) rfl) ((norm_none x).mono fun e z ⟨q1, q2⟩ => ⟨E36, q1, E36, rfl, put_of 10 rfl (put 10 z (by decide) (hT.gr hN.1 q2))⟩)⟩
    | 2, _ =>
      cases ho
      exact .inl ⟨wanted_none rfl _, op_row 36 (.tmp 6) 2 _ C36 rfl g6 0 p6 Tryz.underlying36 rfl siz36 rfl (hT.b6.range 0 C36 (fun j u hj => by match j, hj with | 0, h => exact h | 1, h => exact h)) ⟨E36, rfl, put_of 11 rfl (put 11 x (by decide) hT)⟩⟩
    | 3, _ =>
      have h11 := hneed 11 (by cases ho; kernel_rfl)
      cases ho
      exact .inl ⟨wanted_none rfl _, op_call 41 _ _ rfl #[E36] (by simp [got 11 (by decide) h11]) (enters_of Tryz.func41 (by kernel_rfl) rfl) ((norm_none x).mono fun e z ⟨q1, q2⟩ => ⟨E36, q1, E36, rfl, put_of 12 rfl (put 12 z (by decide) (hT.gr hN.1 q2))⟩)⟩
    | 4, _ =>
      have h10 := hneed 10 (by cases ho; kernel_rfl)
      cases ho
      exact .inl ⟨wanted_none rfl _, op_storeR 36 (.tmp 4) (.tmp 10) rfl g4 0 p4 C36 (got 10 (by decide) h10) 36 _ hT.b4 siz36 (Nat.le_refl _) one36 (fun y hy => ⟨undef, rfl, put_skip rfl ⟨hT.turn hN.1 hy, hf, hout⟩⟩)⟩
    | 5, _ =>
      have h12 := hneed 12 (by cases ho; kernel_rfl)
      cases ho
      exact .inl ⟨wanted_none rfl _, op_storeR 36 (.tmp 6) (.tmp 12) rfl g6 0 p6 C36 (got 12 (by decide) h12) 36 _ hT.b6 siz36 (Nat.le_refl _) one36 (fun y hy => ⟨undef, rfl, put_skip rfl ⟨hT.turn hN.2 hy, hf, hout⟩⟩)⟩
  · obtain ⟨hT, hf, hout⟩ := hI
    have ha : a = putsL a0 [(9, E36), (10, E36), (11, E36), (12, E36)] := by
      refine (hov.after hout).puts _ rfl (fun p hp hl => ?_)
      have hs : (f p.1).isSome = true := by
        simp only [List.mem_cons, List.not_mem_nil, or_false] at hp
        rcases hp with rfl | rfl | rfl | rfl
        · exact hall 0 _ 9 rfl rfl
        · exact hall 1 _ 10 rfl rfl
        · exact hall 2 _ 11 rfl rfl
        · exact hall 3 _ 12 rfl rfl
      obtain ⟨v, hv⟩ := Option.isSome_iff_exists.1 hs
      rw [hov.get hl hv, hf _ _ hv]
      simp only [List.mem_cons, List.not_mem_nil, or_false] at hp
      rcases hp with rfl | rfl | rfl | rfl <;> rfl
    rw [ha]
    exact hend x hT
theorem over36 : overV C36 0 C36 = C36 := rfl
theorem over38 : overV Z38 0 C38 = C38 := rfl
theorem parts_none : Tells 28 #[E38] E38 := fun w => by
  go_enter Tryz.func28, Tryz.ntmps28
  go_wp2
  exact bodyPost_ret (results_cell_row (p := 2) (by kernel_rfl) _ _ (w.heap.size + 1) 81 C38.toArray (0, 0) _ rfl new2 Tryz.underlying81 rfl siz81) rfl ⟨rfl, al2⟩
theorem kind_none : Tells 29 #[E38, .int .i64 2] E38 := fun w => by
  go_enter Tryz.func29, Tryz.ntmps29
  go_wp2
  exact bodyPost_ret (results_cell_row (p := 4) (by kernel_rfl) _ _ (w.heap.size + 1) 38 C38.toArray (0, 0) _ rfl new2 Tryz.underlying38 rfl siz38) rfl ⟨rfl, al2⟩
theorem cell_none : Tells 31 #[E38] E38 := fun w => by
  go_enter Tryz.func31, Tryz.ntmps31
  go_wp2
  exact bodyPost_ret (results_cell_row (p := 2) (by kernel_rfl) _ _ (w.heap.size + 1) 38 C38.toArray (0, 0) _ rfl new2 Tryz.underlying38 rfl siz38) rfl ⟨rfl, al2⟩
theorem tri_made (w : World) : Tri w.heap.size w.heap.size (w.heap.size + 1) (w.heap.size + 1 + 1) w (((w.alloc (.cells #[.slice none 0 0, .slice none 0 0] 36)).alloc (.cells #[.slice none 0 0, .slice none 0 0] 36)).alloc (.cells #[.slice none 0 0, .slice none 0 0] 36)) :=
  ⟨((holds_new w C36 36).alloc _).alloc _, by
    have : Holds ((w.alloc (.cells #[.slice none 0 0, .slice none 0 0] 36)).alloc (.cells #[.slice none 0 0, .slice none 0 0] 36)) (w.heap.size + 1) C36 36 := new2
    exact this.alloc _, new3, al3⟩
set_option maxRecDepth 100000 in
theorem sjoin_none : Tells 36 #[E36, .slice none 0 0, E36, .slice none 0 0] E36 := fun w => by
  have hT := tri_made w
  go_enter Tryz.func36, Tryz.ntmps36
  go_upto_region 1 with fail
  generalize hN : w.heap.size = N at hT ⊢
  generalize ((w.alloc (.cells #[.slice none 0 0, .slice none 0 0] 36)).alloc (.cells #[.slice none 0 0, .slice none 0 0] 36)).alloc (.cells #[.slice none 0 0, .slice none 0 0] 36) = W at hT ⊢
  refine r36_1 rfl N N (N + 1) (N + 1 + 1) ⟨Nat.le_refl _, by omega⟩ hT rfl rfl (fun z hz => ?_)
  simp only [putsL, List.foldl_cons, List.foldl_nil, put_lit, List.set_cons_succ, List.set_cons_zero]
  go_upto_region 2 with fail
  refine r36_2 rfl N (N + 1) (N + 1 + 1) staying_none (fun v y ⟨g, t, e, hH⟩ => by rw [e]; exact together_two g t y hH) norm_none hz.b4 hz.b6 hz.b8 rfl rfl rfl rfl rfl (fun z2 w2 u g2 t2 => ?_)
  rw [over36] at t2
  simp only [putsL, List.foldl_cons, List.foldl_nil, put_lit, List.set_cons_succ, List.set_cons_zero]
  have T2 : Hid (Tri N N (N + 1) (N + 1 + 1) w w2) := (hz.gr (Nat.le_refl _) g2).turn (by omega) t2
  clear hz hT g2 t2
  go_wp2
  exact bodyPost_ret (results_cell_row (p := 8) (by kernel_rfl) _ _ (N + 1 + 1) 36 C36.toArray (0, 0) _ rfl T2.out.b8 Tryz.underlying36 rfl siz36) rfl ⟨rfl, by show Below w.heap.size w w2; rw [hN]; exact T2.out.lo⟩
/-- Three blocks of cells: two, and where the third is told. -/
structure TriC (t : TypeId) (N : Nat) (w x : World) : Prop where
  b0 : Holds x N C38 t
  b1 : Holds x (N + 1) C38 t
  b2 : Holds x (N + 1 + 1) Z38 t
  gr : Gr w x
theorem TriC.more {t : TypeId} {N : Nat} {w x y : World} (h : TriC t N w x) (hg : Gr x y) : TriC t N w y :=
  ⟨h.b0.below hg h.b0.lt, h.b1.below hg h.b1.lt, h.b2.below hg h.b2.lt, h.gr.trans hg⟩
theorem tric_made (t : TypeId) (w : World) : TriC t w.heap.size w (((w.alloc (.cells #[.int .i64 2, .slice none 0 0, .slice none 0 0, .slice none 0 0] t)).alloc (.cells #[.int .i64 2, .slice none 0 0, .slice none 0 0, .slice none 0 0] t)).alloc (.cells #[.int .i64 0, .slice none 0 0, .slice none 0 0, .slice none 0 0] t)) :=
  ⟨((holds_new w C38 t).alloc _).alloc _, by
    have : Holds ((w.alloc (.cells #[.int .i64 2, .slice none 0 0, .slice none 0 0, .slice none 0 0] t)).alloc (.cells #[.int .i64 2, .slice none 0 0, .slice none 0 0, .slice none 0 0] t)) (w.heap.size + 1) C38 t := new2
    exact this.alloc _, new3, al3⟩
set_option maxRecDepth 100000 in
theorem joined_none : Tells 30 #[E38, E38] E38 := fun w => by
  have hT := tric_made 81 w
  have h36 : Hid (∀ W, Calls Tryz.prog 36 #[E36, .slice none 0 0, E36, .slice none 0 0] W fun e w' => e = .returned E36 ∧ Hid (Gr W w')) := sjoin_none
  go_enter Tryz.func30, Tryz.ntmps30
  go_upto_region 1 with fail
  generalize hN : w.heap.size = N at hT ⊢
  generalize ((w.alloc (.cells #[.int .i64 2, .slice none 0 0, .slice none 0 0, .slice none 0 0] 81)).alloc (.cells #[.int .i64 2, .slice none 0 0, .slice none 0 0, .slice none 0 0] 81)).alloc (.cells #[.int .i64 0, .slice none 0 0, .slice none 0 0, .slice none 0 0] 81) = W at hT ⊢
  have HT : Hid (TriC 81 N w W) := hT
  have a1 := hT.b0.at 1 _ rfl
  have a2 := hT.b0.at 2 _ rfl
  have a3 := hT.b0.at 3 _ rfl
  have b1 := hT.b1.at 1 _ rfl
  have b2 := hT.b1.at 2 _ rfl
  have b3 := hT.b1.at 3 _ rfl
  clear hT
  go_upto_region 2 with (go_at_call 36; refine (h36.out _).mono ?_; rintro e w2 ⟨rfl, g2⟩)
  have h3 := HT.out.more (g2.out.trans (Gr.alloc w2 (.cells #[.slice none 0 0, .slice none 0 0] 36)))
  have h5 := holds_new w2 C36 36
  generalize w2.heap.size = g5 at h5 ⊢
  generalize w2.alloc (.cells #[.slice none 0 0, .slice none 0 0] 36) = W3 at h3 h5 ⊢
  clear g2 a1 a2 a3 b1 b2 b3 h36
  refine r30_2 rfl N (N + 1) (N + 1 + 1) g5 (fun v y ⟨g, t, e, hH⟩ => by rw [e]; exact merge_nils 2 g t _ (.inr rfl) rfl y hH) h3.b0 h3.b1 h5 h3.b2 rfl rfl rfl rfl (fun z4 w4 u g4 t4 => ?_)
  rw [over38] at t4
  simp only [putsL, List.foldl_cons, List.foldl_nil, put_lit, List.set_cons_succ, List.set_cons_zero]
  have T4 : Hid (Turned (N + 1 + 1) z4 w4 C38 81) := t4
  have G4 : Hid (Gr w z4) := h3.gr.trans g4
  clear h3 h5 t4 g4 HT
  go_wp2
  exact bodyPost_ret (results_cell_row (p := 4) (by kernel_rfl) _ _ (N + 1 + 1) 81 C38.toArray (0, 0) _ rfl T4.out.holds Tryz.underlying81 rfl siz81) rfl ⟨rfl, Below.trans G4.out (T4.out.below (by omega))⟩
set_option maxRecDepth 100000 in
theorem cjoin_none : Tells 17 #[E38, E38] E38 := fun w => by
  have hT := tric_made 38 w
  have hmx : ∀ W, (Builtin.max_ #[3, 3] 3 #[.int .i64 2, .int .i64 2]).run Tryz.prog W = .ok (.int .i64 2) W := fun W => by kernel_rfl
  go_enter Tryz.func17, Tryz.ntmps17
  go_upto_region 1 with fail
  generalize hN : w.heap.size = N at hT ⊢
  generalize ((w.alloc (.cells #[.int .i64 2, .slice none 0 0, .slice none 0 0, .slice none 0 0] 38)).alloc (.cells #[.int .i64 2, .slice none 0 0, .slice none 0 0, .slice none 0 0] 38)).alloc (.cells #[.int .i64 0, .slice none 0 0, .slice none 0 0, .slice none 0 0] 38) = W at hT ⊢
  have HT : Hid (TriC 38 N w W) := hT
  have a1 := hT.b0.at 0 _ rfl
  have b1 := hT.b1.at 0 _ rfl
  clear hT
  go_upto_region 2 with fail
  refine r17_2 rfl N (N + 1) (N + 1 + 1) kind_none parts_none joined_none cell_none HT.out.b0 HT.out.b1 HT.out.b2 rfl rfl rfl rfl (fun z4 w4 g4 t4 => ?_)
  rw [over38] at t4
  simp only [putsL, List.foldl_cons, List.foldl_nil, put_lit, List.set_cons_succ, List.set_cons_zero]
  have T4 : Hid (Turned (N + 1 + 1) z4 w4 C38 38) := t4
  have G4 : Hid (Gr w z4) := HT.out.gr.trans g4
  clear t4 g4 HT a1 b1
  go_wp2
  exact bodyPost_ret (results_cell_row (p := 4) (by kernel_rfl) _ _ (N + 1 + 1) 38 C38.toArray (0, 0) _ rfl T4.out.holds Tryz.underlying38 rfl siz38) rfl ⟨rfl, Below.trans G4.out (T4.out.below (by omega))⟩
set_option maxRecDepth 100000 in
theorem csame_none : Tells 25 #[E38, E38] (.bool true) := fun w => by
  have hp : Holds ((w.alloc (.cells #[.int .i64 2, .slice none 0 0, .slice none 0 0, .slice none 0 0] 38)).alloc (.cells #[.int .i64 2, .slice none 0 0, .slice none 0 0, .slice none 0 0] 38)) w.heap.size C38 38 := (holds_new w C38 38).alloc _
  have hq : Holds ((w.alloc (.cells #[.int .i64 2, .slice none 0 0, .slice none 0 0, .slice none 0 0] 38)).alloc (.cells #[.int .i64 2, .slice none 0 0, .slice none 0 0, .slice none 0 0] 38)) (w.heap.size + 1) C38 38 := new2
  have hg : Gr w ((w.alloc (.cells #[.int .i64 2, .slice none 0 0, .slice none 0 0, .slice none 0 0] 38)).alloc (.cells #[.int .i64 2, .slice none 0 0, .slice none 0 0, .slice none 0 0] 38)) := al2
  go_enter Tryz.func25, Tryz.ntmps25
  go_upto_region 1 with fail
  refine r25_1 rfl w.heap.size (w.heap.size + 1) parts_none same33_none hp hq rfl rfl (fun z g => ?_)
  simp only [putsL, List.foldl_cons, List.foldl_nil, put_lit, List.set_cons_succ, List.set_cons_zero]
  have G2 : Hid (Gr w z) := hg.trans g
  clear hp hq hg g
  go_wp2
  go_ret
  exact ⟨rfl, G2.out⟩
end Go.Proofs.YtmhpfncbbboamaaGreat
