/- GsMkD, GsMkE. -/
import Derived.Test.YthmnjebmnocoiaaGreatYM3
/- The document's own ways with rings: join. By tools/gen_mk.py. -/
namespace Go.Proofs.YthmnjebmnocoiaaGreat.En
open Go.RowKit
set_option maxRecDepth 100000
variable {Q : Exit → Act → World → Prop} {a0 : Act} {w : World}
theorem sa_fd {P : Program} {ops : Array Oper} {Q : Exit → Act → World → Prop} {D : List Nat} {T : Nat → Fact} {a0 : Act} {w : World} {o : Oper} (t : TypeId) (u : Operand) (k d : Nat) (s q : Value) (ho : o.op = .field t u k) (hd : o.dst = some d) (hg : o.guard = none) (h1 : Has ops D T a0 o u (Fact.val s)) (hr : ∀ y, (Instr.field t s k).run P y = .ok q y) (hT : T d = Fact.val q) : StepAt P ops D T a0 w Q o :=
  sa_of d hd hg fun f a y c => by
    have e1 : a.eval u = s := h1.get c
    refine op_val q (y := y) ?_ ⟨_, rfl, Gr.refl _, by rw [hT]; rfl⟩
    unfold execOp
    simp only [ho, e1, Sem.run_bind, hr, Sem.run_pure, Result.andThen_ok]
theorem c_find (F : Nat) (r : Rg) (node : Int) (v0 v1 : Value) (y : World) (q0 : (ringF F r).holds v0 y) (q1 : (Fact.val (.int .i64 node)).holds v1 y) : Calls Tryz.prog 39 #[v0, v1] y fun e z => ∃ u, e = .returned u ∧ Gr y z ∧ (Fact.val (.agg (mbV (findM r.1 node)).toArray)).holds u z := by
  obtain ⟨u, rfl, R, _⟩ := q0
  rw [show v1 = _ from q1]
  exact (find_any u r node y R).mono fun e z ⟨e1, e2⟩ => ⟨_, e1, e2, rfl⟩
theorem find_fit (r : Rg) (h : RFit r) (node : Int) : (findM r.1 node).2.2 < 18446744073709551616 := by
  unfold findM
  cases hf : r.1.find? fun m => decide (m.1 = node) with
  | none => exact Nat.zero_lt_succ _
  | some m => exact h.mem m (List.mem_of_find?_eq_some hf)
def q13_0 : Array Oper := #[⟨some 2, .box 28 (.tmp 0), 0, "ref.go:105", #[], none⟩, ⟨some 4, .alloc 28, 0, "ref.go:105", #[], none⟩]
def q13_1 : Array Oper := #[⟨some 6, .load 28 (.tmp 2), 28, "ref.go:106", #[], none⟩, ⟨some 7, .call ⟨.value (.func 9), #[.tmp 6], #[28]⟩, 28, "ref.go:106", #[⟨0, .data⟩], none⟩, ⟨none, .store 28 (.tmp 2) (.tmp 7), 0, "ref.go:106", #[⟨1, .data⟩, ⟨1, .chain⟩, ⟨0, .phase⟩, ⟨1, .phase⟩], none⟩]
def q13_2 : Array Oper := #[⟨some 8, .load 28 (.tmp 2), 28, "ref.go:107", #[], none⟩, ⟨some 9, .move (.tmp 1), 3, "ref.go:107", #[], none⟩, ⟨some 10, .call ⟨.value (.func 39), #[.tmp 8, .tmp 9], #[28, 3]⟩, 53, "ref.go:107", #[⟨0, .data⟩, ⟨1, .data⟩], none⟩, ⟨some 5, .alloc 53, 0, "ref.go:107", #[], none⟩, ⟨none, .store 53 (.tmp 5) (.tmp 10), 0, "ref.go:107", #[⟨3, .data⟩, ⟨2, .data⟩, ⟨2, .chain⟩, ⟨0, .phase⟩, ⟨1, .phase⟩, ⟨2, .phase⟩, ⟨3, .phase⟩], none⟩]
def q13_3 : Array Oper := #[⟨some 11, .move (.tmp 1), 3, "ref.go:108", #[], none⟩, ⟨some 12, .binOp .lss 3 (.tmp 11) (.const (.int .i64 1)) 3, 4, "ref.go:108", #[⟨0, .data⟩], none⟩, ⟨some 13, .move (.tmp 12), 4, "ref.go:108", #[⟨1, .data⟩], none⟩, ⟨some 14, .move (.tmp 1), 3, "ref.go:108", #[⟨2, .guard⟩], some (2, false)⟩, ⟨some 15, .binOp .gtr 3 (.tmp 14) (.const (.int .i64 7)) 3, 4, "ref.go:108", #[⟨3, .data⟩, ⟨2, .guard⟩], some (2, false)⟩, ⟨some 16, .pick (.tmp 13) (.const (.bool true)) (.tmp 15), 4, "ref.go:108", #[⟨2, .data⟩, ⟨4, .data⟩], none⟩, ⟨some 17, .move (.tmp 16), 4, "ref.go:108", #[⟨5, .data⟩, ⟨2, .chain⟩], none⟩, ⟨some 18, .fieldAddr 53 (.tmp 5) 1, 0, "ref.go:108", #[⟨6, .guard⟩], some (6, false)⟩, ⟨some 19, .load 3 (.tmp 18), 3, "ref.go:108", #[⟨7, .data⟩, ⟨6, .guard⟩], some (6, false)⟩, ⟨some 20, .binOp .eql 3 (.tmp 19) (.const (.int .i64 1)) 3, 4, "ref.go:108", #[⟨8, .data⟩, ⟨6, .guard⟩], some (6, false)⟩, ⟨some 21, .pick (.tmp 17) (.const (.bool true)) (.tmp 20), 4, "ref.go:108", #[⟨6, .data⟩, ⟨9, .data⟩], none⟩]
def q13_4 : Array Oper := #[⟨some 22, .load 28 (.tmp 2), 28, "ref.go:109", #[], none⟩, ⟨none, .store 28 (.tmp 4) (.tmp 22), 0, "ref.go:109", #[⟨0, .data⟩, ⟨0, .phase⟩], none⟩]
def q13_5 : Array Oper := #[⟨some 23, .load 28 (.tmp 2), 28, "ref.go:111", #[], none⟩, ⟨some 24, .move (.tmp 1), 3, "ref.go:111", #[], none⟩, ⟨some 25, .fieldAddr 53 (.tmp 5) 2, 0, "ref.go:111", #[], none⟩, ⟨some 26, .load 23 (.tmp 25), 23, "ref.go:111", #[⟨2, .data⟩], none⟩, ⟨some 27, .call ⟨.value (.func 41), #[.tmp 26], #[23]⟩, 23, "ref.go:111", #[⟨3, .data⟩], none⟩, ⟨some 28, .build 53 #[(0, .tmp 24), (1, .const (.int .i64 1)), (2, .tmp 27)], 53, "ref.go:111", #[⟨1, .data⟩, ⟨4, .data⟩], none⟩, ⟨some 29, .call ⟨.value (.func 40), #[.tmp 23, .tmp 28], #[28, 53]⟩, 28, "ref.go:111", #[⟨0, .data⟩, ⟨5, .data⟩, ⟨4, .chain⟩], none⟩, ⟨none, .store 28 (.tmp 4) (.tmp 29), 0, "ref.go:111", #[⟨6, .data⟩, ⟨6, .chain⟩, ⟨0, .phase⟩, ⟨1, .phase⟩, ⟨2, .phase⟩, ⟨3, .phase⟩, ⟨4, .phase⟩, ⟨5, .phase⟩, ⟨6, .phase⟩], none⟩]
theorem r13_1 (hz : a0.tmps.size = 30) (b : Nat) (u : Value) (r : Rg) (hC : Holds w b (ringC u r) 28) (hR : RingAt w.heap.size w u r) (e2 : a0.eval (.tmp 2) = .pointer (some ⟨b, 0, none⟩)) (hend : ∀ ac wz, After [6, 7] a0 ac → Bf w.heap.size wz b (normL r) → Upd b w wz → Q .normal ac wz) : RW 1 q13_1 false Q a0 w := by
  refine seq_by (by kernel_rfl) 2 (by decide) [6, 7] (fun | 6 => .val (.agg (ringC u r).toArray) | 7 => ringF w.heap.size (normL r) | _ => .any) (by kernel_rfl) (fmc ⟨?s0, fmc ⟨?s1, fun o ho => nomatch ho⟩⟩) ?e
  case s0 => exact sa_row 28 (.tmp 2) 6 b (0) 17 _ (ringC u r) rfl rfl rfl Tryz.underlying28 rfl siz28 (ringC_len hR) (.old 2 _ (by decide) e2) (fun y hy => range_of (hC.below hy hC.lt)) rfl
  case s1 => exact sa_callF1 9 (.tmp 6) _ 7 (.agg (ringC u r).toArray) (ringF w.heap.size (normL r)) rfl rfl rfl (.nw 6 hz) (enters_of Tryz.func9 (by kernel_rfl) rfl) (fun y hy => k_norm u r w y hy hR) rfl
  case e =>
  intro ac wz hA hgr hv
  have o7 := hw hv hz 7
  have o2 : ac.eval (.tmp 2) = .pointer (some ⟨b, 0, none⟩) := (hA.old 2 (by decide)).trans e2
  refine wpl_store_ring rfl (.tmp 2) (.tmp 7) rfl rfl b w.heap.size o2 (normL r) o7 (ringC u r) (hC.below hgr hC.lt) (ringC_len hR) hC.lt (fun w3 h3 u3 _ => ?_)
  exact wl_end (hend _ w3 hA h3 ((Gr.upd hgr).trans u3))
theorem r13_2 (hz : a0.tmps.size = 30) (b : Nat) (node : Int) (u : Value) (r : Rg) (hC : Holds w b (ringC u r) 28) (hR : RingAt w.heap.size w u r) (e2 : a0.eval (.tmp 2) = .pointer (some ⟨b, 0, none⟩)) (e1 : a0.eval (.tmp 1) = .int .i64 node) (hend : ∀ ac wz c, After (5 :: [8, 9, 10]) a0 ac → ac.eval (.tmp 5) = .pointer (some ⟨c, 0, none⟩) → Holds wz c (mbV (findM r.1 node)) 53 → Gr w wz → Q .normal ac wz) : RW 2 q13_2 false Q a0 w := by
  refine seq_by (by kernel_rfl) 3 (by decide) [8, 9, 10] (fun | 8 => .val (.agg (ringC u r).toArray) | 9 => .val (.int .i64 node) | 10 => .val (.agg (mbV (findM r.1 node)).toArray) | _ => .any) (by kernel_rfl) (fmc ⟨?s0, fmc ⟨?s1, fmc ⟨?s2, fun o ho => nomatch ho⟩⟩⟩) ?e
  case s0 => exact sa_row 28 (.tmp 2) 8 b (0) 17 _ (ringC u r) rfl rfl rfl Tryz.underlying28 rfl siz28 (ringC_len hR) (.old 2 _ (by decide) e2) (fun y hy => range_of (hC.below hy hC.lt)) rfl
  case s1 => exact sa_mo 1 9 e1
  case s2 => exact sa_call2 39 (.tmp 8) (.tmp 9) _ 10 (.val (.agg (ringC u r).toArray)) (.val (.int .i64 node)) rfl rfl rfl (.nw 8 hz) (.nw 9 hz) (enters_of Tryz.func39 (by kernel_rfl) rfl) (fun v0 v1 y hgy q0 q1 => by rw [show v0 = _ from q0]; rw [show v1 = _ from q1]; exact (find_any u r node y ((hR.below hgy).mono hgy.size)).mono fun e z ⟨e1, e2⟩ => ⟨_, e1, e2, rfl⟩)
  case e =>
  intro ac wz hA hgr hv
  have o10 : ac.eval (.tmp 10) = .agg (mbV (findM r.1 node)).toArray := hw hv hz 10
  refine wpList_alloc_new 5 rfl rfl 53 rfl wz.heap.size rfl _ zero35 ?_
  intro w3 h3
  have f5 : (ac.put (some 5) (.pointer (some ⟨wz.heap.size, 0, none⟩))).eval (.tmp 5) = .pointer (some ⟨wz.heap.size, 0, none⟩) := (ev_put (by rw [hA.size, hz]; decide)).trans (if_pos rfl)
  refine wpList_store_all rfl 53 (.tmp 5) (.tmp 10) rfl wz.heap.size f5 (mbV (findM r.1 node)) ((ev_put (by rw [hA.size, hz]; decide)).trans ((if_neg (by decide)).trans o10)) 53 _ h3.holds siz53 rfl (mbV_one _) ?_
  intro w4 h4
  exact wl_end (hend _ w4 _ (hA.put 5 _) f5 h4.holds (hgr.trans (h3.below.trans (h4.below (Nat.le_refl _)))))
theorem r13_3a (hz : a0.tmps.size = 30) (node : Int) (h1 : node < 1) (e1 : a0.eval (.tmp 1) = .int .i64 node) (hend : ∀ ac wz, After [11, 12, 13, 14, 15, 16, 17, 18, 19, 20, 21] a0 ac → ac.eval (.tmp 21) = .bool true → Gr w wz → Q .normal ac wz) : RW 3 q13_3 false Q a0 w := by
  refine seq_by (by kernel_rfl) 11 (by decide) [11, 12, 13, 14, 15, 16, 17, 18, 19, 20, 21] (fun | 11 => .val (.int .i64 node) | 12 => .val (.bool true) | 13 => .val (.bool true) | 16 => .val (.bool true) | 17 => .val (.bool true) | 21 => .val (.bool true) | _ => .any) (by kernel_rfl) (fmc ⟨?s0, fmc ⟨?s1, fmc ⟨?s2, fmc ⟨?s3, fmc ⟨?s4, fmc ⟨?s5, fmc ⟨?s6, fmc ⟨?s7, fmc ⟨?s8, fmc ⟨?s9, fmc ⟨?s10, fun o ho => nomatch ho⟩⟩⟩⟩⟩⟩⟩⟩⟩⟩⟩) ?e
  case s0 => exact sa_mo 1 11 e1
  case s1 => exact sa_bin .lss 3 (.tmp 11) (.const _) 3 12 (.int .i64 node) (.int .i64 1) (.bool true) rfl rfl rfl (.nw 11 hz) (.const _) guard_int (bin_lss (decide_eq_true (by omega))) rfl
  case s2 => exact sa_mw 12 13 hz
  case s3 => exact so_nF 2 13 hz
  case s4 => exact so_nF 2 13 hz
  case s5 => exact sa_pick (.tmp 13) (.const _) (.tmp 15) 16 (.val (.bool true)) rfl rfl rfl (.nw 13 hz) (.const _) rfl
  case s6 => exact sa_mw 16 17 hz
  case s7 => exact so_nF 6 17 hz
  case s8 => exact so_nF 6 17 hz
  case s9 => exact so_nF 6 17 hz
  case s10 => exact sa_pick (.tmp 17) (.const _) (.tmp 20) 21 (.val (.bool true)) rfl rfl rfl (.nw 17 hz) (.const _) rfl
  case e =>
  intro ac wz hA hgr hv
  exact wl_end (hend ac wz hA (hw hv hz 21) hgr)
theorem r13_3b (hz : a0.tmps.size = 30) (node : Int) (h1 : ¬ node < 1) (h2 : 7 < node) (e1 : a0.eval (.tmp 1) = .int .i64 node) (hend : ∀ ac wz, After [11, 12, 13, 14, 15, 16, 17, 18, 19, 20, 21] a0 ac → ac.eval (.tmp 21) = .bool true → Gr w wz → Q .normal ac wz) : RW 3 q13_3 false Q a0 w := by
  refine seq_by (by kernel_rfl) 11 (by decide) [11, 12, 13, 14, 15, 16, 17, 18, 19, 20, 21] (fun | 11 => .val (.int .i64 node) | 12 => .val (.bool false) | 13 => .val (.bool false) | 14 => .val (.int .i64 node) | 15 => .val (.bool true) | 16 => .val (.bool true) | 17 => .val (.bool true) | 21 => .val (.bool true) | _ => .any) (by kernel_rfl) (fmc ⟨?s0, fmc ⟨?s1, fmc ⟨?s2, fmc ⟨?s3, fmc ⟨?s4, fmc ⟨?s5, fmc ⟨?s6, fmc ⟨?s7, fmc ⟨?s8, fmc ⟨?s9, fmc ⟨?s10, fun o ho => nomatch ho⟩⟩⟩⟩⟩⟩⟩⟩⟩⟩⟩) ?e
  case s0 => exact sa_mo 1 11 e1
  case s1 => exact sa_bin .lss 3 (.tmp 11) (.const _) 3 12 (.int .i64 node) (.int .i64 1) (.bool false) rfl rfl rfl (.nw 11 hz) (.const _) guard_int (bin_lss (decide_eq_false (by omega))) rfl
  case s2 => exact sa_mw 12 13 hz
  case s3 => exact sa_gf 2 13 hz (sa_mo 1 14 e1)
  case s4 => exact sa_gf 2 13 hz (sa_bin .gtr 3 (.tmp 14) (.const _) 3 15 (.int .i64 node) (.int .i64 7) (.bool true) rfl rfl rfl (.nw 14 hz) (.const _) guard_int (bin_gtr (decide_eq_true (by omega))) rfl)
  case s5 => exact sa_pickF (.tmp 13) (.const _) (.tmp 15) 16 (.val (.bool true)) rfl rfl rfl (.nw 13 hz) (.nw 15 hz) rfl
  case s6 => exact sa_mw 16 17 hz
  case s7 => exact so_nF 6 17 hz
  case s8 => exact so_nF 6 17 hz
  case s9 => exact so_nF 6 17 hz
  case s10 => exact sa_pick (.tmp 17) (.const _) (.tmp 20) 21 (.val (.bool true)) rfl rfl rfl (.nw 17 hz) (.const _) rfl
  case e =>
  intro ac wz hA hgr hv
  exact wl_end (hend ac wz hA (hw hv hz 21) hgr)
theorem r13_3c (hz : a0.tmps.size = 30) (node : Int) (c : Nat) (m : Mb) (h1 : ¬ node < 1) (h2 : ¬ 7 < node) (hM : Holds w c (mbV m) 53) (e1 : a0.eval (.tmp 1) = .int .i64 node) (e5 : a0.eval (.tmp 5) = .pointer (some ⟨c, 0, none⟩)) (hend : ∀ ac wz, After [11, 12, 13, 14, 15, 16, 17, 18, 19, 20, 21] a0 ac → ac.eval (.tmp 21) = .bool (decide (m.2.1 = 1)) → Gr w wz → Q .normal ac wz) : RW 3 q13_3 false Q a0 w := by
  refine seq_by (by kernel_rfl) 11 (by decide) [11, 12, 13, 14, 15, 16, 17, 18, 19, 20, 21] (fun | 11 => .val (.int .i64 node) | 12 => .val (.bool false) | 13 => .val (.bool false) | 14 => .val (.int .i64 node) | 15 => .val (.bool false) | 16 => .val (.bool false) | 17 => .val (.bool false) | 18 => .val (.pointer (some ⟨c, 1, none⟩)) | 19 => .val (.int .i64 m.2.1) | 20 => .val (.bool (decide (m.2.1 = 1))) | 21 => .val (.bool (decide (m.2.1 = 1))) | _ => .any) (by kernel_rfl) (fmc ⟨?s0, fmc ⟨?s1, fmc ⟨?s2, fmc ⟨?s3, fmc ⟨?s4, fmc ⟨?s5, fmc ⟨?s6, fmc ⟨?s7, fmc ⟨?s8, fmc ⟨?s9, fmc ⟨?s10, fun o ho => nomatch ho⟩⟩⟩⟩⟩⟩⟩⟩⟩⟩⟩) ?e
  case s0 => exact sa_mo 1 11 e1
  case s1 => exact sa_bin .lss 3 (.tmp 11) (.const _) 3 12 (.int .i64 node) (.int .i64 1) (.bool false) rfl rfl rfl (.nw 11 hz) (.const _) guard_int (bin_lss (decide_eq_false (by omega))) rfl
  case s2 => exact sa_mw 12 13 hz
  case s3 => exact sa_gf 2 13 hz (sa_mo 1 14 e1)
  case s4 => exact sa_gf 2 13 hz (sa_bin .gtr 3 (.tmp 14) (.const _) 3 15 (.int .i64 node) (.int .i64 7) (.bool false) rfl rfl rfl (.nw 14 hz) (.const _) guard_int (bin_gtr (decide_eq_false (by omega))) rfl)
  case s5 => exact sa_pickF (.tmp 13) (.const _) (.tmp 15) 16 (.val (.bool false)) rfl rfl rfl (.nw 13 hz) (.nw 15 hz) rfl
  case s6 => exact sa_mw 16 17 hz
  case s7 => exact sa_gf 6 17 hz (sa_fa 53 (.tmp 5) 1 18 (.pointer (some ⟨c, 0, none⟩)) (.pointer (some ⟨c, 1, none⟩)) rfl rfl rfl (.old 5 _ (by decide) e5) (by intro w; kernel_rfl) rfl)
  case s8 => exact sa_gf 6 17 hz (sa_loadc 3 (.tmp 18) 19 (c) (1) (.int .i64 m.2.1) rfl rfl rfl (by intro w; kernel_rfl) (.nw 18 hz) (fun y hy => (hM.below hy hM.lt).at 1 _ rfl) rfl)
  case s9 => exact sa_gf 6 17 hz (sa_bin .eql 3 (.tmp 19) (.const _) 3 20 (.int .i64 m.2.1) (.int .i64 1) (.bool (decide (m.2.1 = 1))) rfl rfl rfl (.nw 19 hz) (.const _) guard_int (bin_eql rfl) rfl)
  case s10 => exact sa_pickF (.tmp 17) (.const _) (.tmp 20) 21 (.val (.bool (decide (m.2.1 = 1)))) rfl rfl rfl (.nw 17 hz) (.nw 20 hz) rfl
  case e =>
  intro ac wz hA hgr hv
  exact wl_end (hend ac wz hA (hw hv hz 21) hgr)
theorem r13_4 (hz : a0.tmps.size = 30) (b b4 F : Nat) (u : Value) (r : Rg) (hC : Holds w b (ringC u r) 28) (hR : RingAt w.heap.size w u r) (hf : Fresh F u) (old : List Value) (h4 : Holds w b4 old 28) (hl : old.length = 17) (hF : b4 < F) (e2 : a0.eval (.tmp 2) = .pointer (some ⟨b, 0, none⟩)) (e4 : a0.eval (.tmp 4) = .pointer (some ⟨b4, 0, none⟩)) (hend : ∀ ac wz, After [22] a0 ac → Bf F wz b4 r → Upd b4 w wz → Q .normal ac wz) : RW 4 q13_4 false Q a0 w := by
  refine seq_by (by kernel_rfl) 1 (by decide) [22] (fun | 22 => .val (.agg (ringC u r).toArray) | _ => .any) (by kernel_rfl) (fmc ⟨?s0, fun o ho => nomatch ho⟩) ?e
  case s0 => exact sa_row 28 (.tmp 2) 22 b (0) 17 _ (ringC u r) rfl rfl rfl Tryz.underlying28 rfl siz28 (ringC_len hR) (.old 2 _ (by decide) e2) (fun y hy => range_of (hC.below hy hC.lt)) rfl
  case e =>
  intro ac wz hA hgr hv
  have o22 : ac.eval (.tmp 22) = .agg (ringC u r).toArray := hw hv hz 22
  have o4 : ac.eval (.tmp 4) = .pointer (some ⟨b4, 0, none⟩) := (hA.old 4 (by decide)).trans e4
  refine wpl_store_ring rfl (.tmp 4) (.tmp 22) rfl rfl b4 F o4 r ⟨u, o22, (hR.below hgr).mono hgr.size, hf⟩ old (h4.below hgr h4.lt) hl hF (fun w3 h3 u3 _ => ?_)
  exact wl_end (hend _ w3 hA h3 ((Gr.upd hgr).trans u3))
theorem r13_5 (hz : a0.tmps.size = 30) (b c b4 : Nat) (node : Int) (m : Mb) (u : Value) (r : Rg) (hC : Holds w b (ringC u r) 28) (hR : RingAt w.heap.size w u r) (hM : Holds w c (mbV m) 53) (hv : m.2.2 < 18446744073709551616) (old : List Value) (h4 : Holds w b4 old 28) (hl : old.length = 17) (hP : ∀ y, Gr w y → Calls Tryz.prog 40 #[.agg (ringC u r).toArray, .agg (mbV (node, 1, moreN m.2.2)).toArray] y fun e z => ∃ v, e = .returned v ∧ Gr y z ∧ (ringF w.heap.size (putR r (node, 1, moreN m.2.2))).holds v z) (e2 : a0.eval (.tmp 2) = .pointer (some ⟨b, 0, none⟩)) (e1 : a0.eval (.tmp 1) = .int .i64 node) (e5 : a0.eval (.tmp 5) = .pointer (some ⟨c, 0, none⟩)) (e4 : a0.eval (.tmp 4) = .pointer (some ⟨b4, 0, none⟩)) (hend : ∀ ac wz, After [23, 24, 25, 26, 27, 28, 29] a0 ac → Bf w.heap.size wz b4 (putR r (node, 1, moreN m.2.2)) → Upd b4 w wz → Q .normal ac wz) : RW 5 q13_5 true Q a0 w := by
  refine drawn_tail (by kernel_rfl) (by kernel_rfl) 7 (by decide) (by kernel_rfl) (by kernel_rfl) [23, 24, 25, 26, 27, 28, 29] (fun | 23 => .val (.agg (ringC u r).toArray) | 24 => .val (.int .i64 node) | 25 => .val (.pointer (some ⟨c, 2, none⟩)) | 26 => .val (.int .u64 (m.2.2 : Int)) | 27 => .val (.int .u64 (moreN m.2.2 : Int)) | 28 => .val (.agg (mbV (node, 1, moreN m.2.2)).toArray) | 29 => ringF w.heap.size (putR r (node, 1, moreN m.2.2)) | _ => .any) (by kernel_rfl) (fmc ⟨?s0, fmc ⟨?s1, fmc ⟨?s2, fmc ⟨?s3, fmc ⟨?s4, fmc ⟨?s5, fmc ⟨?s6, fun o ho => nomatch ho⟩⟩⟩⟩⟩⟩⟩) ?e
  case s0 => exact sa_row 28 (.tmp 2) 23 b (0) 17 _ (ringC u r) rfl rfl rfl Tryz.underlying28 rfl siz28 (ringC_len hR) (.old 2 _ (by decide) e2) (fun y hy => range_of (hC.below hy hC.lt)) rfl
  case s1 => exact sa_mo 1 24 e1
  case s2 => exact sa_fa 53 (.tmp 5) 2 25 (.pointer (some ⟨c, 0, none⟩)) (.pointer (some ⟨c, 2, none⟩)) rfl rfl rfl (.old 5 _ (by decide) e5) (by intro w; kernel_rfl) rfl
  case s3 => exact sa_loadc 23 (.tmp 25) 26 (c) (2) (.int .u64 (m.2.2 : Int)) rfl rfl rfl (by intro w; kernel_rfl) (.nw 25 hz) (fun y hy => (hM.below hy hM.lt).at 2 _ rfl) rfl
  case s4 => exact sa_call1 41 (.tmp 26) _ 27 (.val (.int .u64 (m.2.2 : Int))) rfl rfl rfl (.nw 26 hz) (enters_of Tryz.func41 (by kernel_rfl) rfl) (fun v0 y hgy q0 => by rw [show v0 = _ from q0]; exact (rmore_any m.2.2 hv y).mono fun e z ⟨e1, e2⟩ => ⟨_, e1, e2, rfl⟩)
  case s5 => exact sa_bd3 53 0 1 2 (.tmp 24) (.const _) (.tmp 27) 28 (.int .i64 node) (.int .i64 1) (.int .u64 (moreN m.2.2 : Int)) (.agg (mbV (node, 1, moreN m.2.2)).toArray) rfl rfl rfl (.nw 24 hz) (.const _) (.nw 27 hz) (by intro w; kernel_rfl) rfl
  case s6 => exact sa_callF2 40 (.tmp 23) (.tmp 28) _ 29 (.agg (ringC u r).toArray) (.agg (mbV (node, 1, moreN m.2.2)).toArray) (ringF w.heap.size (putR r (node, 1, moreN m.2.2))) rfl rfl rfl (.nw 23 hz) (.nw 28 hz) (enters_of Tryz.func40 (by kernel_rfl) rfl) hP rfl
  case e =>
  intro ac wz hA hgr hv
  have o29 := hw hv hz 29
  have o4 : ac.eval (.tmp 4) = .pointer (some ⟨b4, 0, none⟩) := (hA.old 4 (by decide)).trans e4
  refine wpl_store_ring rfl (.tmp 4) (.tmp 29) rfl rfl b4 w.heap.size o4 (putR r (node, 1, moreN m.2.2)) o29 old (h4.below hgr h4.lt) hl h4.lt (fun w3 h3 u3 _ => ?_)
  exact wl_end (hend _ w3 hA h3 ((Gr.upd hgr).trans u3))
def q15_0 : Array Oper := #[⟨some 2, .box 28 (.tmp 0), 0, "ref.go:115", #[], none⟩, ⟨some 4, .alloc 28, 0, "ref.go:115", #[], none⟩]
def q15_1 : Array Oper := #[⟨some 6, .load 28 (.tmp 2), 28, "ref.go:116", #[], none⟩, ⟨some 7, .call ⟨.value (.func 9), #[.tmp 6], #[28]⟩, 28, "ref.go:116", #[⟨0, .data⟩], none⟩, ⟨none, .store 28 (.tmp 2) (.tmp 7), 0, "ref.go:116", #[⟨1, .data⟩, ⟨1, .chain⟩, ⟨0, .phase⟩, ⟨1, .phase⟩], none⟩]
def q15_2 : Array Oper := #[⟨some 8, .load 28 (.tmp 2), 28, "ref.go:117", #[], none⟩, ⟨some 9, .move (.tmp 1), 3, "ref.go:117", #[], none⟩, ⟨some 10, .call ⟨.value (.func 39), #[.tmp 8, .tmp 9], #[28, 3]⟩, 53, "ref.go:117", #[⟨0, .data⟩, ⟨1, .data⟩], none⟩, ⟨some 5, .alloc 53, 0, "ref.go:117", #[], none⟩, ⟨none, .store 53 (.tmp 5) (.tmp 10), 0, "ref.go:117", #[⟨3, .data⟩, ⟨2, .data⟩, ⟨2, .chain⟩, ⟨0, .phase⟩, ⟨1, .phase⟩, ⟨2, .phase⟩, ⟨3, .phase⟩], none⟩]
def q15_3 : Array Oper := #[⟨some 11, .fieldAddr 53 (.tmp 5) 1, 0, "ref.go:118", #[], none⟩, ⟨some 12, .load 3 (.tmp 11), 3, "ref.go:118", #[⟨0, .data⟩], none⟩, ⟨some 13, .binOp .neq 3 (.tmp 12) (.const (.int .i64 1)) 3, 4, "ref.go:118", #[⟨1, .data⟩], none⟩]
def q15_4 : Array Oper := #[⟨some 14, .load 28 (.tmp 2), 28, "ref.go:119", #[], none⟩, ⟨none, .store 28 (.tmp 4) (.tmp 14), 0, "ref.go:119", #[⟨0, .data⟩, ⟨0, .phase⟩], none⟩]
def q15_5 : Array Oper := #[⟨some 15, .load 28 (.tmp 2), 28, "ref.go:121", #[], none⟩, ⟨some 16, .move (.tmp 1), 3, "ref.go:121", #[], none⟩, ⟨some 17, .fieldAddr 53 (.tmp 5) 2, 0, "ref.go:121", #[], none⟩, ⟨some 18, .load 23 (.tmp 17), 23, "ref.go:121", #[⟨2, .data⟩], none⟩, ⟨some 19, .call ⟨.value (.func 41), #[.tmp 18], #[23]⟩, 23, "ref.go:121", #[⟨3, .data⟩], none⟩, ⟨some 20, .build 53 #[(0, .tmp 16), (1, .const (.int .i64 2)), (2, .tmp 19)], 53, "ref.go:121", #[⟨1, .data⟩, ⟨4, .data⟩], none⟩, ⟨some 21, .call ⟨.value (.func 40), #[.tmp 15, .tmp 20], #[28, 53]⟩, 28, "ref.go:121", #[⟨0, .data⟩, ⟨5, .data⟩, ⟨4, .chain⟩], none⟩, ⟨none, .store 28 (.tmp 4) (.tmp 21), 0, "ref.go:121", #[⟨6, .data⟩, ⟨6, .chain⟩, ⟨0, .phase⟩, ⟨1, .phase⟩, ⟨2, .phase⟩, ⟨3, .phase⟩, ⟨4, .phase⟩, ⟨5, .phase⟩, ⟨6, .phase⟩], none⟩]
theorem r15_1 (hz : a0.tmps.size = 22) (b : Nat) (u : Value) (r : Rg) (hC : Holds w b (ringC u r) 28) (hR : RingAt w.heap.size w u r) (e2 : a0.eval (.tmp 2) = .pointer (some ⟨b, 0, none⟩)) (hend : ∀ ac wz, After [6, 7] a0 ac → Bf w.heap.size wz b (normL r) → Upd b w wz → Q .normal ac wz) : RW 1 q15_1 false Q a0 w := by
  refine seq_by (by kernel_rfl) 2 (by decide) [6, 7] (fun | 6 => .val (.agg (ringC u r).toArray) | 7 => ringF w.heap.size (normL r) | _ => .any) (by kernel_rfl) (fmc ⟨?s0, fmc ⟨?s1, fun o ho => nomatch ho⟩⟩) ?e
  case s0 => exact sa_row 28 (.tmp 2) 6 b (0) 17 _ (ringC u r) rfl rfl rfl Tryz.underlying28 rfl siz28 (ringC_len hR) (.old 2 _ (by decide) e2) (fun y hy => range_of (hC.below hy hC.lt)) rfl
  case s1 => exact sa_callF1 9 (.tmp 6) _ 7 (.agg (ringC u r).toArray) (ringF w.heap.size (normL r)) rfl rfl rfl (.nw 6 hz) (enters_of Tryz.func9 (by kernel_rfl) rfl) (fun y hy => k_norm u r w y hy hR) rfl
  case e =>
  intro ac wz hA hgr hv
  have o7 := hw hv hz 7
  have o2 : ac.eval (.tmp 2) = .pointer (some ⟨b, 0, none⟩) := (hA.old 2 (by decide)).trans e2
  refine wpl_store_ring rfl (.tmp 2) (.tmp 7) rfl rfl b w.heap.size o2 (normL r) o7 (ringC u r) (hC.below hgr hC.lt) (ringC_len hR) hC.lt (fun w3 h3 u3 _ => ?_)
  exact wl_end (hend _ w3 hA h3 ((Gr.upd hgr).trans u3))
theorem r15_2 (hz : a0.tmps.size = 22) (b : Nat) (node : Int) (u : Value) (r : Rg) (hC : Holds w b (ringC u r) 28) (hR : RingAt w.heap.size w u r) (e2 : a0.eval (.tmp 2) = .pointer (some ⟨b, 0, none⟩)) (e1 : a0.eval (.tmp 1) = .int .i64 node) (hend : ∀ ac wz c, After (5 :: [8, 9, 10]) a0 ac → ac.eval (.tmp 5) = .pointer (some ⟨c, 0, none⟩) → Holds wz c (mbV (findM r.1 node)) 53 → Gr w wz → Q .normal ac wz) : RW 2 q15_2 false Q a0 w := by
  refine seq_by (by kernel_rfl) 3 (by decide) [8, 9, 10] (fun | 8 => .val (.agg (ringC u r).toArray) | 9 => .val (.int .i64 node) | 10 => .val (.agg (mbV (findM r.1 node)).toArray) | _ => .any) (by kernel_rfl) (fmc ⟨?s0, fmc ⟨?s1, fmc ⟨?s2, fun o ho => nomatch ho⟩⟩⟩) ?e
  case s0 => exact sa_row 28 (.tmp 2) 8 b (0) 17 _ (ringC u r) rfl rfl rfl Tryz.underlying28 rfl siz28 (ringC_len hR) (.old 2 _ (by decide) e2) (fun y hy => range_of (hC.below hy hC.lt)) rfl
  case s1 => exact sa_mo 1 9 e1
  case s2 => exact sa_call2 39 (.tmp 8) (.tmp 9) _ 10 (.val (.agg (ringC u r).toArray)) (.val (.int .i64 node)) rfl rfl rfl (.nw 8 hz) (.nw 9 hz) (enters_of Tryz.func39 (by kernel_rfl) rfl) (fun v0 v1 y hgy q0 q1 => by rw [show v0 = _ from q0]; rw [show v1 = _ from q1]; exact (find_any u r node y ((hR.below hgy).mono hgy.size)).mono fun e z ⟨e1, e2⟩ => ⟨_, e1, e2, rfl⟩)
  case e =>
  intro ac wz hA hgr hv
  have o10 : ac.eval (.tmp 10) = .agg (mbV (findM r.1 node)).toArray := hw hv hz 10
  refine wpList_alloc_new 5 rfl rfl 53 rfl wz.heap.size rfl _ zero35 ?_
  intro w3 h3
  have f5 : (ac.put (some 5) (.pointer (some ⟨wz.heap.size, 0, none⟩))).eval (.tmp 5) = .pointer (some ⟨wz.heap.size, 0, none⟩) := (ev_put (by rw [hA.size, hz]; decide)).trans (if_pos rfl)
  refine wpList_store_all rfl 53 (.tmp 5) (.tmp 10) rfl wz.heap.size f5 (mbV (findM r.1 node)) ((ev_put (by rw [hA.size, hz]; decide)).trans ((if_neg (by decide)).trans o10)) 53 _ h3.holds siz53 rfl (mbV_one _) ?_
  intro w4 h4
  exact wl_end (hend _ w4 _ (hA.put 5 _) f5 h4.holds (hgr.trans (h3.below.trans (h4.below (Nat.le_refl _)))))
theorem r15_3 (hz : a0.tmps.size = 22) (c : Nat) (m : Mb) (hM : Holds w c (mbV m) 53) (e5 : a0.eval (.tmp 5) = .pointer (some ⟨c, 0, none⟩)) (hend : ∀ ac wz, After [11, 12, 13] a0 ac → ac.eval (.tmp 13) = .bool (decide (¬ m.2.1 = 1)) → Gr w wz → Q .normal ac wz) : RW 3 q15_3 false Q a0 w := by
  refine seq_by (by kernel_rfl) 3 (by decide) [11, 12, 13] (fun | 11 => .val (.pointer (some ⟨c, 1, none⟩)) | 12 => .val (.int .i64 m.2.1) | 13 => .val (.bool (decide (¬ m.2.1 = 1))) | _ => .any) (by kernel_rfl) (fmc ⟨?s0, fmc ⟨?s1, fmc ⟨?s2, fun o ho => nomatch ho⟩⟩⟩) ?e
  case s0 => exact sa_fa 53 (.tmp 5) 1 11 (.pointer (some ⟨c, 0, none⟩)) (.pointer (some ⟨c, 1, none⟩)) rfl rfl rfl (.old 5 _ (by decide) e5) (by intro w; kernel_rfl) rfl
  case s1 => exact sa_loadc 3 (.tmp 11) 12 (c) (1) (.int .i64 m.2.1) rfl rfl rfl (by intro w; kernel_rfl) (.nw 11 hz) (fun y hy => (hM.below hy hM.lt).at 1 _ rfl) rfl
  case s2 => exact sa_bin .neq 3 (.tmp 12) (.const _) 3 13 (.int .i64 m.2.1) (.int .i64 1) (.bool (decide (¬ m.2.1 = 1))) rfl rfl rfl (.nw 12 hz) (.const _) guard_int (bin_neq rfl) rfl
  case e =>
  intro ac wz hA hgr hv
  exact wl_end (hend ac wz hA (hw hv hz 13) hgr)
theorem r15_4 (hz : a0.tmps.size = 22) (b b4 F : Nat) (u : Value) (r : Rg) (hC : Holds w b (ringC u r) 28) (hR : RingAt w.heap.size w u r) (hf : Fresh F u) (old : List Value) (h4 : Holds w b4 old 28) (hl : old.length = 17) (hF : b4 < F) (e2 : a0.eval (.tmp 2) = .pointer (some ⟨b, 0, none⟩)) (e4 : a0.eval (.tmp 4) = .pointer (some ⟨b4, 0, none⟩)) (hend : ∀ ac wz, After [14] a0 ac → Bf F wz b4 r → Upd b4 w wz → Q .normal ac wz) : RW 4 q15_4 false Q a0 w := by
  refine seq_by (by kernel_rfl) 1 (by decide) [14] (fun | 14 => .val (.agg (ringC u r).toArray) | _ => .any) (by kernel_rfl) (fmc ⟨?s0, fun o ho => nomatch ho⟩) ?e
  case s0 => exact sa_row 28 (.tmp 2) 14 b (0) 17 _ (ringC u r) rfl rfl rfl Tryz.underlying28 rfl siz28 (ringC_len hR) (.old 2 _ (by decide) e2) (fun y hy => range_of (hC.below hy hC.lt)) rfl
  case e =>
  intro ac wz hA hgr hv
  have o14 : ac.eval (.tmp 14) = .agg (ringC u r).toArray := hw hv hz 14
  have o4 : ac.eval (.tmp 4) = .pointer (some ⟨b4, 0, none⟩) := (hA.old 4 (by decide)).trans e4
  refine wpl_store_ring rfl (.tmp 4) (.tmp 14) rfl rfl b4 F o4 r ⟨u, o14, (hR.below hgr).mono hgr.size, hf⟩ old (h4.below hgr h4.lt) hl hF (fun w3 h3 u3 _ => ?_)
  exact wl_end (hend _ w3 hA h3 ((Gr.upd hgr).trans u3))
theorem r15_5 (hz : a0.tmps.size = 22) (b c b4 : Nat) (node : Int) (m : Mb) (u : Value) (r : Rg) (hC : Holds w b (ringC u r) 28) (hR : RingAt w.heap.size w u r) (hM : Holds w c (mbV m) 53) (hv : m.2.2 < 18446744073709551616) (old : List Value) (h4 : Holds w b4 old 28) (hl : old.length = 17) (hP : ∀ y, Gr w y → Calls Tryz.prog 40 #[.agg (ringC u r).toArray, .agg (mbV (node, 2, moreN m.2.2)).toArray] y fun e z => ∃ v, e = .returned v ∧ Gr y z ∧ (ringF w.heap.size (putR r (node, 2, moreN m.2.2))).holds v z) (e2 : a0.eval (.tmp 2) = .pointer (some ⟨b, 0, none⟩)) (e1 : a0.eval (.tmp 1) = .int .i64 node) (e5 : a0.eval (.tmp 5) = .pointer (some ⟨c, 0, none⟩)) (e4 : a0.eval (.tmp 4) = .pointer (some ⟨b4, 0, none⟩)) (hend : ∀ ac wz, After [15, 16, 17, 18, 19, 20, 21] a0 ac → Bf w.heap.size wz b4 (putR r (node, 2, moreN m.2.2)) → Upd b4 w wz → Q .normal ac wz) : RW 5 q15_5 true Q a0 w := by
  refine drawn_tail (by kernel_rfl) (by kernel_rfl) 7 (by decide) (by kernel_rfl) (by kernel_rfl) [15, 16, 17, 18, 19, 20, 21] (fun | 15 => .val (.agg (ringC u r).toArray) | 16 => .val (.int .i64 node) | 17 => .val (.pointer (some ⟨c, 2, none⟩)) | 18 => .val (.int .u64 (m.2.2 : Int)) | 19 => .val (.int .u64 (moreN m.2.2 : Int)) | 20 => .val (.agg (mbV (node, 2, moreN m.2.2)).toArray) | 21 => ringF w.heap.size (putR r (node, 2, moreN m.2.2)) | _ => .any) (by kernel_rfl) (fmc ⟨?s0, fmc ⟨?s1, fmc ⟨?s2, fmc ⟨?s3, fmc ⟨?s4, fmc ⟨?s5, fmc ⟨?s6, fun o ho => nomatch ho⟩⟩⟩⟩⟩⟩⟩) ?e
  case s0 => exact sa_row 28 (.tmp 2) 15 b (0) 17 _ (ringC u r) rfl rfl rfl Tryz.underlying28 rfl siz28 (ringC_len hR) (.old 2 _ (by decide) e2) (fun y hy => range_of (hC.below hy hC.lt)) rfl
  case s1 => exact sa_mo 1 16 e1
  case s2 => exact sa_fa 53 (.tmp 5) 2 17 (.pointer (some ⟨c, 0, none⟩)) (.pointer (some ⟨c, 2, none⟩)) rfl rfl rfl (.old 5 _ (by decide) e5) (by intro w; kernel_rfl) rfl
  case s3 => exact sa_loadc 23 (.tmp 17) 18 (c) (2) (.int .u64 (m.2.2 : Int)) rfl rfl rfl (by intro w; kernel_rfl) (.nw 17 hz) (fun y hy => (hM.below hy hM.lt).at 2 _ rfl) rfl
  case s4 => exact sa_call1 41 (.tmp 18) _ 19 (.val (.int .u64 (m.2.2 : Int))) rfl rfl rfl (.nw 18 hz) (enters_of Tryz.func41 (by kernel_rfl) rfl) (fun v0 y hgy q0 => by rw [show v0 = _ from q0]; exact (rmore_any m.2.2 hv y).mono fun e z ⟨e1, e2⟩ => ⟨_, e1, e2, rfl⟩)
  case s5 => exact sa_bd3 53 0 1 2 (.tmp 16) (.const _) (.tmp 19) 20 (.int .i64 node) (.int .i64 2) (.int .u64 (moreN m.2.2 : Int)) (.agg (mbV (node, 2, moreN m.2.2)).toArray) rfl rfl rfl (.nw 16 hz) (.const _) (.nw 19 hz) (by intro w; kernel_rfl) rfl
  case s6 => exact sa_callF2 40 (.tmp 15) (.tmp 20) _ 21 (.agg (ringC u r).toArray) (.agg (mbV (node, 2, moreN m.2.2)).toArray) (ringF w.heap.size (putR r (node, 2, moreN m.2.2))) rfl rfl rfl (.nw 15 hz) (.nw 20 hz) (enters_of Tryz.func40 (by kernel_rfl) rfl) hP rfl
  case e =>
  intro ac wz hA hgr hv
  have o21 := hw hv hz 21
  have o4 : ac.eval (.tmp 4) = .pointer (some ⟨b4, 0, none⟩) := (hA.old 4 (by decide)).trans e4
  refine wpl_store_ring rfl (.tmp 4) (.tmp 21) rfl rfl b4 w.heap.size o4 (putR r (node, 2, moreN m.2.2)) o21 old (h4.below hgr h4.lt) hl h4.lt (fun w3 h3 u3 _ => ?_)
  exact wl_end (hend _ w3 hA h3 ((Gr.upd hgr).trans u3))
def q27_0 : Array Oper := #[⟨some 2, .box 28 (.tmp 0), 0, "ref.go:76", #[], none⟩, ⟨some 4, .assign (.const (.int .i64 0)), 3, "ref.go:76", #[], none⟩]
def q27_1 : Array Oper := #[⟨some 5, .load 28 (.tmp 2), 28, "ref.go:76", #[], none⟩, ⟨some 6, .call ⟨.value (.func 9), #[.tmp 5], #[28]⟩, 28, "ref.go:76", #[⟨0, .data⟩], none⟩, ⟨some 7, .move (.tmp 1), 3, "ref.go:76", #[], none⟩, ⟨some 8, .call ⟨.value (.func 39), #[.tmp 6, .tmp 7], #[28, 3]⟩, 53, "ref.go:76", #[⟨1, .data⟩, ⟨2, .data⟩, ⟨1, .chain⟩], none⟩, ⟨some 9, .field 53 (.tmp 8) 1, 3, "ref.go:76", #[⟨3, .data⟩], none⟩, ⟨some 4, .assign (.tmp 9), 3, "ref.go:76", #[⟨4, .data⟩, ⟨3, .chain⟩, ⟨0, .phase⟩, ⟨1, .phase⟩, ⟨2, .phase⟩, ⟨3, .phase⟩, ⟨4, .phase⟩], none⟩]
theorem r27_1 (hz : a0.tmps.size = 10) (b : Nat) (node : Int) (u : Value) (r : Rg) (hC : Holds w b (ringC u r) 28) (hR : RingAt w.heap.size w u r) (e2 : a0.eval (.tmp 2) = .pointer (some ⟨b, 0, none⟩)) (e1 : a0.eval (.tmp 1) = .int .i64 node) (hend : ∀ ac wz, After [5, 6, 7, 8, 9, 4] a0 ac → ac.eval (.tmp 4) = .int .i64 (findM (normL r).1 node).2.1 → Gr w wz → Q .normal ac wz) : RW 1 q27_1 false Q a0 w := by
  refine seq_by (by kernel_rfl) 6 (by decide) [5, 6, 7, 8, 9, 4] (fun | 5 => .val (.agg (ringC u r).toArray) | 6 => ringF w.heap.size (normL r) | 7 => .val (.int .i64 node) | 8 => .val (.agg (mbV (findM (normL r).1 node)).toArray) | 9 => .val (.int .i64 (findM (normL r).1 node).2.1) | 4 => .val (.int .i64 (findM (normL r).1 node).2.1) | _ => .any) (by kernel_rfl) (fmc ⟨?s0, fmc ⟨?s1, fmc ⟨?s2, fmc ⟨?s3, fmc ⟨?s4, fmc ⟨?s5, fun o ho => nomatch ho⟩⟩⟩⟩⟩⟩) ?e
  case s0 => exact sa_row 28 (.tmp 2) 5 b (0) 17 _ (ringC u r) rfl rfl rfl Tryz.underlying28 rfl siz28 (ringC_len hR) (.old 2 _ (by decide) e2) (fun y hy => range_of (hC.below hy hC.lt)) rfl
  case s1 => exact sa_callF1 9 (.tmp 5) _ 6 (.agg (ringC u r).toArray) (ringF w.heap.size (normL r)) rfl rfl rfl (.nw 5 hz) (enters_of Tryz.func9 (by kernel_rfl) rfl) (fun y hy => k_norm u r w y hy hR) rfl
  case s2 => exact sa_mo 1 7 e1
  case s3 => exact sa_call2 39 (.tmp 6) (.tmp 7) _ 8 (ringF w.heap.size (normL r)) (Fact.val (.int .i64 node)) rfl rfl rfl (.nw 6 hz) (.nw 7 hz) (enters_of Tryz.func39 (by kernel_rfl) rfl) (fun v0 v1 y hgy q0 q1 => c_find _ _ _ v0 v1 y q0 q1)
  case s4 => exact sa_fd 53 (.tmp 8) 1 9 (.agg (mbV (findM (normL r).1 node)).toArray) (.int .i64 (findM (normL r).1 node).2.1) rfl rfl rfl (.nw 8 hz) (fun w => run_field35 w (findM (normL r).1 node)) rfl
  case s5 => exact sa_move (.tmp 9) 4 (.val (.int .i64 (findM (normL r).1 node).2.1)) (.inr rfl) rfl rfl (.nw 9 hz) rfl
  case e =>
  intro ac wz hA hgr hv
  exact wl_end (hend ac wz hA (hw hv hz 4) hgr)
def c13 : Code := ((Code.region 0 q13_0 false).seq ((Code.region 1 q13_1 false).seq ((Code.region 2 q13_2 false).seq (((Code.region 3 q13_3 false).seq (Code.cond (.tmp 21) ((Code.region 4 q13_4 false).seq Code.ret) Code.skip)).seq ((Code.region 5 q13_5 true).seq Code.ret)))))
def c15 : Code := ((Code.region 0 q15_0 false).seq ((Code.region 1 q15_1 false).seq ((Code.region 2 q15_2 false).seq (((Code.region 3 q15_3 false).seq (Code.cond (.tmp 13) ((Code.region 4 q15_4 false).seq Code.ret) Code.skip)).seq ((Code.region 5 q15_5 true).seq Code.ret)))))
def c27 : Code := ((Code.region 0 q27_0 false).seq ((Code.region 1 q27_1 false).seq Code.ret))
theorem r13_0 (hz : a0.tmps.size = 30) (b : Nat) (hb : w.heap.size = b) (v : Value) (r : Rg) (e0 : a0.eval (.tmp 0) = .agg (ringC v r).toArray) (hend : ∀ ac w1 wz, After [4, 2] a0 ac → ac.eval (.tmp 2) = .pointer (some ⟨b, 0, none⟩) → ac.eval (.tmp 4) = .pointer (some ⟨b + 1, 0, none⟩) → Anew b w w1 (ringC v r) 28 → Anew (b + 1) w1 wz (ringC (.slice none 0 0) ([], noOs)) 28 → Q .normal ac wz) : RW 0 q13_0 false Q a0 w := by
  refine wp_region_list ?_
  refine wpList_box_new 2 rfl rfl 28 (.tmp 0) rfl b hb _ e0 ?_
  intro w1 h1
  refine wpList_alloc_new 4 rfl rfl 28 rfl (b + 1) h1.size _ zero28 ?_
  intro w2 h2
  refine wl_end (hend _ w1 w2 (((After.self a0).put 2 _).put 4 _) ?_ ?_ h1 h2)
  · simp [ev_put, put_size, hz]
  · simp [ev_put, put_size, hz]
set_option maxHeartbeats 1000000 in
theorem rjoin_any (v : Value) (r : Rg) (hF : RFit r) (node : Int) (w : World) (hR : RingAt w.heap.size w v r) : Calls Tryz.prog 13 #[.agg (ringC v r).toArray, .int .i64 node] w (RetN w (rjoinL r node)) := by
  obtain ⟨b, hwb⟩ : ∃ b, w.heap.size = b := ⟨_, rfl⟩
  rw [hwb] at hR
  have hfit := norm_fit hF
  have hnl : (normL r).1.length ≤ 7 := risL_len _
  refine calls_by (c := c13) Tryz.func13 (by kernel_rfl) 30 (by rw [Tryz.ntmps13]; rfl) (fun ac z df hv => ?_)
  have e0 := hv 0 _ rfl
  have e1 := hv 1 _ rfl
  clear hv
  unfold c13
  refine wp_seq (r13_0 z b hwb v r e0 (fun a1 w1 x1 A1 o2 o4 N1 N2 => ?_))
  have z1 := A1.size.trans z
  have s1 : x1.heap.size = b + 2 := N2.size
  have hB1 : Below b w x1 := N1.below.trans (N2.below.mono (by omega))
  have RA1 : RingAt x1.heap.size x1 v r := (hR.below hB1).mono (by omega)
  show Code.wp Tryz.prog (Code.seq _ _) _ a1 x1
  refine wp_seq (r13_1 z1 b v r (N1.holds.below N2.below (by omega)) RA1 o2 (fun a2 x2 A2 B2 U2 => ?_))
  have z2 := A2.size.trans z1
  have f2 := A2.get o2 (by decide)
  have f4 := A2.get o4 (by decide)
  have f1 := A2.get (A1.get e1 (by decide)) (by decide)
  have H4 : Holds x2 (b + 1) (ringC (.slice none 0 0) ([], noOs)) 28 := N2.holds.upd U2 (by omega)
  have hB2 : Below b w x2 := hB1.trans (U2.below (Nat.le_refl _) (by omega))
  rw [s1] at B2
  have hs2 : b + 2 ≤ x2.heap.size := by have := U2.size; omega
  have hRJ : rjoinL r node = if node < 1 ∨ 7 < node ∨ (findM (normL r).1 node).2.1 = 1 then normL r else putR (normL r) (node, 1, moreN (findM (normL r).1 node).2.2) := rfl
  generalize normL r = nr at *
  obtain ⟨u, H2, R2, F2⟩ := B2
  show Code.wp Tryz.prog (Code.seq _ _) _ a2 x2
  refine wp_seq (r13_2 z2 b node u nr H2 R2 f2 f1 (fun a3 x3 c A3 o5 H5 G3 => ?_))
  have z3 := A3.size.trans z2
  have g2 := A3.get f2 (by decide)
  have g4 := A3.get f4 (by decide)
  have g1 := A3.get f1 (by decide)
  have hB3 : Below b w x3 := hB2.trans (G3.mono (by omega))
  have H43 := H4.below G3 H4.lt
  have H23 := H2.below G3 H2.lt
  have R23 : RingAt x3.heap.size x3 u nr := (R2.below G3).mono G3.size
  have hs3 : b + 2 ≤ x3.heap.size := by have := G3.size; omega
  have hmv : (findM nr.1 node).2.2 < 18446744073709551616 := find_fit nr hfit node
  have df3 : a3.defers = [] := A3.defers.trans (A2.defers.trans (A1.defers.trans df))
  have hgr : ∀ y, Below b w y → Gr w y := fun y hy => by unfold Gr; rw [hwb]; exact hy
  -- it stays
  have stay : ∀ (K : Act → World → Prop) a4 x4 D, After D a3 a4 → (D.all fun s => decide (6 ≤ s)) = true → Gr x3 x4 → rjoinL r node = nr → ((Code.region 4 q13_4 false).seq Code.ret).wp Tryz.prog (Exit.then K (bodyPost Tryz.prog Tryz.f13 (RetN w (rjoinL r node)))) a4 x4 := fun K a4 x4 D A4 hD G4 hrg => by
    rw [hrg]
    refine wp_seq (r13_4 (A4.size.trans z3) b (b + 1) (b + 2) u nr (H23.below G4 H23.lt) ((R23.below G4).mono G4.size) F2 _ (H43.below G4 H43.lt) noC_len (by omega) (A4.keep hD (by omega) g2) (A4.keep hD (by omega) g4) (fun a5 x5 A5 B5 U5 => ?_))
    obtain ⟨u5, h5, r5, f5⟩ := B5
    exact wp_ret (show bodyPost Tryz.prog Tryz.f13 (RetN w nr) .ret a5 x5 from ret_ring (p := 4) (b := b + 1) (by kernel_rfl) (A5.defers.trans (A4.defers.trans df3)) (A5.get (A4.keep hD (by omega) g4) (by decide)) ⟨u5, h5, r5, f5.mono (by omega)⟩ (hgr _ (hB3.trans ((G4.mono (by omega)).trans (U5.below (by omega) (by have := G4.size; omega))))))
  -- it is changed
  have turn : ∀ a4 x4 D, After D a3 a4 → (D.all fun s => decide (6 ≤ s)) = true → Gr x3 x4 → rjoinL r node = putR nr (node, 1, moreN (findM nr.1 node).2.2) → ((Code.region 5 q13_5 true).seq Code.ret).wp Tryz.prog (bodyPost Tryz.prog Tryz.f13 (RetN w (rjoinL r node))) a4 x4 := fun a4 x4 D A4 hD G4 hrg => by
    rw [hrg]
    have R4 : RingAt x4.heap.size x4 u nr := (R23.below G4).mono G4.size
    have hs4 := G4.size
    refine wp_seq (r13_5 (A4.size.trans z3) b c (b + 1) node (findM nr.1 node) u nr (H23.below G4 H23.lt) R4 (H5.below G4 H5.lt) hmv _ (H43.below G4 H43.lt) noC_len (fun y hy => (put_any u nr _ y (by omega) ((R4.below hy).mono hy.size)).mono fun _ _ ⟨v5, q1, q2, q3, q4⟩ => ⟨_, q1, q4, v5, rfl, q2, q3.mono hy.size⟩) (A4.keep hD (by omega) g2) (A4.keep hD (by omega) g1) (A4.keep hD (by omega) o5) (A4.keep hD (by omega) g4) (fun a5 x5 A5 B5 U5 => ?_))
    obtain ⟨u5, h5, r5, f5⟩ := B5
    exact wp_ret (show bodyPost Tryz.prog Tryz.f13 (RetN w _) .ret a5 x5 from ret_ring (p := 4) (b := b + 1) (by kernel_rfl) (A5.defers.trans (A4.defers.trans df3)) (A5.get (A4.keep hD (by omega) g4) (by decide)) ⟨u5, h5, r5, f5.mono (by omega)⟩ (hgr _ (hB3.trans ((G4.mono (by omega)).trans (U5.below (by omega) (by omega))))))
  show Code.wp Tryz.prog (Code.seq (Code.seq _ _) _) _ a3 x3
  by_cases h1 : node < 1
  · rw [if_pos (.inl h1)] at hRJ
    refine wp_seq (wp_seq (r13_3a z3 node h1 g1 (fun a4 x4 A4 o21 G4 => ?_)))
    show Code.wp Tryz.prog (Code.cond _ _ _) _ a4 x4
    exact wp_cond_split o21 (fun _ => stay _ a4 x4 _ A4 (by decide) G4 hRJ) (fun q => by cases q)
  · by_cases h2 : 7 < node
    · rw [if_pos (.inr (.inl h2))] at hRJ
      refine wp_seq (wp_seq (r13_3b z3 node h1 h2 g1 (fun a4 x4 A4 o21 G4 => ?_)))
      show Code.wp Tryz.prog (Code.cond _ _ _) _ a4 x4
      exact wp_cond_split o21 (fun _ => stay _ a4 x4 _ A4 (by decide) G4 hRJ) (fun q => by cases q)
    · refine wp_seq (wp_seq (r13_3c z3 node c (findM nr.1 node) h1 h2 H5 g1 o5 (fun a4 x4 A4 o21 G4 => ?_)))
      show Code.wp Tryz.prog (Code.cond _ _ _) _ a4 x4
      refine wp_cond_split o21 (fun q => ?_) (fun q => ?_)
      · rw [if_pos (.inr (.inr (of_decide_eq_true q)))] at hRJ
        exact stay _ a4 x4 _ A4 (by decide) G4 hRJ
      · have q := of_decide_eq_false q
        rw [if_neg (by intro p; rcases p with p | p | p; exact h1 p; exact h2 p; exact q p)] at hRJ
        refine wp_skip ?_
        show Code.wp Tryz.prog (Code.seq _ _) _ a4 x4
        exact turn a4 x4 _ A4 (by decide) G4 hRJ
theorem r15_0 (hz : a0.tmps.size = 22) (b : Nat) (hb : w.heap.size = b) (v : Value) (r : Rg) (e0 : a0.eval (.tmp 0) = .agg (ringC v r).toArray) (hend : ∀ ac w1 wz, After [4, 2] a0 ac → ac.eval (.tmp 2) = .pointer (some ⟨b, 0, none⟩) → ac.eval (.tmp 4) = .pointer (some ⟨b + 1, 0, none⟩) → Anew b w w1 (ringC v r) 28 → Anew (b + 1) w1 wz (ringC (.slice none 0 0) ([], noOs)) 28 → Q .normal ac wz) : RW 0 q15_0 false Q a0 w := by
  refine wp_region_list ?_
  refine wpList_box_new 2 rfl rfl 28 (.tmp 0) rfl b hb _ e0 ?_
  intro w1 h1
  refine wpList_alloc_new 4 rfl rfl 28 rfl (b + 1) h1.size _ zero28 ?_
  intro w2 h2
  refine wl_end (hend _ w1 w2 (((After.self a0).put 2 _).put 4 _) ?_ ?_ h1 h2)
  · simp [ev_put, put_size, hz]
  · simp [ev_put, put_size, hz]
set_option maxHeartbeats 1000000 in
theorem rleave_any (v : Value) (r : Rg) (hF : RFit r) (node : Int) (w : World) (hR : RingAt w.heap.size w v r) : Calls Tryz.prog 15 #[.agg (ringC v r).toArray, .int .i64 node] w (RetN w (rleaveL r node)) := by
  obtain ⟨b, hwb⟩ : ∃ b, w.heap.size = b := ⟨_, rfl⟩
  rw [hwb] at hR
  have hfit := norm_fit hF
  have hnl : (normL r).1.length ≤ 7 := risL_len _
  refine calls_by (c := c15) Tryz.func15 (by kernel_rfl) 22 (by rw [Tryz.ntmps15]; rfl) (fun ac z df hv => ?_)
  have e0 := hv 0 _ rfl
  have e1 := hv 1 _ rfl
  clear hv
  unfold c15
  refine wp_seq (r15_0 z b hwb v r e0 (fun a1 w1 x1 A1 o2 o4 N1 N2 => ?_))
  have z1 := A1.size.trans z
  have s1 : x1.heap.size = b + 2 := N2.size
  have hB1 : Below b w x1 := N1.below.trans (N2.below.mono (by omega))
  have RA1 : RingAt x1.heap.size x1 v r := (hR.below hB1).mono (by omega)
  show Code.wp Tryz.prog (Code.seq _ _) _ a1 x1
  refine wp_seq (r15_1 z1 b v r (N1.holds.below N2.below (by omega)) RA1 o2 (fun a2 x2 A2 B2 U2 => ?_))
  have z2 := A2.size.trans z1
  have f2 := A2.get o2 (by decide)
  have f4 := A2.get o4 (by decide)
  have f1 := A2.get (A1.get e1 (by decide)) (by decide)
  have H4 : Holds x2 (b + 1) (ringC (.slice none 0 0) ([], noOs)) 28 := N2.holds.upd U2 (by omega)
  have hB2 : Below b w x2 := hB1.trans (U2.below (Nat.le_refl _) (by omega))
  rw [s1] at B2
  have hs2 : b + 2 ≤ x2.heap.size := by have := U2.size; omega
  have hRJ : rleaveL r node = if (findM (normL r).1 node).2.1 ≠ 1 then normL r else putR (normL r) (node, 2, moreN (findM (normL r).1 node).2.2) := rfl
  generalize normL r = nr at *
  obtain ⟨u, H2, R2, F2⟩ := B2
  show Code.wp Tryz.prog (Code.seq _ _) _ a2 x2
  refine wp_seq (r15_2 z2 b node u nr H2 R2 f2 f1 (fun a3 x3 c A3 o5 H5 G3 => ?_))
  have z3 := A3.size.trans z2
  have g2 := A3.get f2 (by decide)
  have g4 := A3.get f4 (by decide)
  have g1 := A3.get f1 (by decide)
  have hB3 : Below b w x3 := hB2.trans (G3.mono (by omega))
  have H43 := H4.below G3 H4.lt
  have H23 := H2.below G3 H2.lt
  have R23 : RingAt x3.heap.size x3 u nr := (R2.below G3).mono G3.size
  have hs3 : b + 2 ≤ x3.heap.size := by have := G3.size; omega
  have hmv : (findM nr.1 node).2.2 < 18446744073709551616 := find_fit nr hfit node
  have df3 : a3.defers = [] := A3.defers.trans (A2.defers.trans (A1.defers.trans df))
  have hgr : ∀ y, Below b w y → Gr w y := fun y hy => by unfold Gr; rw [hwb]; exact hy
  -- it stays
  have stay : ∀ (K : Act → World → Prop) a4 x4 D, After D a3 a4 → (D.all fun s => decide (6 ≤ s)) = true → Gr x3 x4 → rleaveL r node = nr → ((Code.region 4 q15_4 false).seq Code.ret).wp Tryz.prog (Exit.then K (bodyPost Tryz.prog Tryz.f15 (RetN w (rleaveL r node)))) a4 x4 := fun K a4 x4 D A4 hD G4 hrg => by
    rw [hrg]
    refine wp_seq (r15_4 (A4.size.trans z3) b (b + 1) (b + 2) u nr (H23.below G4 H23.lt) ((R23.below G4).mono G4.size) F2 _ (H43.below G4 H43.lt) noC_len (by omega) (A4.keep hD (by omega) g2) (A4.keep hD (by omega) g4) (fun a5 x5 A5 B5 U5 => ?_))
    obtain ⟨u5, h5, r5, f5⟩ := B5
    exact wp_ret (show bodyPost Tryz.prog Tryz.f15 (RetN w nr) .ret a5 x5 from ret_ring (p := 4) (b := b + 1) (by kernel_rfl) (A5.defers.trans (A4.defers.trans df3)) (A5.get (A4.keep hD (by omega) g4) (by decide)) ⟨u5, h5, r5, f5.mono (by omega)⟩ (hgr _ (hB3.trans ((G4.mono (by omega)).trans (U5.below (by omega) (by have := G4.size; omega))))))
  -- it is changed
  have turn : ∀ a4 x4 D, After D a3 a4 → (D.all fun s => decide (6 ≤ s)) = true → Gr x3 x4 → rleaveL r node = putR nr (node, 2, moreN (findM nr.1 node).2.2) → ((Code.region 5 q15_5 true).seq Code.ret).wp Tryz.prog (bodyPost Tryz.prog Tryz.f15 (RetN w (rleaveL r node))) a4 x4 := fun a4 x4 D A4 hD G4 hrg => by
    rw [hrg]
    have R4 : RingAt x4.heap.size x4 u nr := (R23.below G4).mono G4.size
    have hs4 := G4.size
    refine wp_seq (r15_5 (A4.size.trans z3) b c (b + 1) node (findM nr.1 node) u nr (H23.below G4 H23.lt) R4 (H5.below G4 H5.lt) hmv _ (H43.below G4 H43.lt) noC_len (fun y hy => (put_any u nr _ y (by omega) ((R4.below hy).mono hy.size)).mono fun _ _ ⟨v5, q1, q2, q3, q4⟩ => ⟨_, q1, q4, v5, rfl, q2, q3.mono hy.size⟩) (A4.keep hD (by omega) g2) (A4.keep hD (by omega) g1) (A4.keep hD (by omega) o5) (A4.keep hD (by omega) g4) (fun a5 x5 A5 B5 U5 => ?_))
    obtain ⟨u5, h5, r5, f5⟩ := B5
    exact wp_ret (show bodyPost Tryz.prog Tryz.f15 (RetN w _) .ret a5 x5 from ret_ring (p := 4) (b := b + 1) (by kernel_rfl) (A5.defers.trans (A4.defers.trans df3)) (A5.get (A4.keep hD (by omega) g4) (by decide)) ⟨u5, h5, r5, f5.mono (by omega)⟩ (hgr _ (hB3.trans ((G4.mono (by omega)).trans (U5.below (by omega) (by omega))))))
  show Code.wp Tryz.prog (Code.seq (Code.seq _ _) _) _ a3 x3
  refine wp_seq (wp_seq (r15_3 z3 c (findM nr.1 node) H5 o5 (fun a4 x4 A4 o13 G4 => ?_)))
  show Code.wp Tryz.prog (Code.cond _ _ _) _ a4 x4
  refine wp_cond_split o13 (fun q => ?_) (fun q => ?_)
  · rw [if_pos (of_decide_eq_true q)] at hRJ
    exact stay _ a4 x4 _ A4 (by decide) G4 hRJ
  · rw [if_neg (of_decide_eq_false q)] at hRJ
    refine wp_skip ?_
    show Code.wp Tryz.prog (Code.seq _ _) _ a4 x4
    exact turn a4 x4 _ A4 (by decide) G4 hRJ
theorem r27_0 (hz : a0.tmps.size = 10) (b : Nat) (hb : w.heap.size = b) (v : Value) (r : Rg) (e0 : a0.eval (.tmp 0) = .agg (ringC v r).toArray) (hend : ∀ ac wz, After [4, 2] a0 ac → ac.eval (.tmp 2) = .pointer (some ⟨b, 0, none⟩) → Anew b w wz (ringC v r) 28 → Q .normal ac wz) : RW 0 q27_0 false Q a0 w := by
  refine wp_region_list ?_
  refine wpList_box_new 2 rfl rfl 28 (.tmp 0) rfl b hb _ e0 ?_
  intro w1 h1
  refine wl_of rfl (op_mv (.const (.int .i64 0)) (.int .i64 0) (.inr rfl) rfl 4 rfl (wl_end (hend _ w1 (((After.self a0).put 2 _).put 4 _) ?_ h1)))
  simp [ev_put, put_size, hz]
theorem rstate_any (v : Value) (r : Rg) (node : Int) (w : World) (hR : RingAt w.heap.size w v r) : Calls Tryz.prog 27 #[.agg (ringC v r).toArray, .int .i64 node] w fun e z => e = .returned (.int .i64 (stateL r node)) ∧ Gr w z := by
  obtain ⟨b, hwb⟩ : ∃ b, w.heap.size = b := ⟨_, rfl⟩
  rw [hwb] at hR
  have hst : stateL r node = (findM (normL r).1 node).2.1 := by rw [find_norm]; rfl
  rw [hst]
  refine calls_by (c := c27) Tryz.func27 (by kernel_rfl) 10 (by rw [Tryz.ntmps27]; rfl) (fun ac z df hv => ?_)
  have e0 := hv 0 _ rfl
  have e1 := hv 1 _ rfl
  clear hv
  unfold c27
  refine wp_seq (r27_0 z b hwb v r e0 (fun a1 x1 A1 o2 N1 => ?_))
  show Code.wp Tryz.prog (Code.seq _ _) _ a1 x1
  have s1 : x1.heap.size = b + 1 := N1.size
  refine wp_seq (r27_1 (A1.size.trans z) b node v r N1.holds ((hR.below N1.below).mono (by omega)) o2 (A1.get e1 (by decide)) (fun a2 x2 A2 o4 G2 => ?_))
  refine wp_ret (bodyPost_ret (results_tmp rfl _ _ _) (A2.defers.trans (A1.defers.trans df)) ⟨by rw [← o4]; rfl, ?_⟩)
  unfold Gr
  rw [hwb]
  exact N1.below.trans (G2.mono (by omega))
end Go.Proofs.YthmnjebmnocoiaaGreat.En

/- The document's own ways with rings: Members, Claimant, Owners. By tools/gen_mk.py. -/
namespace Go.Proofs.YthmnjebmnocoiaaGreat.En
open Go.RowKit
set_option maxRecDepth 100000
variable {Q : Exit → Act → World → Prop} {a0 : Act} {w : World}
def q21_0 : Array Oper := #[⟨some 2, .box 28 (.tmp 0), 0, "ref.go:125", #[], none⟩, ⟨some 4, .assign (.const (.slice none 0 0)), 30, "ref.go:125", #[], none⟩]
def q21_1 : Array Oper := #[⟨some 9, .load 28 (.tmp 2), 28, "ref.go:126", #[], none⟩, ⟨some 10, .call ⟨.value (.func 9), #[.tmp 9], #[28]⟩, 28, "ref.go:126", #[⟨0, .data⟩], none⟩, ⟨none, .store 28 (.tmp 2) (.tmp 10), 0, "ref.go:126", #[⟨1, .data⟩, ⟨1, .chain⟩, ⟨0, .phase⟩, ⟨1, .phase⟩], none⟩]
def q21_2 : Array Oper := #[⟨some 5, .assign (.const (.slice none 0 0)), 30, "ref.go:127", #[], none⟩]
def q21_3 : Array Oper := #[⟨some 6, .assign (.const (.int .i64 0)), 3, "ref.go:128", #[], none⟩]
def q21_4 : Array Oper := #[⟨some 11, .move (.tmp 6), 3, "ref.go:128", #[], none⟩, ⟨some 12, .fieldAddr 28 (.tmp 2) 0, 0, "ref.go:128", #[], none⟩, ⟨some 13, .load 22 (.tmp 12), 22, "ref.go:128", #[⟨1, .data⟩], none⟩, ⟨some 14, .call ⟨.builtin .len, #[.tmp 13], #[22]⟩, 3, "ref.go:128", #[⟨2, .data⟩], none⟩, ⟨some 15, .binOp .lss 3 (.tmp 11) (.tmp 14) 3, 4, "ref.go:128", #[⟨0, .data⟩, ⟨3, .data⟩], none⟩]
def q21_5 : Array Oper := #[⟨some 16, .move (.tmp 6), 3, "ref.go:128", #[], none⟩, ⟨some 17, .binOp .add 3 (.tmp 16) (.const (.int .i64 1)) 3, 3, "ref.go:128", #[⟨0, .data⟩], none⟩, ⟨some 6, .assign (.tmp 17), 3, "ref.go:128", #[⟨1, .data⟩, ⟨0, .phase⟩, ⟨1, .phase⟩], none⟩]
def q21_6 : Array Oper := #[⟨some 18, .move (.tmp 1), 30, "ref.go:129", #[], none⟩, ⟨some 19, .call ⟨.builtin .len, #[.tmp 18], #[30]⟩, 3, "ref.go:129", #[⟨0, .data⟩], none⟩, ⟨some 20, .binOp .eql 3 (.tmp 19) (.const (.int .i64 0)) 3, 4, "ref.go:129", #[⟨1, .data⟩], none⟩, ⟨some 7, .assign (.tmp 20), 4, "ref.go:129", #[⟨2, .data⟩, ⟨0, .phase⟩, ⟨1, .phase⟩, ⟨2, .phase⟩], none⟩]
def q21_7 : Array Oper := #[⟨some 8, .assign (.const (.int .i64 0)), 3, "ref.go:130", #[], none⟩]
def q21_8 : Array Oper := #[⟨some 21, .move (.tmp 8), 3, "ref.go:130", #[], none⟩, ⟨some 22, .move (.tmp 1), 30, "ref.go:130", #[], none⟩, ⟨some 23, .call ⟨.builtin .len, #[.tmp 22], #[30]⟩, 3, "ref.go:130", #[⟨1, .data⟩], none⟩, ⟨some 24, .binOp .lss 3 (.tmp 21) (.tmp 23) 3, 4, "ref.go:130", #[⟨0, .data⟩, ⟨2, .data⟩], none⟩]
def q21_9 : Array Oper := #[⟨some 25, .move (.tmp 8), 3, "ref.go:130", #[], none⟩, ⟨some 26, .binOp .add 3 (.tmp 25) (.const (.int .i64 1)) 3, 3, "ref.go:130", #[⟨0, .data⟩], none⟩, ⟨some 8, .assign (.tmp 26), 3, "ref.go:130", #[⟨1, .data⟩, ⟨0, .phase⟩, ⟨1, .phase⟩], none⟩]
def q21_10 : Array Oper := #[⟨some 27, .move (.tmp 7), 4, "ref.go:131", #[], none⟩, ⟨some 28, .move (.tmp 27), 4, "ref.go:131", #[⟨0, .data⟩], none⟩, ⟨some 29, .move (.tmp 1), 30, "ref.go:131", #[⟨1, .guard⟩], some (1, false)⟩, ⟨some 30, .move (.tmp 8), 3, "ref.go:131", #[⟨1, .guard⟩], some (1, false)⟩, ⟨some 31, .indexAddr 30 (.tmp 29) (.tmp 30), 0, "ref.go:131", #[⟨2, .data⟩, ⟨3, .data⟩, ⟨1, .guard⟩], some (1, false)⟩, ⟨some 32, .load 3 (.tmp 31), 3, "ref.go:131", #[⟨4, .data⟩, ⟨1, .guard⟩], some (1, false)⟩, ⟨some 33, .fieldAddr 28 (.tmp 2) 0, 0, "ref.go:131", #[⟨1, .guard⟩], some (1, false)⟩, ⟨some 34, .load 22 (.tmp 33), 22, "ref.go:131", #[⟨6, .data⟩, ⟨1, .guard⟩], some (1, false)⟩, ⟨some 35, .move (.tmp 6), 3, "ref.go:131", #[⟨1, .guard⟩], some (1, false)⟩, ⟨some 36, .indexAddr 22 (.tmp 34) (.tmp 35), 0, "ref.go:131", #[⟨7, .data⟩, ⟨8, .data⟩, ⟨1, .guard⟩], some (1, false)⟩, ⟨some 37, .fieldAddr 53 (.tmp 36) 1, 0, "ref.go:131", #[⟨9, .data⟩, ⟨1, .guard⟩], some (1, false)⟩, ⟨some 38, .load 3 (.tmp 37), 3, "ref.go:131", #[⟨10, .data⟩, ⟨1, .guard⟩], some (1, false)⟩, ⟨some 39, .binOp .eql 3 (.tmp 32) (.tmp 38) 3, 4, "ref.go:131", #[⟨5, .data⟩, ⟨11, .data⟩, ⟨1, .guard⟩], some (1, false)⟩, ⟨some 40, .pick (.tmp 28) (.const (.bool true)) (.tmp 39), 4, "ref.go:131", #[⟨1, .data⟩, ⟨12, .data⟩], none⟩, ⟨some 7, .assign (.tmp 40), 4, "ref.go:131", #[⟨13, .data⟩, ⟨1, .chain⟩, ⟨0, .phase⟩, ⟨1, .phase⟩, ⟨2, .phase⟩, ⟨3, .phase⟩, ⟨4, .phase⟩, ⟨5, .phase⟩, ⟨6, .phase⟩, ⟨7, .phase⟩, ⟨8, .phase⟩, ⟨9, .phase⟩, ⟨10, .phase⟩, ⟨11, .phase⟩, ⟨12, .phase⟩, ⟨13, .phase⟩], none⟩]
def q21_11 : Array Oper := #[⟨some 41, .move (.tmp 7), 4, "ref.go:133", #[], none⟩]
def q21_12 : Array Oper := #[⟨some 42, .move (.tmp 5), 30, "ref.go:134", #[], none⟩, ⟨some 43, .fieldAddr 28 (.tmp 2) 0, 0, "ref.go:134", #[], none⟩, ⟨some 44, .load 22 (.tmp 43), 22, "ref.go:134", #[⟨1, .data⟩], none⟩, ⟨some 45, .move (.tmp 6), 3, "ref.go:134", #[], none⟩, ⟨some 46, .indexAddr 22 (.tmp 44) (.tmp 45), 0, "ref.go:134", #[⟨2, .data⟩, ⟨3, .data⟩], none⟩, ⟨some 47, .fieldAddr 53 (.tmp 46) 0, 0, "ref.go:134", #[⟨4, .data⟩], none⟩, ⟨some 48, .load 3 (.tmp 47), 3, "ref.go:134", #[⟨5, .data⟩], none⟩, ⟨some 49, .buildSlice 30 1 #[(0, .tmp 48)], 30, "ref.go:134", #[⟨6, .data⟩], none⟩, ⟨some 50, .call ⟨.builtin .append, #[.tmp 42, .tmp 49], #[30, 30]⟩, 30, "ref.go:134", #[⟨0, .data⟩, ⟨7, .data⟩], none⟩, ⟨some 5, .assign (.tmp 50), 30, "ref.go:134", #[⟨8, .data⟩, ⟨8, .chain⟩, ⟨0, .phase⟩, ⟨1, .phase⟩, ⟨2, .phase⟩, ⟨3, .phase⟩, ⟨4, .phase⟩, ⟨5, .phase⟩, ⟨6, .phase⟩, ⟨7, .phase⟩, ⟨8, .phase⟩], none⟩]
def q21_13 : Array Oper := #[⟨some 51, .move (.tmp 5), 30, "ref.go:137", #[], none⟩, ⟨some 4, .assign (.tmp 51), 30, "ref.go:137", #[⟨0, .data⟩, ⟨0, .phase⟩], none⟩]
theorem r21_1 (hz : a0.tmps.size = 52) (b : Nat) (u : Value) (r : Rg) (hC : Holds w b (ringC u r) 28) (hR : RingAt w.heap.size w u r) (e2 : a0.eval (.tmp 2) = .pointer (some ⟨b, 0, none⟩)) (hend : ∀ ac wz, After [9, 10] a0 ac → Bf w.heap.size wz b (normL r) → Upd b w wz → Q .normal ac wz) : RW 1 q21_1 false Q a0 w := by
  refine seq_by (by kernel_rfl) 2 (by decide) [9, 10] (fun | 9 => .val (.agg (ringC u r).toArray) | 10 => ringF w.heap.size (normL r) | _ => .any) (by kernel_rfl) (fmc ⟨?s0, fmc ⟨?s1, fun o ho => nomatch ho⟩⟩) ?e
  case s0 => exact sa_row 28 (.tmp 2) 9 b (0) 17 _ (ringC u r) rfl rfl rfl Tryz.underlying28 rfl siz28 (ringC_len hR) (.old 2 _ (by decide) e2) (fun y hy => range_of (hC.below hy hC.lt)) rfl
  case s1 => exact sa_callF1 9 (.tmp 9) _ 10 (.agg (ringC u r).toArray) (ringF w.heap.size (normL r)) rfl rfl rfl (.nw 9 hz) (enters_of Tryz.func9 (by kernel_rfl) rfl) (fun y hy => k_norm u r w y hy hR) rfl
  case e =>
  intro ac wz hA hgr hv
  have o10 := hw hv hz 10
  have o2 : ac.eval (.tmp 2) = .pointer (some ⟨b, 0, none⟩) := (hA.old 2 (by decide)).trans e2
  refine wpl_store_ring rfl (.tmp 2) (.tmp 10) rfl rfl b w.heap.size o2 (normL r) o10 (ringC u r) (hC.below hgr hC.lt) (ringC_len hR) hC.lt (fun w3 h3 u3 _ => ?_)
  exact wl_end (hend _ w3 hA h3 ((Gr.upd hgr).trans u3))
theorem r21_2 (hz : a0.tmps.size = 52)   (hend : ∀ ac wz, After [5] a0 ac → ac.eval (.tmp 5) = .slice none 0 0 → Gr w wz → Q .normal ac wz) : RW 2 q21_2 false Q a0 w := by
  refine seq_by (by kernel_rfl) 1 (by decide) [5] (fun | 5 => .val (.slice none 0 0) | _ => .any) (by kernel_rfl) (fmc ⟨?s0, fun o ho => nomatch ho⟩) ?e
  case s0 => exact sa_move (.const _) 5 (.val (.slice none 0 0)) (.inr rfl) rfl rfl (.const _) rfl
  case e =>
  intro ac wz hA hgr hv
  exact wl_end (hend ac wz hA (hw hv hz 5) hgr)
theorem r21_3 (hz : a0.tmps.size = 52)   (hend : ∀ ac wz, After [6] a0 ac → ac.eval (.tmp 6) = .int .i64 0 → Gr w wz → Q .normal ac wz) : RW 3 q21_3 false Q a0 w := by
  refine seq_by (by kernel_rfl) 1 (by decide) [6] (fun | 6 => .val (.int .i64 0) | _ => .any) (by kernel_rfl) (fmc ⟨?s0, fun o ho => nomatch ho⟩) ?e
  case s0 => exact sa_move (.const _) 6 (.val (.int .i64 0)) (.inr rfl) rfl rfl (.const _) rfl
  case e =>
  intro ac wz hA hgr hv
  exact wl_end (hend ac wz hA (hw hv hz 6) hgr)
theorem r21_7 (hz : a0.tmps.size = 52)   (hend : ∀ ac wz, After [8] a0 ac → ac.eval (.tmp 8) = .int .i64 0 → Gr w wz → Q .normal ac wz) : RW 7 q21_7 false Q a0 w := by
  refine seq_by (by kernel_rfl) 1 (by decide) [8] (fun | 8 => .val (.int .i64 0) | _ => .any) (by kernel_rfl) (fmc ⟨?s0, fun o ho => nomatch ho⟩) ?e
  case s0 => exact sa_move (.const _) 8 (.val (.int .i64 0)) (.inr rfl) rfl rfl (.const _) rfl
  case e =>
  intro ac wz hA hgr hv
  exact wl_end (hend ac wz hA (hw hv hz 8) hgr)
theorem r21_4 (hz : a0.tmps.size = 52) (k n cap b : Nat) (ad : Option Addr) (os : List Ow) (hB : Holds w b (.slice ad n cap :: ownV os) 28) (e6 : a0.eval (.tmp 6) = .int .i64 (k : Int)) (e2 : a0.eval (.tmp 2) = .pointer (some ⟨b, 0, none⟩)) (hend : ∀ ac wz, After [11, 12, 13, 14, 15] a0 ac → ac.eval (.tmp 15) = .bool (decide ((k : Int) < (n : Int))) → Gr w wz → Q .normal ac wz) : RW 4 q21_4 false Q a0 w := by
  refine seq_by (by kernel_rfl) 5 (by decide) [11, 12, 13, 14, 15] (fun | 11 => .val (.int .i64 (k : Int)) | 12 => .val (.pointer (some ⟨b, 0, none⟩)) | 13 => .val (.slice ad n cap) | 14 => .val (.int .i64 (n : Int)) | 15 => .val (.bool (decide ((k : Int) < (n : Int)))) | _ => .any) (by kernel_rfl) (fmc ⟨?s0, fmc ⟨?s1, fmc ⟨?s2, fmc ⟨?s3, fmc ⟨?s4, fun o ho => nomatch ho⟩⟩⟩⟩⟩) ?e
  case s0 => exact sa_mo 6 11 e6
  case s1 => exact sa_fa 28 (.tmp 2) 0 12 (.pointer (some ⟨b, 0, none⟩)) (.pointer (some ⟨b, 0, none⟩)) rfl rfl rfl (.old 2 _ (by decide) e2) (by intro w; kernel_rfl) rfl
  case s2 => exact sa_loadc 22 (.tmp 12) 13 (b) (0) (.slice ad n cap) rfl rfl rfl (by intro w; kernel_rfl) (.nw 12 hz) (fun y hy => (hB.below hy hB.lt).at 0 _ rfl) rfl
  case s3 => exact sa_len 22 (.tmp 13) 14 (.slice ad n cap) (.int .i64 (n : Int)) rfl rfl rfl (.nw 13 hz) (by intro w; kernel_rfl) rfl
  case s4 => exact sa_bin .lss 3 (.tmp 11) (.tmp 14) 3 15 (.int .i64 (k : Int)) (.int .i64 (n : Int)) (.bool (decide ((k : Int) < (n : Int)))) rfl rfl rfl (.nw 11 hz) (.nw 14 hz) guard_int (bin_lss rfl) rfl
  case e =>
  intro ac wz hA hgr hv
  exact wl_end (hend ac wz hA (hw hv hz 15) hgr)
theorem r21_5 (hz : a0.tmps.size = 52) (k : Nat) (hk : k < 9223372036854775807) (e6 : a0.eval (.tmp 6) = .int .i64 (k : Int)) (hend : ∀ ac wz, After [6, 16, 17] a0 ac → ac.eval (.tmp 6) = .int .i64 ((k + 1 : Nat) : Int) → Gr w wz → Q .normal ac wz) : RW 5 q21_5 false Q a0 w := by
  refine seq_by (by kernel_rfl) 2 (by decide) [16, 17] (fun | 16 => .val (.int .i64 (k : Int)) | 17 => .val (.int .i64 ((k + 1 : Nat) : Int)) | _ => .any) (by kernel_rfl) (fmc ⟨?s0, fmc ⟨?s1, fun o ho => nomatch ho⟩⟩) ?e
  case s0 => exact sa_mo 6 16 e6
  case s1 => exact sa_bin .add 3 (.tmp 16) (.const _) 3 17 (.int .i64 (k : Int)) (.int .i64 1) (.int .i64 ((k + 1 : Nat) : Int)) rfl rfl rfl (.nw 16 hz) (.const _) guard_int (bin_add (by omega) (by omega) (by omega)) rfl
  case e =>
  intro ac wz hA hgr hv
  have o17 : ac.eval (.tmp 17) = .int .i64 ((k + 1 : Nat) : Int) := hw hv hz 17
  refine wl_of rfl (op_move (.tmp 17) (.inr rfl) (wl_end ?_))
  exact hend _ wz (hA.put 6 _)  ((ev_put (by rw [hA.size, hz]; decide)).trans ((if_pos rfl).trans o17)) hgr
theorem r21_9 (hz : a0.tmps.size = 52) (k : Nat) (hk : k < 9223372036854775807) (e8 : a0.eval (.tmp 8) = .int .i64 (k : Int)) (hend : ∀ ac wz, After [8, 25, 26] a0 ac → ac.eval (.tmp 8) = .int .i64 ((k + 1 : Nat) : Int) → Gr w wz → Q .normal ac wz) : RW 9 q21_9 false Q a0 w := by
  refine seq_by (by kernel_rfl) 2 (by decide) [25, 26] (fun | 25 => .val (.int .i64 (k : Int)) | 26 => .val (.int .i64 ((k + 1 : Nat) : Int)) | _ => .any) (by kernel_rfl) (fmc ⟨?s0, fmc ⟨?s1, fun o ho => nomatch ho⟩⟩) ?e
  case s0 => exact sa_mo 8 25 e8
  case s1 => exact sa_bin .add 3 (.tmp 25) (.const _) 3 26 (.int .i64 (k : Int)) (.int .i64 1) (.int .i64 ((k + 1 : Nat) : Int)) rfl rfl rfl (.nw 25 hz) (.const _) guard_int (bin_add (by omega) (by omega) (by omega)) rfl
  case e =>
  intro ac wz hA hgr hv
  have o26 : ac.eval (.tmp 26) = .int .i64 ((k + 1 : Nat) : Int) := hw hv hz 26
  refine wl_of rfl (op_move (.tmp 26) (.inr rfl) (wl_end ?_))
  exact hend _ wz (hA.put 8 _)  ((ev_put (by rw [hA.size, hz]; decide)).trans ((if_pos rfl).trans o26)) hgr
theorem r21_6 (hz : a0.tmps.size = 52) (n cap : Nat) (ad : Option Addr) (e1 : a0.eval (.tmp 1) = .slice ad n cap) (hend : ∀ ac wz, After [18, 19, 20, 7] a0 ac → ac.eval (.tmp 7) = .bool (decide ((n : Int) = 0)) → Gr w wz → Q .normal ac wz) : RW 6 q21_6 false Q a0 w := by
  refine seq_by (by kernel_rfl) 4 (by decide) [18, 19, 20, 7] (fun | 18 => .val (.slice ad n cap) | 19 => .val (.int .i64 (n : Int)) | 20 => .val (.bool (decide ((n : Int) = 0))) | 7 => .val (.bool (decide ((n : Int) = 0))) | _ => .any) (by kernel_rfl) (fmc ⟨?s0, fmc ⟨?s1, fmc ⟨?s2, fmc ⟨?s3, fun o ho => nomatch ho⟩⟩⟩⟩) ?e
  case s0 => exact sa_mo 1 18 e1
  case s1 => exact sa_len 30 (.tmp 18) 19 (.slice ad n cap) (.int .i64 (n : Int)) rfl rfl rfl (.nw 18 hz) (by intro w; kernel_rfl) rfl
  case s2 => exact sa_bin .eql 3 (.tmp 19) (.const _) 3 20 (.int .i64 (n : Int)) (.int .i64 0) (.bool (decide ((n : Int) = 0))) rfl rfl rfl (.nw 19 hz) (.const _) guard_int (bin_eql rfl) rfl
  case s3 => exact sa_move (.tmp 20) 7 (.val (.bool (decide ((n : Int) = 0)))) (.inr rfl) rfl rfl (.nw 20 hz) rfl
  case e =>
  intro ac wz hA hgr hv
  exact wl_end (hend ac wz hA (hw hv hz 7) hgr)
theorem r21_8 (hz : a0.tmps.size = 52) (k n cap : Nat) (ad : Option Addr) (e8 : a0.eval (.tmp 8) = .int .i64 (k : Int)) (e1 : a0.eval (.tmp 1) = .slice ad n cap) (hend : ∀ ac wz, After [21, 22, 23, 24] a0 ac → ac.eval (.tmp 24) = .bool (decide ((k : Int) < (n : Int))) → Gr w wz → Q .normal ac wz) : RW 8 q21_8 false Q a0 w := by
  refine seq_by (by kernel_rfl) 4 (by decide) [21, 22, 23, 24] (fun | 21 => .val (.int .i64 (k : Int)) | 22 => .val (.slice ad n cap) | 23 => .val (.int .i64 (n : Int)) | 24 => .val (.bool (decide ((k : Int) < (n : Int)))) | _ => .any) (by kernel_rfl) (fmc ⟨?s0, fmc ⟨?s1, fmc ⟨?s2, fmc ⟨?s3, fun o ho => nomatch ho⟩⟩⟩⟩) ?e
  case s0 => exact sa_mo 8 21 e8
  case s1 => exact sa_mo 1 22 e1
  case s2 => exact sa_len 30 (.tmp 22) 23 (.slice ad n cap) (.int .i64 (n : Int)) rfl rfl rfl (.nw 22 hz) (by intro w; kernel_rfl) rfl
  case s3 => exact sa_bin .lss 3 (.tmp 21) (.tmp 23) 3 24 (.int .i64 (k : Int)) (.int .i64 (n : Int)) (.bool (decide ((k : Int) < (n : Int)))) rfl rfl rfl (.nw 21 hz) (.nw 23 hz) guard_int (bin_lss rfl) rfl
  case e =>
  intro ac wz hA hgr hv
  exact wl_end (hend ac wz hA (hw hv hz 24) hgr)
theorem r21_10t (hz : a0.tmps.size = 52)  (e7 : a0.eval (.tmp 7) = .bool true) (hend : ∀ ac wz, After (7 :: [27, 28, 29, 30, 31, 32, 33, 34, 35, 36, 37, 38, 39, 40]) a0 ac → ac.eval (.tmp 7) = .bool true → Gr w wz → Q .normal ac wz) : RW 10 q21_10 true Q a0 w := by
  refine drawn_tail (by kernel_rfl) (by kernel_rfl) 14 (by decide) (by kernel_rfl) (by kernel_rfl) [27, 28, 29, 30, 31, 32, 33, 34, 35, 36, 37, 38, 39, 40] (fun | 27 => .val (.bool true) | 28 => .val (.bool true) | 40 => .val (.bool true) | _ => .any) (by kernel_rfl) (fmc ⟨?s0, fmc ⟨?s1, fmc ⟨?s2, fmc ⟨?s3, fmc ⟨?s4, fmc ⟨?s5, fmc ⟨?s6, fmc ⟨?s7, fmc ⟨?s8, fmc ⟨?s9, fmc ⟨?s10, fmc ⟨?s11, fmc ⟨?s12, fmc ⟨?s13, fun o ho => nomatch ho⟩⟩⟩⟩⟩⟩⟩⟩⟩⟩⟩⟩⟩⟩) ?e
  case s0 => exact sa_mo 7 27 e7
  case s1 => exact sa_mw 27 28 hz
  case s2 => exact so_nF 1 28 hz
  case s3 => exact so_nF 1 28 hz
  case s4 => exact so_nF 1 28 hz
  case s5 => exact so_nF 1 28 hz
  case s6 => exact so_nF 1 28 hz
  case s7 => exact so_nF 1 28 hz
  case s8 => exact so_nF 1 28 hz
  case s9 => exact so_nF 1 28 hz
  case s10 => exact so_nF 1 28 hz
  case s11 => exact so_nF 1 28 hz
  case s12 => exact so_nF 1 28 hz
  case s13 => exact sa_pick (.tmp 28) (.const _) (.tmp 39) 40 (.val (.bool true)) rfl rfl rfl (.nw 28 hz) (.const _) rfl
  case e =>
  intro ac wz hA hgr hv
  have o40 : ac.eval (.tmp 40) = .bool true := hw hv hz 40
  refine wl_of rfl (op_move (.tmp 40) (.inr rfl) (wl_end ?_))
  exact hend _ wz (hA.put 7 _) ((ev_put (by rw [hA.size, hz]; decide)).trans ((if_pos rfl).trans o40)) hgr
theorem r21_10f (hz : a0.tmps.size = 52) (k i n cap b g of gs fs ns cs : Nat) (y0 x : Int) (hk : k < ns) (hi : i < n) (os : List Ow) (hB : Holds w b (.slice (some ⟨g, of, none⟩) n cap :: ownV os) 28) (hY : ∀ y, Gr w y → y.cell? ⟨gs, fs + k, none⟩ = some (.int .i64 y0)) (hX : ∀ y, Gr w y → y.cell? ⟨g, of + i * 3 + 1, none⟩ = some (.int .i64 x)) (e7 : a0.eval (.tmp 7) = .bool false) (e1 : a0.eval (.tmp 1) = .slice (some ⟨gs, fs, none⟩) ns cs) (e8 : a0.eval (.tmp 8) = .int .i64 (k : Int)) (e2 : a0.eval (.tmp 2) = .pointer (some ⟨b, 0, none⟩)) (e6 : a0.eval (.tmp 6) = .int .i64 (i : Int)) (hend : ∀ ac wz, After (7 :: [27, 28, 29, 30, 31, 32, 33, 34, 35, 36, 37, 38, 39, 40]) a0 ac → ac.eval (.tmp 7) = .bool (decide (y0 = x)) → Gr w wz → Q .normal ac wz) : RW 10 q21_10 true Q a0 w := by
  refine drawn_tail (by kernel_rfl) (by kernel_rfl) 14 (by decide) (by kernel_rfl) (by kernel_rfl) [27, 28, 29, 30, 31, 32, 33, 34, 35, 36, 37, 38, 39, 40] (fun | 27 => .val (.bool false) | 28 => .val (.bool false) | 29 => .val (.slice (some ⟨gs, fs, none⟩) ns cs) | 30 => .val (.int .i64 (k : Int)) | 31 => .val (.pointer (some ⟨gs, fs + k, none⟩)) | 32 => .val (.int .i64 y0) | 33 => .val (.pointer (some ⟨b, 0, none⟩)) | 34 => .val (.slice (some ⟨g, of, none⟩) n cap) | 35 => .val (.int .i64 (i : Int)) | 36 => .val (.pointer (some ⟨g, of + i * 3, none⟩)) | 37 => .val (.pointer (some ⟨g, of + i * 3 + 1, none⟩)) | 38 => .val (.int .i64 x) | 39 => .val (.bool (decide (y0 = x))) | 40 => .val (.bool (decide (y0 = x))) | _ => .any) (by kernel_rfl) (fmc ⟨?s0, fmc ⟨?s1, fmc ⟨?s2, fmc ⟨?s3, fmc ⟨?s4, fmc ⟨?s5, fmc ⟨?s6, fmc ⟨?s7, fmc ⟨?s8, fmc ⟨?s9, fmc ⟨?s10, fmc ⟨?s11, fmc ⟨?s12, fmc ⟨?s13, fun o ho => nomatch ho⟩⟩⟩⟩⟩⟩⟩⟩⟩⟩⟩⟩⟩⟩) ?e
  case s0 => exact sa_mo 7 27 e7
  case s1 => exact sa_mw 27 28 hz
  case s2 => exact sa_gf 1 28 hz (sa_mo 1 29 e1)
  case s3 => exact sa_gf 1 28 hz (sa_mo 8 30 e8)
  case s4 => exact sa_gf 1 28 hz (sa_ixa 30 (.tmp 29) (.tmp 30) 31 (.slice (some ⟨gs, fs, none⟩) ns cs) (.int .i64 (k : Int)) (.pointer (some ⟨gs, fs + k, none⟩)) rfl rfl rfl (.nw 29 hz) (.nw 30 hz) (ix_slice (sz := 1) Tryz.underlying30 (by intro w; kernel_rfl) (by omega) (by omega)) rfl)
  case s5 => exact sa_gf 1 28 hz (sa_loadc 3 (.tmp 31) 32 (gs) (fs + k) (.int .i64 y0) rfl rfl rfl (by intro w; kernel_rfl) (.nw 31 hz) hY rfl)
  case s6 => exact sa_gf 1 28 hz (sa_fa 28 (.tmp 2) 0 33 (.pointer (some ⟨b, 0, none⟩)) (.pointer (some ⟨b, 0, none⟩)) rfl rfl rfl (.old 2 _ (by decide) e2) (by intro w; kernel_rfl) rfl)
  case s7 => exact sa_gf 1 28 hz (sa_loadc 22 (.tmp 33) 34 (b) (0) (.slice (some ⟨g, of, none⟩) n cap) rfl rfl rfl (by intro w; kernel_rfl) (.nw 33 hz) (fun y hy => (hB.below hy hB.lt).at 0 _ rfl) rfl)
  case s8 => exact sa_gf 1 28 hz (sa_mo 6 35 e6)
  case s9 => exact sa_gf 1 28 hz (sa_ixa 22 (.tmp 34) (.tmp 35) 36 (.slice (some ⟨g, of, none⟩) n cap) (.int .i64 (i : Int)) (.pointer (some ⟨g, of + i * 3, none⟩)) rfl rfl rfl (.nw 34 hz) (.nw 35 hz) (ix_slice (sz := 3) Tryz.underlying22 (by intro w; kernel_rfl) (by omega) rfl) rfl)
  case s10 => exact sa_gf 1 28 hz (sa_fa 53 (.tmp 36) 1 37 (.pointer (some ⟨g, of + i * 3, none⟩)) (.pointer (some ⟨g, of + i * 3 + 1, none⟩)) rfl rfl rfl (.nw 36 hz) (by intro w; kernel_rfl) rfl)
  case s11 => exact sa_gf 1 28 hz (sa_loadc 3 (.tmp 37) 38 (g) (of + i * 3 + 1) (.int .i64 x) rfl rfl rfl (by intro w; kernel_rfl) (.nw 37 hz) hX rfl)
  case s12 => exact sa_gf 1 28 hz (sa_bin .eql 3 (.tmp 32) (.tmp 38) 3 39 (.int .i64 y0) (.int .i64 x) (.bool (decide (y0 = x))) rfl rfl rfl (.nw 32 hz) (.nw 38 hz) guard_int (bin_eql rfl) rfl)
  case s13 => exact sa_pickF (.tmp 28) (.const _) (.tmp 39) 40 (.val (.bool (decide (y0 = x)))) rfl rfl rfl (.nw 28 hz) (.nw 39 hz) rfl
  case e =>
  intro ac wz hA hgr hv
  have o40 : ac.eval (.tmp 40) = .bool (decide (y0 = x)) := hw hv hz 40
  refine wl_of rfl (op_move (.tmp 40) (.inr rfl) (wl_end ?_))
  exact hend _ wz (hA.put 7 _) ((ev_put (by rw [hA.size, hz]; decide)).trans ((if_pos rfl).trans o40)) hgr
theorem r21_11 (hz : a0.tmps.size = 52) (z : Bool) (e7 : a0.eval (.tmp 7) = .bool z) (hend : ∀ ac wz, After [41] a0 ac → ac.eval (.tmp 41) = .bool z → Gr w wz → Q .normal ac wz) : RW 11 q21_11 false Q a0 w := by
  refine seq_by (by kernel_rfl) 1 (by decide) [41] (fun | 41 => .val (.bool z) | _ => .any) (by kernel_rfl) (fmc ⟨?s0, fun o ho => nomatch ho⟩) ?e
  case s0 => exact sa_mo 7 41 e7
  case e =>
  intro ac wz hA hgr hv
  exact wl_end (hend ac wz hA (hw hv hz 41) hgr)
theorem r21_12 (hz : a0.tmps.size = 52) (i n cap b g of M : Nat) (v5 : Value) (L : List Int) (x : Int) (hi : i < n) (os : List Ow) (hB : Holds w b (.slice (some ⟨g, of, none⟩) n cap :: ownV os) 28) (hX : ∀ y, Gr w y → y.cell? ⟨g, of + i * 3, none⟩ = some (.int .i64 x)) (hown : w.ownsRow M 3 1 v5 L.length (intV L)) (hb : L.length + 1 ≤ 17592186043904) (hM : M ≤ w.heap.size) (e5 : a0.eval (.tmp 5) = v5) (e2 : a0.eval (.tmp 2) = .pointer (some ⟨b, 0, none⟩)) (e6 : a0.eval (.tmp 6) = .int .i64 (i : Int)) (hend : ∀ ac wz v, After (5 :: 50 :: [42, 43, 44, 45, 46, 47, 48, 49]) a0 ac → ac.eval (.tmp 5) = v → wz.ownsRow M 3 1 v (L ++ [x]).length (intV (L ++ [x])) → Below M w wz → Q .normal ac wz) : RW 12 q21_12 false Q a0 w := by
  refine seq_by (by kernel_rfl) 8 (by decide) [42, 43, 44, 45, 46, 47, 48, 49] (fun | 42 => .val (v5) | 43 => .val (.pointer (some ⟨b, 0, none⟩)) | 44 => .val (.slice (some ⟨g, of, none⟩) n cap) | 45 => .val (.int .i64 (i : Int)) | 46 => .val (.pointer (some ⟨g, of + i * 3, none⟩)) | 47 => .val (.pointer (some ⟨g, of + i * 3 + 0, none⟩)) | 48 => .val (.int .i64 x) | 49 => oneF x | _ => .any) (by kernel_rfl) (fmc ⟨?s0, fmc ⟨?s1, fmc ⟨?s2, fmc ⟨?s3, fmc ⟨?s4, fmc ⟨?s5, fmc ⟨?s6, fmc ⟨?s7, fun o ho => nomatch ho⟩⟩⟩⟩⟩⟩⟩⟩) ?e
  case s0 => exact sa_mo 5 42 e5
  case s1 => exact sa_fa 28 (.tmp 2) 0 43 (.pointer (some ⟨b, 0, none⟩)) (.pointer (some ⟨b, 0, none⟩)) rfl rfl rfl (.old 2 _ (by decide) e2) (by intro w; kernel_rfl) rfl
  case s2 => exact sa_loadc 22 (.tmp 43) 44 (b) (0) (.slice (some ⟨g, of, none⟩) n cap) rfl rfl rfl (by intro w; kernel_rfl) (.nw 43 hz) (fun y hy => (hB.below hy hB.lt).at 0 _ rfl) rfl
  case s3 => exact sa_mo 6 45 e6
  case s4 => exact sa_ixa 22 (.tmp 44) (.tmp 45) 46 (.slice (some ⟨g, of, none⟩) n cap) (.int .i64 (i : Int)) (.pointer (some ⟨g, of + i * 3, none⟩)) rfl rfl rfl (.nw 44 hz) (.nw 45 hz) (ix_slice (sz := 3) Tryz.underlying22 (by intro w; kernel_rfl) (by omega) rfl) rfl
  case s5 => exact sa_fa 53 (.tmp 46) 0 47 (.pointer (some ⟨g, of + i * 3, none⟩)) (.pointer (some ⟨g, of + i * 3 + 0, none⟩)) rfl rfl rfl (.nw 46 hz) (by intro w; kernel_rfl) rfl
  case s6 => exact sa_loadc 3 (.tmp 47) 48 (g) (of + i * 3 + 0) (.int .i64 x) rfl rfl rfl (by intro w; kernel_rfl) (.nw 47 hz) hX rfl
  case s7 => exact sa_bs1 30 1 (.tmp 48) 49 (.int .i64 x) rfl rfl rfl (.nw 48 hz) (bs24 x)
  case e =>
  intro ac wz hA hgr hv
  have o42 : ac.eval (.tmp 42) = v5 := hw hv hz 42
  have o49 := hw hv hz 49
  refine wpl_app rfl (.tmp 42) (.tmp 49) rfl M v5 L [x] (owns_gr hown hgr) o42 _ _ rfl (oneF_ints o49) hb (Nat.le_trans hM hgr.size) ?_
  intro v3 w3 own3 b3
  refine wl_of rfl (op_move (.tmp 50) (.inr rfl) (wl_end ?_))
  exact hend _ w3 v3 ((hA.put 50 _).put 5 _) ((ev_put (by rw [put_size, hA.size, hz]; decide)).trans ((if_pos rfl).trans ((ev_put (by rw [hA.size, hz]; decide)).trans (if_pos rfl)))) own3 ((hgr.mono hM).trans b3)
theorem r21_13 (hz : a0.tmps.size = 52) (v5 : Value) (e5 : a0.eval (.tmp 5) = v5) (hend : ∀ ac wz, After [51, 4] a0 ac → ac.eval (.tmp 4) = v5 → Gr w wz → Q .normal ac wz) : RW 13 q21_13 false Q a0 w := by
  refine seq_by (by kernel_rfl) 2 (by decide) [51, 4] (fun | 51 => .val (v5) | 4 => .val (v5) | _ => .any) (by kernel_rfl) (fmc ⟨?s0, fmc ⟨?s1, fun o ho => nomatch ho⟩⟩) ?e
  case s0 => exact sa_mo 5 51 e5
  case s1 => exact sa_move (.tmp 51) 4 (.val (v5)) (.inr rfl) rfl rfl (.nw 51 hz) rfl
  case e =>
  intro ac wz hA hgr hv
  exact wl_end (hend ac wz hA (hw hv hz 4) hgr)
def c21_ri : Code := (((Code.region 8 q21_8 false).seq (Code.cond (.tmp 24) Code.skip (Code.exit 2))).seq ((Code.block 3 (Code.region 10 q21_10 true)).seq (Code.region 9 q21_9 false)))
def c21_li : Code := (Code.block 2 (c21_ri.loop))
def c21_ra : Code := (((Code.region 4 q21_4 false).seq (Code.cond (.tmp 15) Code.skip (Code.exit 0))).seq ((Code.block 1 ((Code.region 6 q21_6 false).seq (((Code.region 7 q21_7 false).seq c21_li).seq ((Code.region 11 q21_11 false).seq (Code.cond (.tmp 41) (Code.region 12 q21_12 false) Code.skip))))).seq (Code.region 5 q21_5 false)))
def c21_la : Code := (Code.block 0 (c21_ra.loop))
def c21 : Code := ((Code.region 0 q21_0 false).seq ((Code.region 1 q21_1 false).seq ((Code.region 2 q21_2 false).seq (((Code.region 3 q21_3 false).seq c21_la).seq ((Code.region 13 q21_13 false).seq Code.ret)))))
theorem r21_0 (hz : a0.tmps.size = 52) (b : Nat) (hb : w.heap.size = b) (v : Value) (r : Rg) (e0 : a0.eval (.tmp 0) = .agg (ringC v r).toArray) (hend : ∀ ac wz, After [4, 2] a0 ac → ac.eval (.tmp 2) = .pointer (some ⟨b, 0, none⟩) → Anew b w wz (ringC v r) 28 → Q .normal ac wz) : RW 0 q21_0 false Q a0 w := by
  refine wp_region_list ?_
  refine wpList_box_new 2 rfl rfl 28 (.tmp 0) rfl b hb _ e0 ?_
  intro w1 h1
  refine wl_of rfl (op_mv (.const (.slice none 0 0)) (.slice none 0 0) (.inr rfl) rfl 4 rfl (wl_end (hend _ w1 (((After.self a0).put 2 _).put 4 _) ?_ h1)))
  simp [ev_put, put_size, hz]
structure Ms (w : World) (b N : Nat) (u : Value) (nr : Rg) (sv : Value) (ss L : List Int) (v5 : Value) (ac : Act) (x : World) : Prop where
  z : ac.tmps.size = 52
  df : ac.defers = []
  e1 : ac.eval (.tmp 1) = sv
  e2 : ac.eval (.tmp 2) = .pointer (some ⟨b, 0, none⟩)
  e5 : ac.eval (.tmp 5) = v5
  hb : Holds x b (ringC u nr) 28
  hm : Mems N x u nr.1
  hs : Ints b x sv ss
  own : x.ownsRow N 3 1 v5 L.length (intV L)
  bl : Below b w x
  bN : b < N
  Nx : N ≤ x.heap.size
theorem Ms.gr {w x y : World} {b N : Nat} {u sv v5 : Value} {nr : Rg} {ss L : List Int} {ac ad : Act} {D : List Nat} (h : Ms w b N u nr sv ss L v5 ac x) (hA : After D ac ad) (hD : (D.all fun s => decide (6 ≤ s)) = true) (g : Gr x y) : Ms w b N u nr sv ss L v5 ad y :=
  have h1 := h.bN
  have h2 := h.Nx
  ⟨hA.size.trans h.z, hA.defers.trans h.df, hA.keep hD (by omega) h.e1, hA.keep hD (by omega) h.e2, hA.keep hD (by omega) h.e5, h.hb.below g h.hb.lt, h.hm.below (g.mono h2), h.hs.below (g.mono (by omega)), owns_gr h.own g, h.bl.trans (g.mono (by omega)), h1, Nat.le_trans h2 g.size⟩
theorem Ms.more {w x y : World} {b N : Nat} {u sv v5 v6 : Value} {nr : Rg} {ss L L' : List Int} {ac ad : Act} {D : List Nat} (h : Ms w b N u nr sv ss L v5 ac x) (hA : After D ac ad) (hD : (D.all fun s => decide (5 ≤ s)) = true) (e5 : ad.eval (.tmp 5) = v6) (own : y.ownsRow N 3 1 v6 L'.length (intV L')) (g : Below N x y) : Ms w b N u nr sv ss L' v6 ad y :=
  have h1 := h.bN
  ⟨hA.size.trans h.z, hA.defers.trans h.df, hA.keep hD (by omega) h.e1, hA.keep hD (by omega) h.e2, e5, h.hb.below g h1, h.hm.below g, h.hs.below (g.mono (by omega)), own, h.bl.trans (g.mono (by omega)), h1, Nat.le_trans h.Nx g.size⟩
theorem take_has (l : List Int) (k : Nat) (hk : k < l.length) (s : Int) : (l.take (k + 1)).contains s = ((l.take k).contains s || decide (l.getD k 0 = s)) := by
  have e : l.getD k 0 = l[k] := by rw [List.getD_eq_getElem?_getD, List.getElem?_eq_getElem hk]; rfl
  rw [e, List.take_succ_eq_append_getElem hk, Bool.eq_iff_iff]
  simp only [List.contains_iff_mem, Bool.or_eq_true, decide_eq_true_eq, List.mem_append, List.mem_singleton]
  constructor
  · rintro (h | h)
    · exact .inl h
    · exact .inr h.symm
  · rintro (h | h)
    · exact .inl h
    · exact .inr h.symm
set_option maxHeartbeats 1000000 in
theorem members_li {Q : Exit → Act → World → Prop} {w x : World} {b N i : Nat} {u sv v5 : Value} {nr : Rg} {ss L : List Int} {ac : Act} (m : Mb) (hmi : nr.1[i]? = some m) (hsl : ss.length ≤ 9223372036854775807) (h : Ms w b N u nr sv ss L v5 ac x) (e6 : ac.eval (.tmp 6) = .int .i64 (i : Int)) (e7 : ac.eval (.tmp 7) = .bool (decide (ss.length = 0))) (e8 : ac.eval (.tmp 8) = .int .i64 ((0 : Nat) : Int))
    (hend : ∀ ad y, Ms w b N u nr sv ss L v5 ad y → ad.eval (.tmp 6) = .int .i64 (i : Int) → ad.eval (.tmp 7) = .bool (inS ss m) → Q .normal ad y) : c21_li.wp Tryz.prog Q ac x := by
  have hil : i < nr.1.length := (List.getElem?_eq_some_iff.1 hmi).1
  unfold c21_li
  refine wp_block ?_
  refine wp_loop (fun ad y => ∃ k : Nat, Ms w b N u nr sv ss L v5 ad y ∧ k ≤ ss.length ∧ ad.eval (.tmp 6) = .int .i64 (i : Int) ∧ ad.eval (.tmp 7) = .bool (decide (ss.length = 0) || (ss.take k).contains m.2.1) ∧ ad.eval (.tmp 8) = .int .i64 (k : Int)) (fun ad _ => ss.length - (intOf (ad.eval (.tmp 8))).toNat)
    ⟨0, h, Nat.zero_le _, e6, by simpa using e7, e8⟩ (fun a0 x0 ⟨k, h0, hk, f6, f7, f8⟩ => ?_)
  obtain ⟨ad, cap, hvs⟩ := h0.hs.len
  unfold c21_ri
  refine wp_seq (wp_seq (r21_8 h0.z k ss.length cap ad f8 (by rw [h0.e1, hvs]) (fun a2 x2 A2 o24 G2 => ?_)))
  have h2 := h0.gr A2 (by decide) G2
  have g6 := A2.get f6 (by decide)
  have g7 := A2.get f7 (by decide)
  have g8 := A2.get f8 (by decide)
  show Code.wp Tryz.prog (Code.cond _ _ _) _ a2 x2
  refine wp_cond_split o24 (fun q => ?_) (fun q => ?_)
  · have q : (k : Int) < ss.length := of_decide_eq_true q
    have hkl : k < ss.length := by omega
    have ht := take_has ss k hkl m.2.1
    have hmea : ∀ a8 : Act, a8.eval (.tmp 8) = .int .i64 ((k + 1 : Nat) : Int) → ss.length - (intOf (a8.eval (.tmp 8))).toNat < ss.length - (intOf (a0.eval (.tmp 8))).toNat := fun a8 o8 => by
      rw [o8, f8]
      simp only [intOf]
      omega
    refine wp_skip ?_
    show Code.wp Tryz.prog (Code.seq _ _) _ a2 x2
    cases hb7 : (decide (ss.length = 0) || (ss.take k).contains m.2.1) with
    | true =>
      rw [hb7] at g7
      refine wp_seq (wp_block (r21_10t h2.z g7 (fun a3 x3 A3 o7 G3 => ?_)))
      have h3 := h2.gr A3 (by decide) G3
      show Code.wp Tryz.prog (Code.region 9 q21_9 false) _ a3 x3
      refine r21_9 h3.z k (by omega) (A3.get g8 (by decide)) (fun a4 x4 A4 o8 G4 => ?_)
      refine ⟨⟨k + 1, h3.gr A4 (by decide) G4, by omega, A4.get (A3.get g6 (by decide)) (by decide), ?_, o8⟩, hmea a4 o8⟩
      rw [A4.get o7 (by decide), ht, ← Bool.or_assoc, hb7, Bool.true_or]
    | false =>
      rw [hb7] at g7
      obtain ⟨gs, fs, cs, hv, hg, hc⟩ := ints_at h2.hs k hkl
      obtain ⟨g, of, cap2, hvu, hcm⟩ := mems_at h2.hm i m hmi
      have hbb := h2.hb
      rw [show ringC u nr = u :: ownV nr.2 from rfl, hvu] at hbb
      have hx1 := h2.hb.lt
      have hNx := h2.Nx
      refine wp_seq (wp_block (r21_10f h2.z k i nr.1.length cap2 b g of gs fs ss.length cs (ss.getD k 0) m.2.1 hkl hil nr.2 hbb (fun y hy => cell_below (hy.mono (Nat.le_of_lt hx1)) hg hc) (fun y hy => by have := (hcm y (hy.mono hNx)).2 1 _ rfl; exact this) g7 (by rw [h2.e1, hv]) g8 h2.e2 g6 (fun a3 x3 A3 o7 G3 => ?_)))
      have h3 := h2.gr A3 (by decide) G3
      show Code.wp Tryz.prog (Code.region 9 q21_9 false) _ a3 x3
      refine r21_9 h3.z k (by omega) (A3.get g8 (by decide)) (fun a4 x4 A4 o8 G4 => ?_)
      refine ⟨⟨k + 1, h3.gr A4 (by decide) G4, by omega, A4.get (A3.get g6 (by decide)) (by decide), ?_, o8⟩, hmea a4 o8⟩
      rw [A4.get o7 (by decide), ht, ← Bool.or_assoc, hb7, Bool.false_or]
  · have q : ¬ (k : Int) < ss.length := of_decide_eq_false q
    have e : ss.take k = ss := List.take_of_length_le (by omega)
    rw [e] at g7
    exact wp_exit (hend a2 x2 h2 g6 g7)
set_option maxHeartbeats 1000000 in
theorem rmembers_any (v : Value) (r : Rg) (sv : Value) (ss : List Int) (w : World) (hR : RingAt w.heap.size w v r) (hI : Ints w.heap.size w sv ss) (hsl : ss.length ≤ 9223372036854775807) : Calls Tryz.prog 21 #[.agg (ringC v r).toArray, sv] w fun e z => ∃ u, e = .returned u ∧ z.ownsRow w.heap.size 3 1 u (membersL r ss).length (intV (membersL r ss)) ∧ Gr w z := by
  obtain ⟨b, hwb⟩ : ∃ b, w.heap.size = b := ⟨_, rfl⟩
  rw [hwb] at hR hI ⊢
  have hnl : (normL r).1.length ≤ 7 := risL_len _
  have hML : membersL r ss = selL ss (normL r).1 := rfl
  refine calls_by (c := c21) Tryz.func21 (by kernel_rfl) 52 (by rw [Tryz.ntmps21]; rfl) (fun ac z df hv => ?_)
  have e0 := hv 0 _ rfl
  have e1 := hv 1 _ rfl
  clear hv
  unfold c21
  refine wp_seq (r21_0 z b hwb v r e0 (fun a1 x1 A1 o2 N1 => ?_))
  have z1 := A1.size.trans z
  have s1 : x1.heap.size = b + 1 := N1.size
  have RA1 : RingAt x1.heap.size x1 v r := (hR.below N1.below).mono (by omega)
  show Code.wp Tryz.prog (Code.seq _ _) _ a1 x1
  refine wp_seq (r21_1 z1 b v r N1.holds RA1 o2 (fun a2 x2 A2 B2 U2 => ?_))
  have z2 := A2.size.trans z1
  have hB2 : Below b w x2 := N1.below.trans (U2.below (Nat.le_refl _) (by omega))
  obtain ⟨u, H2, R2, F2⟩ := B2
  have hs2 : b + 1 ≤ x2.heap.size := by have := U2.size; omega
  generalize normL r = nr at *
  generalize membersL r ss = ML at *
  show Code.wp Tryz.prog (Code.seq _ _) _ a2 x2
  refine wp_seq (r21_2 z2 (fun a3 x3 A3 o5 G3 => ?_))
  have h3 : Ms w b x2.heap.size u nr sv ss [] (.slice none 0 0) a3 x3 := ⟨A3.size.trans z2, A3.defers.trans (A2.defers.trans (A1.defers.trans df)), A3.get (A2.get (A1.get e1 (by decide)) (by decide)) (by decide), A3.get (A2.get o2 (by decide)) (by decide), o5, H2.below G3 H2.lt, R2.mem.below G3, (hI.below hB2).below (G3.mono (by omega)), World.ownsRow_nil _ _ _ _, hB2.trans (G3.mono (by omega)), by omega, G3.size⟩
  show Code.wp Tryz.prog (Code.seq (Code.seq _ c21_la) _) _ a3 x3
  refine wp_seq (wp_seq (r21_3 h3.z (fun a4 x4 A4 o6 G4 => ?_)))
  have h4 := h3.gr A4 (by decide) G4
  show Code.wp Tryz.prog c21_la _ a4 x4
  unfold c21_la
  refine wp_block ?_
  refine wp_loop (fun ad y => ∃ (i : Nat) (v5 : Value), Ms w b x2.heap.size u nr sv ss (selL ss (nr.1.take i)) v5 ad y ∧ i ≤ nr.1.length ∧ ad.eval (.tmp 6) = .int .i64 (i : Int)) (fun ad _ => nr.1.length - (intOf (ad.eval (.tmp 6))).toNat)
    ⟨0, _, h4, Nat.zero_le _, o6⟩ (fun a0 x0 ⟨i, v5, h0, hi, f6⟩ => ?_)
  obtain ⟨ad, cap, hvs⟩ := h0.hm.len
  unfold c21_ra
  refine wp_seq (wp_seq (r21_4 h0.z i nr.1.length cap b ad nr.2 (by have := h0.hb; rw [show ringC u nr = u :: ownV nr.2 from rfl, hvs] at this; exact this) f6 h0.e2 (fun a5 x5 A5 o15 G5 => ?_)))
  have h5 := h0.gr A5 (by decide) G5
  have g6 := A5.get f6 (by decide)
  show Code.wp Tryz.prog (Code.cond _ _ _) _ a5 x5
  refine wp_cond_split o15 (fun q => ?_) (fun q => ?_)
  · have q : (i : Int) < nr.1.length := of_decide_eq_true q
    have hil : i < nr.1.length := by omega
    have hmi : nr.1[i]? = some nr.1[i] := List.getElem?_eq_getElem hil
    have hst := selL_step ss nr.1 i _ hmi
    have hsl2 : (selL ss (nr.1.take i)).length ≤ 7 := by
      unfold selL
      rw [List.length_map]
      exact Nat.le_trans (List.length_filter_le _ _) (by rw [List.length_take]; omega)
    generalize nr.1[i] = m at *
    generalize selL ss (nr.1.take i) = L at *
    have mea : ∀ a8 : Act, a8.eval (.tmp 6) = .int .i64 ((i + 1 : Nat) : Int) → nr.1.length - (intOf (a8.eval (.tmp 6))).toNat < nr.1.length - (intOf (a0.eval (.tmp 6))).toNat := fun a8 o6' => by
      rw [o6', f6]
      simp only [intOf]
      omega
    obtain ⟨ads, caps, hss⟩ := h5.hs.len
    refine wp_skip ?_
    show Code.wp Tryz.prog (Code.seq _ _) _ a5 x5
    refine wp_seq (wp_block (wp_seq (r21_6 h5.z ss.length caps ads (by rw [h5.e1, hss]) (fun a6 x6 A6 o7 G6 => ?_))))
    have h6 := h5.gr A6 (by decide) G6
    show Code.wp Tryz.prog (Code.seq (Code.seq _ c21_li) _) _ a6 x6
    refine wp_seq (wp_seq (r21_7 h6.z (fun a7 x7 A7 o8 G7 => ?_)))
    have h7 := h6.gr A7 (by decide) G7
    show Code.wp Tryz.prog c21_li _ a7 x7
    have hd0 : decide ((ss.length : Int) = 0) = decide (ss.length = 0) := by
      by_cases h : ss.length = 0 <;> simp [h]
    rw [hd0] at o7
    refine members_li m hmi hsl h7 (A7.get (A6.get g6 (by decide)) (by decide)) (A7.get o7 (by decide)) o8 (fun a8 x8 h8 k6 k7 => ?_)
    show Code.wp Tryz.prog (Code.seq _ _) _ a8 x8
    refine wp_seq (r21_11 h8.z (inS ss m) k7 (fun a9 x9 A9 o41 G9 => ?_))
    have h9 := h8.gr A9 (by decide) G9
    have m6 := A9.get k6 (by decide)
    show Code.wp Tryz.prog (Code.cond _ _ _) _ a9 x9
    refine wp_cond_split o41 (fun q => ?_) (fun q => ?_)
    · rw [if_pos q] at hst
      obtain ⟨g, of, cap2, hvu, hcm⟩ := mems_at h9.hm i m hmi
      have hbb := h9.hb
      rw [show ringC u nr = u :: ownV nr.2 from rfl, hvu] at hbb
      have hNx := h9.Nx
      refine r21_12 h9.z i nr.1.length cap2 b g of x2.heap.size v5 L m.1 hil nr.2 hbb (fun y hy => (hcm y (hy.mono hNx)).1) h9.own (by omega) hNx h9.e5 h9.e2 m6 (fun a10 x10 v6 A10 o5' own10 B10 => ?_)
      rw [← hst] at own10
      have h10 := h9.more A10 (by decide) o5' own10 B10
      show Code.wp Tryz.prog (Code.region 5 q21_5 false) _ a10 x10
      refine r21_5 h10.z i (by omega) (A10.get m6 (by decide)) (fun a11 x11 A11 o6' G11 => ?_)
      exact ⟨⟨i + 1, v6, h10.gr A11 (by decide) G11, by omega, o6'⟩, mea a11 o6'⟩
    · rw [if_neg (by rw [q]; decide)] at hst
      rw [← hst] at h9
      refine wp_skip ?_
      show Code.wp Tryz.prog (Code.region 5 q21_5 false) _ a9 x9
      refine r21_5 h9.z i (by omega) m6 (fun a11 x11 A11 o6' G11 => ?_)
      exact ⟨⟨i + 1, v5, h9.gr A11 (by decide) G11, by omega, o6'⟩, mea a11 o6'⟩
  · have q : ¬ (i : Int) < nr.1.length := of_decide_eq_false q
    have e : nr.1.take i = nr.1 := List.take_of_length_le (by omega)
    rw [e, ← hML] at h5
    refine wp_exit ?_
    show Code.wp Tryz.prog (Code.seq _ _) _ a5 x5
    refine wp_seq (r21_13 h5.z v5 h5.e5 (fun a6 x6 A6 o4 G6 => ?_))
    have hNx := h5.Nx
    have hbN := h5.bN
    refine wp_ret (show bodyPost Tryz.prog Tryz.f21 (fun e z => ∃ u, e = .returned u ∧ z.ownsRow b 3 1 u ML.length (intV ML) ∧ Gr w z) .ret a6 x6 from bodyPost_ret (results_tmp rfl _ _ _) (A6.defers.trans h5.df) ⟨v5, by rw [← o4]; rfl, row_base (owns_gr h5.own G6) (by omega), ?_⟩)
    unfold Gr
    rw [hwb]
    exact h5.bl.trans (G6.mono (by omega))
theorem own_ints {w : World} {base : Nat} {v : Value} {L : List Int} (h : w.ownsRow base 3 1 v L.length (intV L)) : Ints w.heap.size w v L := by
  rcases Nat.eq_zero_or_pos L.length with h0 | h0
  · obtain ⟨a, c, rfl⟩ := row_slice h
    have : L = [] := List.eq_nil_of_length_eq_zero h0
    subst this
    rcases h.2 with ⟨e, _⟩ | ⟨g, cap, cur, e, _, _, hc, _⟩
    · cases e; exact ⟨none, 0, rfl, Nat.zero_le _, .inl rfl⟩
    · exact ⟨_, _, rfl, Nat.zero_le _, .inl rfl⟩
  · obtain ⟨g, cap, tl, rfl, _, hh⟩ := owns_holds h h0 rfl
    have hcap : L.length ≤ cap := by
      rcases h.2 with ⟨e, _⟩ | ⟨g', cap', cur, e, _, _, hc, _⟩
      · cases e
      · cases e; exact hc
    refine ⟨_, cap, rfl, hcap, .inr ⟨g, 0, rfl, hh.lt, fun j hj => ?_⟩⟩
    rw [Nat.zero_add]
    exact hh.at j _ (by rw [List.getElem?_append_left (by rw [intV_len]; exact hj)]; exact intV_at L j hj)
theorem c_members (u : Value) (r : Rg) (s : Int) (v0 v1 : Value) (y : World) (hR : RingAt y.heap.size y u r) (q0 : (Fact.val (.agg (ringC u r).toArray)).holds v0 y) (q1 : (oneF s).holds v1 y) : Calls Tryz.prog 21 #[v0, v1] y fun e z => ∃ k, e = .returned k ∧ Gr y z ∧ (intsF (membersL r [s])).holds k z := by
  rw [show v0 = _ from q0]
  exact (rmembers_any u r v1 [s] y hR (oneF_ints q1) (by show 1 ≤ 9223372036854775807; decide)).mono fun _ _ ⟨k, e1, e2, e3⟩ => ⟨k, e1, e3, own_ints e2⟩
def q23_0 : Array Oper := #[⟨some 1, .box 28 (.tmp 0), 0, "ref.go:141", #[], none⟩, ⟨some 2, .assign (.const (.int .i64 0)), 3, "ref.go:141", #[], none⟩]
def q23_1 : Array Oper := #[⟨some 4, .load 28 (.tmp 1), 28, "ref.go:142", #[], none⟩, ⟨some 5, .buildSlice 30 1 #[(0, .const (.int .i64 1))], 30, "ref.go:142", #[], none⟩, ⟨some 6, .call ⟨.value (.func 21), #[.tmp 4, .tmp 5], #[28, 30]⟩, 30, "ref.go:142", #[⟨0, .data⟩, ⟨1, .data⟩], none⟩, ⟨some 3, .assign (.tmp 6), 30, "ref.go:142", #[⟨2, .data⟩, ⟨2, .chain⟩, ⟨0, .phase⟩, ⟨1, .phase⟩, ⟨2, .phase⟩], none⟩]
def q23_2 : Array Oper := #[⟨some 7, .move (.tmp 3), 30, "ref.go:143", #[], none⟩, ⟨some 8, .call ⟨.builtin .len, #[.tmp 7], #[30]⟩, 3, "ref.go:143", #[⟨0, .data⟩], none⟩, ⟨some 9, .binOp .eql 3 (.tmp 8) (.const (.int .i64 0)) 3, 4, "ref.go:143", #[⟨1, .data⟩], none⟩]
def q23_3 : Array Oper := #[⟨some 2, .assign (.const (.int .i64 0)), 3, "ref.go:144", #[], none⟩]
def q23_4 : Array Oper := #[⟨some 10, .move (.tmp 3), 30, "ref.go:146", #[], none⟩, ⟨some 11, .indexAddr 30 (.tmp 10) (.const (.int .i64 0)), 0, "ref.go:146", #[⟨0, .data⟩], none⟩, ⟨some 12, .load 3 (.tmp 11), 3, "ref.go:146", #[⟨1, .data⟩], none⟩, ⟨some 2, .assign (.tmp 12), 3, "ref.go:146", #[⟨2, .data⟩, ⟨0, .phase⟩, ⟨1, .phase⟩, ⟨2, .phase⟩], none⟩]
theorem r23_1 (hz : a0.tmps.size = 13) (b : Nat) (u : Value) (r : Rg) (hC : Holds w b (ringC u r) 28) (hR : RingAt w.heap.size w u r) (e1 : a0.eval (.tmp 1) = .pointer (some ⟨b, 0, none⟩)) (hend : ∀ ac wz, After [4, 5, 6, 3] a0 ac → (intsF (membersL r [1])).holds (ac.eval (.tmp 3)) wz → Gr w wz → Q .normal ac wz) : RW 1 q23_1 false Q a0 w := by
  refine seq_by (by kernel_rfl) 4 (by decide) [4, 5, 6, 3] (fun | 4 => .val (.agg (ringC u r).toArray) | 5 => oneF 1 | 6 => intsF (membersL r [1]) | 3 => intsF (membersL r [1]) | _ => .any) (by kernel_rfl) (fmc ⟨?s0, fmc ⟨?s1, fmc ⟨?s2, fmc ⟨?s3, fun o ho => nomatch ho⟩⟩⟩⟩) ?e
  case s0 => exact sa_row 28 (.tmp 1) 4 b (0) 17 _ (ringC u r) rfl rfl rfl Tryz.underlying28 rfl siz28 (ringC_len hR) (.old 1 _ (by decide) e1) (fun y hy => range_of (hC.below hy hC.lt)) rfl
  case s1 => exact sa_bs1 30 1 (.const _) 5 (.int .i64 1) rfl rfl rfl (.const _) (bs24 1)
  case s2 => exact sa_call2 21 (.tmp 4) (.tmp 5) _ 6 (Fact.val (.agg (ringC u r).toArray)) (oneF 1) rfl rfl rfl (.nw 4 hz) (.nw 5 hz) (enters_of Tryz.func21 (by kernel_rfl) rfl) (fun v0 v1 y hgy q0 q1 => c_members u r 1 v0 v1 y ((hR.below hgy).mono hgy.size) q0 q1)
  case s3 => exact sa_move (.tmp 6) 3 (intsF (membersL r [1])) (.inr rfl) rfl rfl (.nw 6 hz) rfl
  case e =>
  intro ac wz hA hgr hv
  exact wl_end (hend ac wz hA (hw hv hz 3) hgr)
theorem r23_2 (hz : a0.tmps.size = 13) (n cap : Nat) (ad : Option Addr) (e3 : a0.eval (.tmp 3) = .slice ad n cap) (hend : ∀ ac wz, After [7, 8, 9] a0 ac → ac.eval (.tmp 9) = .bool (decide ((n : Int) = 0)) → Gr w wz → Q .normal ac wz) : RW 2 q23_2 false Q a0 w := by
  refine seq_by (by kernel_rfl) 3 (by decide) [7, 8, 9] (fun | 7 => .val (.slice ad n cap) | 8 => .val (.int .i64 (n : Int)) | 9 => .val (.bool (decide ((n : Int) = 0))) | _ => .any) (by kernel_rfl) (fmc ⟨?s0, fmc ⟨?s1, fmc ⟨?s2, fun o ho => nomatch ho⟩⟩⟩) ?e
  case s0 => exact sa_mo 3 7 e3
  case s1 => exact sa_len 30 (.tmp 7) 8 (.slice ad n cap) (.int .i64 (n : Int)) rfl rfl rfl (.nw 7 hz) (by intro w; kernel_rfl) rfl
  case s2 => exact sa_bin .eql 3 (.tmp 8) (.const _) 3 9 (.int .i64 (n : Int)) (.int .i64 0) (.bool (decide ((n : Int) = 0))) rfl rfl rfl (.nw 8 hz) (.const _) guard_int (bin_eql rfl) rfl
  case e =>
  intro ac wz hA hgr hv
  exact wl_end (hend ac wz hA (hw hv hz 9) hgr)
theorem r23_3 (hz : a0.tmps.size = 13)   (hend : ∀ ac wz, After [2] a0 ac → ac.eval (.tmp 2) = .int .i64 0 → Gr w wz → Q .normal ac wz) : RW 3 q23_3 false Q a0 w := by
  refine seq_by (by kernel_rfl) 1 (by decide) [2] (fun | 2 => .val (.int .i64 0) | _ => .any) (by kernel_rfl) (fmc ⟨?s0, fun o ho => nomatch ho⟩) ?e
  case s0 => exact sa_move (.const _) 2 (.val (.int .i64 0)) (.inr rfl) rfl rfl (.const _) rfl
  case e =>
  intro ac wz hA hgr hv
  exact wl_end (hend ac wz hA (hw hv hz 2) hgr)
theorem r23_4 (hz : a0.tmps.size = 13) (g of n cap : Nat) (x : Int) (hn : 0 < n) (hX : ∀ y, Gr w y → y.cell? ⟨g, of + 0, none⟩ = some (.int .i64 x)) (e3 : a0.eval (.tmp 3) = .slice (some ⟨g, of, none⟩) n cap) (hend : ∀ ac wz, After [10, 11, 12, 2] a0 ac → ac.eval (.tmp 2) = .int .i64 x → Gr w wz → Q .normal ac wz) : RW 4 q23_4 false Q a0 w := by
  refine seq_by (by kernel_rfl) 4 (by decide) [10, 11, 12, 2] (fun | 10 => .val (.slice (some ⟨g, of, none⟩) n cap) | 11 => .val (.pointer (some ⟨g, of + 0, none⟩)) | 12 => .val (.int .i64 x) | 2 => .val (.int .i64 x) | _ => .any) (by kernel_rfl) (fmc ⟨?s0, fmc ⟨?s1, fmc ⟨?s2, fmc ⟨?s3, fun o ho => nomatch ho⟩⟩⟩⟩) ?e
  case s0 => exact sa_mo 3 10 e3
  case s1 => exact sa_ixa 30 (.tmp 10) (.const _) 11 (.slice (some ⟨g, of, none⟩) n cap) (.int .i64 0) (.pointer (some ⟨g, of + 0, none⟩)) rfl rfl rfl (.nw 10 hz) (.const _) (ix_slice (sz := 1) (i := 0) Tryz.underlying30 (by intro w; kernel_rfl) (by omega) (by omega)) rfl
  case s2 => exact sa_loadc 3 (.tmp 11) 12 (g) (of + 0) (.int .i64 x) rfl rfl rfl (by intro w; kernel_rfl) (.nw 11 hz) hX rfl
  case s3 => exact sa_move (.tmp 12) 2 (.val (.int .i64 x)) (.inr rfl) rfl rfl (.nw 12 hz) rfl
  case e =>
  intro ac wz hA hgr hv
  exact wl_end (hend ac wz hA (hw hv hz 2) hgr)
def q25_0 : Array Oper := #[⟨some 1, .box 28 (.tmp 0), 0, "ref.go:150", #[], none⟩, ⟨some 2, .alloc 43, 0, "ref.go:150", #[], none⟩]
def q25_1 : Array Oper := #[⟨some 5, .load 28 (.tmp 1), 28, "ref.go:151", #[], none⟩, ⟨some 6, .call ⟨.value (.func 9), #[.tmp 5], #[28]⟩, 28, "ref.go:151", #[⟨0, .data⟩], none⟩, ⟨none, .store 28 (.tmp 1) (.tmp 6), 0, "ref.go:151", #[⟨1, .data⟩, ⟨1, .chain⟩, ⟨0, .phase⟩, ⟨1, .phase⟩], none⟩]
def q25_2 : Array Oper := #[⟨some 3, .alloc 43, 0, "ref.go:152", #[], none⟩]
def q25_3 : Array Oper := #[⟨some 4, .assign (.const (.int .i64 0)), 3, "ref.go:153", #[], none⟩]
def q25_4 : Array Oper := #[⟨some 7, .move (.tmp 4), 3, "ref.go:153", #[], none⟩, ⟨some 8, .binOp .lss 3 (.tmp 7) (.const (.int .i64 8)) 3, 4, "ref.go:153", #[⟨0, .data⟩], none⟩]
def q25_5 : Array Oper := #[⟨some 9, .move (.tmp 4), 3, "ref.go:153", #[], none⟩, ⟨some 10, .binOp .add 3 (.tmp 9) (.const (.int .i64 1)) 3, 3, "ref.go:153", #[⟨0, .data⟩], none⟩, ⟨some 4, .assign (.tmp 10), 3, "ref.go:153", #[⟨1, .data⟩, ⟨0, .phase⟩, ⟨1, .phase⟩], none⟩]
def q25_6 : Array Oper := #[⟨some 11, .move (.tmp 4), 3, "ref.go:154", #[], none⟩, ⟨some 12, .move (.tmp 4), 3, "ref.go:154", #[], none⟩, ⟨some 13, .fieldAddr 28 (.tmp 1) 1, 0, "ref.go:154", #[], none⟩, ⟨some 14, .indexAddr 26 (.tmp 13) (.tmp 12), 0, "ref.go:154", #[⟨2, .data⟩, ⟨1, .data⟩], none⟩, ⟨some 15, .fieldAddr 25 (.tmp 14) 0, 0, "ref.go:154", #[⟨3, .data⟩], none⟩, ⟨some 16, .load 3 (.tmp 15), 3, "ref.go:154", #[⟨4, .data⟩], none⟩, ⟨some 17, .indexAddr 43 (.tmp 3) (.tmp 11), 0, "ref.go:154", #[⟨0, .data⟩, ⟨0, .phase⟩, ⟨1, .phase⟩, ⟨2, .phase⟩, ⟨3, .phase⟩, ⟨4, .phase⟩, ⟨5, .phase⟩], none⟩, ⟨none, .store 3 (.tmp 17) (.tmp 16), 0, "ref.go:154", #[⟨6, .data⟩, ⟨5, .data⟩, ⟨0, .phase⟩, ⟨1, .phase⟩, ⟨2, .phase⟩, ⟨3, .phase⟩, ⟨4, .phase⟩, ⟨5, .phase⟩], none⟩]
def q25_7 : Array Oper := #[⟨some 18, .load 43 (.tmp 3), 43, "ref.go:156", #[], none⟩, ⟨none, .store 43 (.tmp 2) (.tmp 18), 0, "ref.go:156", #[⟨0, .data⟩, ⟨0, .phase⟩], none⟩]
theorem r25_1 (hz : a0.tmps.size = 19) (b : Nat) (u : Value) (r : Rg) (hC : Holds w b (ringC u r) 28) (hR : RingAt w.heap.size w u r) (e1 : a0.eval (.tmp 1) = .pointer (some ⟨b, 0, none⟩)) (hend : ∀ ac wz, After [5, 6] a0 ac → Bf w.heap.size wz b (normL r) → Upd b w wz → Q .normal ac wz) : RW 1 q25_1 false Q a0 w := by
  refine seq_by (by kernel_rfl) 2 (by decide) [5, 6] (fun | 5 => .val (.agg (ringC u r).toArray) | 6 => ringF w.heap.size (normL r) | _ => .any) (by kernel_rfl) (fmc ⟨?s0, fmc ⟨?s1, fun o ho => nomatch ho⟩⟩) ?e
  case s0 => exact sa_row 28 (.tmp 1) 5 b (0) 17 _ (ringC u r) rfl rfl rfl Tryz.underlying28 rfl siz28 (ringC_len hR) (.old 1 _ (by decide) e1) (fun y hy => range_of (hC.below hy hC.lt)) rfl
  case s1 => exact sa_callF1 9 (.tmp 5) _ 6 (.agg (ringC u r).toArray) (ringF w.heap.size (normL r)) rfl rfl rfl (.nw 5 hz) (enters_of Tryz.func9 (by kernel_rfl) rfl) (fun y hy => k_norm u r w y hy hR) rfl
  case e =>
  intro ac wz hA hgr hv
  have o6 := hw hv hz 6
  have o1 : ac.eval (.tmp 1) = .pointer (some ⟨b, 0, none⟩) := (hA.old 1 (by decide)).trans e1
  refine wpl_store_ring rfl (.tmp 1) (.tmp 6) rfl rfl b w.heap.size o1 (normL r) o6 (ringC u r) (hC.below hgr hC.lt) (ringC_len hR) hC.lt (fun w3 h3 u3 _ => ?_)
  exact wl_end (hend _ w3 hA h3 ((Gr.upd hgr).trans u3))
theorem r25_3 (hz : a0.tmps.size = 19)   (hend : ∀ ac wz, After [4] a0 ac → ac.eval (.tmp 4) = .int .i64 0 → Gr w wz → Q .normal ac wz) : RW 3 q25_3 false Q a0 w := by
  refine seq_by (by kernel_rfl) 1 (by decide) [4] (fun | 4 => .val (.int .i64 0) | _ => .any) (by kernel_rfl) (fmc ⟨?s0, fun o ho => nomatch ho⟩) ?e
  case s0 => exact sa_move (.const _) 4 (.val (.int .i64 0)) (.inr rfl) rfl rfl (.const _) rfl
  case e =>
  intro ac wz hA hgr hv
  exact wl_end (hend ac wz hA (hw hv hz 4) hgr)
theorem r25_4 (hz : a0.tmps.size = 19) (k : Nat) (e4 : a0.eval (.tmp 4) = .int .i64 (k : Int)) (hend : ∀ ac wz, After [7, 8] a0 ac → ac.eval (.tmp 8) = .bool (decide ((k : Int) < 8)) → Gr w wz → Q .normal ac wz) : RW 4 q25_4 false Q a0 w := by
  refine seq_by (by kernel_rfl) 2 (by decide) [7, 8] (fun | 7 => .val (.int .i64 (k : Int)) | 8 => .val (.bool (decide ((k : Int) < 8))) | _ => .any) (by kernel_rfl) (fmc ⟨?s0, fmc ⟨?s1, fun o ho => nomatch ho⟩⟩) ?e
  case s0 => exact sa_mo 4 7 e4
  case s1 => exact sa_bin .lss 3 (.tmp 7) (.const _) 3 8 (.int .i64 (k : Int)) (.int .i64 8) (.bool (decide ((k : Int) < 8))) rfl rfl rfl (.nw 7 hz) (.const _) guard_int (bin_lss rfl) rfl
  case e =>
  intro ac wz hA hgr hv
  exact wl_end (hend ac wz hA (hw hv hz 8) hgr)
theorem r25_5 (hz : a0.tmps.size = 19) (k : Nat) (hk : k < 9223372036854775807) (e4 : a0.eval (.tmp 4) = .int .i64 (k : Int)) (hend : ∀ ac wz, After [4, 9, 10] a0 ac → ac.eval (.tmp 4) = .int .i64 ((k + 1 : Nat) : Int) → Gr w wz → Q .normal ac wz) : RW 5 q25_5 false Q a0 w := by
  refine seq_by (by kernel_rfl) 2 (by decide) [9, 10] (fun | 9 => .val (.int .i64 (k : Int)) | 10 => .val (.int .i64 ((k + 1 : Nat) : Int)) | _ => .any) (by kernel_rfl) (fmc ⟨?s0, fmc ⟨?s1, fun o ho => nomatch ho⟩⟩) ?e
  case s0 => exact sa_mo 4 9 e4
  case s1 => exact sa_bin .add 3 (.tmp 9) (.const _) 3 10 (.int .i64 (k : Int)) (.int .i64 1) (.int .i64 ((k + 1 : Nat) : Int)) rfl rfl rfl (.nw 9 hz) (.const _) guard_int (bin_add (by omega) (by omega) (by omega)) rfl
  case e =>
  intro ac wz hA hgr hv
  have o10 : ac.eval (.tmp 10) = .int .i64 ((k + 1 : Nat) : Int) := hw hv hz 10
  refine wl_of rfl (op_move (.tmp 10) (.inr rfl) (wl_end ?_))
  exact hend _ wz (hA.put 4 _)  ((ev_put (by rw [hA.size, hz]; decide)).trans ((if_pos rfl).trans o10)) hgr
theorem r25_6 (hz : a0.tmps.size = 19) (k b c : Nat) (x : Int) (old : Value) (hk : k < 8) (hX : ∀ y, Gr w y → y.cell? ⟨b, 1 + k * 2, none⟩ = some (.int .i64 x)) (hO : ∀ y, Gr w y → y.cell? ⟨c, k, none⟩ = some old ∧ y.frozen? ⟨c, k, none⟩ = false) (e4 : a0.eval (.tmp 4) = .int .i64 (k : Int)) (e1 : a0.eval (.tmp 1) = .pointer (some ⟨b, 0, none⟩)) (e3 : a0.eval (.tmp 3) = .pointer (some ⟨c, 0, none⟩)) (hend : ∀ ac y, After [11, 12, 13, 14, 15, 16, 17] a0 ac → Gr w y → Q .normal ac (y.setCell ⟨c, k, none⟩ (.int .i64 x))) : RW 6 q25_6 false Q a0 w := by
  refine seq_by (by kernel_rfl) 7 (by decide) [11, 12, 13, 14, 15, 16, 17] (fun | 11 => .val (.int .i64 (k : Int)) | 12 => .val (.int .i64 (k : Int)) | 13 => .val (.pointer (some ⟨b, 1, none⟩)) | 14 => .val (.pointer (some ⟨b, 1 + k * 2, none⟩)) | 15 => .val (.pointer (some ⟨b, 1 + k * 2 + 0, none⟩)) | 16 => .val (.int .i64 x) | 17 => .val (.pointer (some ⟨c, k, none⟩)) | _ => .any) (by kernel_rfl) (fmc ⟨?s0, fmc ⟨?s1, fmc ⟨?s2, fmc ⟨?s3, fmc ⟨?s4, fmc ⟨?s5, fmc ⟨?s6, fun o ho => nomatch ho⟩⟩⟩⟩⟩⟩⟩) ?e
  case s0 => exact sa_mo 4 11 e4
  case s1 => exact sa_mo 4 12 e4
  case s2 => exact sa_fa 28 (.tmp 1) 1 13 (.pointer (some ⟨b, 0, none⟩)) (.pointer (some ⟨b, 1, none⟩)) rfl rfl rfl (.old 1 _ (by decide) e1) (by intro w; kernel_rfl) rfl
  case s3 => exact sa_ixa 26 (.tmp 13) (.tmp 12) 14 (.pointer (some ⟨b, 1, none⟩)) (.int .i64 (k : Int)) (.pointer (some ⟨b, 1 + k * 2, none⟩)) rfl rfl rfl (.nw 13 hz) (.nw 12 hz) (ix_array (sz := 2) und26 (by intro w; kernel_rfl) hk (by omega)) rfl
  case s4 => exact sa_fa 25 (.tmp 14) 0 15 (.pointer (some ⟨b, 1 + k * 2, none⟩)) (.pointer (some ⟨b, 1 + k * 2 + 0, none⟩)) rfl rfl rfl (.nw 14 hz) (by intro w; kernel_rfl) rfl
  case s5 => exact sa_loadc 3 (.tmp 15) 16 (b) (1 + k * 2 + 0) (.int .i64 x) rfl rfl rfl (by intro w; kernel_rfl) (.nw 15 hz) hX rfl
  case s6 => exact sa_ixa 43 (.tmp 3) (.tmp 11) 17 (.pointer (some ⟨c, 0, none⟩)) (.int .i64 (k : Int)) (.pointer (some ⟨c, k, none⟩)) rfl rfl rfl (.old 3 _ (by decide) e3) (.nw 11 hz) (ix_array (sz := 1) und23 (by intro w; kernel_rfl) hk (by omega)) rfl
  case e =>
  intro ac wz hA hgr hv
  have o16 : ac.eval (.tmp 16) = .int .i64 x := hw hv hz 16
  have o17 : ac.eval (.tmp 17) = .pointer (some ⟨c, k, none⟩) := hw hv hz 17
  exact wl_of rfl (op_store1 3 (.tmp 17) (.tmp 16) rfl c k o17 _ o16 rfl rfl (by intro w; kernel_rfl) (hO wz hgr).1 (hO wz hgr).2 (wl_end (hend _ wz hA hgr)))
theorem r25_7 (hz : a0.tmps.size = 19) (c b2 : Nat) (l old : List Int) (hl : (intV l).length = 8) (hol : (intV old).length = 8) (hC : Holds w c (intV l) 43) (h2 : Holds w b2 (intV old) 43) (e3 : a0.eval (.tmp 3) = .pointer (some ⟨c, 0, none⟩)) (e2 : a0.eval (.tmp 2) = .pointer (some ⟨b2, 0, none⟩)) (hend : ∀ ac wz, After [18] a0 ac → Holds wz b2 (intV l) 43 → Upd b2 w wz → Q .normal ac wz) : RW 7 q25_7 false Q a0 w := by
  refine seq_by (by kernel_rfl) 1 (by decide) [18] (fun | 18 => .val (.agg (intV l).toArray) | _ => .any) (by kernel_rfl) (fmc ⟨?s0, fun o ho => nomatch ho⟩) ?e
  case s0 => exact sa_row 43 (.tmp 3) 18 c (0) 8 _ (intV l) rfl rfl rfl Tryz.underlying43 rfl siz43 hl (.old 3 _ (by decide) e3) (fun y hy => range_of (hC.below hy hC.lt)) rfl
  case e =>
  intro ac wz hA hgr hv
  have o18 : ac.eval (.tmp 18) = .agg (intV l).toArray := hw hv hz 18
  have o2 : ac.eval (.tmp 2) = .pointer (some ⟨b2, 0, none⟩) := (hA.old 2 (by decide)).trans e2
  refine wpList_store_all rfl 43 (.tmp 2) (.tmp 18) rfl b2 o2 (intV l) o18 43 _ (h2.below hgr h2.lt) (by rw [siz43, hl]) (by rw [hl, hol]) (intV_one _) ?_
  intro w3 h3
  exact wl_end (hend _ w3 hA h3.holds ((Gr.upd hgr).trans (Turned.upd h3)))
def c23 : Code := ((Code.region 0 q23_0 false).seq ((Code.region 1 q23_1 false).seq (((Code.region 2 q23_2 false).seq (Code.cond (.tmp 9) ((Code.region 3 q23_3 false).seq Code.ret) Code.skip)).seq ((Code.region 4 q23_4 false).seq Code.ret))))
def c25_a : Code := (((Code.region 4 q25_4 false).seq (Code.cond (.tmp 8) Code.skip (Code.exit 0))).seq ((Code.block 1 (Code.region 6 q25_6 false)).seq (Code.region 5 q25_5 false)))
def c25_l : Code := (Code.block 0 (c25_a.loop))
def c25 : Code := ((Code.region 0 q25_0 false).seq ((Code.region 1 q25_1 false).seq ((Code.region 2 q25_2 false).seq (((Code.region 3 q25_3 false).seq c25_l).seq ((Code.region 7 q25_7 false).seq Code.ret)))))
theorem r23_0 (hz : a0.tmps.size = 13) (b : Nat) (hb : w.heap.size = b) (v : Value) (r : Rg) (e0 : a0.eval (.tmp 0) = .agg (ringC v r).toArray) (hend : ∀ ac wz, After [2, 1] a0 ac → ac.eval (.tmp 1) = .pointer (some ⟨b, 0, none⟩) → Anew b w wz (ringC v r) 28 → Q .normal ac wz) : RW 0 q23_0 false Q a0 w := by
  refine wp_region_list ?_
  refine wpList_box_new 1 rfl rfl 28 (.tmp 0) rfl b hb _ e0 ?_
  intro w1 h1
  refine wl_of rfl (op_mv (.const (.int .i64 0)) (.int .i64 0) (.inr rfl) rfl 2 rfl (wl_end (hend _ w1 (((After.self a0).put 1 _).put 2 _) ?_ h1)))
  simp [ev_put, put_size, hz]
theorem rclaimant_any (v : Value) (r : Rg) (w : World) (hR : RingAt w.heap.size w v r) : Calls Tryz.prog 23 #[.agg (ringC v r).toArray] w fun e z => e = .returned (.int .i64 (claimantL r)) ∧ Gr w z := by
  obtain ⟨b, hwb⟩ : ∃ b, w.heap.size = b := ⟨_, rfl⟩
  rw [hwb] at hR
  have hCL : claimantL r = (membersL r [1]).headD 0 := rfl
  rw [hCL]
  refine calls_by (c := c23) Tryz.func23 (by kernel_rfl) 13 (by rw [Tryz.ntmps23]; rfl) (fun ac z df hv => ?_)
  have e0 := hv 0 _ rfl
  clear hv
  unfold c23
  refine wp_seq (r23_0 z b hwb v r e0 (fun a1 x1 A1 o1 N1 => ?_))
  have z1 := A1.size.trans z
  have s1 : x1.heap.size = b + 1 := N1.size
  show Code.wp Tryz.prog (Code.seq _ _) _ a1 x1
  refine wp_seq (r23_1 z1 b v r N1.holds ((hR.below N1.below).mono (by omega)) o1 (fun a2 x2 A2 o3 G2 => ?_))
  have z2 := A2.size.trans z1
  have o3 : Ints x2.heap.size x2 (a2.eval (.tmp 3)) (membersL r [1]) := o3
  generalize membersL r [1] = M at *
  generalize he3 : a2.eval (.tmp 3) = v3 at o3
  have hG2 : Gr w x2 := by unfold Gr; rw [hwb]; exact N1.below.trans (G2.mono (by omega))
  have df2 : a2.defers = [] := A2.defers.trans (A1.defers.trans df)
  obtain ⟨a3', c3, hv3⟩ := o3.len
  show Code.wp Tryz.prog (Code.seq (Code.seq _ _) _) _ a2 x2
  refine wp_seq (wp_seq (r23_2 z2 M.length c3 a3' (by rw [he3, hv3]) (fun a3 x3 A3 o9 G3 => ?_)))
  have z3 := A3.size.trans z2
  have df3 := A3.defers.trans df2
  have hG3 := hG2.trans G3
  show Code.wp Tryz.prog (Code.cond _ _ _) _ a3 x3
  refine wp_cond_split o9 (fun q => ?_) (fun q => ?_)
  · have q : (M.length : Int) = 0 := of_decide_eq_true q
    have : M = [] := List.eq_nil_of_length_eq_zero (by omega)
    subst this
    refine wp_seq (r23_3 z3 (fun a4 x4 A4 o2 G4 => ?_))
    exact wp_ret (show bodyPost Tryz.prog Tryz.f23 (fun e z => e = .returned (.int .i64 0) ∧ Gr w z) .ret a4 x4 from bodyPost_ret (results_tmp rfl _ _ _) (A4.defers.trans df3) ⟨by rw [← o2]; rfl, hG3.trans G4⟩)
  · have q : ¬ (M.length : Int) = 0 := of_decide_eq_false q
    have h0 : 0 < M.length := by omega
    obtain ⟨g, of, cap, hv, hg, hc⟩ := ints_at o3 0 h0
    have hM : M.headD 0 = M.getD 0 0 := by cases M <;> rfl
    rw [hM]
    refine wp_skip ?_
    show Code.wp Tryz.prog (Code.seq _ _) _ a3 x3
    refine wp_seq (r23_4 z3 g of M.length cap (M.getD 0 0) h0 (fun y hy => cell_below (G3.trans hy) hg hc) (by rw [A3.get he3 (by decide), hv]) (fun a4 x4 A4 o2 G4 => ?_))
    exact wp_ret (bodyPost_ret (results_tmp rfl _ _ _) (A4.defers.trans df3) ⟨by rw [← o2]; rfl, hG3.trans G4⟩)
theorem r25_0 (hz : a0.tmps.size = 19) (b : Nat) (hb : w.heap.size = b) (v : Value) (r : Rg) (e0 : a0.eval (.tmp 0) = .agg (ringC v r).toArray) (hend : ∀ ac w1 wz, After [2, 1] a0 ac → ac.eval (.tmp 1) = .pointer (some ⟨b, 0, none⟩) → ac.eval (.tmp 2) = .pointer (some ⟨b + 1, 0, none⟩) → Anew b w w1 (ringC v r) 28 → Anew (b + 1) w1 wz (intV zl) 43 → Q .normal ac wz) : RW 0 q25_0 false Q a0 w := by
  refine wp_region_list ?_
  refine wpList_box_new 1 rfl rfl 28 (.tmp 0) rfl b hb _ e0 ?_
  intro w1 h1
  refine wpList_alloc_new 2 rfl rfl 43 rfl (b + 1) h1.size _ zero23 ?_
  intro w2 h2
  refine wl_end (hend _ w1 w2 (((After.self a0).put 1 _).put 2 _) ?_ ?_ h1 h2)
  · simp [ev_put, put_size, hz]
  · simp [ev_put, put_size, hz]
theorem r25_2 (hz : a0.tmps.size = 19) (b : Nat) (hb : w.heap.size = b) (hend : ∀ ac wz, After [3] a0 ac → ac.eval (.tmp 3) = .pointer (some ⟨b, 0, none⟩) → Anew b w wz (intV zl) 43 → Q .normal ac wz) : RW 2 q25_2 false Q a0 w := by
  refine wp_region_list ?_
  refine wpList_alloc_new 3 rfl rfl 43 rfl b hb _ zero23 ?_
  intro w1 h1
  refine wl_end (hend _ w1 ((After.self a0).put 3 _) ?_ h1)
  simp [ev_put, hz]
structure Ot (w : World) (b c : Nat) (u : Value) (nr : Rg) (l : List Int) (ac : Act) (x : World) : Prop where
  z : ac.tmps.size = 19
  df : ac.defers = []
  e1 : ac.eval (.tmp 1) = .pointer (some ⟨b, 0, none⟩)
  e2 : ac.eval (.tmp 2) = .pointer (some ⟨b + 1, 0, none⟩)
  e3 : ac.eval (.tmp 3) = .pointer (some ⟨c, 0, none⟩)
  hb : Holds x b (ringC u nr) 28
  h2 : Holds x (b + 1) (intV zl) 43
  h3 : Holds x c (intV l) 43
  bl : Below b w x
  bc : b + 1 < c
theorem Ot.gr {w x y : World} {b c : Nat} {u : Value} {nr : Rg} {l : List Int} {ac ad : Act} {D : List Nat} (h : Ot w b c u nr l ac x) (hA : After D ac ad) (hD : (D.all fun s => decide (4 ≤ s)) = true) (g : Gr x y) : Ot w b c u nr l ad y :=
  ⟨hA.size.trans h.z, hA.defers.trans h.df, hA.keep hD (by omega) h.e1, hA.keep hD (by omega) h.e2, hA.keep hD (by omega) h.e3, h.hb.below g h.hb.lt, h.h2.below g h.h2.lt, h.h3.below g h.h3.lt, h.bl.trans (g.mono (Nat.le_of_lt h.hb.lt)), h.bc⟩
theorem Ot.set {w x : World} {b c : Nat} {u : Value} {nr : Rg} {l : List Int} {ac : Act} (h : Ot w b c u nr l ac x) (k : Nat) (v : Int) : Ot w b c u nr (l.set k v) ac (x.setCell ⟨c, k, none⟩ (.int .i64 v)) := by
  have hu := (Upd.refl c x).setCell k (.int .i64 v)
  have h1 := h.bc
  exact ⟨h.z, h.df, h.e1, h.e2, h.e3, h.hb.upd hu (by omega), h.h2.upd hu (by omega), by rw [← intV_set]; exact h.h3.set k _, h.bl.trans (setCell_below b x ⟨c, k, none⟩ _ (by show b ≤ c; omega)), h1⟩
theorem own_cell (u : Value) (os : List Ow) (h8 : os.length = 8) (k : Nat) (hk : k < 8) : (u :: ownV os)[1 + k * 2]? = some (.int .i64 (os.getD k noO).1) := by
  rw [Nat.add_comm, List.getElem?_cons_succ]
  have e : os.getD k noO = os[k] := by rw [List.getD_eq_getElem?_getD, List.getElem?_eq_getElem (by omega)]; rfl
  rw [e]
  have hlen : ∀ (l : List Ow) (k : Nat) (h : k < l.length), (ownV l)[k * 2]? = some (.int .i64 l[k].1) := by
    intro l
    induction l with
    | nil => intro k h; simp at h
    | cons o l ih =>
      intro k h
      cases k with
      | zero => rfl
      | succ k =>
        show (owV o ++ ownV l)[(k + 1) * 2]? = _
        rw [show (k + 1) * 2 = k * 2 + 2 by omega, List.getElem?_append_right (by show 2 ≤ _; omega)]
        exact ih k (by simpa using h)
  exact hlen os k (by omega)
set_option maxHeartbeats 1000000 in
theorem rowners_any (v : Value) (r : Rg) (w : World) (hR : RingAt w.heap.size w v r) : Calls Tryz.prog 25 #[.agg (ringC v r).toArray] w fun e z => e = .returned (.agg (intV (ownersL r)).toArray) ∧ Gr w z := by
  obtain ⟨b, hwb⟩ : ∃ b, w.heap.size = b := ⟨_, rfl⟩
  rw [hwb] at hR
  have hn8 : (normL r).2.length = 8 := mergeO_len _
  have hO : ownersL r = partI (normL r).2 8 := (partI_all _ hn8).symm
  rw [hO]
  refine calls_by (c := c25) Tryz.func25 (by kernel_rfl) 19 (by rw [Tryz.ntmps25]; rfl) (fun ac z df hv => ?_)
  have e0 := hv 0 _ rfl
  clear hv
  unfold c25
  refine wp_seq (r25_0 z b hwb v r e0 (fun a1 w1 x1 A1 o1 o2 N1 N2 => ?_))
  have z1 := A1.size.trans z
  have s1 : x1.heap.size = b + 2 := N2.size
  have hB1 : Below b w x1 := N1.below.trans (N2.below.mono (by omega))
  show Code.wp Tryz.prog (Code.seq _ _) _ a1 x1
  refine wp_seq (r25_1 z1 b v r (N1.holds.below N2.below (by omega)) ((hR.below hB1).mono (by omega)) o1 (fun a2 x2 A2 B2 U2 => ?_))
  have z2 := A2.size.trans z1
  have hs2 : b + 2 ≤ x2.heap.size := by have := U2.size; omega
  obtain ⟨u, H2, R2, _⟩ := B2
  generalize normL r = nr at *
  show Code.wp Tryz.prog (Code.seq _ _) _ a2 x2
  refine wp_seq (r25_2 z2 x2.heap.size rfl (fun a3 x3 A3 o3 N3 => ?_))
  have h3 : Ot w b x2.heap.size u nr zl a3 x3 := ⟨A3.size.trans z2, A3.defers.trans (A2.defers.trans (A1.defers.trans df)), A3.get (A2.get o1 (by decide)) (by decide), A3.get (A2.get o2 (by decide)) (by decide), o3, H2.below N3.below H2.lt, (N2.holds.upd U2 (by omega)).below N3.below (by omega), N3.holds, (hB1.trans (U2.below (Nat.le_refl _) (by omega))).trans (N3.below.mono (by omega)), by omega⟩
  show Code.wp Tryz.prog (Code.seq (Code.seq _ c25_l) _) _ a3 x3
  refine wp_seq (wp_seq (r25_3 h3.z (fun a4 x4 A4 o4 G4 => ?_)))
  have h4 := h3.gr A4 (by decide) G4
  rw [show zl = partI nr.2 0 from (partI_zero _).symm] at h4
  show Code.wp Tryz.prog c25_l _ a4 x4
  unfold c25_l
  refine wp_block ?_
  refine wp_loop (fun ad y => ∃ k : Nat, Ot w b x2.heap.size u nr (partI nr.2 k) ad y ∧ k ≤ 8 ∧ ad.eval (.tmp 4) = .int .i64 (k : Int)) (fun ad _ => 8 - (intOf (ad.eval (.tmp 4))).toNat)
    ⟨0, h4, by omega, o4⟩ (fun a0 x0 ⟨k, h0, hk, f4⟩ => ?_)
  unfold c25_a
  refine wp_seq (wp_seq (r25_4 h0.z k f4 (fun a5 x5 A5 o8 G5 => ?_)))
  have h5 := h0.gr A5 (by decide) G5
  have g4 := A5.get f4 (by decide)
  show Code.wp Tryz.prog (Code.cond _ _ _) _ a5 x5
  refine wp_cond_split o8 (fun q => ?_) (fun q => ?_)
  · have q : (k : Int) < 8 := of_decide_eq_true q
    have hk8 : k < 8 := by omega
    have hbl := h5.hb.lt
    have hcl := h5.h3.lt
    refine wp_skip ?_
    show Code.wp Tryz.prog (Code.seq _ _) _ a5 x5
    refine wp_seq (wp_block (r25_6 h5.z k b x2.heap.size (nr.2.getD k noO).1 _ hk8 (fun y hy => (h5.hb.below hy hbl).at _ _ (own_cell u nr.2 hn8 k hk8)) (fun y hy => ⟨(h5.h3.below hy hcl).at k _ (intV_at _ k (by rw [partI_len]; exact hk8)), (h5.h3.below hy hcl).frozen k⟩) g4 h5.e1 h5.e3 (fun a6 x6 A6 G6 => ?_)))
    have h6 := (h5.gr A6 (by decide) G6).set k (nr.2.getD k noO).1
    rw [← partI_succ] at h6
    show Code.wp Tryz.prog (Code.region 5 q25_5 false) _ a6 _
    refine r25_5 h6.z k (by omega) (A6.get g4 (by decide)) (fun a7 x7 A7 o4' G7 => ?_)
    refine ⟨⟨k + 1, h6.gr A7 (by decide) G7, by omega, o4'⟩, ?_⟩
    rw [o4', f4]
    simp only [intOf]
    omega
  · have q : ¬ (k : Int) < 8 := of_decide_eq_false q
    obtain rfl : k = 8 := by omega
    refine wp_exit ?_
    show Code.wp Tryz.prog (Code.seq _ _) _ a5 x5
    refine wp_seq (r25_7 h5.z x2.heap.size (b + 1) (partI nr.2 8) zl (by rw [intV_len, partI_len]) (by rw [intV_len]; rfl) h5.h3 h5.h2 h5.e3 h5.e2 (fun a6 x6 A6 H6 U6 => ?_))
    refine wp_ret (show bodyPost Tryz.prog Tryz.f25 (fun e z => e = .returned (.agg (intV (partI nr.2 8)).toArray) ∧ Gr w z) .ret a6 x6 from bodyPost_ret (results_cell_row (p := 2) (by kernel_rfl) _ x6 (b + 1) 43 (intV (partI nr.2 8)).toArray (0, 0) _ (A6.get h5.e2 (by decide)) H6 und23 rfl (by rw [siz43, List.size_toArray, intV_len, partI_len])) (A6.defers.trans h5.df) ⟨rfl, ?_⟩)
    unfold Gr
    rw [hwb]
    exact h5.bl.trans (U6.below (by omega) (Nat.le_of_lt h5.hb.lt))
end Go.Proofs.YthmnjebmnocoiaaGreat.En
