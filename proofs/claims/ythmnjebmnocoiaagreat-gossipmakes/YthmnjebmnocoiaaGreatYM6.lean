/- GsMkI, GsMkJ, GsMkK. -/
import Derived.Test.YthmnjebmnocoiaaGreatYGsMkH
/- The document's own ways with rings: plan. By tools/gen_mk.py. -/
namespace Go.Proofs.YthmnjebmnocoiaaGreat.En
open Go.RowKit
set_option maxRecDepth 100000
variable {Q : Exit → Act → World → Prop} {a0 : Act} {w : World}
theorem owners_len (r : Rg) : (ownersL r).length = 8 := by
  unfold ownersL
  rw [List.length_map]
  exact mergeO_len _
theorem c_claim (r : Rg) (M : List Int) (h7 : M.length ≤ 1000) (v0 v1 : Value) (y : World) (q0 : (Fact.val (.agg (intV (ownersL r)).toArray)).holds v0 y) (q1 : (intsF M).holds v1 y) : Calls Tryz.prog 44 #[v0, v1] y fun e z => ∃ u, e = .returned u ∧ Gr y z ∧ (Fact.val (.agg (intV (claimL (ownersL r) M)).toArray)).holds u z := by
  rw [show v0 = _ from q0]
  exact (rclaim_any v1 (ownersL r) M y (owners_len r) q1 (by omega)).mono fun e z ⟨e1, e2⟩ => ⟨_, e1, e2, rfl⟩
theorem c_membersO (u : Value) (r : Rg) (s : Int) (w : World) (v0 v1 : Value) (y : World) (hg : Gr w y) (hR : RingAt y.heap.size y u r) (q0 : (Fact.val (.agg (ringC u r).toArray)).holds v0 y) (q1 : (oneF s).holds v1 y) : Calls Tryz.prog 21 #[v0, v1] y fun e z => ∃ k, e = .returned k ∧ Gr y z ∧ (ownF w.heap.size (membersL r [s]).length (intV (membersL r [s]))).holds k z := by
  rw [show v0 = _ from q0]
  exact (rmembers_any u r v1 [s] y hR (oneF_ints q1) (by show 1 ≤ 9223372036854775807; decide)).mono fun _ _ ⟨k, e1, e2, e3⟩ => ⟨k, e1, e3, row_base e2 hg.size⟩
theorem own_cell2 (u : Value) (os : List Ow) (h8 : os.length = 8) (k : Nat) (hk : k < 8) : (u :: ownV os)[1 + k * 2 + 1]? = some (.int .u64 ((os.getD k noO).2 : Int)) := by
  rw [show 1 + k * 2 + 1 = k * 2 + 1 + 1 by omega, List.getElem?_cons_succ]
  have e : os.getD k noO = os[k] := by rw [List.getD_eq_getElem?_getD, List.getElem?_eq_getElem (by omega)]; rfl
  rw [e, ownV_cell (List.getElem?_eq_getElem (by omega)) 1 (by omega)]
  rfl
theorem ownedL_none (o : List Int) (x : Int) (h : ∀ j, o.getD j 0 ≠ x) : ownedL o x = [] := by
  unfold ownedL ownedTo
  rw [List.map_eq_nil_iff, List.filter_eq_nil_iff]
  intro j _
  have hj := h j
  rw [List.getD_eq_getElem?_getD] at hj
  simp
  intro e
  exact absurd e hj
theorem owned_none (o : List Int) (ho : o.length = 8) (x : Int) (h : ∀ j, o.getD j 0 ≠ x) (y : World) : Calls Tryz.prog 45 #[.agg (intV o).toArray, .int .i64 x] y fun e z => ∃ v, e = .returned v ∧ Gr y z ∧ (lenF 0).holds v z :=
  (rowned_any o ho x y).mono fun _ _ ⟨v, e1, e2, e3⟩ => by
    rw [ownedL_none o x h] at e2
    obtain ⟨a, c, rfl⟩ := row_slice e2
    exact ⟨_, e1, e3, a, c, rfl⟩
theorem owns_updb {w w' : World} {base n b : Nat} {v : Value} {xs : List Value} (h : w.ownsRow base 3 1 v n xs) (hu : Upd b w w') (hb : b < base) : w'.ownsRow base 3 1 v n xs := by
  obtain ⟨h1, h2⟩ := h
  refine ⟨h1, ?_⟩
  rcases h2 with q | ⟨g, cap, cur, e, hg, hh, r⟩
  · exact .inl q
  · exact .inr ⟨g, cap, cur, e, hg, (hu.block g (Array.getElem?_eq_some_iff.1 hh).1 (by omega)).trans hh, r⟩
def boxF (B t : Nat) (cs : List Value) : Fact := ⟨fun v y => ∃ g, v = .pointer (some ⟨g, 0, none⟩) ∧ Holds y g cs t ∧ B ≤ g, fun ⟨g, e, h, hb⟩ k => ⟨g, e, h.below k h.lt, hb⟩⟩
theorem sa_alloc {P : Program} {ops : Array Oper} {Q : Exit → Act → World → Prop} {D : List Nat} {T : Nat → Fact} {a0 : Act} {w : World} {o : Oper} (t : TypeId) (d : Nat) (cs : List Value) (hz : ∀ w, (zeroValue t).run P w = .ok (.agg cs.toArray) w) (ho : o.op = .alloc t) (hd : o.dst = some d) (hg : o.guard = none) (hT : T d = boxF w.heap.size t cs) : StepAt P ops D T a0 w Q o :=
  sa_of d hd hg fun f a y c => by
    unfold Oper.wp execOp
    simp only [ho, hz, Instr.alloc, newVar, newRow, newObj, Value.cells, Sem.run_bind, Sem.run_pure, Result.andThen_ok]
    have hn := anew_alloc y.heap.size y rfl cs t
    exact ⟨_, rfl, hn.below, by rw [hT]; exact ⟨_, rfl, hn.holds, c.grown.size⟩⟩
theorem box_gr {w x y : World} {d t : Nat} {cs : List Value} (hg : Gr w x) (h : Turned d x y cs t) (hd : w.heap.size ≤ d) : Gr w y := Below.trans hg (h.below hd)
def q17_0 : Array Oper := #[⟨some 2, .box 28 (.tmp 0), 0, "ref.go:160", #[], none⟩, ⟨some 4, .alloc 28, 0, "ref.go:160", #[], none⟩]
def q17_1 : Array Oper := #[⟨some 10, .load 28 (.tmp 2), 28, "ref.go:161", #[], none⟩, ⟨some 11, .call ⟨.value (.func 9), #[.tmp 10], #[28]⟩, 28, "ref.go:161", #[⟨0, .data⟩], none⟩, ⟨none, .store 28 (.tmp 2) (.tmp 11), 0, "ref.go:161", #[⟨1, .data⟩, ⟨1, .chain⟩, ⟨0, .phase⟩, ⟨1, .phase⟩], none⟩]
def q17_2 : Array Oper := #[⟨some 12, .move (.tmp 1), 3, "ref.go:162", #[], none⟩, ⟨some 13, .binOp .eql 3 (.tmp 12) (.const (.int .i64 0)) 3, 4, "ref.go:162", #[⟨0, .data⟩], none⟩, ⟨some 14, .move (.tmp 13), 4, "ref.go:162", #[⟨1, .data⟩], none⟩, ⟨some 15, .load 28 (.tmp 2), 28, "ref.go:162", #[⟨2, .guard⟩], some (2, false)⟩, ⟨some 16, .call ⟨.value (.func 23), #[.tmp 15], #[28]⟩, 3, "ref.go:162", #[⟨3, .data⟩, ⟨2, .chain⟩, ⟨2, .guard⟩], some (2, false)⟩, ⟨some 17, .move (.tmp 1), 3, "ref.go:162", #[⟨2, .guard⟩], some (2, false)⟩, ⟨some 18, .binOp .neq 3 (.tmp 16) (.tmp 17) 3, 4, "ref.go:162", #[⟨4, .data⟩, ⟨5, .data⟩, ⟨2, .guard⟩], some (2, false)⟩, ⟨some 19, .pick (.tmp 14) (.const (.bool true)) (.tmp 18), 4, "ref.go:162", #[⟨2, .data⟩, ⟨6, .data⟩], none⟩]
def q17_3 : Array Oper := #[⟨some 20, .load 28 (.tmp 2), 28, "ref.go:163", #[], none⟩, ⟨none, .store 28 (.tmp 4) (.tmp 20), 0, "ref.go:163", #[⟨0, .data⟩, ⟨0, .phase⟩], none⟩]
def q17_4 : Array Oper := #[⟨some 21, .load 28 (.tmp 2), 28, "ref.go:165", #[], none⟩, ⟨some 22, .call ⟨.value (.func 25), #[.tmp 21], #[28]⟩, 43, "ref.go:165", #[⟨0, .data⟩], none⟩, ⟨some 23, .load 28 (.tmp 2), 28, "ref.go:165", #[], none⟩, ⟨some 24, .buildSlice 30 1 #[(0, .const (.int .i64 1))], 30, "ref.go:165", #[], none⟩, ⟨some 25, .call ⟨.value (.func 21), #[.tmp 23, .tmp 24], #[28, 30]⟩, 30, "ref.go:165", #[⟨2, .data⟩, ⟨3, .data⟩, ⟨1, .chain⟩], none⟩, ⟨some 26, .call ⟨.value (.func 44), #[.tmp 22, .tmp 25], #[43, 30]⟩, 43, "ref.go:165", #[⟨1, .data⟩, ⟨4, .data⟩, ⟨4, .chain⟩], none⟩, ⟨some 5, .alloc 43, 0, "ref.go:165", #[], none⟩, ⟨none, .store 43 (.tmp 5) (.tmp 26), 0, "ref.go:165", #[⟨6, .data⟩, ⟨5, .data⟩, ⟨5, .chain⟩, ⟨0, .phase⟩, ⟨1, .phase⟩, ⟨2, .phase⟩, ⟨3, .phase⟩, ⟨4, .phase⟩, ⟨5, .phase⟩, ⟨6, .phase⟩], none⟩]
def q17_5 : Array Oper := #[⟨some 6, .assign (.const (.int .i64 0)), 3, "ref.go:166", #[], none⟩]
def q17_6 : Array Oper := #[⟨some 27, .move (.tmp 6), 3, "ref.go:166", #[], none⟩, ⟨some 28, .binOp .lss 3 (.tmp 27) (.const (.int .i64 8)) 3, 4, "ref.go:166", #[⟨0, .data⟩], none⟩]
def q17_7 : Array Oper := #[⟨some 29, .move (.tmp 6), 3, "ref.go:166", #[], none⟩, ⟨some 30, .binOp .add 3 (.tmp 29) (.const (.int .i64 1)) 3, 3, "ref.go:166", #[⟨0, .data⟩], none⟩, ⟨some 6, .assign (.tmp 30), 3, "ref.go:166", #[⟨1, .data⟩, ⟨0, .phase⟩, ⟨1, .phase⟩], none⟩]
def q17_8 : Array Oper := #[⟨some 31, .move (.tmp 6), 3, "ref.go:167", #[], none⟩, ⟨some 32, .fieldAddr 28 (.tmp 2) 1, 0, "ref.go:167", #[], none⟩, ⟨some 33, .indexAddr 26 (.tmp 32) (.tmp 31), 0, "ref.go:167", #[⟨1, .data⟩, ⟨0, .data⟩], none⟩, ⟨some 34, .fieldAddr 25 (.tmp 33) 0, 0, "ref.go:167", #[⟨2, .data⟩], none⟩, ⟨some 35, .load 3 (.tmp 34), 3, "ref.go:167", #[⟨3, .data⟩], none⟩, ⟨some 36, .move (.tmp 6), 3, "ref.go:167", #[], none⟩, ⟨some 37, .indexAddr 43 (.tmp 5) (.tmp 36), 0, "ref.go:167", #[⟨5, .data⟩], none⟩, ⟨some 38, .load 3 (.tmp 37), 3, "ref.go:167", #[⟨6, .data⟩], none⟩, ⟨some 39, .binOp .neq 3 (.tmp 35) (.tmp 38) 3, 4, "ref.go:167", #[⟨4, .data⟩, ⟨7, .data⟩], none⟩]
def q17_9 : Array Oper := #[⟨some 40, .move (.tmp 6), 3, "ref.go:168", #[], none⟩, ⟨some 41, .move (.tmp 6), 3, "ref.go:168", #[], none⟩, ⟨some 42, .indexAddr 43 (.tmp 5) (.tmp 41), 0, "ref.go:168", #[⟨1, .data⟩], none⟩, ⟨some 43, .load 3 (.tmp 42), 3, "ref.go:168", #[⟨2, .data⟩], none⟩, ⟨some 44, .move (.tmp 6), 3, "ref.go:168", #[], none⟩, ⟨some 45, .fieldAddr 28 (.tmp 2) 1, 0, "ref.go:168", #[], none⟩, ⟨some 46, .indexAddr 26 (.tmp 45) (.tmp 44), 0, "ref.go:168", #[⟨5, .data⟩, ⟨4, .data⟩], none⟩, ⟨some 47, .fieldAddr 25 (.tmp 46) 1, 0, "ref.go:168", #[⟨6, .data⟩], none⟩, ⟨some 48, .load 23 (.tmp 47), 23, "ref.go:168", #[⟨7, .data⟩], none⟩, ⟨some 49, .call ⟨.value (.func 41), #[.tmp 48], #[23]⟩, 23, "ref.go:168", #[⟨8, .data⟩], none⟩, ⟨some 50, .build 25 #[(0, .tmp 43), (1, .tmp 49)], 25, "ref.go:168", #[⟨3, .data⟩, ⟨9, .data⟩], none⟩, ⟨some 51, .fieldAddr 28 (.tmp 2) 1, 0, "ref.go:168", #[], none⟩, ⟨some 52, .indexAddr 26 (.tmp 51) (.tmp 40), 0, "ref.go:168", #[⟨11, .data⟩, ⟨0, .data⟩, ⟨0, .phase⟩, ⟨1, .phase⟩, ⟨2, .phase⟩, ⟨3, .phase⟩, ⟨4, .phase⟩, ⟨5, .phase⟩, ⟨6, .phase⟩, ⟨7, .phase⟩, ⟨8, .phase⟩, ⟨9, .phase⟩, ⟨10, .phase⟩], none⟩, ⟨none, .store 25 (.tmp 52) (.tmp 50), 0, "ref.go:168", #[⟨12, .data⟩, ⟨10, .data⟩, ⟨9, .chain⟩, ⟨0, .phase⟩, ⟨1, .phase⟩, ⟨2, .phase⟩, ⟨3, .phase⟩, ⟨4, .phase⟩, ⟨5, .phase⟩, ⟨6, .phase⟩, ⟨7, .phase⟩, ⟨8, .phase⟩, ⟨9, .phase⟩, ⟨10, .phase⟩], none⟩]
def q17_10 : Array Oper := #[⟨some 53, .load 28 (.tmp 2), 28, "ref.go:171", #[], none⟩, ⟨some 54, .buildSlice 30 1 #[(0, .const (.int .i64 2))], 30, "ref.go:171", #[], none⟩, ⟨some 55, .call ⟨.value (.func 21), #[.tmp 53, .tmp 54], #[28, 30]⟩, 30, "ref.go:171", #[⟨0, .data⟩, ⟨1, .data⟩], none⟩, ⟨some 7, .assign (.tmp 55), 30, "ref.go:171", #[⟨2, .data⟩, ⟨2, .chain⟩, ⟨0, .phase⟩, ⟨1, .phase⟩, ⟨2, .phase⟩], none⟩]
def q17_11 : Array Oper := #[⟨some 8, .assign (.const (.int .i64 0)), 3, "ref.go:172", #[], none⟩]
def q17_12 : Array Oper := #[⟨some 56, .move (.tmp 8), 3, "ref.go:172", #[], none⟩, ⟨some 57, .move (.tmp 7), 30, "ref.go:172", #[], none⟩, ⟨some 58, .call ⟨.builtin .len, #[.tmp 57], #[30]⟩, 3, "ref.go:172", #[⟨1, .data⟩], none⟩, ⟨some 59, .binOp .lss 3 (.tmp 56) (.tmp 58) 3, 4, "ref.go:172", #[⟨0, .data⟩, ⟨2, .data⟩], none⟩]
def q17_13 : Array Oper := #[⟨some 60, .move (.tmp 8), 3, "ref.go:172", #[], none⟩, ⟨some 61, .binOp .add 3 (.tmp 60) (.const (.int .i64 1)) 3, 3, "ref.go:172", #[⟨0, .data⟩], none⟩, ⟨some 8, .assign (.tmp 61), 3, "ref.go:172", #[⟨1, .data⟩, ⟨0, .phase⟩, ⟨1, .phase⟩], none⟩]
def q17_14 : Array Oper := #[⟨some 62, .load 28 (.tmp 2), 28, "ref.go:173", #[], none⟩, ⟨some 63, .move (.tmp 7), 30, "ref.go:173", #[], none⟩, ⟨some 64, .move (.tmp 8), 3, "ref.go:173", #[], none⟩, ⟨some 65, .indexAddr 30 (.tmp 63) (.tmp 64), 0, "ref.go:173", #[⟨1, .data⟩, ⟨2, .data⟩], none⟩, ⟨some 66, .load 3 (.tmp 65), 3, "ref.go:173", #[⟨3, .data⟩], none⟩, ⟨some 67, .call ⟨.value (.func 39), #[.tmp 62, .tmp 66], #[28, 3]⟩, 53, "ref.go:173", #[⟨0, .data⟩, ⟨4, .data⟩], none⟩, ⟨some 9, .alloc 53, 0, "ref.go:173", #[], none⟩, ⟨none, .store 53 (.tmp 9) (.tmp 67), 0, "ref.go:173", #[⟨6, .data⟩, ⟨5, .data⟩, ⟨5, .chain⟩, ⟨0, .phase⟩, ⟨1, .phase⟩, ⟨2, .phase⟩, ⟨3, .phase⟩, ⟨4, .phase⟩, ⟨5, .phase⟩, ⟨6, .phase⟩], none⟩]
def q17_15 : Array Oper := #[⟨some 68, .load 43 (.tmp 5), 43, "ref.go:174", #[], none⟩, ⟨some 69, .move (.tmp 7), 30, "ref.go:174", #[], none⟩, ⟨some 70, .move (.tmp 8), 3, "ref.go:174", #[], none⟩, ⟨some 71, .indexAddr 30 (.tmp 69) (.tmp 70), 0, "ref.go:174", #[⟨1, .data⟩, ⟨2, .data⟩], none⟩, ⟨some 72, .load 3 (.tmp 71), 3, "ref.go:174", #[⟨3, .data⟩], none⟩, ⟨some 73, .call ⟨.value (.func 45), #[.tmp 68, .tmp 72], #[43, 3]⟩, 30, "ref.go:174", #[⟨0, .data⟩, ⟨4, .data⟩], none⟩, ⟨some 74, .call ⟨.builtin .len, #[.tmp 73], #[30]⟩, 3, "ref.go:174", #[⟨5, .data⟩], none⟩, ⟨some 75, .binOp .eql 3 (.tmp 74) (.const (.int .i64 0)) 3, 4, "ref.go:174", #[⟨6, .data⟩], none⟩]
def q17_16 : Array Oper := #[⟨some 76, .load 28 (.tmp 2), 28, "ref.go:175", #[], none⟩, ⟨some 77, .move (.tmp 7), 30, "ref.go:175", #[], none⟩, ⟨some 78, .move (.tmp 8), 3, "ref.go:175", #[], none⟩, ⟨some 79, .indexAddr 30 (.tmp 77) (.tmp 78), 0, "ref.go:175", #[⟨1, .data⟩, ⟨2, .data⟩], none⟩, ⟨some 80, .load 3 (.tmp 79), 3, "ref.go:175", #[⟨3, .data⟩], none⟩, ⟨some 81, .fieldAddr 53 (.tmp 9) 2, 0, "ref.go:175", #[], none⟩, ⟨some 82, .load 23 (.tmp 81), 23, "ref.go:175", #[⟨5, .data⟩], none⟩, ⟨some 83, .call ⟨.value (.func 41), #[.tmp 82], #[23]⟩, 23, "ref.go:175", #[⟨6, .data⟩], none⟩, ⟨some 84, .build 53 #[(0, .tmp 80), (1, .const (.int .i64 3)), (2, .tmp 83)], 53, "ref.go:175", #[⟨4, .data⟩, ⟨7, .data⟩], none⟩, ⟨some 85, .call ⟨.value (.func 40), #[.tmp 76, .tmp 84], #[28, 53]⟩, 28, "ref.go:175", #[⟨0, .data⟩, ⟨8, .data⟩, ⟨7, .chain⟩], none⟩, ⟨none, .store 28 (.tmp 2) (.tmp 85), 0, "ref.go:175", #[⟨9, .data⟩, ⟨9, .chain⟩, ⟨0, .phase⟩, ⟨1, .phase⟩, ⟨2, .phase⟩, ⟨3, .phase⟩, ⟨4, .phase⟩, ⟨5, .phase⟩, ⟨6, .phase⟩, ⟨7, .phase⟩, ⟨8, .phase⟩, ⟨9, .phase⟩], none⟩]
def q17_17 : Array Oper := #[⟨some 86, .load 28 (.tmp 2), 28, "ref.go:178", #[], none⟩, ⟨none, .store 28 (.tmp 4) (.tmp 86), 0, "ref.go:178", #[⟨0, .data⟩, ⟨0, .phase⟩], none⟩]
theorem r17_1 (hz : a0.tmps.size = 87) (b : Nat) (u : Value) (r : Rg) (hC : Holds w b (ringC u r) 28) (hR : RingAt w.heap.size w u r) (e2 : a0.eval (.tmp 2) = .pointer (some ⟨b, 0, none⟩)) (hend : ∀ ac wz, After [10, 11] a0 ac → Bf w.heap.size wz b (normL r) → Upd b w wz → Q .normal ac wz) : RW 1 q17_1 false Q a0 w := by
  refine seq_by (by kernel_rfl) 2 (by decide) [10, 11] (fun | 10 => .val (.agg (ringC u r).toArray) | 11 => ringF w.heap.size (normL r) | _ => .any) (by kernel_rfl) (fmc ⟨?s0, fmc ⟨?s1, fun o ho => nomatch ho⟩⟩) ?e
  case s0 => exact sa_row 28 (.tmp 2) 10 b (0) 17 _ (ringC u r) rfl rfl rfl Tryz.underlying28 rfl siz28 (ringC_len hR) (.old 2 _ (by decide) e2) (fun y hy => range_of (hC.below hy hC.lt)) rfl
  case s1 => exact sa_callF1 9 (.tmp 10) _ 11 (.agg (ringC u r).toArray) (ringF w.heap.size (normL r)) rfl rfl rfl (.nw 10 hz) (enters_of Tryz.func9 (by kernel_rfl) rfl) (fun y hy => k_norm u r w y hy hR) rfl
  case e =>
  intro ac wz hA hgr hv
  have o11 := hw hv hz 11
  have o2 : ac.eval (.tmp 2) = .pointer (some ⟨b, 0, none⟩) := (hA.old 2 (by decide)).trans e2
  refine wpl_store_ring rfl (.tmp 2) (.tmp 11) rfl rfl b w.heap.size o2 (normL r) o11 (ringC u r) (hC.below hgr hC.lt) (ringC_len hR) hC.lt (fun w3 h3 u3 _ => ?_)
  exact wl_end (hend _ w3 hA h3 ((Gr.upd hgr).trans u3))
theorem r17_2a (hz : a0.tmps.size = 87) (node : Int) (h0 : node = 0) (e1 : a0.eval (.tmp 1) = .int .i64 node) (hend : ∀ ac wz, After [12, 13, 14, 15, 16, 17, 18, 19] a0 ac → ac.eval (.tmp 19) = .bool true → Gr w wz → Q .normal ac wz) : RW 2 q17_2 false Q a0 w := by
  refine seq_by (by kernel_rfl) 8 (by decide) [12, 13, 14, 15, 16, 17, 18, 19] (fun | 12 => .val (.int .i64 node) | 13 => .val (.bool true) | 14 => .val (.bool true) | 15 => .val (undef) | 16 => .val (undef) | 17 => .val (undef) | 18 => .val (undef) | 19 => .val (.bool true) | _ => .any) (by kernel_rfl) (fmc ⟨?s0, fmc ⟨?s1, fmc ⟨?s2, fmc ⟨?s3, fmc ⟨?s4, fmc ⟨?s5, fmc ⟨?s6, fmc ⟨?s7, fun o ho => nomatch ho⟩⟩⟩⟩⟩⟩⟩⟩) ?e
  case s0 => exact sa_mo 1 12 e1
  case s1 => exact sa_bin .eql 3 (.tmp 12) (.const _) 3 13 (.int .i64 node) (.int .i64 0) (.bool true) rfl rfl rfl (.nw 12 hz) (.const _) guard_int (bin_eql (decide_eq_true (by omega))) rfl
  case s2 => exact sa_mw 13 14 hz
  case s3 => exact so_nFN 2 14 hz
  case s4 => exact so_nFN 2 14 hz
  case s5 => exact so_nFN 2 14 hz
  case s6 => exact so_nFN 2 14 hz
  case s7 => exact sa_pick (.tmp 14) (.const _) (.tmp 18) 19 (.val (.bool true)) rfl rfl rfl (.nw 14 hz) (.const _) rfl
  case e =>
  intro ac wz hA hgr hv
  exact wl_end (hend ac wz hA (hw hv hz 19) hgr)
theorem r17_2b (hz : a0.tmps.size = 87) (b : Nat) (node : Int) (h0 : ¬ node = 0) (u : Value) (r : Rg) (hC : Holds w b (ringC u r) 28) (hR : RingAt w.heap.size w u r) (e1 : a0.eval (.tmp 1) = .int .i64 node) (e2 : a0.eval (.tmp 2) = .pointer (some ⟨b, 0, none⟩)) (hend : ∀ ac wz, After [12, 13, 14, 15, 16, 17, 18, 19] a0 ac → ac.eval (.tmp 19) = .bool (decide (¬ claimantL r = node)) → Gr w wz → Q .normal ac wz) : RW 2 q17_2 false Q a0 w := by
  refine seq_by (by kernel_rfl) 8 (by decide) [12, 13, 14, 15, 16, 17, 18, 19] (fun | 12 => .val (.int .i64 node) | 13 => .val (.bool false) | 14 => .val (.bool false) | 15 => .val (.agg (ringC u r).toArray) | 16 => .val (.int .i64 (claimantL r)) | 17 => .val (.int .i64 node) | 18 => .val (.bool (decide (¬ claimantL r = node))) | 19 => .val (.bool (decide (¬ claimantL r = node))) | _ => .any) (by kernel_rfl) (fmc ⟨?s0, fmc ⟨?s1, fmc ⟨?s2, fmc ⟨?s3, fmc ⟨?s4, fmc ⟨?s5, fmc ⟨?s6, fmc ⟨?s7, fun o ho => nomatch ho⟩⟩⟩⟩⟩⟩⟩⟩) ?e
  case s0 => exact sa_mo 1 12 e1
  case s1 => exact sa_bin .eql 3 (.tmp 12) (.const _) 3 13 (.int .i64 node) (.int .i64 0) (.bool false) rfl rfl rfl (.nw 12 hz) (.const _) guard_int (bin_eql (decide_eq_false (by omega))) rfl
  case s2 => exact sa_mw 13 14 hz
  case s3 => exact sa_gf 2 14 hz (sa_row 28 (.tmp 2) 15 b (0) 17 _ (ringC u r) rfl rfl rfl Tryz.underlying28 rfl siz28 (ringC_len hR) (.old 2 _ (by decide) e2) (fun y hy => range_of (hC.below hy hC.lt)) rfl)
  case s4 => exact sa_gf 2 14 hz (sa_call1 23 (.tmp 15) _ 16 (.val (.agg (ringC u r).toArray)) rfl rfl rfl (.nw 15 hz) (enters_of Tryz.func23 (by kernel_rfl) rfl) (fun v0 y hgy q0 => by rw [show v0 = _ from q0]; exact (rclaimant_any u r y ((hR.below hgy).mono hgy.size)).mono fun e z ⟨e1, e2⟩ => ⟨_, e1, e2, rfl⟩))
  case s5 => exact sa_gf 2 14 hz (sa_mo 1 17 e1)
  case s6 => exact sa_gf 2 14 hz (sa_bin .neq 3 (.tmp 16) (.tmp 17) 3 18 (.int .i64 (claimantL r)) (.int .i64 node) (.bool (decide (¬ claimantL r = node))) rfl rfl rfl (.nw 16 hz) (.nw 17 hz) guard_int (bin_neq rfl) rfl)
  case s7 => exact sa_pickF (.tmp 14) (.const _) (.tmp 18) 19 (.val (.bool (decide (¬ claimantL r = node)))) rfl rfl rfl (.nw 14 hz) (.nw 18 hz) rfl
  case e =>
  intro ac wz hA hgr hv
  exact wl_end (hend ac wz hA (hw hv hz 19) hgr)
theorem r17_3 (hz : a0.tmps.size = 87) (b b4 F : Nat) (u : Value) (r : Rg) (hC : Holds w b (ringC u r) 28) (hR : RingAt w.heap.size w u r) (hf : Fresh F u) (old : List Value) (h4 : Holds w b4 old 28) (hl : old.length = 17) (hF : b4 < F) (e2 : a0.eval (.tmp 2) = .pointer (some ⟨b, 0, none⟩)) (e4 : a0.eval (.tmp 4) = .pointer (some ⟨b4, 0, none⟩)) (hend : ∀ ac wz, After [20] a0 ac → Bf F wz b4 r → Upd b4 w wz → Q .normal ac wz) : RW 3 q17_3 false Q a0 w := by
  refine seq_by (by kernel_rfl) 1 (by decide) [20] (fun | 20 => .val (.agg (ringC u r).toArray) | _ => .any) (by kernel_rfl) (fmc ⟨?s0, fun o ho => nomatch ho⟩) ?e
  case s0 => exact sa_row 28 (.tmp 2) 20 b (0) 17 _ (ringC u r) rfl rfl rfl Tryz.underlying28 rfl siz28 (ringC_len hR) (.old 2 _ (by decide) e2) (fun y hy => range_of (hC.below hy hC.lt)) rfl
  case e =>
  intro ac wz hA hgr hv
  have o20 : ac.eval (.tmp 20) = .agg (ringC u r).toArray := hw hv hz 20
  have o4 : ac.eval (.tmp 4) = .pointer (some ⟨b4, 0, none⟩) := (hA.old 4 (by decide)).trans e4
  refine wpl_store_ring rfl (.tmp 4) (.tmp 20) rfl rfl b4 F o4 r ⟨u, o20, (hR.below hgr).mono hgr.size, hf⟩ old (h4.below hgr h4.lt) hl hF (fun w3 h3 u3 _ => ?_)
  exact wl_end (hend _ w3 hA h3 ((Gr.upd hgr).trans u3))
theorem r17_17 (hz : a0.tmps.size = 87) (b b4 F : Nat) (u : Value) (r : Rg) (hC : Holds w b (ringC u r) 28) (hR : RingAt w.heap.size w u r) (hf : Fresh F u) (old : List Value) (h4 : Holds w b4 old 28) (hl : old.length = 17) (hF : b4 < F) (e2 : a0.eval (.tmp 2) = .pointer (some ⟨b, 0, none⟩)) (e4 : a0.eval (.tmp 4) = .pointer (some ⟨b4, 0, none⟩)) (hend : ∀ ac wz, After [86] a0 ac → Bf F wz b4 r → Upd b4 w wz → Q .normal ac wz) : RW 17 q17_17 false Q a0 w := by
  refine seq_by (by kernel_rfl) 1 (by decide) [86] (fun | 86 => .val (.agg (ringC u r).toArray) | _ => .any) (by kernel_rfl) (fmc ⟨?s0, fun o ho => nomatch ho⟩) ?e
  case s0 => exact sa_row 28 (.tmp 2) 86 b (0) 17 _ (ringC u r) rfl rfl rfl Tryz.underlying28 rfl siz28 (ringC_len hR) (.old 2 _ (by decide) e2) (fun y hy => range_of (hC.below hy hC.lt)) rfl
  case e =>
  intro ac wz hA hgr hv
  have o86 : ac.eval (.tmp 86) = .agg (ringC u r).toArray := hw hv hz 86
  have o4 : ac.eval (.tmp 4) = .pointer (some ⟨b4, 0, none⟩) := (hA.old 4 (by decide)).trans e4
  refine wpl_store_ring rfl (.tmp 4) (.tmp 86) rfl rfl b4 F o4 r ⟨u, o86, (hR.below hgr).mono hgr.size, hf⟩ old (h4.below hgr h4.lt) hl hF (fun w3 h3 u3 _ => ?_)
  exact wl_end (hend _ w3 hA h3 ((Gr.upd hgr).trans u3))
theorem r17_4 (hz : a0.tmps.size = 87) (b : Nat) (u : Value) (r : Rg) (hC : Holds w b (ringC u r) 28) (hR : RingAt w.heap.size w u r) (h7 : (membersL r [1]).length ≤ 1000) (e2 : a0.eval (.tmp 2) = .pointer (some ⟨b, 0, none⟩)) (hend : ∀ ac wz d, After [21, 22, 23, 24, 25, 26, 5] a0 ac → ac.eval (.tmp 5) = .pointer (some ⟨d, 0, none⟩) → Holds wz d (intV (claimL (ownersL r) (membersL r [1]))) 43 → w.heap.size ≤ d → Gr w wz → Q .normal ac wz) : RW 4 q17_4 true Q a0 w := by
  refine drawn_tail (by kernel_rfl) (by kernel_rfl) 7 (by decide) (by kernel_rfl) (by kernel_rfl) [21, 22, 23, 24, 25, 26, 5] (fun | 21 => .val (.agg (ringC u r).toArray) | 22 => .val (.agg (intV (ownersL r)).toArray) | 23 => .val (.agg (ringC u r).toArray) | 24 => oneF 1 | 25 => intsF (membersL r [1]) | 26 => .val (.agg (intV (claimL (ownersL r) (membersL r [1]))).toArray) | 5 => boxF w.heap.size 43 (intV zl) | _ => .any) (by kernel_rfl) (fmc ⟨?s0, fmc ⟨?s1, fmc ⟨?s2, fmc ⟨?s3, fmc ⟨?s4, fmc ⟨?s5, fmc ⟨?s6, fun o ho => nomatch ho⟩⟩⟩⟩⟩⟩⟩) ?e
  case s0 => exact sa_row 28 (.tmp 2) 21 b (0) 17 _ (ringC u r) rfl rfl rfl Tryz.underlying28 rfl siz28 (ringC_len hR) (.old 2 _ (by decide) e2) (fun y hy => range_of (hC.below hy hC.lt)) rfl
  case s1 => exact sa_call1 25 (.tmp 21) _ 22 (.val (.agg (ringC u r).toArray)) rfl rfl rfl (.nw 21 hz) (enters_of Tryz.func25 (by kernel_rfl) rfl) (fun v0 y hgy q0 => by rw [show v0 = _ from q0]; exact (rowners_any u r y ((hR.below hgy).mono hgy.size)).mono fun e z ⟨e1, e2⟩ => ⟨_, e1, e2, rfl⟩)
  case s2 => exact sa_row 28 (.tmp 2) 23 b (0) 17 _ (ringC u r) rfl rfl rfl Tryz.underlying28 rfl siz28 (ringC_len hR) (.old 2 _ (by decide) e2) (fun y hy => range_of (hC.below hy hC.lt)) rfl
  case s3 => exact sa_bs1 30 1 (.const _) 24 (.int .i64 1) rfl rfl rfl (.const _) (bs24 1)
  case s4 => exact sa_call2 21 (.tmp 23) (.tmp 24) _ 25 (Fact.val (.agg (ringC u r).toArray)) (oneF 1) rfl rfl rfl (.nw 23 hz) (.nw 24 hz) (enters_of Tryz.func21 (by kernel_rfl) rfl) (fun v0 v1 y hgy q0 q1 => c_members u r 1 v0 v1 y ((hR.below hgy).mono hgy.size) q0 q1)
  case s5 => exact sa_call2 44 (.tmp 22) (.tmp 25) _ 26 (Fact.val (.agg (intV (ownersL r)).toArray)) (intsF (membersL r [1])) rfl rfl rfl (.nw 22 hz) (.nw 25 hz) (enters_of Tryz.func44 (by kernel_rfl) rfl) (fun v0 v1 y hgy q0 q1 => c_claim r (membersL r [1]) h7 v0 v1 y q0 q1)
  case s6 => exact sa_alloc 43 5 (intV zl) zero23 rfl rfl rfl rfl
  case e =>
  intro ac wz hA hgr hv
  have o26 : ac.eval (.tmp 26) = .agg (intV (claimL (ownersL r) (membersL r [1]))).toArray := hw hv hz 26
  have o5 := hw hv hz 5
  have hcl : (intV (claimL (ownersL r) (membersL r [1]))).length = 8 := by rw [intV_len]; exact claim_len _ _ (owners_len r)
  obtain ⟨d, f5, h3, hd⟩ := o5
  refine wpList_store_all rfl 43 (.tmp 5) (.tmp 26) rfl d f5 (intV (claimL (ownersL r) (membersL r [1]))) o26 43 _ h3 (by rw [siz43, hcl]) (by rw [hcl]; rfl) (intV_one _) ?_
  intro w4 h4
  exact wl_end (hend _ w4 d hA f5 h4.holds hd (box_gr hgr h4 hd))
theorem r17_5 (hz : a0.tmps.size = 87)   (hend : ∀ ac wz, After [6] a0 ac → ac.eval (.tmp 6) = .int .i64 0 → Gr w wz → Q .normal ac wz) : RW 5 q17_5 false Q a0 w := by
  refine seq_by (by kernel_rfl) 1 (by decide) [6] (fun | 6 => .val (.int .i64 0) | _ => .any) (by kernel_rfl) (fmc ⟨?s0, fun o ho => nomatch ho⟩) ?e
  case s0 => exact sa_move (.const _) 6 (.val (.int .i64 0)) (.inr rfl) rfl rfl (.const _) rfl
  case e =>
  intro ac wz hA hgr hv
  exact wl_end (hend ac wz hA (hw hv hz 6) hgr)
theorem r17_11 (hz : a0.tmps.size = 87)   (hend : ∀ ac wz, After [8] a0 ac → ac.eval (.tmp 8) = .int .i64 0 → Gr w wz → Q .normal ac wz) : RW 11 q17_11 false Q a0 w := by
  refine seq_by (by kernel_rfl) 1 (by decide) [8] (fun | 8 => .val (.int .i64 0) | _ => .any) (by kernel_rfl) (fmc ⟨?s0, fun o ho => nomatch ho⟩) ?e
  case s0 => exact sa_move (.const _) 8 (.val (.int .i64 0)) (.inr rfl) rfl rfl (.const _) rfl
  case e =>
  intro ac wz hA hgr hv
  exact wl_end (hend ac wz hA (hw hv hz 8) hgr)
theorem r17_6 (hz : a0.tmps.size = 87) (k : Nat) (e6 : a0.eval (.tmp 6) = .int .i64 (k : Int)) (hend : ∀ ac wz, After [27, 28] a0 ac → ac.eval (.tmp 28) = .bool (decide ((k : Int) < 8)) → Gr w wz → Q .normal ac wz) : RW 6 q17_6 false Q a0 w := by
  refine seq_by (by kernel_rfl) 2 (by decide) [27, 28] (fun | 27 => .val (.int .i64 (k : Int)) | 28 => .val (.bool (decide ((k : Int) < 8))) | _ => .any) (by kernel_rfl) (fmc ⟨?s0, fmc ⟨?s1, fun o ho => nomatch ho⟩⟩) ?e
  case s0 => exact sa_mo 6 27 e6
  case s1 => exact sa_bin .lss 3 (.tmp 27) (.const _) 3 28 (.int .i64 (k : Int)) (.int .i64 8) (.bool (decide ((k : Int) < 8))) rfl rfl rfl (.nw 27 hz) (.const _) guard_int (bin_lss rfl) rfl
  case e =>
  intro ac wz hA hgr hv
  exact wl_end (hend ac wz hA (hw hv hz 28) hgr)
theorem r17_7 (hz : a0.tmps.size = 87) (k : Nat) (hk : k < 9223372036854775807) (e6 : a0.eval (.tmp 6) = .int .i64 (k : Int)) (hend : ∀ ac wz, After [6, 29, 30] a0 ac → ac.eval (.tmp 6) = .int .i64 ((k : Int) + 1) → Gr w wz → Q .normal ac wz) : RW 7 q17_7 false Q a0 w := by
  refine seq_by (by kernel_rfl) 2 (by decide) [29, 30] (fun | 29 => .val (.int .i64 (k : Int)) | 30 => .val (.int .i64 ((k : Int) + 1)) | _ => .any) (by kernel_rfl) (fmc ⟨?s0, fmc ⟨?s1, fun o ho => nomatch ho⟩⟩) ?e
  case s0 => exact sa_mo 6 29 e6
  case s1 => exact sa_bin .add 3 (.tmp 29) (.const _) 3 30 (.int .i64 (k : Int)) (.int .i64 1) (.int .i64 ((k : Int) + 1)) rfl rfl rfl (.nw 29 hz) (.const _) guard_int (bin_add rfl (by omega) (by omega)) rfl
  case e =>
  intro ac wz hA hgr hv
  have o30 : ac.eval (.tmp 30) = .int .i64 ((k : Int) + 1) := hw hv hz 30
  refine wl_of rfl (op_move (.tmp 30) (.inr rfl) (wl_end ?_))
  exact hend _ wz (hA.put 6 _)  ((ev_put (by rw [hA.size, hz]; decide)).trans ((if_pos rfl).trans o30)) hgr
theorem r17_13 (hz : a0.tmps.size = 87) (k : Nat) (hk : k < 9223372036854775807) (e8 : a0.eval (.tmp 8) = .int .i64 (k : Int)) (hend : ∀ ac wz, After [8, 60, 61] a0 ac → ac.eval (.tmp 8) = .int .i64 ((k + 1 : Nat) : Int) → Gr w wz → Q .normal ac wz) : RW 13 q17_13 false Q a0 w := by
  refine seq_by (by kernel_rfl) 2 (by decide) [60, 61] (fun | 60 => .val (.int .i64 (k : Int)) | 61 => .val (.int .i64 ((k + 1 : Nat) : Int)) | _ => .any) (by kernel_rfl) (fmc ⟨?s0, fmc ⟨?s1, fun o ho => nomatch ho⟩⟩) ?e
  case s0 => exact sa_mo 8 60 e8
  case s1 => exact sa_bin .add 3 (.tmp 60) (.const _) 3 61 (.int .i64 (k : Int)) (.int .i64 1) (.int .i64 ((k + 1 : Nat) : Int)) rfl rfl rfl (.nw 60 hz) (.const _) guard_int (bin_add (by omega) (by omega) (by omega)) rfl
  case e =>
  intro ac wz hA hgr hv
  have o61 : ac.eval (.tmp 61) = .int .i64 ((k + 1 : Nat) : Int) := hw hv hz 61
  refine wl_of rfl (op_move (.tmp 61) (.inr rfl) (wl_end ?_))
  exact hend _ wz (hA.put 8 _)  ((ev_put (by rw [hA.size, hz]; decide)).trans ((if_pos rfl).trans o61)) hgr
theorem r17_8 (hz : a0.tmps.size = 87) (k b d : Nat) (u : Value) (ms : List Mb) (os : List Ow) (cl : List Int) (hk : k < 8) (l8 : os.length = 8) (hb : Holds w b (ringC u (ms, os)) 28) (hd : Holds w d (intV cl) 43) (c8 : cl.length = 8) (e6 : a0.eval (.tmp 6) = .int .i64 (k : Int)) (e2 : a0.eval (.tmp 2) = .pointer (some ⟨b, 0, none⟩)) (e5 : a0.eval (.tmp 5) = .pointer (some ⟨d, 0, none⟩)) (hend : ∀ ac wz, After [31, 32, 33, 34, 35, 36, 37, 38, 39] a0 ac → ac.eval (.tmp 39) = .bool (decide (¬ (os.getD k noO).1 = cl.getD k 0)) → Gr w wz → Q .normal ac wz) : RW 8 q17_8 true Q a0 w := by
  refine drawn_by (by kernel_rfl) (by kernel_rfl) (by kernel_rfl) [31, 32, 33, 34, 35, 36, 37, 38, 39] (fun | 31 => .val (.int .i64 (k : Int)) | 32 => .val (.pointer (some ⟨b, 1, none⟩)) | 33 => .val (.pointer (some ⟨b, 1 + k * 2, none⟩)) | 34 => .val (.pointer (some ⟨b, 1 + k * 2 + 0, none⟩)) | 35 => .val (.int .i64 (os.getD k noO).1) | 36 => .val (.int .i64 (k : Int)) | 37 => .val (.pointer (some ⟨d, k, none⟩)) | 38 => .val (.int .i64 (cl.getD k 0)) | 39 => .val (.bool (decide (¬ (os.getD k noO).1 = cl.getD k 0))) | _ => .any) (by kernel_rfl) (fmc ⟨?s0, fmc ⟨?s1, fmc ⟨?s2, fmc ⟨?s3, fmc ⟨?s4, fmc ⟨?s5, fmc ⟨?s6, fmc ⟨?s7, fmc ⟨?s8, fun o ho => nomatch ho⟩⟩⟩⟩⟩⟩⟩⟩⟩) ?e
  case s0 => exact sa_mo 6 31 e6
  case s1 => exact sa_fa 28 (.tmp 2) 1 32 (.pointer (some ⟨b, 0, none⟩)) (.pointer (some ⟨b, 1, none⟩)) rfl rfl rfl (.old 2 _ (by decide) e2) (by intro w; kernel_rfl) rfl
  case s2 => exact sa_ixa 26 (.tmp 32) (.tmp 31) 33 (.pointer (some ⟨b, 1, none⟩)) (.int .i64 (k : Int)) (.pointer (some ⟨b, 1 + k * 2, none⟩)) rfl rfl rfl (.nw 32 hz) (.nw 31 hz) (ix_array (sz := 2) und26 (by intro w; kernel_rfl) hk (by omega)) rfl
  case s3 => exact sa_fa 25 (.tmp 33) 0 34 (.pointer (some ⟨b, 1 + k * 2, none⟩)) (.pointer (some ⟨b, 1 + k * 2 + 0, none⟩)) rfl rfl rfl (.nw 33 hz) (by intro w; kernel_rfl) rfl
  case s4 => exact sa_loadc 3 (.tmp 34) 35 (b) (1 + k * 2 + 0) (.int .i64 (os.getD k noO).1) rfl rfl rfl (by intro w; kernel_rfl) (.nw 34 hz) (fun y hy => (hb.below hy hb.lt).at _ _ (own_cell u os l8 k hk)) rfl
  case s5 => exact sa_mo 6 36 e6
  case s6 => exact sa_ixa 43 (.tmp 5) (.tmp 36) 37 (.pointer (some ⟨d, 0, none⟩)) (.int .i64 (k : Int)) (.pointer (some ⟨d, k, none⟩)) rfl rfl rfl (.old 5 _ (by decide) e5) (.nw 36 hz) (ix_array (sz := 1) und23 (by intro w; kernel_rfl) hk (by omega)) rfl
  case s7 => exact sa_loadc 3 (.tmp 37) 38 (d) (k) (.int .i64 (cl.getD k 0)) rfl rfl rfl (by intro w; kernel_rfl) (.nw 37 hz) (fun y hy => (hd.below hy hd.lt).at k _ (intV_at cl k (by omega))) rfl
  case s8 => exact sa_bin .neq 3 (.tmp 35) (.tmp 38) 3 39 (.int .i64 (os.getD k noO).1) (.int .i64 (cl.getD k 0)) (.bool (decide (¬ (os.getD k noO).1 = cl.getD k 0))) rfl rfl rfl (.nw 35 hz) (.nw 38 hz) guard_int (bin_neq rfl) rfl
  case e =>
  intro ac wz hA hgr hv
  exact hend ac wz hA (hw hv hz 39) hgr
theorem r17_9 (hz : a0.tmps.size = 87) (k b d : Nat) (u : Value) (ms : List Mb) (os : List Ow) (cl : List Int) (hk : k < 8) (l8 : os.length = 8) (hb : Holds w b (ringC u (ms, os)) 28) (hd : Holds w d (intV cl) 43) (c8 : cl.length = 8) (hv : (os.getD k noO).2 < 18446744073709551616) (e6 : a0.eval (.tmp 6) = .int .i64 (k : Int)) (e5 : a0.eval (.tmp 5) = .pointer (some ⟨d, 0, none⟩)) (e2 : a0.eval (.tmp 2) = .pointer (some ⟨b, 0, none⟩)) (hend : ∀ ac wz, After [40, 41, 42, 43, 44, 45, 46, 47, 48, 49, 50, 51, 52] a0 ac → Holds wz b (ringC u (ms, os.set k (cl.getD k 0, moreN (os.getD k noO).2))) 28 → Upd b w wz → Q .normal ac wz) : RW 9 q17_9 true Q a0 w := by
  refine drawn_tail (by kernel_rfl) (by kernel_rfl) 13 (by decide) (by kernel_rfl) (by kernel_rfl) [40, 41, 42, 43, 44, 45, 46, 47, 48, 49, 50, 51, 52] (fun | 40 => .val (.int .i64 (k : Int)) | 41 => .val (.int .i64 (k : Int)) | 42 => .val (.pointer (some ⟨d, k, none⟩)) | 43 => .val (.int .i64 (cl.getD k 0)) | 44 => .val (.int .i64 (k : Int)) | 45 => .val (.pointer (some ⟨b, 1, none⟩)) | 46 => .val (.pointer (some ⟨b, 1 + k * 2, none⟩)) | 47 => .val (.pointer (some ⟨b, 1 + k * 2 + 1, none⟩)) | 48 => .val (.int .u64 ((os.getD k noO).2 : Int)) | 49 => .val (.int .u64 (moreN (os.getD k noO).2 : Int)) | 50 => .val (.agg (owV (cl.getD k 0, moreN (os.getD k noO).2)).toArray) | 51 => .val (.pointer (some ⟨b, 1, none⟩)) | 52 => .val (.pointer (some ⟨b, 1 + k * 2, none⟩)) | _ => .any) (by kernel_rfl) (fmc ⟨?s0, fmc ⟨?s1, fmc ⟨?s2, fmc ⟨?s3, fmc ⟨?s4, fmc ⟨?s5, fmc ⟨?s6, fmc ⟨?s7, fmc ⟨?s8, fmc ⟨?s9, fmc ⟨?s10, fmc ⟨?s11, fmc ⟨?s12, fun o ho => nomatch ho⟩⟩⟩⟩⟩⟩⟩⟩⟩⟩⟩⟩⟩) ?e
  case s0 => exact sa_mo 6 40 e6
  case s1 => exact sa_mo 6 41 e6
  case s2 => exact sa_ixa 43 (.tmp 5) (.tmp 41) 42 (.pointer (some ⟨d, 0, none⟩)) (.int .i64 (k : Int)) (.pointer (some ⟨d, k, none⟩)) rfl rfl rfl (.old 5 _ (by decide) e5) (.nw 41 hz) (ix_array (sz := 1) und23 (by intro w; kernel_rfl) hk (by omega)) rfl
  case s3 => exact sa_loadc 3 (.tmp 42) 43 (d) (k) (.int .i64 (cl.getD k 0)) rfl rfl rfl (by intro w; kernel_rfl) (.nw 42 hz) (fun y hy => (hd.below hy hd.lt).at k _ (intV_at cl k (by omega))) rfl
  case s4 => exact sa_mo 6 44 e6
  case s5 => exact sa_fa 28 (.tmp 2) 1 45 (.pointer (some ⟨b, 0, none⟩)) (.pointer (some ⟨b, 1, none⟩)) rfl rfl rfl (.old 2 _ (by decide) e2) (by intro w; kernel_rfl) rfl
  case s6 => exact sa_ixa 26 (.tmp 45) (.tmp 44) 46 (.pointer (some ⟨b, 1, none⟩)) (.int .i64 (k : Int)) (.pointer (some ⟨b, 1 + k * 2, none⟩)) rfl rfl rfl (.nw 45 hz) (.nw 44 hz) (ix_array (sz := 2) und26 (by intro w; kernel_rfl) hk (by omega)) rfl
  case s7 => exact sa_fa 25 (.tmp 46) 1 47 (.pointer (some ⟨b, 1 + k * 2, none⟩)) (.pointer (some ⟨b, 1 + k * 2 + 1, none⟩)) rfl rfl rfl (.nw 46 hz) (by intro w; kernel_rfl) rfl
  case s8 => exact sa_loadc 23 (.tmp 47) 48 (b) (1 + k * 2 + 1) (.int .u64 ((os.getD k noO).2 : Int)) rfl rfl rfl (by intro w; kernel_rfl) (.nw 47 hz) (fun y hy => (hb.below hy hb.lt).at _ _ (own_cell2 u os l8 k hk)) rfl
  case s9 => exact sa_call1 41 (.tmp 48) _ 49 (.val (.int .u64 ((os.getD k noO).2 : Int))) rfl rfl rfl (.nw 48 hz) (enters_of Tryz.func41 (by kernel_rfl) rfl) (fun v0 y hgy q0 => by rw [show v0 = _ from q0]; exact (rmore_any _ hv y).mono fun e z ⟨e1, e2⟩ => ⟨_, e1, e2, rfl⟩)
  case s10 => exact sa_bd2 25 0 1 (.tmp 43) (.tmp 49) 50 (.int .i64 (cl.getD k 0)) (.int .u64 (moreN (os.getD k noO).2 : Int)) (.agg (owV (cl.getD k 0, moreN (os.getD k noO).2)).toArray) rfl rfl rfl (.nw 43 hz) (.nw 49 hz) (by intro w; kernel_rfl) rfl
  case s11 => exact sa_fa 28 (.tmp 2) 1 51 (.pointer (some ⟨b, 0, none⟩)) (.pointer (some ⟨b, 1, none⟩)) rfl rfl rfl (.old 2 _ (by decide) e2) (by intro w; kernel_rfl) rfl
  case s12 => exact sa_ixa 26 (.tmp 51) (.tmp 40) 52 (.pointer (some ⟨b, 1, none⟩)) (.int .i64 (k : Int)) (.pointer (some ⟨b, 1 + k * 2, none⟩)) rfl rfl rfl (.nw 51 hz) (.nw 40 hz) (ix_array (sz := 2) und26 (by intro w; kernel_rfl) hk (by omega)) rfl
  case e =>
  intro ac wz hA hgr hv
  have o50 : ac.eval (.tmp 50) = .agg (owV (cl.getD k 0, moreN (os.getD k noO).2)).toArray := hw hv hz 50
  have o52 : ac.eval (.tmp 52) = .pointer (some ⟨b, 1 + k * 2, none⟩) := hw hv hz 52
  refine wpList_store_part rfl 25 (.tmp 52) (.tmp 50) rfl b (1 + k * 2) o52 (owV (cl.getD k 0, moreN (os.getD k noO).2)) o50 28 _ (hb.below hgr hb.lt) siz25 (by show 1 + k * 2 + 2 ≤ (u :: ownV os).length; rw [List.length_cons, ownV_len, l8]; omega) (owV_one _) ?_
  intro y t3
  have th := t3.holds
  rw [ring_set u ms os k (cl.getD k 0, moreN (os.getD k noO).2) (by rw [l8]; exact hk)] at th
  exact wl_end (hend _ y hA th ((Gr.upd hgr).trans (Turned.upd t3)))
theorem r17_10 (hz : a0.tmps.size = 87) (b : Nat) (u : Value) (r : Rg) (hC : Holds w b (ringC u r) 28) (hR : RingAt w.heap.size w u r) (e2 : a0.eval (.tmp 2) = .pointer (some ⟨b, 0, none⟩)) (hend : ∀ ac wz, After [53, 54, 55, 7] a0 ac → (ownF w.heap.size (membersL r [2]).length (intV (membersL r [2]))).holds (ac.eval (.tmp 7)) wz → Gr w wz → Q .normal ac wz) : RW 10 q17_10 false Q a0 w := by
  refine seq_by (by kernel_rfl) 4 (by decide) [53, 54, 55, 7] (fun | 53 => .val (.agg (ringC u r).toArray) | 54 => oneF 2 | 55 => ownF w.heap.size (membersL r [2]).length (intV (membersL r [2])) | 7 => ownF w.heap.size (membersL r [2]).length (intV (membersL r [2])) | _ => .any) (by kernel_rfl) (fmc ⟨?s0, fmc ⟨?s1, fmc ⟨?s2, fmc ⟨?s3, fun o ho => nomatch ho⟩⟩⟩⟩) ?e
  case s0 => exact sa_row 28 (.tmp 2) 53 b (0) 17 _ (ringC u r) rfl rfl rfl Tryz.underlying28 rfl siz28 (ringC_len hR) (.old 2 _ (by decide) e2) (fun y hy => range_of (hC.below hy hC.lt)) rfl
  case s1 => exact sa_bs1 30 1 (.const _) 54 (.int .i64 2) rfl rfl rfl (.const _) (bs24 2)
  case s2 => exact sa_call2 21 (.tmp 53) (.tmp 54) _ 55 (Fact.val (.agg (ringC u r).toArray)) (oneF 2) rfl rfl rfl (.nw 53 hz) (.nw 54 hz) (enters_of Tryz.func21 (by kernel_rfl) rfl) (fun v0 v1 y hgy q0 q1 => c_membersO u r 2 w v0 v1 y hgy ((hR.below hgy).mono hgy.size) q0 q1)
  case s3 => exact sa_move (.tmp 55) 7 (ownF w.heap.size (membersL r [2]).length (intV (membersL r [2]))) (.inr rfl) rfl rfl (.nw 55 hz) rfl
  case e =>
  intro ac wz hA hgr hv
  exact wl_end (hend ac wz hA (hw hv hz 7) hgr)
theorem r17_12 (hz : a0.tmps.size = 87) (k n cap : Nat) (ad : Option Addr) (e8 : a0.eval (.tmp 8) = .int .i64 (k : Int)) (e7 : a0.eval (.tmp 7) = .slice ad n cap) (hend : ∀ ac wz, After [56, 57, 58, 59] a0 ac → ac.eval (.tmp 59) = .bool (decide ((k : Int) < (n : Int))) → Gr w wz → Q .normal ac wz) : RW 12 q17_12 false Q a0 w := by
  refine seq_by (by kernel_rfl) 4 (by decide) [56, 57, 58, 59] (fun | 56 => .val (.int .i64 (k : Int)) | 57 => .val (.slice ad n cap) | 58 => .val (.int .i64 (n : Int)) | 59 => .val (.bool (decide ((k : Int) < (n : Int)))) | _ => .any) (by kernel_rfl) (fmc ⟨?s0, fmc ⟨?s1, fmc ⟨?s2, fmc ⟨?s3, fun o ho => nomatch ho⟩⟩⟩⟩) ?e
  case s0 => exact sa_mo 8 56 e8
  case s1 => exact sa_mo 7 57 e7
  case s2 => exact sa_len 30 (.tmp 57) 58 (.slice ad n cap) (.int .i64 (n : Int)) rfl rfl rfl (.nw 57 hz) (by intro w; kernel_rfl) rfl
  case s3 => exact sa_bin .lss 3 (.tmp 56) (.tmp 58) 3 59 (.int .i64 (k : Int)) (.int .i64 (n : Int)) (.bool (decide ((k : Int) < (n : Int)))) rfl rfl rfl (.nw 56 hz) (.nw 58 hz) guard_int (bin_lss rfl) rfl
  case e =>
  intro ac wz hA hgr hv
  exact wl_end (hend ac wz hA (hw hv hz 59) hgr)
theorem r17_14 (hz : a0.tmps.size = 87) (b : Nat) (u : Value) (r : Rg) (hC : Holds w b (ringC u r) 28) (hR : RingAt w.heap.size w u r) (k n cap g of : Nat) (x : Int) (hk : k < n) (hX : ∀ y, Gr w y → y.cell? ⟨g, of + k, none⟩ = some (.int .i64 x)) (e2 : a0.eval (.tmp 2) = .pointer (some ⟨b, 0, none⟩)) (e7 : a0.eval (.tmp 7) = .slice (some ⟨g, of, none⟩) n cap) (e8 : a0.eval (.tmp 8) = .int .i64 (k : Int)) (hend : ∀ ac wz e, After [62, 63, 64, 65, 66, 67, 9] a0 ac → ac.eval (.tmp 9) = .pointer (some ⟨e, 0, none⟩) → Holds wz e (mbV (findM r.1 x)) 53 → Gr w wz → Q .normal ac wz) : RW 14 q17_14 true Q a0 w := by
  refine drawn_tail (by kernel_rfl) (by kernel_rfl) 7 (by decide) (by kernel_rfl) (by kernel_rfl) [62, 63, 64, 65, 66, 67, 9] (fun | 62 => .val (.agg (ringC u r).toArray) | 63 => .val (.slice (some ⟨g, of, none⟩) n cap) | 64 => .val (.int .i64 (k : Int)) | 65 => .val (.pointer (some ⟨g, of + k, none⟩)) | 66 => .val (.int .i64 x) | 67 => .val (.agg (mbV (findM r.1 x)).toArray) | 9 => boxF w.heap.size 53 (mbV noM) | _ => .any) (by kernel_rfl) (fmc ⟨?s0, fmc ⟨?s1, fmc ⟨?s2, fmc ⟨?s3, fmc ⟨?s4, fmc ⟨?s5, fmc ⟨?s6, fun o ho => nomatch ho⟩⟩⟩⟩⟩⟩⟩) ?e
  case s0 => exact sa_row 28 (.tmp 2) 62 b (0) 17 _ (ringC u r) rfl rfl rfl Tryz.underlying28 rfl siz28 (ringC_len hR) (.old 2 _ (by decide) e2) (fun y hy => range_of (hC.below hy hC.lt)) rfl
  case s1 => exact sa_mo 7 63 e7
  case s2 => exact sa_mo 8 64 e8
  case s3 => exact sa_ixa 30 (.tmp 63) (.tmp 64) 65 (.slice (some ⟨g, of, none⟩) n cap) (.int .i64 (k : Int)) (.pointer (some ⟨g, of + k, none⟩)) rfl rfl rfl (.nw 63 hz) (.nw 64 hz) (ix_slice (sz := 1) Tryz.underlying30 (by intro w; kernel_rfl) (by omega) (by omega)) rfl
  case s4 => exact sa_loadc 3 (.tmp 65) 66 (g) (of + k) (.int .i64 x) rfl rfl rfl (by intro w; kernel_rfl) (.nw 65 hz) hX rfl
  case s5 => exact sa_call2 39 (.tmp 62) (.tmp 66) _ 67 (.val (.agg (ringC u r).toArray)) (.val (.int .i64 x)) rfl rfl rfl (.nw 62 hz) (.nw 66 hz) (enters_of Tryz.func39 (by kernel_rfl) rfl) (fun v0 v1 y hgy q0 q1 => by rw [show v0 = _ from q0]; rw [show v1 = _ from q1]; exact (find_any u r x y ((hR.below hgy).mono hgy.size)).mono fun e z ⟨e1, e2⟩ => ⟨_, e1, e2, rfl⟩)
  case s6 => exact sa_alloc 53 9 (mbV noM) zero35 rfl rfl rfl rfl
  case e =>
  intro ac wz hA hgr hv
  have o67 : ac.eval (.tmp 67) = .agg (mbV (findM r.1 x)).toArray := hw hv hz 67
  have o9 := hw hv hz 9
  obtain ⟨e, f5, h3, hd⟩ := o9
  refine wpList_store_all rfl 53 (.tmp 9) (.tmp 67) rfl e f5 (mbV (findM r.1 x)) o67 53 _ h3 siz53 rfl (mbV_one _) ?_
  intro w4 h4
  exact wl_end (hend _ w4 e hA f5 h4.holds (box_gr hgr h4 hd))
theorem r17_15 (hz : a0.tmps.size = 87) (d : Nat) (cl : List Int) (c8 : (intV cl).length = 8) (hd : Holds w d (intV cl) 43) (k n cap g of : Nat) (x : Int) (hk : k < n) (hX : ∀ y, Gr w y → y.cell? ⟨g, of + k, none⟩ = some (.int .i64 x)) (hOw : ∀ y, Gr w y → Calls Tryz.prog 45 #[.agg (intV cl).toArray, .int .i64 x] y fun e z => ∃ v, e = .returned v ∧ Gr y z ∧ (lenF 0).holds v z) (e5 : a0.eval (.tmp 5) = .pointer (some ⟨d, 0, none⟩)) (e7 : a0.eval (.tmp 7) = .slice (some ⟨g, of, none⟩) n cap) (e8 : a0.eval (.tmp 8) = .int .i64 (k : Int)) (hend : ∀ ac wz, After [68, 69, 70, 71, 72, 73, 74, 75] a0 ac → ac.eval (.tmp 75) = .bool true → Gr w wz → Q .normal ac wz) : RW 15 q17_15 true Q a0 w := by
  refine drawn_by (by kernel_rfl) (by kernel_rfl) (by kernel_rfl) [68, 69, 70, 71, 72, 73, 74, 75] (fun | 68 => .val (.agg (intV cl).toArray) | 69 => .val (.slice (some ⟨g, of, none⟩) n cap) | 70 => .val (.int .i64 (k : Int)) | 71 => .val (.pointer (some ⟨g, of + k, none⟩)) | 72 => .val (.int .i64 x) | 73 => lenF 0 | 74 => .val (.int .i64 (0 : Int)) | 75 => .val (.bool true) | _ => .any) (by kernel_rfl) (fmc ⟨?s0, fmc ⟨?s1, fmc ⟨?s2, fmc ⟨?s3, fmc ⟨?s4, fmc ⟨?s5, fmc ⟨?s6, fmc ⟨?s7, fun o ho => nomatch ho⟩⟩⟩⟩⟩⟩⟩⟩) ?e
  case s0 => exact sa_row 43 (.tmp 5) 68 d (0) 8 _ (intV cl) rfl rfl rfl Tryz.underlying43 rfl siz43 c8 (.old 5 _ (by decide) e5) (fun y hy => range_of (hd.below hy hd.lt)) rfl
  case s1 => exact sa_mo 7 69 e7
  case s2 => exact sa_mo 8 70 e8
  case s3 => exact sa_ixa 30 (.tmp 69) (.tmp 70) 71 (.slice (some ⟨g, of, none⟩) n cap) (.int .i64 (k : Int)) (.pointer (some ⟨g, of + k, none⟩)) rfl rfl rfl (.nw 69 hz) (.nw 70 hz) (ix_slice (sz := 1) Tryz.underlying30 (by intro w; kernel_rfl) (by omega) (by omega)) rfl
  case s4 => exact sa_loadc 3 (.tmp 71) 72 (g) (of + k) (.int .i64 x) rfl rfl rfl (by intro w; kernel_rfl) (.nw 71 hz) hX rfl
  case s5 => exact sa_callF2 45 (.tmp 68) (.tmp 72) _ 73 (.agg (intV cl).toArray) (.int .i64 x) (lenF 0) rfl rfl rfl (.nw 68 hz) (.nw 72 hz) (enters_of Tryz.func45 (by kernel_rfl) rfl) hOw rfl
  case s6 => exact sa_lenF 30 (.tmp 73) 74 0 rfl rfl rfl (.nw 73 hz) (by intro a c y; kernel_rfl) rfl
  case s7 => exact sa_bin .eql 3 (.tmp 74) (.const _) 3 75 (.int .i64 (0 : Int)) (.int .i64 0) (.bool true) rfl rfl rfl (.nw 74 hz) (.const _) guard_int (bin_eql (decide_eq_true (by omega))) rfl
  case e =>
  intro ac wz hA hgr hv
  exact hend ac wz hA (hw hv hz 75) hgr
theorem r17_16 (hz : a0.tmps.size = 87) (b e : Nat) (m : Mb) (u : Value) (r : Rg) (hC : Holds w b (ringC u r) 28) (hR : RingAt w.heap.size w u r) (k n cap g of : Nat) (x : Int) (hk : k < n) (hX : ∀ y, Gr w y → y.cell? ⟨g, of + k, none⟩ = some (.int .i64 x)) (hM : Holds w e (mbV m) 53) (hv : m.2.2 < 18446744073709551616) (hP : ∀ y, Gr w y → Calls Tryz.prog 40 #[.agg (ringC u r).toArray, .agg (mbV (x, 3, moreN m.2.2)).toArray] y fun e z => ∃ v, e = .returned v ∧ Gr y z ∧ (ringF w.heap.size (putR r (x, 3, moreN m.2.2))).holds v z) (e2 : a0.eval (.tmp 2) = .pointer (some ⟨b, 0, none⟩)) (e7 : a0.eval (.tmp 7) = .slice (some ⟨g, of, none⟩) n cap) (e8 : a0.eval (.tmp 8) = .int .i64 (k : Int)) (e9 : a0.eval (.tmp 9) = .pointer (some ⟨e, 0, none⟩)) (hend : ∀ ac wz, After [76, 77, 78, 79, 80, 81, 82, 83, 84, 85] a0 ac → Bf w.heap.size wz b (putR r (x, 3, moreN m.2.2)) → Upd b w wz → Q .normal ac wz) : RW 16 q17_16 true Q a0 w := by
  refine drawn_tail (by kernel_rfl) (by kernel_rfl) 10 (by decide) (by kernel_rfl) (by kernel_rfl) [76, 77, 78, 79, 80, 81, 82, 83, 84, 85] (fun | 76 => .val (.agg (ringC u r).toArray) | 77 => .val (.slice (some ⟨g, of, none⟩) n cap) | 78 => .val (.int .i64 (k : Int)) | 79 => .val (.pointer (some ⟨g, of + k, none⟩)) | 80 => .val (.int .i64 x) | 81 => .val (.pointer (some ⟨e, 2, none⟩)) | 82 => .val (.int .u64 (m.2.2 : Int)) | 83 => .val (.int .u64 (moreN m.2.2 : Int)) | 84 => .val (.agg (mbV (x, 3, moreN m.2.2)).toArray) | 85 => ringF w.heap.size (putR r (x, 3, moreN m.2.2)) | _ => .any) (by kernel_rfl) (fmc ⟨?s0, fmc ⟨?s1, fmc ⟨?s2, fmc ⟨?s3, fmc ⟨?s4, fmc ⟨?s5, fmc ⟨?s6, fmc ⟨?s7, fmc ⟨?s8, fmc ⟨?s9, fun o ho => nomatch ho⟩⟩⟩⟩⟩⟩⟩⟩⟩⟩) ?e
  case s0 => exact sa_row 28 (.tmp 2) 76 b (0) 17 _ (ringC u r) rfl rfl rfl Tryz.underlying28 rfl siz28 (ringC_len hR) (.old 2 _ (by decide) e2) (fun y hy => range_of (hC.below hy hC.lt)) rfl
  case s1 => exact sa_mo 7 77 e7
  case s2 => exact sa_mo 8 78 e8
  case s3 => exact sa_ixa 30 (.tmp 77) (.tmp 78) 79 (.slice (some ⟨g, of, none⟩) n cap) (.int .i64 (k : Int)) (.pointer (some ⟨g, of + k, none⟩)) rfl rfl rfl (.nw 77 hz) (.nw 78 hz) (ix_slice (sz := 1) Tryz.underlying30 (by intro w; kernel_rfl) (by omega) (by omega)) rfl
  case s4 => exact sa_loadc 3 (.tmp 79) 80 (g) (of + k) (.int .i64 x) rfl rfl rfl (by intro w; kernel_rfl) (.nw 79 hz) hX rfl
  case s5 => exact sa_fa 53 (.tmp 9) 2 81 (.pointer (some ⟨e, 0, none⟩)) (.pointer (some ⟨e, 2, none⟩)) rfl rfl rfl (.old 9 _ (by decide) e9) (by intro w; kernel_rfl) rfl
  case s6 => exact sa_loadc 23 (.tmp 81) 82 (e) (2) (.int .u64 (m.2.2 : Int)) rfl rfl rfl (by intro w; kernel_rfl) (.nw 81 hz) (fun y hy => (hM.below hy hM.lt).at 2 _ rfl) rfl
  case s7 => exact sa_call1 41 (.tmp 82) _ 83 (.val (.int .u64 (m.2.2 : Int))) rfl rfl rfl (.nw 82 hz) (enters_of Tryz.func41 (by kernel_rfl) rfl) (fun v0 y hgy q0 => by rw [show v0 = _ from q0]; exact (rmore_any m.2.2 hv y).mono fun e z ⟨e1, e2⟩ => ⟨_, e1, e2, rfl⟩)
  case s8 => exact sa_bd3 53 0 1 2 (.tmp 80) (.const _) (.tmp 83) 84 (.int .i64 x) (.int .i64 3) (.int .u64 (moreN m.2.2 : Int)) (.agg (mbV (x, 3, moreN m.2.2)).toArray) rfl rfl rfl (.nw 80 hz) (.const _) (.nw 83 hz) (by intro w; kernel_rfl) rfl
  case s9 => exact sa_callF2 40 (.tmp 76) (.tmp 84) _ 85 (.agg (ringC u r).toArray) (.agg (mbV (x, 3, moreN m.2.2)).toArray) (ringF w.heap.size (putR r (x, 3, moreN m.2.2))) rfl rfl rfl (.nw 76 hz) (.nw 84 hz) (enters_of Tryz.func40 (by kernel_rfl) rfl) hP rfl
  case e =>
  intro ac wz hA hgr hv
  have o85 := hw hv hz 85
  have o2 : ac.eval (.tmp 2) = .pointer (some ⟨b, 0, none⟩) := (hA.old 2 (by decide)).trans e2
  refine wpl_store_ring rfl (.tmp 2) (.tmp 85) rfl rfl b w.heap.size o2 (putR r (x, 3, moreN m.2.2)) o85 (ringC u r) (hC.below hgr hC.lt) (ringC_len hR) hC.lt (fun w3 h3 u3 _ => ?_)
  exact wl_end (hend _ w3 hA h3 ((Gr.upd hgr).trans u3))
def cP_a : Code := (((Code.region 6 q17_6 false).seq (Code.cond (.tmp 28) Code.skip (Code.exit 0))).seq ((Code.block 1 ((Code.region 8 q17_8 true).seq (Code.cond (.tmp 39) (Code.region 9 q17_9 true) Code.skip))).seq (Code.region 7 q17_7 false)))
def cP_l : Code := (Code.block 0 (cP_a.loop))
def cP_b : Code := (((Code.region 12 q17_12 false).seq (Code.cond (.tmp 59) Code.skip (Code.exit 2))).seq ((Code.block 3 ((Code.region 14 q17_14 true).seq ((Code.region 15 q17_15 true).seq (Code.cond (.tmp 75) (Code.region 16 q17_16 true) Code.skip)))).seq (Code.region 13 q17_13 false)))
def cP_m : Code := (Code.block 2 (cP_b.loop))
def cP : Code := ((Code.region 0 q17_0 false).seq ((Code.region 1 q17_1 false).seq (((Code.region 2 q17_2 false).seq (Code.cond (.tmp 19) ((Code.region 3 q17_3 false).seq Code.ret) Code.skip)).seq ((Code.region 4 q17_4 true).seq (((Code.region 5 q17_5 false).seq cP_l).seq ((Code.region 10 q17_10 false).seq (((Code.region 11 q17_11 false).seq cP_m).seq ((Code.region 17 q17_17 false).seq Code.ret))))))))
theorem r17_0 (hz : a0.tmps.size = 87) (b : Nat) (hb : w.heap.size = b) (v : Value) (r : Rg) (e0 : a0.eval (.tmp 0) = .agg (ringC v r).toArray) (hend : ∀ ac w1 wz, After [4, 2] a0 ac → ac.eval (.tmp 2) = .pointer (some ⟨b, 0, none⟩) → ac.eval (.tmp 4) = .pointer (some ⟨b + 1, 0, none⟩) → Anew b w w1 (ringC v r) 28 → Anew (b + 1) w1 wz (ringC (.slice none 0 0) ([], noOs)) 28 → Q .normal ac wz) : RW 0 q17_0 false Q a0 w := by
  refine wp_region_list ?_
  refine wpList_box_new 2 rfl rfl 28 (.tmp 0) rfl b hb _ e0 ?_
  intro w1 h1
  refine wpList_alloc_new 4 rfl rfl 28 rfl (b + 1) h1.size _ zero28 ?_
  intro w2 h2
  refine wl_end (hend _ w1 w2 (((After.self a0).put 2 _).put 4 _) ?_ ?_ h1 h2)
  · simp [ev_put, put_size, hz]
  · simp [ev_put, put_size, hz]
structure Pl (w : World) (b d : Nat) (cl : List Int) (u : Value) (r : Rg) (ac : Act) (x : World) : Prop where
  z : ac.tmps.size = 87
  df : ac.defers = []
  e2 : ac.eval (.tmp 2) = .pointer (some ⟨b, 0, none⟩)
  e4 : ac.eval (.tmp 4) = .pointer (some ⟨b + 1, 0, none⟩)
  e5 : ac.eval (.tmp 5) = .pointer (some ⟨d, 0, none⟩)
  hb : Holds x b (ringC u r) 28
  hR : RingAt x.heap.size x u r
  hf : Fresh (b + 2) u
  h4 : Holds x (b + 1) (ringC (.slice none 0 0) ([], noOs)) 28
  h5 : Holds x d (intV cl) 43
  bl : Below b w x
  bd : b + 2 ≤ d
theorem Pl.gr {w x y : World} {b d : Nat} {cl : List Int} {u : Value} {r : Rg} {ac ad : Act} {D : List Nat} (h : Pl w b d cl u r ac x) (hA : After D ac ad) (hD : (D.all fun s => decide (6 ≤ s)) = true) (g : Gr x y) : Pl w b d cl u r ad y :=
  ⟨hA.size.trans h.z, hA.defers.trans h.df, hA.keep hD (by omega) h.e2, hA.keep hD (by omega) h.e4, hA.keep hD (by omega) h.e5, h.hb.below g h.hb.lt, (h.hR.below g).mono g.size, h.hf, h.h4.below g h.h4.lt, h.h5.below g h.h5.lt, h.bl.trans (g.mono (Nat.le_of_lt h.hb.lt)), h.bd⟩
theorem Pl.own {w x y : World} {b d : Nat} {cl : List Int} {u : Value} {ms : List Mb} {os os' : List Ow} {ac ad : Act} {D : List Nat} (h : Pl w b d cl u (ms, os) ac x) (hA : After D ac ad) (hD : (D.all fun s => decide (6 ≤ s)) = true) (hc : Holds y b (ringC u (ms, os')) 28) (h8 : os'.length = 8) (hu : Upd b x y) : Pl w b d cl u (ms, os') ad y :=
  have h1 := h.bd
  ⟨hA.size.trans h.z, hA.defers.trans h.df, hA.keep hD (by omega) h.e2, hA.keep hD (by omega) h.e4, hA.keep hD (by omega) h.e5, hc, ⟨((ring_upd h.hR h.hf hu (Nat.le_refl _) (by omega)).mono hu.size).mem, h8⟩, h.hf, h.h4.upd hu (by omega), h.h5.upd hu (by omega), h.bl.trans (hu.below (Nat.le_refl _) (Nat.le_of_lt h.hb.lt)), h1⟩
theorem Pl.ring {w x y : World} {b d F : Nat} {cl : List Int} {u : Value} {r r' : Rg} {ac ad : Act} {D : List Nat} (h : Pl w b d cl u r ac x) (hA : After D ac ad) (hD : (D.all fun s => decide (6 ≤ s)) = true) (hB : Bf F y b r') (hF : b + 2 ≤ F) (hu : Upd b x y) : ∃ u', Pl w b d cl u' r' ad y := by
  have h1 := h.bd
  obtain ⟨u', H, R, f⟩ := hB
  exact ⟨u', hA.size.trans h.z, hA.defers.trans h.df, hA.keep hD (by omega) h.e2, hA.keep hD (by omega) h.e4, hA.keep hD (by omega) h.e5, H, R, f.mono hF, h.h4.upd hu (by omega), h.h5.upd hu (by omega), h.bl.trans (hu.below (Nat.le_refl _) (Nat.le_of_lt h.hb.lt)), h1⟩
set_option maxHeartbeats 1000000 in
theorem plan_l {Q : Exit → Act → World → Prop} {w x : World} {b d : Nat} {cl : List Int} {u : Value} {ms : List Mb} {os : List Ow} {ac : Act} (h8 : os.length = 8) (c8 : cl.length = 8) (hv : ∀ j, j < 8 → (os.getD j noO).2 < 18446744073709551616) (h : Pl w b d cl u (ms, os) ac x) (e6 : ac.eval (.tmp 6) = .int .i64 ((0 : Nat) : Int))
    (hend : ∀ ad y, Pl w b d cl u (ms, planOs cl os 8) ad y → Q .normal ad y) : cP_l.wp Tryz.prog Q ac x := by
  unfold cP_l
  refine wp_block ?_
  refine wp_loop (fun ad y => ∃ k : Nat, Pl w b d cl u (ms, planOs cl os k) ad y ∧ k ≤ 8 ∧ ad.eval (.tmp 6) = .int .i64 (k : Int)) (fun ad _ => 8 - (intOf (ad.eval (.tmp 6))).toNat)
    ⟨0, by rw [planOs_zero cl os h8]; exact h, by omega, e6⟩ (fun a0 x0 ⟨k, h0, hk, f6⟩ => ?_)
  unfold cP_a
  refine wp_seq (wp_seq (r17_6 h0.z k f6 (fun a1 x1 A1 o28 G1 => ?_)))
  have h1 := h0.gr A1 (by decide) G1
  have g6 := A1.get f6 (by decide)
  show Code.wp Tryz.prog (Code.cond _ _ _) _ a1 x1
  refine wp_cond_split o28 (fun q => ?_) (fun q => ?_)
  · have q : (k : Int) < 8 := of_decide_eq_true q
    have hk8 : k < 8 := by omega
    have hs := planOs_succ cl os k
    have hat := planOs_at cl os k hk8
    have hl := planOs_len cl os k
    rw [← hat] at hs
    have hvk : ((planOs cl os k).getD k noO).2 < 18446744073709551616 := by rw [hat]; exact hv k hk8
    generalize planOs cl os k = mx at *
    have mea : ∀ a8 : Act, a8.eval (.tmp 6) = .int .i64 ((k + 1 : Nat) : Int) → 8 - (intOf (a8.eval (.tmp 6))).toNat < 8 - (intOf (a0.eval (.tmp 6))).toNat := fun a8 o6' => by
      rw [o6', f6]
      simp only [intOf]
      omega
    have hself : mx.set k (mx.getD k noO) = mx := by
      rw [List.getD_eq_getElem?_getD, List.getElem?_eq_getElem (by omega)]
      exact List.set_getElem_self (by omega)
    refine wp_skip ?_
    show Code.wp Tryz.prog (Code.seq _ _) _ a1 x1
    refine wp_seq (wp_block (wp_seq (r17_8 h1.z k b d u ms mx cl hk8 hl h1.hb h1.h5 c8 g6 h1.e2 h1.e5 (fun a2 x2 A2 o39 G2 => ?_))))
    have h2 := h1.gr A2 (by decide) G2
    have i6 := A2.get g6 (by decide)
    show Code.wp Tryz.prog (Code.cond _ _ _) _ a2 x2
    refine wp_cond_split o39 (fun q => ?_) (fun q => ?_)
    · have q : ¬ (mx.getD k noO).1 = cl.getD k 0 := of_decide_eq_true q
      unfold planO at hs
      rw [if_neg (fun e => q e.symm)] at hs
      refine r17_9 h2.z k b d u ms mx cl hk8 hl h2.hb h2.h5 c8 hvk i6 h2.e5 h2.e2 (fun a3 x3 A3 H3 U3 => ?_)
      rw [← hs] at H3
      have h3 := h2.own A3 (by decide) H3 (planOs_len _ _ _) U3
      show Code.wp Tryz.prog (Code.region 7 q17_7 false) _ a3 x3
      refine r17_7 h3.z k (by omega) (A3.get i6 (by decide)) (fun a4 x4 A4 o6' G4 => ?_)
      exact ⟨⟨k + 1, h3.gr A4 (by decide) G4, by omega, o6'⟩, mea a4 o6'⟩
    · have q : (mx.getD k noO).1 = cl.getD k 0 := by have := of_decide_eq_false q; omega
      unfold planO at hs
      rw [if_pos q.symm, hself] at hs
      rw [← hs] at h2
      refine wp_skip ?_
      show Code.wp Tryz.prog (Code.region 7 q17_7 false) _ a2 x2
      refine r17_7 h2.z k (by omega) i6 (fun a4 x4 A4 o6' G4 => ?_)
      exact ⟨⟨k + 1, h2.gr A4 (by decide) G4, by omega, o6'⟩, mea a4 o6'⟩
  · have q : ¬ (k : Int) < 8 := of_decide_eq_false q
    obtain rfl : k = 8 := by omega
    exact wp_exit (hend a1 x1 h1)
def stepF (r : Rg) (n : Int) : Rg := putR r (n, 3, moreN (findM r.1 n).2.2)
set_option maxHeartbeats 1000000 in
theorem plan_m {Q : Exit → Act → World → Prop} {w x : World} {b d N : Nat} {cl L : List Int} {u v7 : Value} {r : Rg} {ac : Act} (c8 : cl.length = 8) (hL : L.length ≤ 1000) (hfew : ∀ i, i ≤ L.length → ((L.take i).foldl stepF r).1.length ≤ 7) (hfit : ∀ i, i ≤ L.length → RFit ((L.take i).foldl stepF r)) (hno : ∀ x ∈ L, ∀ j, cl.getD j 0 ≠ x) (hN : b < N) (h : Pl w b d cl u r ac x) (e7 : ac.eval (.tmp 7) = v7) (own : x.ownsRow N 3 1 v7 L.length (intV L)) (e8 : ac.eval (.tmp 8) = .int .i64 ((0 : Nat) : Int))
    (hend : ∀ ad y u', Pl w b d cl u' (L.foldl stepF r) ad y → Q .normal ad y) : cP_m.wp Tryz.prog Q ac x := by
  unfold cP_m
  refine wp_block ?_
  refine wp_loop (fun ad y => ∃ (i : Nat) (u' : Value), Pl w b d cl u' ((L.take i).foldl stepF r) ad y ∧ y.ownsRow N 3 1 v7 L.length (intV L) ∧ i ≤ L.length ∧ ad.eval (.tmp 7) = v7 ∧ ad.eval (.tmp 8) = .int .i64 (i : Int)) (fun ad _ => L.length - (intOf (ad.eval (.tmp 8))).toNat)
    ⟨0, u, h, own, Nat.zero_le _, e7, e8⟩ (fun a0 x0 ⟨i, u', h0, own0, hi, f7, f8⟩ => ?_)
  obtain ⟨a7, c7, hv7⟩ := row_slice own0
  unfold cP_b
  refine wp_seq (wp_seq (r17_12 h0.z i L.length c7 a7 f8 (by rw [f7, hv7]) (fun a1 x1 A1 o59 G1 => ?_)))
  have h1 := h0.gr A1 (by decide) G1
  have own1 := owns_gr own0 G1
  have g7 := A1.get f7 (by decide)
  have g8 := A1.get f8 (by decide)
  show Code.wp Tryz.prog (Code.cond _ _ _) _ a1 x1
  refine wp_cond_split o59 (fun q => ?_) (fun q => ?_)
  · have q : (i : Int) < L.length := of_decide_eq_true q
    have hil : i < L.length := by omega
    have htk : L.take (i + 1) = L.take i ++ [L.getD i 0] := by
      rw [List.take_succ_eq_append_getElem hil, List.getD_eq_getElem?_getD, List.getElem?_eq_getElem hil]; rfl
    have hfold : (L.take (i + 1)).foldl stepF r = stepF ((L.take i).foldl stepF r) (L.getD i 0) := by rw [htk, List.foldl_append]; rfl
    have hmem : L.getD i 0 ∈ L := by
      rw [List.getD_eq_getElem?_getD, List.getElem?_eq_getElem hil]
      exact List.getElem_mem hil
    have hnoi := hno _ hmem
    have hfi := hfew i hi
    have hft := hfit i hi
    generalize (L.take i).foldl stepF r = R at *
    have hcx : ∀ y, Gr x1 y → ∃ g of cap, v7 = .slice (some ⟨g, of, none⟩) L.length cap ∧ y.cell? ⟨g, of + i, none⟩ = some (.int .i64 (L.getD i 0)) := fun y hy => by
      obtain ⟨g, of, cap, hv, hg, hc⟩ := ints_at (own_ints own1) i hil
      exact ⟨g, of, cap, hv, cell_below hy hg hc⟩
    obtain ⟨g, of, cap, hv, hg, hc⟩ := ints_at (own_ints own1) i hil
    have hX : ∀ y, Gr x1 y → y.cell? ⟨g, of + i, none⟩ = some (.int .i64 (L.getD i 0)) := fun y hy => cell_below hy hg hc
    generalize L.getD i 0 = n at *
    refine wp_skip ?_
    show Code.wp Tryz.prog (Code.seq _ _) _ a1 x1
    refine wp_seq (wp_block (wp_seq (r17_14 h1.z b u' R h1.hb h1.hR i L.length cap g of n hil hX h1.e2 (by rw [g7, hv]) g8 (fun a2 x2 e A2 o9 H9 G2 => ?_))))
    have h2 := h1.gr A2 (by decide) G2
    have k7 := A2.get g7 (by decide)
    have k8 := A2.get g8 (by decide)
    show Code.wp Tryz.prog (Code.seq _ _) _ a2 x2
    refine wp_seq (r17_15 h2.z d cl (by rw [intV_len, c8]) h2.h5 i L.length cap g of n hil (fun y hy => hX y (G2.trans hy)) (fun y _ => owned_none cl c8 n hnoi y) h2.e5 (by rw [k7, hv]) k8 (fun a3 x3 A3 o75 G3 => ?_))
    have h3 := h2.gr A3 (by decide) G3
    have j7 := A3.get k7 (by decide)
    have j8 := A3.get k8 (by decide)
    have j9 := A3.get o9 (by decide)
    have hG13 := G2.trans G3
    show Code.wp Tryz.prog (Code.cond _ _ _) _ a3 x3
    refine wp_cond_split o75 (fun _ => ?_) (fun q => by cases q)
    refine r17_16 h3.z b e (findM R.1 n) u' R h3.hb h3.hR i L.length cap g of n hil (fun y hy => hX y (hG13.trans hy)) (H9.below G3 H9.lt) (find_fit R hft n) (fun y hy => (put_any u' R _ y (by omega) ((h3.hR.below hy).mono hy.size)).mono fun _ _ ⟨v5, q1, q2, q3, q4⟩ => ⟨_, q1, q4, v5, rfl, q2, q3.mono hy.size⟩) h3.e2 (by rw [j7, hv]) j8 j9 (fun a4 x4 A4 B4 U4 => ?_)
    obtain ⟨u4, h4⟩ := h3.ring A4 (by decide) B4 (by have := h3.h5.lt; have := h3.bd; omega) U4
    have own4 := owns_updb (owns_gr own1 hG13) U4 hN
    show Code.wp Tryz.prog (Code.region 13 q17_13 false) _ a4 x4
    refine r17_13 h4.z i (by omega) (A4.get j8 (by decide)) (fun a5 x5 A5 o8' G5 => ?_)
    refine ⟨⟨i + 1, u4, by rw [hfold]; exact h4.gr A5 (by decide) G5, owns_gr own4 G5, by omega, A5.get (A4.get j7 (by decide)) (by decide), o8'⟩, ?_⟩
    rw [o8', f8]
    simp only [intOf]
    omega
  · have q : ¬ (i : Int) < L.length := of_decide_eq_false q
    have e : L.take i = L := List.take_of_length_le (by omega)
    rw [e] at h1
    exact wp_exit (hend a1 x1 u' h1)
theorem planO_fit (cl : List Int) (os : List Ow) (hv : ∀ j, j < 8 → (os.getD j noO).2 < 18446744073709551616) (j : Nat) (hj : j < 8) : ((planOs cl os 8).getD j noO).2 < 18446744073709551616 := by
  rw [planOs_all cl os j hj]
  unfold planO
  split
  · exact hv j hj
  · exact moreN_lt (hv j hj)
set_option maxHeartbeats 1000000 in
theorem rplan_any (v : Value) (r : Rg) (hF : RFit r) (node : Int) (w : World) (hR : RingAt w.heap.size w v r) : Calls Tryz.prog 17 #[.agg (ringC v r).toArray, .int .i64 node] w (RetN w (rplanL r node)) := by
  obtain ⟨b, hwb⟩ : ∃ b, w.heap.size = b := ⟨_, rfl⟩
  rw [hwb] at hR
  have hfit := norm_fit hF
  have hn8 : (normL r).2.length = 8 := mergeO_len _
  have hgr : ∀ y, Below b w y → Gr w y := fun y hy => by unfold Gr; rw [hwb]; exact hy
  have hRP : rplanL r node = if node = 0 ∨ claimantL (normL r) ≠ node then normL r else (membersL ((normL r).1, planOs (claimL (ownersL (normL r)) (membersL (normL r) [1])) (normL r).2 8) [2]).foldl stepF ((normL r).1, planOs (claimL (ownersL (normL r)) (membersL (normL r) [1])) (normL r).2 8) := rfl
  have hturn : ∀ os, os.length = 8 → (∀ j, j < 8 → So (os.getD j noO)) → ∀ ns, (∀ n ∈ ns, 1 ≤ n ∧ n ≤ 7) → ns.foldl stepF ((normL r).1, os) = (risL (turnK (bestL r.1) 3 ns), os) := fun os h8 hso ns hns => find_turn (bestL r.1) (bestL_right r.1) os h8 hso ns hns
  have hkfit : KFit (bestL r.1) := bestL_fit hF.mem
  have hpso := plan_so r
  have hlen1 : (membersL (normL r) [1]).length ≤ 1000 := by
    unfold membersL selL
    rw [List.length_map]
    have : (normL (normL r)).1.length ≤ 7 := risL_len _
    exact Nat.le_trans (List.length_filter_le _ _) (by omega)
  have hnone : ∀ os, ∀ x ∈ membersL ((normL r).1, os) [2], ∀ j, (claimL (ownersL (normL r)) (membersL (normL r) [1])).getD j 0 ≠ x := fun os x hx => leaving_none (normL r) (show x ∈ membersL (normL r) [2] from hx)
  refine calls_by (c := cP) Tryz.func17 (by kernel_rfl) 87 (by rw [Tryz.ntmps17]; rfl) (fun ac z df hv => ?_)
  have e0 := hv 0 _ rfl
  have e1 := hv 1 _ rfl
  clear hv
  unfold cP
  refine wp_seq (r17_0 z b hwb v r e0 (fun a1 w1 x1 A1 o2 o4 N1 N2 => ?_))
  have z1 := A1.size.trans z
  have s1 : x1.heap.size = b + 2 := N2.size
  have hB1 : Below b w x1 := N1.below.trans (N2.below.mono (by omega))
  show Code.wp Tryz.prog (Code.seq _ _) _ a1 x1
  refine wp_seq (r17_1 z1 b v r (N1.holds.below N2.below (by omega)) ((hR.below hB1).mono (by omega)) o2 (fun a2 x2 A2 B2 U2 => ?_))
  have z2 := A2.size.trans z1
  have f2 := A2.get o2 (by decide)
  have f4 := A2.get o4 (by decide)
  have f1 := A2.get (A1.get e1 (by decide)) (by decide)
  have H4 : Holds x2 (b + 1) (ringC (.slice none 0 0) ([], noOs)) 28 := N2.holds.upd U2 (by omega)
  have hB2 : Below b w x2 := hB1.trans (U2.below (Nat.le_refl _) (by omega))
  have hs2 : b + 2 ≤ x2.heap.size := by have := U2.size; omega
  rw [s1] at B2
  have df2 : a2.defers = [] := A2.defers.trans (A1.defers.trans df)
  obtain ⟨u, H2, R2, F2⟩ := B2
  generalize rplanL r node = RP at *
  generalize hnr : normL r = nr at *
  show Code.wp Tryz.prog (Code.seq (Code.seq _ _) _) _ a2 x2
  have stay : ∀ (K : Act → World → Prop) a4 x4 D, After D a2 a4 → (D.all fun s => decide (5 ≤ s)) = true → Gr x2 x4 → RP = nr → ((Code.region 3 q17_3 false).seq Code.ret).wp Tryz.prog (Exit.then K (bodyPost Tryz.prog Tryz.f17 (RetN w RP))) a4 x4 := fun K a4 x4 D A4 hD G4 hrg => by
    rw [hrg]
    have hG := G4.size
    refine wp_seq (r17_3 (A4.size.trans z2) b (b + 1) (b + 2) u nr (H2.below G4 H2.lt) ((R2.below G4).mono G4.size) F2 _ (H4.below G4 H4.lt) noC_len (by omega) (A4.keep hD (by omega) f2) (A4.keep hD (by omega) f4) (fun a5 x5 A5 B5 U5 => ?_))
    obtain ⟨u5, h5, r5, f5⟩ := B5
    exact wp_ret (show bodyPost Tryz.prog Tryz.f17 (RetN w nr) .ret a5 x5 from ret_ring (p := 4) (b := b + 1) (by kernel_rfl) (A5.defers.trans (A4.defers.trans df2)) (A5.get (A4.keep hD (by omega) f4) (by decide)) ⟨u5, h5, r5, f5.mono (by omega)⟩ (hgr _ (hB2.trans ((G4.mono (by omega)).trans (U5.below (by omega) (by omega))))))
  by_cases c0 : node = 0
  · rw [if_pos (.inl c0)] at hRP
    refine wp_seq (wp_seq (r17_2a z2 node c0 f1 (fun a3 x3 A3 o19 G3 => ?_)))
    show Code.wp Tryz.prog (Code.cond _ _ _) _ a3 x3
    exact wp_cond_split o19 (fun _ => stay _ a3 x3 _ A3 (by decide) G3 hRP) (fun q => by cases q)
  · refine wp_seq (wp_seq (r17_2b z2 b node c0 u nr H2 R2 f1 f2 (fun a3 x3 A3 o19 G3 => ?_)))
    show Code.wp Tryz.prog (Code.cond _ _ _) _ a3 x3
    refine wp_cond_split o19 (fun q => ?_) (fun q => ?_)
    · rw [if_pos (.inr (of_decide_eq_true q))] at hRP
      exact stay _ a3 x3 _ A3 (by decide) G3 hRP
    · have q : claimantL nr = node := by have := of_decide_eq_false q; omega
      rw [if_neg (by intro p; rcases p with p | p; exact c0 p; exact p q)] at hRP
      have hG3 := G3.size
      refine wp_skip ?_
      show Code.wp Tryz.prog (Code.seq _ _) _ a3 x3
      refine wp_seq (r17_4 (A3.size.trans z2) b u nr (H2.below G3 H2.lt) ((R2.below G3).mono G3.size) hlen1 (A3.get f2 (by decide)) (fun a4 x4 d A4 o5 H5 hd G4 => ?_))
      have hcl8 : (claimL (ownersL nr) (membersL nr [1])).length = 8 := claim_len _ _ (owners_len nr)
      have hG4 := G4.size
      have hG24 := G3.trans G4
      have hp8 : (planOs (claimL (ownersL nr) (membersL nr [1])) nr.2 8).length = 8 := planOs_len _ _ _
      have hpv := planO_fit (claimL (ownersL nr) (membersL nr [1])) nr.2 hfit.own
      generalize claimL (ownersL nr) (membersL nr [1]) = cl at *
      have h4 : Pl w b d cl u (nr.1, nr.2) a4 x4 := ⟨A4.size.trans (A3.size.trans z2), A4.defers.trans (A3.defers.trans df2), A4.get (A3.get f2 (by decide)) (by decide), A4.get (A3.get f4 (by decide)) (by decide), o5, H2.below hG24 H2.lt, (R2.below hG24).mono hG24.size, F2, H4.below hG24 H4.lt, H5, hB2.trans (hG24.mono (by omega)), by omega⟩
      show Code.wp Tryz.prog (Code.seq (Code.seq _ cP_l) _) _ a4 x4
      refine wp_seq (wp_seq (r17_5 h4.z (fun a5 x5 A5 o6 G5 => ?_)))
      show Code.wp Tryz.prog cP_l _ a5 x5
      refine plan_l hn8 hcl8 hfit.own (h4.gr A5 (by decide) G5) o6 (fun a6 x6 h6 => ?_)
      generalize planOs cl nr.2 8 = os at *
      show Code.wp Tryz.prog (Code.seq _ _) _ a6 x6
      refine wp_seq (r17_10 h6.z b u (nr.1, os) h6.hb h6.hR h6.e2 (fun a7 x7 A7 o7 G7 => ?_))
      have h7 := h6.gr A7 (by decide) G7
      generalize hv7 : a7.eval (.tmp 7) = v7 at o7
      have own7 : x7.ownsRow x6.heap.size 3 1 v7 (membersL (nr.1, os) [2]).length (intV (membersL (nr.1, os) [2])) := o7
      have hmr : ∀ n ∈ membersL (nr.1, os) [2], 1 ≤ n ∧ n ≤ 7 := fun n hn => mem_members hn
      have hL7 : (membersL (nr.1, os) [2]).length ≤ 1000 := by
        unfold membersL selL
        rw [List.length_map]
        have : (normL (nr.1, os)).1.length ≤ 7 := risL_len _
        exact Nat.le_trans (List.length_filter_le _ _) (by omega)
      have hno := hnone os
      generalize membersL (nr.1, os) [2] = L at *
      have hfo : ∀ i, (L.take i).foldl stepF (nr.1, os) = (risL (turnK (bestL r.1) 3 (L.take i)), os) := fun i => hturn os hp8 hpso (L.take i) (fun n hn => hmr n (List.mem_of_mem_take hn))
      show Code.wp Tryz.prog (Code.seq (Code.seq _ cP_m) _) _ a7 x7
      refine wp_seq (wp_seq (r17_11 h7.z (fun a8 x8 A8 o8 G8 => ?_)))
      show Code.wp Tryz.prog cP_m _ a8 x8
      refine plan_m (N := x6.heap.size) hcl8 hL7 (fun i _ => by rw [hfo i]; exact risL_len _) (fun i _ => by
        rw [hfo i]
        refine ⟨fun m hm => risL_fit (turnK_right (by decide) _ (fun n hn => hmr n (List.mem_of_mem_take hn)) (bestL_right r.1)) (turnK_fit _ hkfit) m hm, fun j hj => hpv j hj⟩) hno h6.hb.lt (h7.gr A8 (by decide) G8) (A8.get hv7 (by decide)) (owns_gr own7 G8) o8 (fun a9 x9 u9 h9 => ?_)
      rw [← hRP] at h9
      show Code.wp Tryz.prog (Code.seq _ _) _ a9 x9
      refine wp_seq (r17_17 h9.z b (b + 1) (b + 2) u9 RP h9.hb h9.hR h9.hf _ h9.h4 noC_len (by omega) h9.e2 h9.e4 (fun a10 x10 A10 B10 U10 => ?_))
      obtain ⟨u10, hh, r10, f10⟩ := B10
      have hx9 := h9.hb.lt
      exact wp_ret (ret_ring (p := 4) (b := b + 1) (by kernel_rfl) (A10.defers.trans h9.df) (A10.get h9.e4 (by decide)) ⟨u10, hh, r10, f10.mono (by omega)⟩ (hgr _ (h9.bl.trans (U10.below (by omega) (by omega)))))
end Go.Proofs.YthmnjebmnocoiaaGreat.En

/- GossipMakes: what the law wants: rings that fit, contracts of both sides as facts, equal rows of owners. -/
namespace Go.Proofs.YthmnjebmnocoiaaGreat.En
open Go.RowKit

theorem join_fit {r : Rg} (h : RFit r) (n : Int) : RFit (joinL r n) := by
  unfold joinL
  split
  · rename_i q
    exact turn_fit h (by decide) (fun k hk => by rw [List.mem_singleton.1 hk]; exact (isN_iff n).1 q.1)
  · exact norm_fit h
theorem leave_fit {r : Rg} (h : RFit r) (n : Int) : RFit (leaveL r n) := by
  unfold leaveL
  split
  · rename_i q
    exact turn_fit h (by decide) (fun k hk => by rw [List.mem_singleton.1 hk]; exact joined_is q)
  · exact norm_fit h
theorem plan_fit {r : Rg} (h : RFit r) (n : Int) : RFit (planL r n) := by
  unfold planL
  split
  · exact norm_fit h
  · have t := turn_fit (norm_fit h) (s := 3) (by decide) (ns := membersL (normL r) [2]) (fun k hk => mem_members hk)
    exact ⟨t.mem, fun j hj => planO_fit _ _ t.own j hj⟩
theorem new_fit (n : Int) : RFit (newL n) := by
  by_cases h : 1 ≤ n ∧ n ≤ 7
  · rw [newL_eq n h]
    refine ⟨fun m hm => by rw [List.mem_singleton.1 hm]; show (1 : Nat) < _; omega, fun j hj => ?_⟩
    show ((newOs noOs n 8).getD j noO).2 < _
    unfold newOs
    rw [List.getD_eq_getElem?_getD, List.getElem?_map, List.getElem?_range hj]
    simp [hj]
  · unfold newL
    rw [if_neg (fun q => h ((isN_iff n).1 q))]
    exact noR_fit
theorem fresh0 (u : Value) : Fresh 0 u := fun _ _ => Nat.zero_le _
def RF (r : Rg) (e : Ending) (y z : World) : Prop := ∃ v, e = .returned v ∧ Gr y z ∧ (ringF 0 r).holds v z
theorem rf_of {e : Ending} {y z : World} {r : Rg} {u : Value} (e1 : e = .returned (.agg (ringC u r).toArray)) (R : RingAt z.heap.size z u r) (g : Gr y z) : RF r e y z := ⟨_, e1, g, u, rfl, R, fresh0 u⟩
section
variable (u : Value) (r : Rg) (hF : RFit r) (n : Int) (hn : I64 n) (y : World) (h : RingAt y.heap.size y u r)
include h in
theorem m_norm : Calls Tryz.prog 8 #[.agg (ringC u r).toArray] y fun e z => RF (normL r) e y z :=
  (norm_any u r y h).mono fun _ _ ⟨_, e1, e2, _, e4⟩ => rf_of e1 e2 e4
include h in
theorem m_rnorm : Calls Tryz.prog 9 #[.agg (ringC u r).toArray] y fun e z => RF (normL r) e y z :=
  (refNorm_any u r y h).mono fun _ _ ⟨_, e1, e2, _, e4⟩ => rf_of e1 e2 e4
include hF hn h in
theorem m_join : Calls Tryz.prog 12 #[.agg (ringC u r).toArray, .int .i64 n] y fun e z => RF (joinL r n) e y z :=
  (join_any u r hF n hn y h).mono fun _ _ ⟨_, e1, e2, _, e4⟩ => rf_of e1 e2 e4
include hF h in
theorem m_rjoin : Calls Tryz.prog 13 #[.agg (ringC u r).toArray, .int .i64 n] y fun e z => RF (joinL r n) e y z :=
  (rjoin_any u r hF n y h).mono fun _ _ ⟨_, e1, e2, _, e4⟩ => by rw [rjoin_eq] at e1 e2; exact rf_of e1 e2 e4
include hF hn h in
theorem m_leave : Calls Tryz.prog 14 #[.agg (ringC u r).toArray, .int .i64 n] y fun e z => RF (leaveL r n) e y z :=
  (leave_any u r hF n hn y h).mono fun _ _ ⟨_, e1, e2, _, e4⟩ => rf_of e1 e2 e4
include hF h in
theorem m_rleave : Calls Tryz.prog 15 #[.agg (ringC u r).toArray, .int .i64 n] y fun e z => RF (leaveL r n) e y z :=
  (rleave_any u r hF n y h).mono fun _ _ ⟨_, e1, e2, _, e4⟩ => by rw [rleave_eq] at e1 e2; exact rf_of e1 e2 e4
include hF h in
theorem m_plan : Calls Tryz.prog 16 #[.agg (ringC u r).toArray, .int .i64 n] y fun e z => RF (planL r n) e y z :=
  (plan_any u r hF n y h).mono fun _ _ ⟨_, e1, e2, e4⟩ => rf_of e1 e2 e4
include hF h in
theorem m_rplan : Calls Tryz.prog 17 #[.agg (ringC u r).toArray, .int .i64 n] y fun e z => RF (planL r n) e y z :=
  (rplan_any u r hF n y h).mono fun _ _ ⟨_, e1, e2, _, e4⟩ => by rw [rplan_eq] at e1 e2; exact rf_of e1 e2 e4
end
theorem m_new (n : Int) (y : World) : Calls Tryz.prog 18 #[.int .i64 n] y fun e z => RF (newL n) e y z :=
  (new_any n y).mono fun _ _ ⟨_, e1, e2, e4⟩ => rf_of e1 e2 e4
theorem m_rnew (n : Int) (y : World) : Calls Tryz.prog 19 #[.int .i64 n] y fun e z => RF (newL n) e y z :=
  (rnew_any n y).mono fun _ _ ⟨_, e1, e2, e4⟩ => rf_of e1 e2 e4
theorem c_same (r : Rg) (hF : RFit r) (v0 v1 : Value) (y : World) (q0 : (ringF 0 r).holds v0 y) (q1 : (ringF 0 r).holds v1 y) : Calls Tryz.prog 7 #[v0, v1] y fun e z => ∃ u, e = .returned u ∧ Gr y z ∧ (Fact.val (.bool true)).holds u z := by
  obtain ⟨a, rfl, R1, _⟩ := q0
  obtain ⟨b, rfl, R2, _⟩ := q1
  refine (lawSame_any a b r r hF hF y R1 R2).mono fun e z ⟨e1, e2⟩ => ⟨_, e1, e2, ?_⟩
  rw [same_if rfl]
  rfl
def twoF (l : List (Value × Rg)) : Fact := ⟨fun v y => ∃ g, v = .slice (some ⟨g, 0, none⟩) l.length l.length ∧ Holds y g (flatR l) 28, fun ⟨g, h1, h2⟩ k => ⟨g, h1, h2.below k h2.lt⟩⟩
theorem bs36 (ua ub : Value) (ra rb : Rg) (ha : ra.2.length = 8) (hb : rb.2.length = 8) (y : World) : ∃ q z, (Instr.buildSlice 36 2 #[(0, .agg (ringC ua ra).toArray), (1, .agg (ringC ub rb).toArray)]).run Tryz.prog y = .ok q z ∧ Gr y z ∧ (twoF [(ua, ra), (ub, rb)]).holds q z := by
  have la : (ringC ua ra).length = 17 := by show (ua :: ownV ra.2).length = 17; rw [List.length_cons, ownV_len, ha]
  have lb : (ringC ub rb).length = 17 := by show (ub :: ownV rb.2).length = 17; rw [List.length_cons, ownV_len, hb]
  have e := run_rings [ringC ua ra, ringC ub rb] (by simp [la, lb]) (Nat.zero_lt_succ _) (by show 2 ≤ 1000; omega) y #[(0, .agg (ringC ua ra).toArray), (1, .agg (ringC ub rb).toArray)] rfl
  refine ⟨_, _, e, Gr.alloc _ _, y.heap.size, rfl, ?_⟩
  have : flatR [(ua, ra), (ub, rb)] = [ringC ua ra, ringC ub rb].flatten := by simp [flatR]
  rw [this]
  exact heap_alloc_new _ _
theorem two_at {ua ub : Value} {ra rb : Rg} {y : World} (h1 : RingAt y.heap.size y ua ra) (h2 : RingAt y.heap.size y ub rb) : ∀ p ∈ [(ua, ra), (ub, rb)], RingAt y.heap.size y p.1 p.2 := by
  intro p hp
  rcases List.mem_cons.1 hp with rfl | hp
  · exact h1
  · rw [List.mem_singleton.1 hp]; exact h2
theorem m_merge (ua ub : Value) (ra rb : Rg) (v0 : Value) (y : World) (h1 : RingAt y.heap.size y ua ra) (h2 : RingAt y.heap.size y ub rb) (q0 : (twoF [(ua, ra), (ub, rb)]).holds v0 y) : Calls Tryz.prog 10 #[v0] y fun e z => RF (mergeL [ra, rb]) e y z := by
  obtain ⟨g, rfl, H⟩ := q0
  exact (merge_any [(ua, ra), (ub, rb)] g y H (two_at h1 h2) (by show 2 ≤ 1000; omega)).mono fun _ _ ⟨_, e1, e2, _, e4⟩ => rf_of e1 e2 e4
theorem m_rmerge (ua ub : Value) (ra rb : Rg) (v0 : Value) (y : World) (h1 : RingAt y.heap.size y ua ra) (h2 : RingAt y.heap.size y ub rb) (q0 : (twoF [(ua, ra), (ub, rb)]).holds v0 y) : Calls Tryz.prog 11 #[v0] y fun e z => RF (mergeL [ra, rb]) e y z := by
  obtain ⟨g, rfl, H⟩ := q0
  exact (rmerge_any [(ua, ra), (ub, rb)] g y H (two_at h1 h2) (by show 2 ≤ 1000; omega)).mono fun _ _ ⟨_, e1, e2, _, e4⟩ => rf_of e1 e2 e4
theorem two_fit {ra rb : Rg} (h1 : RFit ra) (h2 : RFit rb) : RFit (mergeL [ra, rb]) := merge_fit (by
  intro r hr
  rcases List.mem_cons.1 hr with rfl | hr
  · exact h1
  · rw [List.mem_singleton.1 hr]; exact h2)
section
variable (u : Value) (r : Rg) (sv : Value) (ss : List Int) (y : World) (h : RingAt y.heap.size y u r) (hI : Ints y.heap.size y sv ss) (hl : ss.length ≤ 9223372036854775807)
include h hI hl
theorem m_members : Calls Tryz.prog 20 #[.agg (ringC u r).toArray, sv] y fun e z => ∃ v, e = .returned v ∧ Gr y z ∧ (intsF (membersL r ss)).holds v z :=
  (members_any u r y.heap.size sv ss y (Nat.le_refl _) hI hl h).mono fun _ _ ⟨v, e1, e2, e3⟩ => ⟨v, e1, e3, own_ints e2⟩
theorem m_rmembers : Calls Tryz.prog 21 #[.agg (ringC u r).toArray, sv] y fun e z => ∃ v, e = .returned v ∧ Gr y z ∧ (intsF (membersL r ss)).holds v z :=
  (rmembers_any u r sv ss y h hI hl).mono fun _ _ ⟨v, e1, e2, e3⟩ => ⟨v, e1, e3, own_ints e2⟩
end
theorem same_bytes (ra rb : Rg) (ha : RFit ra) (hb : RFit rb) : decide (normL ra = normL rb) = ((Pk.strL (bytesR (normL ra))).toList == (Pk.strL (bytesR (normL rb))).toList) := by
  by_cases h : normL ra = normL rb
  · rw [h]; simp
  · rw [decide_eq_false h]
    symm
    rw [beq_eq_false_iff_ne]
    intro q
    refine h ?_
    have e1 := Rd.read_bytes (normL ra) (Rd.norm_wfit ha)
    have e2 := Rd.read_bytes (normL rb) (Rd.norm_wfit hb)
    rw [bytes_same] at e1 e2
    rw [← e1, ← e2]
    have q2 : bytesR (normL ra) = bytesR (normL rb) := by
      have h1 : (Pk.strL (bytesR (normL ra))).toList = bytesR (normL ra) := by simp [Pk.strL]
      have h2 : (Pk.strL (bytesR (normL rb))).toList = bytesR (normL rb) := by simp [Pk.strL]
      rw [h1, h2] at q; exact q
    rw [q2]
section
variable {P : Program} {ops : Array Oper} {Q : Exit → Act → World → Prop} {D : List Nat} {T : Nat → Fact} {a0 : Act} {w : World} {o : Oper}
theorem sa_bs2 (t n : Nat) (u v : Operand) (d : Nat) (s r : Value) (ho : o.op = .buildSlice t n #[(0, u), (1, v)]) (hd : o.dst = some d) (hg : o.guard = none) (h1 : Has ops D T a0 o u (Fact.val s)) (h2 : Has ops D T a0 o v (Fact.val r))
    (hr : ∀ y, ∃ q z, (Instr.buildSlice t n #[(0, s), (1, r)]).run P y = .ok q z ∧ Gr y z ∧ (T d).holds q z) : StepAt P ops D T a0 w Q o :=
  sa_of d hd hg fun f a y c => by
    have e1 : a.eval u = s := h1.get c
    have e2 : a.eval v = r := h2.get c
    obtain ⟨q, z, e3, e4, e5⟩ := hr y
    refine op_val q (y := z) ?_ ⟨_, rfl, e4, e5⟩
    unfold execOp
    simp only [ho, List.map_toArray, List.map_cons, List.map_nil, e1, e2, Sem.run_bind, e3, Sem.run_pure, Result.andThen_ok]
end
end Go.Proofs.YthmnjebmnocoiaaGreat.En

/- GossipMakes: the law's regions. By tools/gen_makes.py. -/
namespace Go.Proofs.YthmnjebmnocoiaaGreat.En
open Go.RowKit
theorem und43 : Tryz.prog.underlying 43 = some (.array 8 3) := by kernel_rfl
theorem inf3 : (Tryz.prog.info? 3).isSome = true := by kernel_rfl
theorem cells3 : Tryz.prog.cellsOf 3 = 1 := by kernel_rfl
theorem agg3 (w : World) : (isAgg 3).run Tryz.prog w = .ok false w := by kernel_rfl
theorem part_i (l : List Int) (j : Nat) (hj : j < l.length) (w : World) : (part 3 (intV l).toArray (j * 1)).run Tryz.prog w = .ok (.int .i64 (l.getD j 0)) w := by
  have e := intV_at l j hj
  simp only [part, Sem.run_bind, Result.andThen_ok, agg3 w]
  simp [e]
theorem items_i (l : List Int) (w : World) : ∀ (is : List Nat), (∀ j ∈ is, j < l.length) → (Op.eqItems 9999 3 1 (intV l).toArray (intV l).toArray is).run Tryz.prog w = .ok true w
  | [], _ => by simp [Op.eqItems]
  | j :: is, h => by
    have hj := h j (by simp)
    have hp := part_i l j hj w
    have ih := items_i l w is (fun k hk => h k (by simp [hk]))
    have he : (Op.equalIn 9999 3 (.int .i64 (l.getD j 0)) (.int .i64 (l.getD j 0))).run Tryz.prog w = .ok true w := by
      rw [run_equalIn_int w 9998 3 .i64 .i64 _ _ Tryz.underlying3]
      simp
    simp only [Op.eqItems, Sem.run_bind, hp, Result.andThen_ok, he]
    simpa using ih
theorem eql43 (l : List Int) (h : l.length = 8) (w : World) : (binOp .eql 43 (.agg (intV l).toArray) (.agg (intV l).toArray)).run Tryz.prog w = .ok (.bool true) w := by
  have e : (Op.equalIn 10000 43 (.agg (intV l).toArray) (.agg (intV l).toArray)).run Tryz.prog w = .ok true w := by
    obtain ⟨i, hi⟩ := Option.isSome_iff_exists.1 inf3
    rw [run_equalIn_array w 9999 _ _ und43 hi, cells3]
    exact items_i l w _ (fun j hj => by rw [h]; exact List.mem_range.1 hj)
  show (do let z ← Op.equal 43 (.agg (intV l).toArray) (.agg (intV l).toArray); pure (Value.bool z) : Sem Value).run Tryz.prog w = _
  rw [Sem.run_bind, show (Op.equal 43 (.agg (intV l).toArray) (.agg (intV l).toArray)).run Tryz.prog w = _ from e]
  rfl
theorem guard43 (xs ys : Array Value) (u v : Operand) (w : World) : (eqGuard .eql 43 u v (.agg xs) (.agg ys)).run Tryz.prog w = .ok () w := by kernel_rfl
theorem eql4 (b : Bool) (w : World) : (binOp .eql 4 (.bool b) (.bool b)).run Tryz.prog w = .ok (.bool true) w := by cases b <;> kernel_rfl
theorem guard4 (a b : Bool) (u v : Operand) (w : World) : (eqGuard .eql 4 u v (.bool a) (.bool b)).run Tryz.prog w = .ok () w := by kernel_rfl
theorem m_gsame (ua ub : Value) (ra rb : Rg) (fa : RFit ra) (fb : RFit rb) (y : World) (h1 : RingAt y.heap.size y ua ra) (h2 : RingAt y.heap.size y ub rb) : Calls Tryz.prog 28 #[.agg (ringC ua ra).toArray, .agg (ringC ub rb).toArray] y fun e z => e = .returned (.bool ((Pk.strL (bytesR (normL ra))).toList == (Pk.strL (bytesR (normL rb))).toList)) ∧ Gr y z :=
  (gsame_any ua ub ra rb y h1 h2).mono fun _ _ ⟨e1, e2⟩ => ⟨by rw [e1, same_bytes ra rb fa fb], e2⟩
theorem m_gbytes (u : Value) (r : Rg) (hF : RFit r) (y : World) (h : RingAt y.heap.size y u r) : Calls Tryz.prog 29 #[.agg (ringC u r).toArray] y fun e z => e = .returned (.string (Pk.strL (bytesR (normL r)))) ∧ Gr y z :=
  (gbytes_any u r hF y h).mono fun _ _ ⟨e1, e2⟩ => ⟨by rw [e1, bytes_same], e2⟩
end Go.Proofs.YthmnjebmnocoiaaGreat.En
