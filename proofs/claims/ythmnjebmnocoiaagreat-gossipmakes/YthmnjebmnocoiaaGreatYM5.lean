/- GsMkF, GsMkG. -/
import Derived.Test.YthmnjebmnocoiaaGreatYM4
/- The document's own ways with rings: same. By tools/gen_mk.py. -/
namespace Go.Proofs.YthmnjebmnocoiaaGreat.En
open Go.RowKit
set_option maxRecDepth 100000
variable {Q : Exit → Act → World → Prop} {a0 : Act} {w : World}
/-! Structs and arrays held against each other. -/
theorem eql_mbg (a b : Mb) (w : World) : (Op.equalIn 10000 53 (.agg (mbV a).toArray) (.agg (mbV b).toArray)).run Tryz.prog w = .ok (decide (a = b)) w := by
  obtain ⟨x1, x2, x3⟩ := a
  obtain ⟨y1, y2, y3⟩ := b
  show (Op.equalIn 10000 53 (.agg #[.int .i64 x1, .int .i64 x2, .int .u64 (x3 : Int)]) (.agg #[.int .i64 y1, .int .i64 y2, .int .u64 (y3 : Int)])).run Tryz.prog w = _
  rw [run_equalIn_agg w 9999 53 _ _ mbUnd mbHeld]
  have h := mbTypes
  cases hf : (Tryz.prog.fieldsOf 53).toList with
  | nil => rw [hf] at h; cases h
  | cons f fs =>
    rw [hf] at h
    simp only [List.map_cons, List.cons.injEq, Prod.mk.injEq, decide_eq_false_iff_not] at h
    cases fs with
    | nil => cases h.2
    | cons g fs =>
      simp only [List.map_cons, List.cons.injEq, Prod.mk.injEq, decide_eq_false_iff_not] at h
      cases fs with
      | nil => cases h.2.2
      | cons k fs =>
        simp only [List.map_cons, List.cons.injEq, Prod.mk.injEq, decide_eq_false_iff_not] at h
        obtain ⟨⟨a1, a2, a3⟩, ⟨b1, b2, b3⟩, ⟨c1, c2, c3⟩, h3⟩ := h
        obtain rfl : fs = [] := by cases fs with | nil => rfl | cons a b => cases h3
        by_cases e1 : x1 = y1
        · by_cases e2 : x2 = y2
          · by_cases e3 : x3 = y3
            · simp [Op.eqFields, go_sem, a1, a2, a3, b1, b2, b3, c1, c2, c3, Tryz.underlying3, Tryz.underlying23, e1, e2, e3]
            · have e3' : ¬ (x3 : Int) = (y3 : Int) := by omega
              simp [Op.eqFields, go_sem, a1, a2, a3, b1, b2, b3, c1, c2, c3, Tryz.underlying3, Tryz.underlying23, e1, e2, e3, e3']
          · simp [Op.eqFields, go_sem, a1, a2, a3, b1, b2, b3, Tryz.underlying3, e1, e2]
        · simp [Op.eqFields, go_sem, a1, a2, a3, Tryz.underlying3, e1]
theorem neq53 (a b : Mb) (w : World) : (binOp .neq 53 (.agg (mbV a).toArray) (.agg (mbV b).toArray)).run Tryz.prog w = .ok (.bool (!(decide (a = b)))) w := by
  show (do let z ← Op.equal 53 (.agg (mbV a).toArray) (.agg (mbV b).toArray); pure (Value.bool (!z)) : Sem Value).run Tryz.prog w = _
  rw [Sem.run_bind, show (Op.equal 53 (.agg (mbV a).toArray) (.agg (mbV b).toArray)).run Tryz.prog w = _ from eql_mbg a b w]
  rfl
theorem guard53 (xs ys : Array Value) (u v : Operand) (w : World) : (eqGuard .neq 53 u v (.agg xs) (.agg ys)).run Tryz.prog w = .ok () w := by kernel_rfl
theorem eql_owg (a b : Ow) (w : World) : (Op.equalIn 9999 25 (.agg #[.int .i64 a.1, .int .u64 (a.2 : Int)]) (.agg #[.int .i64 b.1, .int .u64 (b.2 : Int)])).run Tryz.prog w = .ok (decide (a = b)) w := by
  obtain ⟨x1, x3⟩ := a
  obtain ⟨y1, y3⟩ := b
  rw [run_equalIn_agg w 9998 25 _ _ owUnd owHeld]
  have h := owTypes
  cases hf : (Tryz.prog.fieldsOf 25).toList with
  | nil => rw [hf] at h; cases h
  | cons f fs =>
    rw [hf] at h
    simp only [List.map_cons, List.cons.injEq, Prod.mk.injEq, decide_eq_false_iff_not] at h
    cases fs with
    | nil => cases h.2
    | cons g fs =>
      simp only [List.map_cons, List.cons.injEq, Prod.mk.injEq, decide_eq_false_iff_not] at h
      obtain ⟨⟨a1, a2, a3⟩, ⟨b1, b2, b3⟩, h3⟩ := h
      obtain rfl : fs = [] := by cases fs with | nil => rfl | cons a b => cases h3
      by_cases e1 : x1 = y1
      · by_cases e3 : x3 = y3
        · simp [Op.eqFields, go_sem, a1, a2, a3, b1, b2, b3, Tryz.underlying3, Tryz.underlying23, e1, e3]
        · have e3' : ¬ (x3 : Int) = (y3 : Int) := by omega
          simp [Op.eqFields, go_sem, a1, a2, a3, b1, b2, b3, Tryz.underlying3, Tryz.underlying23, e1, e3, e3']
      · simp [Op.eqFields, go_sem, a1, a2, a3, Tryz.underlying3, e1]
theorem items_owg (a b : List Ow) (ha : a.length = 8) (hb : b.length = 8) (w : World) : ∀ (is : List Nat), (∀ j ∈ is, j < 8) → (Op.eqItems 9999 25 2 (ownV a).toArray (ownV b).toArray is).run Tryz.prog w = .ok (decide (∀ j ∈ is, a.getD j noO = b.getD j noO)) w
  | [], _ => by simp [Op.eqItems]
  | j :: is, h => by
    have hj := h j (by simp)
    have hpa := part_ow a j a[j] (List.getElem?_eq_getElem (by omega)) w
    have hpb := part_ow b j b[j] (List.getElem?_eq_getElem (by omega)) w
    have ih := items_owg a b ha hb w is (fun k hk => h k (by simp [hk]))
    have ea : a.getD j noO = a[j] := by rw [List.getD_eq_getElem?_getD, List.getElem?_eq_getElem (by omega)]; rfl
    have eb : b.getD j noO = b[j] := by rw [List.getD_eq_getElem?_getD, List.getElem?_eq_getElem (by omega)]; rfl
    by_cases e : a[j] = b[j]
    · have : (decide (∀ k ∈ j :: is, a.getD k noO = b.getD k noO)) = decide (∀ k ∈ is, a.getD k noO = b.getD k noO) := by
        simp only [List.mem_cons, forall_eq_or_imp, ea, eb, e, true_and]
      rw [this]
      simp only [Op.eqItems, Sem.run_bind, hpa, hpb, Result.andThen_ok, eql_owg, e, decide_true]
      simpa using ih
    · have : (decide (∀ k ∈ j :: is, a.getD k noO = b.getD k noO)) = false := by
        apply decide_eq_false
        intro q
        exact e (by rw [← ea, ← eb]; exact q j (by simp))
      rw [this]
      simp only [Op.eqItems, Sem.run_bind, hpa, hpb, Result.andThen_ok, eql_owg, e, decide_false]
      simp
theorem range_eq (a b : List Ow) (ha : a.length = 8) (hb : b.length = 8) : decide (∀ j ∈ List.range 8, a.getD j noO = b.getD j noO) = decide (a = b) := by
  by_cases e : a = b
  · subst e; simp
  · rw [decide_eq_false e]
    apply decide_eq_false
    intro q
    exact e (own_ext ha hb (fun j hj => q j (List.mem_range.2 hj)))
theorem equal26g (a b : List Ow) (ha : a.length = 8) (hb : b.length = 8) (w : World) : (Op.equalIn 10000 26 (.agg (ownV a).toArray) (.agg (ownV b).toArray)).run Tryz.prog w = .ok (decide (a = b)) w := by
  obtain ⟨i, hi⟩ := owInf
  rw [run_equalIn_array w 9999 _ _ osUnd hi, owCells]
  have hd : decide (∀ j ∈ List.range 8, a.getD j noO = b.getD j noO) = decide (a = b) := range_eq a b ha hb
  rw [← hd]
  exact items_owg a b ha hb w _ (fun j hj => List.mem_range.1 hj)
theorem eql26 (a b : List Ow) (ha : a.length = 8) (hb : b.length = 8) (w : World) : (binOp .eql 26 (.agg (ownV a).toArray) (.agg (ownV b).toArray)).run Tryz.prog w = .ok (.bool (decide (a = b))) w := by
  show (do let z ← Op.equal 26 (.agg (ownV a).toArray) (.agg (ownV b).toArray); pure (Value.bool z) : Sem Value).run Tryz.prog w = _
  rw [Sem.run_bind, show (Op.equal 26 (.agg (ownV a).toArray) (.agg (ownV b).toArray)).run Tryz.prog w = _ from equal26g a b ha hb w]
  rfl
theorem guard26 (xs ys : Array Value) (u v : Operand) (w : World) : (eqGuard .eql 26 u v (.agg xs) (.agg ys)).run Tryz.prog w = .ok () w := by kernel_rfl
theorem k_norm8 (u : Value) (r : Rg) (w y : World) (hg : Gr w y) (h : RingAt w.heap.size w u r) : Calls Tryz.prog 8 #[.agg (ringC u r).toArray] y fun e z => ∃ v, e = .returned v ∧ Gr y z ∧ (ringF w.heap.size (normL r)).holds v z :=
  (norm_any u r y ((h.below hg).mono hg.size)).mono fun _ _ ⟨v, e1, e2, e3, e4⟩ => ⟨_, e1, e4, v, rfl, e2, e3.mono hg.size⟩
def q47_0 : Array Oper := #[⟨some 4, .assign (.const (.bool false)), 4, "slices.go:20", #[], none⟩]
def q47_1 : Array Oper := #[⟨some 6, .move (.tmp 0), 22, "slices.go:21", #[], none⟩, ⟨some 7, .call ⟨.builtin .len, #[.tmp 6], #[22]⟩, 3, "slices.go:21", #[⟨0, .data⟩], none⟩, ⟨some 8, .move (.tmp 1), 22, "slices.go:21", #[], none⟩, ⟨some 9, .call ⟨.builtin .len, #[.tmp 8], #[22]⟩, 3, "slices.go:21", #[⟨2, .data⟩], none⟩, ⟨some 10, .binOp .neq 3 (.tmp 7) (.tmp 9) 3, 4, "slices.go:21", #[⟨1, .data⟩, ⟨3, .data⟩], none⟩]
def q47_2 : Array Oper := #[⟨some 4, .assign (.const (.bool false)), 4, "slices.go:22", #[], none⟩]
def q47_3 : Array Oper := #[⟨some 11, .move (.tmp 0), 22, "slices.go:24", #[], none⟩, ⟨some 12, .call ⟨.builtin .len, #[.tmp 11], #[22]⟩, 3, "slices.go:24", #[⟨0, .data⟩], none⟩, ⟨some 13, .move (.const (.int .i64 0)), 3, "slices.go:24", #[], none⟩]
def q47_4 : Array Oper := #[⟨some 14, .binOp .lss 3 (.tmp 13) (.tmp 12) 3, 0, "slices.go:24", #[], none⟩]
def q47_5 : Array Oper := #[⟨some 15, .move (.tmp 13), 3, "slices.go:24", #[], none⟩, ⟨some 5, .assign (.tmp 15), 3, "slices.go:24", #[⟨0, .data⟩, ⟨0, .phase⟩], none⟩]
def q47_6 : Array Oper := #[⟨some 16, .move (.tmp 0), 22, "slices.go:25", #[], none⟩, ⟨some 17, .move (.tmp 5), 3, "slices.go:25", #[], none⟩, ⟨some 18, .indexAddr 22 (.tmp 16) (.tmp 17), 0, "slices.go:25", #[⟨0, .data⟩, ⟨1, .data⟩], none⟩, ⟨some 19, .load 53 (.tmp 18), 53, "slices.go:25", #[⟨2, .data⟩], none⟩, ⟨some 20, .move (.tmp 1), 22, "slices.go:25", #[], none⟩, ⟨some 21, .move (.tmp 5), 3, "slices.go:25", #[], none⟩, ⟨some 22, .indexAddr 22 (.tmp 20) (.tmp 21), 0, "slices.go:25", #[⟨4, .data⟩, ⟨5, .data⟩], none⟩, ⟨some 23, .load 53 (.tmp 22), 53, "slices.go:25", #[⟨6, .data⟩], none⟩, ⟨some 24, .binOp .neq 53 (.tmp 19) (.tmp 23) 53, 4, "slices.go:25", #[⟨3, .data⟩, ⟨7, .data⟩], none⟩]
def q47_7 : Array Oper := #[⟨some 4, .assign (.const (.bool false)), 4, "slices.go:26", #[], none⟩]
def q47_8 : Array Oper := #[⟨some 25, .binOp .add 3 (.tmp 13) (.const (.int .i64 1)) 3, 3, "slices.go:24", #[], none⟩, ⟨some 13, .move (.tmp 25), 3, "slices.go:24", #[⟨0, .data⟩], none⟩]
def q47_9 : Array Oper := #[⟨some 4, .assign (.const (.bool true)), 4, "slices.go:29", #[], none⟩]
theorem r47_0 (_hz : a0.tmps.size = 26)   (hend : ∀ ac wz, After [4] a0 ac → Gr w wz → Q .normal ac wz) : RW 0 q47_0 false Q a0 w := by
  refine seq_by (by kernel_rfl) 1 (by decide) [4] (fun | 4 => .val (.bool false) | _ => .any) (by kernel_rfl) (fmc ⟨?s0, fun o ho => nomatch ho⟩) ?e
  case s0 => exact sa_move (.const _) 4 (.val (.bool false)) (.inr rfl) rfl rfl (.const _) rfl
  case e =>
  intro ac wz hA hgr hv
  exact wl_end (hend ac wz hA  hgr)
theorem r47_1 (hz : a0.tmps.size = 26) (n1 c1 n2 c2 : Nat) (a1 a2 : Option Addr) (e0 : a0.eval (.tmp 0) = .slice a1 n1 c1) (e1 : a0.eval (.tmp 1) = .slice a2 n2 c2) (hend : ∀ ac wz, After [6, 7, 8, 9, 10] a0 ac → ac.eval (.tmp 10) = .bool (decide (¬ (n1 : Int) = (n2 : Int))) → Gr w wz → Q .normal ac wz) : RW 1 q47_1 false Q a0 w := by
  refine seq_by (by kernel_rfl) 5 (by decide) [6, 7, 8, 9, 10] (fun | 6 => .val (.slice a1 n1 c1) | 7 => .val (.int .i64 (n1 : Int)) | 8 => .val (.slice a2 n2 c2) | 9 => .val (.int .i64 (n2 : Int)) | 10 => .val (.bool (decide (¬ (n1 : Int) = (n2 : Int)))) | _ => .any) (by kernel_rfl) (fmc ⟨?s0, fmc ⟨?s1, fmc ⟨?s2, fmc ⟨?s3, fmc ⟨?s4, fun o ho => nomatch ho⟩⟩⟩⟩⟩) ?e
  case s0 => exact sa_mo 0 6 e0
  case s1 => exact sa_len 22 (.tmp 6) 7 (.slice a1 n1 c1) (.int .i64 (n1 : Int)) rfl rfl rfl (.nw 6 hz) (by intro w; kernel_rfl) rfl
  case s2 => exact sa_mo 1 8 e1
  case s3 => exact sa_len 22 (.tmp 8) 9 (.slice a2 n2 c2) (.int .i64 (n2 : Int)) rfl rfl rfl (.nw 8 hz) (by intro w; kernel_rfl) rfl
  case s4 => exact sa_bin .neq 3 (.tmp 7) (.tmp 9) 3 10 (.int .i64 (n1 : Int)) (.int .i64 (n2 : Int)) (.bool (decide (¬ (n1 : Int) = (n2 : Int)))) rfl rfl rfl (.nw 7 hz) (.nw 9 hz) guard_int (bin_neq rfl) rfl
  case e =>
  intro ac wz hA hgr hv
  exact wl_end (hend ac wz hA (hw hv hz 10) hgr)
theorem r47_2 (hz : a0.tmps.size = 26)   (hend : ∀ ac wz, After [4] a0 ac → ac.eval (.tmp 4) = .bool false → Gr w wz → Q .normal ac wz) : RW 2 q47_2 false Q a0 w := by
  refine seq_by (by kernel_rfl) 1 (by decide) [4] (fun | 4 => .val (.bool false) | _ => .any) (by kernel_rfl) (fmc ⟨?s0, fun o ho => nomatch ho⟩) ?e
  case s0 => exact sa_move (.const _) 4 (.val (.bool false)) (.inr rfl) rfl rfl (.const _) rfl
  case e =>
  intro ac wz hA hgr hv
  exact wl_end (hend ac wz hA (hw hv hz 4) hgr)
theorem r47_7 (hz : a0.tmps.size = 26)   (hend : ∀ ac wz, After [4] a0 ac → ac.eval (.tmp 4) = .bool false → Gr w wz → Q .normal ac wz) : RW 7 q47_7 false Q a0 w := by
  refine seq_by (by kernel_rfl) 1 (by decide) [4] (fun | 4 => .val (.bool false) | _ => .any) (by kernel_rfl) (fmc ⟨?s0, fun o ho => nomatch ho⟩) ?e
  case s0 => exact sa_move (.const _) 4 (.val (.bool false)) (.inr rfl) rfl rfl (.const _) rfl
  case e =>
  intro ac wz hA hgr hv
  exact wl_end (hend ac wz hA (hw hv hz 4) hgr)
theorem r47_9 (hz : a0.tmps.size = 26)   (hend : ∀ ac wz, After [4] a0 ac → ac.eval (.tmp 4) = .bool true → Gr w wz → Q .normal ac wz) : RW 9 q47_9 false Q a0 w := by
  refine seq_by (by kernel_rfl) 1 (by decide) [4] (fun | 4 => .val (.bool true) | _ => .any) (by kernel_rfl) (fmc ⟨?s0, fun o ho => nomatch ho⟩) ?e
  case s0 => exact sa_move (.const _) 4 (.val (.bool true)) (.inr rfl) rfl rfl (.const _) rfl
  case e =>
  intro ac wz hA hgr hv
  exact wl_end (hend ac wz hA (hw hv hz 4) hgr)
theorem r47_3 (hz : a0.tmps.size = 26) (n1 c1 : Nat) (a1 : Option Addr) (e0 : a0.eval (.tmp 0) = .slice a1 n1 c1) (hend : ∀ ac wz, After [11, 12, 13] a0 ac → ac.eval (.tmp 12) = .int .i64 (n1 : Int) → ac.eval (.tmp 13) = .int .i64 0 → Gr w wz → Q .normal ac wz) : RW 3 q47_3 false Q a0 w := by
  refine seq_by (by kernel_rfl) 3 (by decide) [11, 12, 13] (fun | 11 => .val (.slice a1 n1 c1) | 12 => .val (.int .i64 (n1 : Int)) | 13 => .val (.int .i64 0) | _ => .any) (by kernel_rfl) (fmc ⟨?s0, fmc ⟨?s1, fmc ⟨?s2, fun o ho => nomatch ho⟩⟩⟩) ?e
  case s0 => exact sa_mo 0 11 e0
  case s1 => exact sa_len 22 (.tmp 11) 12 (.slice a1 n1 c1) (.int .i64 (n1 : Int)) rfl rfl rfl (.nw 11 hz) (by intro w; kernel_rfl) rfl
  case s2 => exact sa_move (.const _) 13 (.val (.int .i64 0)) (.inl rfl) rfl rfl (.const _) rfl
  case e =>
  intro ac wz hA hgr hv
  exact wl_end (hend ac wz hA (hw hv hz 12) (hw hv hz 13) hgr)
theorem r47_4 (hz : a0.tmps.size = 26) (k n : Nat) (e13 : a0.eval (.tmp 13) = .int .i64 (k : Int)) (e12 : a0.eval (.tmp 12) = .int .i64 (n : Int)) (hend : ∀ ac wz, After [14] a0 ac → ac.eval (.tmp 14) = .bool (decide ((k : Int) < (n : Int))) → Gr w wz → Q .normal ac wz) : RW 4 q47_4 false Q a0 w := by
  refine seq_by (by kernel_rfl) 1 (by decide) [14] (fun | 14 => .val (.bool (decide ((k : Int) < (n : Int)))) | _ => .any) (by kernel_rfl) (fmc ⟨?s0, fun o ho => nomatch ho⟩) ?e
  case s0 => exact sa_bin .lss 3 (.tmp 13) (.tmp 12) 3 14 (.int .i64 (k : Int)) (.int .i64 (n : Int)) (.bool (decide ((k : Int) < (n : Int)))) rfl rfl rfl (.old 13 _ (by decide) e13) (.old 12 _ (by decide) e12) guard_int (bin_lss rfl) rfl
  case e =>
  intro ac wz hA hgr hv
  exact wl_end (hend ac wz hA (hw hv hz 14) hgr)
theorem r47_5 (hz : a0.tmps.size = 26) (k : Nat) (e13 : a0.eval (.tmp 13) = .int .i64 (k : Int)) (hend : ∀ ac wz, After [15, 5] a0 ac → ac.eval (.tmp 5) = .int .i64 (k : Int) → Gr w wz → Q .normal ac wz) : RW 5 q47_5 false Q a0 w := by
  refine seq_by (by kernel_rfl) 2 (by decide) [15, 5] (fun | 15 => .val (.int .i64 (k : Int)) | 5 => .val (.int .i64 (k : Int)) | _ => .any) (by kernel_rfl) (fmc ⟨?s0, fmc ⟨?s1, fun o ho => nomatch ho⟩⟩) ?e
  case s0 => exact sa_mo 13 15 e13
  case s1 => exact sa_move (.tmp 15) 5 (.val (.int .i64 (k : Int))) (.inr rfl) rfl rfl (.nw 15 hz) rfl
  case e =>
  intro ac wz hA hgr hv
  exact wl_end (hend ac wz hA (hw hv hz 5) hgr)
theorem r47_6 (hz : a0.tmps.size = 26) (k g1 f1 n1 c1 g2 f2 n2 c2 : Nat) (m1 m2 : Mb) (h1 : k < n1) (h2 : k < n2) (hX : ∀ y, Gr w y → y.rangeAt g1 (f1 + k * 3) (mbV m1)) (hY : ∀ y, Gr w y → y.rangeAt g2 (f2 + k * 3) (mbV m2)) (e0 : a0.eval (.tmp 0) = .slice (some ⟨g1, f1, none⟩) n1 c1) (e5 : a0.eval (.tmp 5) = .int .i64 (k : Int)) (e1 : a0.eval (.tmp 1) = .slice (some ⟨g2, f2, none⟩) n2 c2) (hend : ∀ ac wz, After [16, 17, 18, 19, 20, 21, 22, 23, 24] a0 ac → ac.eval (.tmp 24) = .bool (!(decide (m1 = m2))) → Gr w wz → Q .normal ac wz) : RW 6 q47_6 true Q a0 w := by
  refine drawn_by (by kernel_rfl) (by kernel_rfl) (by kernel_rfl) [16, 17, 18, 19, 20, 21, 22, 23, 24] (fun | 16 => .val (.slice (some ⟨g1, f1, none⟩) n1 c1) | 17 => .val (.int .i64 (k : Int)) | 18 => .val (.pointer (some ⟨g1, f1 + k * 3, none⟩)) | 19 => .val (.agg (mbV m1).toArray) | 20 => .val (.slice (some ⟨g2, f2, none⟩) n2 c2) | 21 => .val (.int .i64 (k : Int)) | 22 => .val (.pointer (some ⟨g2, f2 + k * 3, none⟩)) | 23 => .val (.agg (mbV m2).toArray) | 24 => .val (.bool (!(decide (m1 = m2)))) | _ => .any) (by kernel_rfl) (fmc ⟨?s0, fmc ⟨?s1, fmc ⟨?s2, fmc ⟨?s3, fmc ⟨?s4, fmc ⟨?s5, fmc ⟨?s6, fmc ⟨?s7, fmc ⟨?s8, fun o ho => nomatch ho⟩⟩⟩⟩⟩⟩⟩⟩⟩) ?e
  case s0 => exact sa_mo 0 16 e0
  case s1 => exact sa_mo 5 17 e5
  case s2 => exact sa_ixa 22 (.tmp 16) (.tmp 17) 18 (.slice (some ⟨g1, f1, none⟩) n1 c1) (.int .i64 (k : Int)) (.pointer (some ⟨g1, f1 + k * 3, none⟩)) rfl rfl rfl (.nw 16 hz) (.nw 17 hz) (ix_slice (sz := 3) Tryz.underlying22 (by intro w; kernel_rfl) (by omega) rfl) rfl
  case s3 => exact sa_row 53 (.tmp 18) 19 g1 (f1 + k * 3) 3 _ (mbV m1) rfl rfl rfl Tryz.underlying53 rfl siz53 rfl (.nw 18 hz) hX rfl
  case s4 => exact sa_mo 1 20 e1
  case s5 => exact sa_mo 5 21 e5
  case s6 => exact sa_ixa 22 (.tmp 20) (.tmp 21) 22 (.slice (some ⟨g2, f2, none⟩) n2 c2) (.int .i64 (k : Int)) (.pointer (some ⟨g2, f2 + k * 3, none⟩)) rfl rfl rfl (.nw 20 hz) (.nw 21 hz) (ix_slice (sz := 3) Tryz.underlying22 (by intro w; kernel_rfl) (by omega) rfl) rfl
  case s7 => exact sa_row 53 (.tmp 22) 23 g2 (f2 + k * 3) 3 _ (mbV m2) rfl rfl rfl Tryz.underlying53 rfl siz53 rfl (.nw 22 hz) hY rfl
  case s8 => exact sa_bin .neq 53 (.tmp 19) (.tmp 23) 53 24 (.agg (mbV m1).toArray) (.agg (mbV m2).toArray) (.bool (!(decide (m1 = m2)))) rfl rfl rfl (.nw 19 hz) (.nw 23 hz) (fun w => guard53 _ _ _ _ w) (fun w => neq53 m1 m2 w) rfl
  case e =>
  intro ac wz hA hgr hv
  exact hend ac wz hA (hw hv hz 24) hgr
theorem r47_8 (hz : a0.tmps.size = 26) (k : Nat) (hk : k < 9223372036854775807) (e13 : a0.eval (.tmp 13) = .int .i64 (k : Int)) (hend : ∀ ac wz, After [13, 25] a0 ac → ac.eval (.tmp 13) = .int .i64 ((k + 1 : Nat) : Int) → Gr w wz → Q .normal ac wz) : RW 8 q47_8 false Q a0 w := by
  refine seq_by (by kernel_rfl) 1 (by decide) [25] (fun | 25 => .val (.int .i64 ((k + 1 : Nat) : Int)) | _ => .any) (by kernel_rfl) (fmc ⟨?s0, fun o ho => nomatch ho⟩) ?e
  case s0 => exact sa_bin .add 3 (.tmp 13) (.const _) 3 25 (.int .i64 (k : Int)) (.int .i64 1) (.int .i64 ((k + 1 : Nat) : Int)) rfl rfl rfl (.old 13 _ (by decide) e13) (.const _) guard_int (bin_add (by omega) (by omega) (by omega)) rfl
  case e =>
  intro ac wz hA hgr hv
  have o25 : ac.eval (.tmp 25) = .int .i64 ((k + 1 : Nat) : Int) := hw hv hz 25
  refine wl_of rfl (op_move (.tmp 25) (.inl rfl) (wl_end ?_))
  exact hend _ wz (hA.put 13 _)  ((ev_put (by rw [hA.size, hz]; decide)).trans ((if_pos rfl).trans o25)) hgr
def q28_0 : Array Oper := #[⟨some 2, .box 28 (.tmp 0), 0, "gossip.go:101", #[], none⟩, ⟨some 3, .box 28 (.tmp 1), 0, "gossip.go:101", #[], none⟩, ⟨some 4, .assign (.const (.bool false)), 4, "gossip.go:101", #[], none⟩]
def q28_1 : Array Oper := #[⟨some 5, .load 28 (.tmp 2), 28, "gossip.go:102", #[], none⟩, ⟨some 6, .call ⟨.value (.func 8), #[.tmp 5], #[28]⟩, 28, "gossip.go:102", #[⟨0, .data⟩], none⟩, ⟨some 7, .load 28 (.tmp 3), 28, "gossip.go:102", #[], none⟩, ⟨some 8, .call ⟨.value (.func 8), #[.tmp 7], #[28]⟩, 28, "gossip.go:102", #[⟨2, .data⟩, ⟨1, .chain⟩], none⟩, ⟨none, .store 28 (.tmp 2) (.tmp 6), 0, "gossip.go:102", #[⟨1, .data⟩, ⟨3, .chain⟩, ⟨0, .phase⟩, ⟨1, .phase⟩, { on := 2, ground := Ground.textOnly Departure.lateStores }, { on := 3, ground := Ground.textOnly Departure.lateStoresUnsure }], none⟩, ⟨none, .store 28 (.tmp 3) (.tmp 8), 0, "gossip.go:102", #[⟨3, .data⟩, ⟨4, .chain⟩, ⟨0, .phase⟩, ⟨1, .phase⟩, ⟨2, .phase⟩, ⟨3, .phase⟩, ⟨4, .phase⟩], none⟩]
def q28_2 : Array Oper := #[⟨some 9, .fieldAddr 28 (.tmp 2) 1, 0, "gossip.go:103", #[], none⟩, ⟨some 10, .load 26 (.tmp 9), 26, "gossip.go:103", #[⟨0, .data⟩], none⟩, ⟨some 11, .fieldAddr 28 (.tmp 3) 1, 0, "gossip.go:103", #[], none⟩, ⟨some 12, .load 26 (.tmp 11), 26, "gossip.go:103", #[⟨2, .data⟩], none⟩, ⟨some 13, .binOp .eql 26 (.tmp 10) (.tmp 12) 26, 4, "gossip.go:103", #[⟨1, .data⟩, ⟨3, .data⟩], none⟩, ⟨some 14, .move (.tmp 13), 4, "gossip.go:103", #[⟨4, .data⟩], none⟩, ⟨some 15, .fieldAddr 28 (.tmp 2) 0, 0, "gossip.go:103", #[⟨5, .guard⟩], some (5, true)⟩, ⟨some 16, .load 22 (.tmp 15), 22, "gossip.go:103", #[⟨6, .data⟩, ⟨5, .guard⟩], some (5, true)⟩, ⟨some 17, .fieldAddr 28 (.tmp 3) 0, 0, "gossip.go:103", #[⟨5, .guard⟩], some (5, true)⟩, ⟨some 18, .load 22 (.tmp 17), 22, "gossip.go:103", #[⟨8, .data⟩, ⟨5, .guard⟩], some (5, true)⟩, ⟨some 19, .call ⟨.value (.func 47), #[.tmp 16, .tmp 18], #[22, 22]⟩, 4, "gossip.go:103", #[⟨7, .data⟩, ⟨9, .data⟩, ⟨5, .chain⟩, ⟨5, .guard⟩], some (5, true)⟩, ⟨some 20, .pick (.tmp 14) (.tmp 19) (.const (.bool false)), 4, "gossip.go:103", #[⟨5, .data⟩, ⟨10, .data⟩], none⟩, ⟨some 4, .assign (.tmp 20), 4, "gossip.go:103", #[⟨11, .data⟩, ⟨10, .chain⟩, ⟨0, .phase⟩, ⟨1, .phase⟩, ⟨2, .phase⟩, ⟨3, .phase⟩, ⟨4, .phase⟩, ⟨5, .phase⟩, ⟨6, .phase⟩, ⟨7, .phase⟩, ⟨8, .phase⟩, ⟨9, .phase⟩, ⟨10, .phase⟩, ⟨11, .phase⟩], none⟩]
theorem r28_1 (hz : a0.tmps.size = 21) (b c : Nat) (u1 u2 : Value) (r1 r2 : Rg) (hb : Holds w b (ringC u1 r1) 28) (hR1 : RingAt w.heap.size w u1 r1) (hc : Holds w c (ringC u2 r2) 28) (hR2 : RingAt w.heap.size w u2 r2) (hbc : b < c) (e2 : a0.eval (.tmp 2) = .pointer (some ⟨b, 0, none⟩)) (e3 : a0.eval (.tmp 3) = .pointer (some ⟨c, 0, none⟩)) (hend : ∀ ac wz, After [5, 6, 7, 8] a0 ac → Bf w.heap.size wz b (normL r1) → Bf w.heap.size wz c (normL r2) → Below b w wz → Q .normal ac wz) : RW 1 q28_1 true Q a0 w := by
  refine drawn_tail (by kernel_rfl) (by kernel_rfl) 4 (by decide) (by kernel_rfl) (by kernel_rfl) [5, 6, 7, 8] (fun | 5 => .val (.agg (ringC u1 r1).toArray) | 6 => ringF w.heap.size (normL r1) | 7 => .val (.agg (ringC u2 r2).toArray) | 8 => ringF w.heap.size (normL r2) | _ => .any) (by kernel_rfl) (fmc ⟨?s0, fmc ⟨?s1, fmc ⟨?s2, fmc ⟨?s3, fun o ho => nomatch ho⟩⟩⟩⟩) ?e
  case s0 => exact sa_row 28 (.tmp 2) 5 b (0) 17 _ (ringC u1 r1) rfl rfl rfl Tryz.underlying28 rfl siz28 (ringC_len hR1) (.old 2 _ (by decide) e2) (fun y hy => range_of (hb.below hy hb.lt)) rfl
  case s1 => exact sa_callF1 8 (.tmp 5) _ 6 (.agg (ringC u1 r1).toArray) (ringF w.heap.size (normL r1)) rfl rfl rfl (.nw 5 hz) (enters_of Tryz.func8 (by kernel_rfl) rfl) (fun y hy => k_norm8 u1 r1 w y hy hR1) rfl
  case s2 => exact sa_row 28 (.tmp 3) 7 c (0) 17 _ (ringC u2 r2) rfl rfl rfl Tryz.underlying28 rfl siz28 (ringC_len hR2) (.old 3 _ (by decide) e3) (fun y hy => range_of (hc.below hy hc.lt)) rfl
  case s3 => exact sa_callF1 8 (.tmp 7) _ 8 (.agg (ringC u2 r2).toArray) (ringF w.heap.size (normL r2)) rfl rfl rfl (.nw 7 hz) (enters_of Tryz.func8 (by kernel_rfl) rfl) (fun y hy => k_norm8 u2 r2 w y hy hR2) rfl
  case e =>
  intro ac wz hA hgr hv
  have o6 := hw hv hz 6
  have o8 := hw hv hz 8
  have o2 : ac.eval (.tmp 2) = .pointer (some ⟨b, 0, none⟩) := (hA.old 2 (by decide)).trans e2
  have o3 : ac.eval (.tmp 3) = .pointer (some ⟨c, 0, none⟩) := (hA.old 3 (by decide)).trans e3
  refine wpl_store_ring rfl (.tmp 2) (.tmp 6) rfl rfl b w.heap.size o2 (normL r1) o6 _ (hb.below hgr hb.lt) (ringC_len hR1) hb.lt (fun w3 h3 u3 s3 => ?_)
  obtain ⟨v8, e8, R8', f8⟩ := o8
  have o8' : (ringF w.heap.size (normL r2)).holds (ac.eval (.tmp 8)) w3 := ⟨v8, e8, (ring_upd R8' f8 u3 (Nat.le_refl _) hb.lt).mono u3.size, f8⟩
  refine wpl_store_ring rfl (.tmp 3) (.tmp 8) rfl rfl c w.heap.size o3 (normL r2) o8' _ ((hc.below hgr hc.lt).upd u3 (by omega)) (ringC_len hR2) hc.lt (fun w4 h4 u4 s4 => ?_)
  exact wl_end (hend _ w4 hA (h3.upd u4 hc.lt (by omega)) h4 (((hgr.mono (Nat.le_of_lt hb.lt)).trans (u3.below (Nat.le_refl _) (Nat.le_trans (Nat.le_of_lt hb.lt) hgr.size))).trans (u4.below (Nat.le_of_lt hbc) (by rw [s3]; exact Nat.le_trans (Nat.le_of_lt hb.lt) hgr.size))))
theorem r28_2f (hz : a0.tmps.size = 21) (b c : Nat) (u1 u2 : Value) (r1 r2 : Rg) (hb : Holds w b (ringC u1 r1) 28) (hc : Holds w c (ringC u2 r2) 28) (l1 : r1.2.length = 8) (l2 : r2.2.length = 8) (hne : ¬ r1.2 = r2.2) (e2 : a0.eval (.tmp 2) = .pointer (some ⟨b, 0, none⟩)) (e3 : a0.eval (.tmp 3) = .pointer (some ⟨c, 0, none⟩)) (hend : ∀ ac wz, After [9, 10, 11, 12, 13, 14, 15, 16, 17, 18, 19, 20, 4] a0 ac → ac.eval (.tmp 4) = .bool false → Gr w wz → Q .normal ac wz) : RW 2 q28_2 false Q a0 w := by
  refine seq_by (by kernel_rfl) 13 (by decide) [9, 10, 11, 12, 13, 14, 15, 16, 17, 18, 19, 20, 4] (fun | 9 => .val (.pointer (some ⟨b, 1, none⟩)) | 10 => .val (.agg (ownV r1.2).toArray) | 11 => .val (.pointer (some ⟨c, 1, none⟩)) | 12 => .val (.agg (ownV r2.2).toArray) | 13 => .val (.bool false) | 14 => .val (.bool false) | 20 => .val (.bool false) | 4 => .val (.bool false) | _ => .any) (by kernel_rfl) (fmc ⟨?s0, fmc ⟨?s1, fmc ⟨?s2, fmc ⟨?s3, fmc ⟨?s4, fmc ⟨?s5, fmc ⟨?s6, fmc ⟨?s7, fmc ⟨?s8, fmc ⟨?s9, fmc ⟨?s10, fmc ⟨?s11, fmc ⟨?s12, fun o ho => nomatch ho⟩⟩⟩⟩⟩⟩⟩⟩⟩⟩⟩⟩⟩) ?e
  case s0 => exact sa_fa 28 (.tmp 2) 1 9 (.pointer (some ⟨b, 0, none⟩)) (.pointer (some ⟨b, 1, none⟩)) rfl rfl rfl (.old 2 _ (by decide) e2) (by intro w; kernel_rfl) rfl
  case s1 => exact sa_row 26 (.tmp 9) 10 b (1) 16 _ (ownV r1.2) rfl rfl rfl Tryz.underlying26 rfl siz26 (by rw [ownV_len, l1]) (.nw 9 hz) (fun y hy => (hb.below hy hb.lt).range 1 (ownV r1.2) (fun j v hv => by rw [Nat.add_comm]; exact hv)) rfl
  case s2 => exact sa_fa 28 (.tmp 3) 1 11 (.pointer (some ⟨c, 0, none⟩)) (.pointer (some ⟨c, 1, none⟩)) rfl rfl rfl (.old 3 _ (by decide) e3) (by intro w; kernel_rfl) rfl
  case s3 => exact sa_row 26 (.tmp 11) 12 c (1) 16 _ (ownV r2.2) rfl rfl rfl Tryz.underlying26 rfl siz26 (by rw [ownV_len, l2]) (.nw 11 hz) (fun y hy => (hc.below hy hc.lt).range 1 (ownV r2.2) (fun j v hv => by rw [Nat.add_comm]; exact hv)) rfl
  case s4 => exact sa_bin .eql 26 (.tmp 10) (.tmp 12) 26 13 (.agg (ownV r1.2).toArray) (.agg (ownV r2.2).toArray) (.bool false) rfl rfl rfl (.nw 10 hz) (.nw 12 hz) (fun w => guard26 _ _ _ _ w) (fun w => (eql26 r1.2 r2.2 l1 l2 w).trans (by rw [decide_eq_false hne])) rfl
  case s5 => exact sa_mw 13 14 hz
  case s6 => exact so_n 5 14 hz
  case s7 => exact so_n 5 14 hz
  case s8 => exact so_n 5 14 hz
  case s9 => exact so_n 5 14 hz
  case s10 => exact so_n 5 14 hz
  case s11 => exact sa_pickF (.tmp 14) (.tmp 19) (.const _) 20 (.val (.bool false)) rfl rfl rfl (.nw 14 hz) (.const _) rfl
  case s12 => exact sa_move (.tmp 20) 4 (.val (.bool false)) (.inr rfl) rfl rfl (.nw 20 hz) rfl
  case e =>
  intro ac wz hA hgr hv
  exact wl_end (hend ac wz hA (hw hv hz 4) hgr)
theorem r28_2t (hz : a0.tmps.size = 21) (b c : Nat) (u1 u2 : Value) (r1 r2 : Rg) (hb : Holds w b (ringC u1 r1) 28) (hc : Holds w c (ringC u2 r2) 28) (l1 : r1.2.length = 8) (l2 : r2.2.length = 8) (heq : r1.2 = r2.2) (z : Bool) (hE : ∀ y, Gr w y → Calls Tryz.prog 47 #[u1, u2] y fun e z1 => e = .returned (.bool z) ∧ Gr y z1) (e2 : a0.eval (.tmp 2) = .pointer (some ⟨b, 0, none⟩)) (e3 : a0.eval (.tmp 3) = .pointer (some ⟨c, 0, none⟩)) (hend : ∀ ac wz, After [9, 10, 11, 12, 13, 14, 15, 16, 17, 18, 19, 20, 4] a0 ac → ac.eval (.tmp 4) = .bool z → Gr w wz → Q .normal ac wz) : RW 2 q28_2 false Q a0 w := by
  refine seq_by (by kernel_rfl) 13 (by decide) [9, 10, 11, 12, 13, 14, 15, 16, 17, 18, 19, 20, 4] (fun | 9 => .val (.pointer (some ⟨b, 1, none⟩)) | 10 => .val (.agg (ownV r1.2).toArray) | 11 => .val (.pointer (some ⟨c, 1, none⟩)) | 12 => .val (.agg (ownV r2.2).toArray) | 13 => .val (.bool true) | 14 => .val (.bool true) | 15 => .val (.pointer (some ⟨b, 0, none⟩)) | 16 => .val (u1) | 17 => .val (.pointer (some ⟨c, 0, none⟩)) | 18 => .val (u2) | 19 => .val (.bool z) | 20 => .val (.bool z) | 4 => .val (.bool z) | _ => .any) (by kernel_rfl) (fmc ⟨?s0, fmc ⟨?s1, fmc ⟨?s2, fmc ⟨?s3, fmc ⟨?s4, fmc ⟨?s5, fmc ⟨?s6, fmc ⟨?s7, fmc ⟨?s8, fmc ⟨?s9, fmc ⟨?s10, fmc ⟨?s11, fmc ⟨?s12, fun o ho => nomatch ho⟩⟩⟩⟩⟩⟩⟩⟩⟩⟩⟩⟩⟩) ?e
  case s0 => exact sa_fa 28 (.tmp 2) 1 9 (.pointer (some ⟨b, 0, none⟩)) (.pointer (some ⟨b, 1, none⟩)) rfl rfl rfl (.old 2 _ (by decide) e2) (by intro w; kernel_rfl) rfl
  case s1 => exact sa_row 26 (.tmp 9) 10 b (1) 16 _ (ownV r1.2) rfl rfl rfl Tryz.underlying26 rfl siz26 (by rw [ownV_len, l1]) (.nw 9 hz) (fun y hy => (hb.below hy hb.lt).range 1 (ownV r1.2) (fun j v hv => by rw [Nat.add_comm]; exact hv)) rfl
  case s2 => exact sa_fa 28 (.tmp 3) 1 11 (.pointer (some ⟨c, 0, none⟩)) (.pointer (some ⟨c, 1, none⟩)) rfl rfl rfl (.old 3 _ (by decide) e3) (by intro w; kernel_rfl) rfl
  case s3 => exact sa_row 26 (.tmp 11) 12 c (1) 16 _ (ownV r2.2) rfl rfl rfl Tryz.underlying26 rfl siz26 (by rw [ownV_len, l2]) (.nw 11 hz) (fun y hy => (hc.below hy hc.lt).range 1 (ownV r2.2) (fun j v hv => by rw [Nat.add_comm]; exact hv)) rfl
  case s4 => exact sa_bin .eql 26 (.tmp 10) (.tmp 12) 26 13 (.agg (ownV r1.2).toArray) (.agg (ownV r2.2).toArray) (.bool true) rfl rfl rfl (.nw 10 hz) (.nw 12 hz) (fun w => guard26 _ _ _ _ w) (fun w => (eql26 r1.2 r2.2 l1 l2 w).trans (by rw [decide_eq_true heq])) rfl
  case s5 => exact sa_mw 13 14 hz
  case s6 => exact sa_gd 5 14 hz (sa_fa 28 (.tmp 2) 0 15 (.pointer (some ⟨b, 0, none⟩)) (.pointer (some ⟨b, 0, none⟩)) rfl rfl rfl (.old 2 _ (by decide) e2) (by intro w; kernel_rfl) rfl)
  case s7 => exact sa_gd 5 14 hz (sa_loadc 22 (.tmp 15) 16 (b) (0) (u1) rfl rfl rfl (by intro w; kernel_rfl) (.nw 15 hz) (fun y hy => (hb.below hy hb.lt).at 0 _ rfl) rfl)
  case s8 => exact sa_gd 5 14 hz (sa_fa 28 (.tmp 3) 0 17 (.pointer (some ⟨c, 0, none⟩)) (.pointer (some ⟨c, 0, none⟩)) rfl rfl rfl (.old 3 _ (by decide) e3) (by intro w; kernel_rfl) rfl)
  case s9 => exact sa_gd 5 14 hz (sa_loadc 22 (.tmp 17) 18 (c) (0) (u2) rfl rfl rfl (by intro w; kernel_rfl) (.nw 17 hz) (fun y hy => (hc.below hy hc.lt).at 0 _ rfl) rfl)
  case s10 => exact sa_gd 5 14 hz (sa_call2 47 (.tmp 16) (.tmp 18) _ 19 (.val (u1)) (.val (u2)) rfl rfl rfl (.nw 16 hz) (.nw 18 hz) (enters_of Tryz.func47 (by kernel_rfl) rfl) (fun v0 v1 y hgy q0 q1 => by rw [show v0 = _ from q0]; rw [show v1 = _ from q1]; exact (hE y hgy).mono fun e z ⟨e1, e2⟩ => ⟨_, e1, e2, rfl⟩))
  case s11 => exact sa_pick (.tmp 14) (.tmp 19) (.const _) 20 (.val (.bool z)) rfl rfl rfl (.nw 14 hz) (.nw 19 hz) rfl
  case s12 => exact sa_move (.tmp 20) 4 (.val (.bool z)) (.inr rfl) rfl rfl (.nw 20 hz) rfl
  case e =>
  intro ac wz hA hgr hv
  exact wl_end (hend ac wz hA (hw hv hz 4) hgr)
def c47_a : Code := ((Code.region 4 q47_4 false).seq ((Code.cond (.tmp 14) Code.skip (Code.exit 0)).seq ((Code.block 1 ((Code.region 5 q47_5 false).seq ((Code.region 6 q47_6 true).seq (Code.cond (.tmp 24) ((Code.region 7 q47_7 false).seq Code.ret) Code.skip)))).seq (Code.region 8 q47_8 false))))
def c47_l : Code := (Code.block 0 (c47_a.loop))
def c47 : Code := ((Code.region 0 q47_0 false).seq (((Code.region 1 q47_1 false).seq (Code.cond (.tmp 10) ((Code.region 2 q47_2 false).seq Code.ret) Code.skip)).seq (((Code.region 3 q47_3 false).seq c47_l).seq ((Code.region 9 q47_9 false).seq Code.ret))))
def c28 : Code := ((Code.region 0 q28_0 false).seq ((Code.region 1 q28_1 true).seq ((Code.region 2 q28_2 false).seq Code.ret)))
structure Eq2 (w : World) (v1 v2 : Value) (l1 l2 : List Mb) (ac : Act) (x : World) : Prop where
  z : ac.tmps.size = 26
  df : ac.defers = []
  e0 : ac.eval (.tmp 0) = v1
  e1 : ac.eval (.tmp 1) = v2
  h1 : Mems w.heap.size x v1 l1
  h2 : Mems w.heap.size x v2 l2
  gr : Gr w x
theorem Eq2.to {w x y : World} {v1 v2 : Value} {l1 l2 : List Mb} {ac ad : Act} {D : List Nat} (h : Eq2 w v1 v2 l1 l2 ac x) (hA : After D ac ad) (hD : (D.all fun s => decide (4 ≤ s)) = true) (g : Gr x y) : Eq2 w v1 v2 l1 l2 ad y :=
  ⟨hA.size.trans h.z, hA.defers.trans h.df, hA.keep hD (by omega) h.e0, hA.keep hD (by omega) h.e1, h.h1.below (g.mono h.gr.size), h.h2.below (g.mono h.gr.size), h.gr.trans g⟩
set_option maxHeartbeats 1000000 in
theorem equal_any (v1 v2 : Value) (l1 l2 : List Mb) (w : World) (h1 : Mems w.heap.size w v1 l1) (h2 : Mems w.heap.size w v2 l2) : Calls Tryz.prog 47 #[v1, v2] w fun e z => e = .returned (.bool (decide (l1 = l2))) ∧ Gr w z := by
  have hle : l1.length ≤ 9223372036854775807 := h1.le
  refine calls_by (c := c47) Tryz.func47 (by kernel_rfl) 26 (by rw [Tryz.ntmps47]; rfl) (fun ac z df hv => ?_)
  have hs : Eq2 w v1 v2 l1 l2 ac w := ⟨z, df, hv 0 _ rfl, hv 1 _ rfl, h1, h2, Gr.refl _⟩
  clear hv
  have fin : ∀ (K : Act → World → Prop) (zb : Bool) a3 x3, a3.defers = [] → a3.eval (.tmp 4) = .bool zb → Gr w x3 → zb = decide (l1 = l2) → Code.ret.wp Tryz.prog (Exit.then K (bodyPost Tryz.prog Tryz.f47 fun e z => e = .returned (.bool (decide (l1 = l2))) ∧ Gr w z)) a3 x3 := fun K zb a3 x3 d3 e4 g3 hz => by
    rw [← hz]
    exact wp_ret (show bodyPost Tryz.prog Tryz.f47 (fun e z => e = .returned (.bool zb) ∧ Gr w z) .ret a3 x3 from bodyPost_ret (results_tmp rfl _ _ _) d3 ⟨by rw [← e4]; rfl, g3⟩)
  obtain ⟨a1, c1, hv1⟩ := h1.len
  obtain ⟨a2, c2, hv2⟩ := h2.len
  unfold c47
  refine wp_seq (r47_0 hs.z (fun b1 x1 A1 G1 => ?_))
  have s1 := hs.to A1 (by decide) G1
  show Code.wp Tryz.prog (Code.seq (Code.seq _ _) _) _ b1 x1
  refine wp_seq (wp_seq (r47_1 s1.z l1.length c1 l2.length c2 a1 a2 (by rw [s1.e0, hv1]) (by rw [s1.e1, hv2]) (fun b2 x2 A2 o10 G2 => ?_)))
  have s2 := s1.to A2 (by decide) G2
  show Code.wp Tryz.prog (Code.cond _ _ _) _ b2 x2
  refine wp_cond_split o10 (fun q => ?_) (fun q => ?_)
  · have q : ¬ (l1.length : Int) = l2.length := of_decide_eq_true q
    refine wp_seq (r47_2 s2.z (fun b3 x3 A3 o4 G3 => ?_))
    have s3 := s2.to A3 (by decide) G3
    exact fin _ false b3 x3 s3.df o4 s3.gr (decide_eq_false (fun e => q (by rw [e]))).symm
  · have q := of_decide_eq_false q
    have hl : l1.length = l2.length := by omega
    refine wp_skip ?_
    show Code.wp Tryz.prog (Code.seq (Code.seq _ c47_l) _) _ b2 x2
    refine wp_seq (wp_seq (r47_3 s2.z l1.length c1 a1 (by rw [s2.e0, hv1]) (fun b3 x3 A3 o12 o13 G3 => ?_)))
    have s3 := s2.to A3 (by decide) G3
    show Code.wp Tryz.prog c47_l _ b3 x3
    unfold c47_l
    refine wp_block ?_
    refine wp_loop (fun ad y => ∃ k : Nat, Eq2 w v1 v2 l1 l2 ad y ∧ k ≤ l1.length ∧ l1.take k = l2.take k ∧ ad.eval (.tmp 12) = .int .i64 (l1.length : Int) ∧ ad.eval (.tmp 13) = .int .i64 (k : Int)) (fun ad _ => l1.length - (intOf (ad.eval (.tmp 13))).toNat)
      ⟨0, s3, Nat.zero_le _, rfl, o12, o13⟩ (fun b0 x0 ⟨k, h0, hk, ht, f12, f13⟩ => ?_)
    unfold c47_a
    refine wp_seq (r47_4 h0.z k l1.length f13 f12 (fun b4 x4 A4 o14 G4 => ?_))
    have h4 := h0.to A4 (by decide) G4
    have g12 := A4.get f12 (by decide)
    have g13 := A4.get f13 (by decide)
    show Code.wp Tryz.prog (Code.seq _ _) _ b4 x4
    refine wp_seq (wp_cond_split o14 (fun q => ?_) (fun q => ?_))
    · have q : (k : Int) < l1.length := of_decide_eq_true q
      have hk1 : k < l1.length := by omega
      have hk2 : k < l2.length := by omega
      have hm1 : l1[k]? = some l1[k] := List.getElem?_eq_getElem hk1
      have hm2 : l2[k]? = some l2[k] := List.getElem?_eq_getElem hk2
      have ht1 : l1.take (k + 1) = l1.take k ++ [l1[k]] := List.take_succ_eq_append_getElem hk1
      have ht2 : l2.take (k + 1) = l2.take k ++ [l2[k]] := List.take_succ_eq_append_getElem hk2
      have hne : l1[k] ≠ l2[k] → ¬ l1 = l2 := fun p e => p (by subst e; rfl)
      generalize l1[k] = m1 at *
      generalize l2[k] = m2 at *
      refine wp_skip ?_
      show Code.wp Tryz.prog (Code.seq _ _) _ b4 x4
      refine wp_seq (wp_block (wp_seq (r47_5 h4.z k g13 (fun b5 x5 A5 o5 G5 => ?_))))
      have h5 := h4.to A5 (by decide) G5
      obtain ⟨g1, f1, cc1, hv1', hc1⟩ := mems_at h5.h1 k m1 hm1
      obtain ⟨g2, f2, cc2, hv2', hc2⟩ := mems_at h5.h2 k m2 hm2
      have hgs := h5.gr.size
      show Code.wp Tryz.prog (Code.seq _ _) _ b5 x5
      refine wp_seq (r47_6 h5.z k g1 f1 l1.length cc1 g2 f2 l2.length cc2 m1 m2 hk1 hk2 (fun y hy => (hc1 y (hy.mono hgs)).2) (fun y hy => (hc2 y (hy.mono hgs)).2) (by rw [h5.e0, hv1']) o5 (by rw [h5.e1, hv2']) (fun b6 x6 A6 o24 G6 => ?_))
      have h6 := h5.to A6 (by decide) G6
      show Code.wp Tryz.prog (Code.cond _ _ _) _ b6 x6
      refine wp_cond_split o24 (fun q => ?_) (fun q => ?_)
      · have q : ¬ m1 = m2 := by simpa using q
        refine wp_seq (r47_7 h6.z (fun b7 x7 A7 o4 G7 => ?_))
        have h7 := h6.to A7 (by decide) G7
        exact wp_ret (show bodyPost Tryz.prog Tryz.f47 (fun e z => e = .returned (.bool (decide (l1 = l2))) ∧ Gr w z) .ret b7 x7 from bodyPost_ret (results_tmp rfl _ _ _) h7.df ⟨by rw [decide_eq_false (hne q), ← o4]; rfl, h7.gr⟩)
      · have q : m1 = m2 := by simpa using q
        refine wp_skip ?_
        show Code.wp Tryz.prog (Code.region 8 q47_8 false) _ b6 x6
        refine r47_8 h6.z k (by omega) (A6.get (A5.get g13 (by decide)) (by decide)) (fun b7 x7 A7 o13' G7 => ?_)
        refine ⟨⟨k + 1, h6.to A7 (by decide) G7, by omega, by rw [ht1, ht2, ht, q], A7.get (A6.get (A5.get g12 (by decide)) (by decide)) (by decide), o13'⟩, ?_⟩
        rw [o13', f13]
        simp only [intOf]
        omega
    · have q : ¬ (k : Int) < l1.length := of_decide_eq_false q
      have e1 : l1.take k = l1 := List.take_of_length_le (by omega)
      have e2 : l2.take k = l2 := List.take_of_length_le (by omega)
      rw [e1, e2] at ht
      refine wp_exit ?_
      show Code.wp Tryz.prog (Code.seq _ _) _ b4 x4
      refine wp_seq (r47_9 h4.z (fun b5 x5 A5 o4 G5 => ?_))
      have h5 := h4.to A5 (by decide) G5
      exact wp_ret (show bodyPost Tryz.prog Tryz.f47 (fun e z => e = .returned (.bool (decide (l1 = l2))) ∧ Gr w z) .ret b5 x5 from bodyPost_ret (results_tmp rfl _ _ _) h5.df ⟨by rw [decide_eq_true ht, ← o4]; rfl, h5.gr⟩)
theorem r28_0 (hz : a0.tmps.size = 21) (b : Nat) (hb : w.heap.size = b) (v1 v2 : Value) (r1 r2 : Rg) (e0 : a0.eval (.tmp 0) = .agg (ringC v1 r1).toArray) (e1 : a0.eval (.tmp 1) = .agg (ringC v2 r2).toArray) (hend : ∀ ac w1 wz, After [4, 3, 2] a0 ac → ac.eval (.tmp 2) = .pointer (some ⟨b, 0, none⟩) → ac.eval (.tmp 3) = .pointer (some ⟨b + 1, 0, none⟩) → Anew b w w1 (ringC v1 r1) 28 → Anew (b + 1) w1 wz (ringC v2 r2) 28 → Q .normal ac wz) : RW 0 q28_0 false Q a0 w := by
  refine wp_region_list ?_
  refine wpList_box_new 2 rfl rfl 28 (.tmp 0) rfl b hb _ e0 ?_
  intro w1 h1
  refine wpList_box_new 3 rfl rfl 28 (.tmp 1) rfl (b + 1) h1.size (ringC v2 r2) (by simp [ev_put, hz, e1]) ?_
  intro w2 h2
  refine wl_of rfl (op_mv (.const (.bool false)) (.bool false) (.inr rfl) rfl 4 rfl (wl_end (hend _ w1 w2 ((((After.self a0).put 2 _).put 3 _).put 4 _) ?_ ?_ h1 h2)))
  · simp [ev_put, put_size, hz]
  · simp [ev_put, put_size, hz]
theorem gsame_any (v1 v2 : Value) (r1 r2 : Rg) (w : World) (hR1 : RingAt w.heap.size w v1 r1) (hR2 : RingAt w.heap.size w v2 r2) : Calls Tryz.prog 28 #[.agg (ringC v1 r1).toArray, .agg (ringC v2 r2).toArray] w fun e z => e = .returned (.bool (decide (normL r1 = normL r2))) ∧ Gr w z := by
  obtain ⟨b, hwb⟩ : ∃ b, w.heap.size = b := ⟨_, rfl⟩
  rw [hwb] at hR1 hR2
  refine calls_by (c := c28) Tryz.func28 (by kernel_rfl) 21 (by rw [Tryz.ntmps28]; rfl) (fun ac z df hv => ?_)
  have e0 := hv 0 _ rfl
  have e1 := hv 1 _ rfl
  clear hv
  unfold c28
  refine wp_seq (r28_0 z b hwb v1 v2 r1 r2 e0 e1 (fun a1 w1 x1 A1 o2 o3 N1 N2 => ?_))
  have z1 := A1.size.trans z
  have s1 : x1.heap.size = b + 2 := N2.size
  have hB1 : Below b w x1 := N1.below.trans (N2.below.mono (by omega))
  show Code.wp Tryz.prog (Code.seq _ _) _ a1 x1
  refine wp_seq (r28_1 z1 b (b + 1) v1 v2 r1 r2 (N1.holds.below N2.below (by omega)) ((hR1.below hB1).mono (by omega)) N2.holds ((hR2.below hB1).mono (by omega)) (by omega) o2 o3 (fun a2 x2 A2 B2 C2 L2 => ?_))
  have z2 := A2.size.trans z1
  obtain ⟨u1, H1, R1, _⟩ := B2
  obtain ⟨u2, H2, R2, _⟩ := C2
  have hG2 : Gr w x2 := by unfold Gr; rw [hwb]; exact hB1.trans L2
  generalize normL r1 = n1 at *
  generalize normL r2 = n2 at *
  have fin : ∀ (zb : Bool) a3 x3, a3.defers = [] → a3.eval (.tmp 4) = .bool zb → Gr x2 x3 → zb = decide (n1 = n2) → Code.ret.wp Tryz.prog (bodyPost Tryz.prog Tryz.f28 fun e z => e = .returned (.bool (decide (n1 = n2))) ∧ Gr w z) a3 x3 := fun zb a3 x3 d3 e4 g3 hz => by
    rw [← hz]
    exact wp_ret (bodyPost_ret (results_tmp rfl _ _ _) d3 ⟨by rw [← e4]; rfl, hG2.trans g3⟩)
  have df2 : a2.defers = [] := A2.defers.trans (A1.defers.trans df)
  show Code.wp Tryz.prog (Code.seq _ _) _ a2 x2
  by_cases he : n1.2 = n2.2
  · refine wp_seq (r28_2t z2 b (b + 1) u1 u2 n1 n2 H1 H2 R1.own R2.own he (decide (n1.1 = n2.1)) (fun y hy => equal_any u1 u2 n1.1 n2.1 y ((R1.mem.below hy).mono hy.size) ((R2.mem.below hy).mono hy.size)) (A2.get o2 (by decide)) (A2.get o3 (by decide)) (fun a3 x3 A3 o4 G3 => ?_))
    refine fin _ a3 x3 (A3.defers.trans df2) o4 G3 ?_
    by_cases h : n1.1 = n2.1
    · rw [decide_eq_true h, decide_eq_true (Prod.ext h he)]
    · rw [decide_eq_false h, decide_eq_false (fun q => h (by rw [q]))]
  · refine wp_seq (r28_2f z2 b (b + 1) u1 u2 n1 n2 H1 H2 R1.own R2.own he (A2.get o2 (by decide)) (A2.get o3 (by decide)) (fun a3 x3 A3 o4 G3 => ?_))
    exact fin _ a3 x3 (A3.defers.trans df2) o4 G3 (decide_eq_false (fun q => he (by rw [q]))).symm
end Go.Proofs.YthmnjebmnocoiaaGreat.En

/- The document's own ways with rings: new. By tools/gen_mk.py. -/
namespace Go.Proofs.YthmnjebmnocoiaaGreat.En
open Go.RowKit
set_option maxRecDepth 100000
variable {Q : Exit → Act → World → Prop} {a0 : Act} {w : World}
def q19_0 : Array Oper := #[⟨some 2, .alloc 28, 0, "ref.go:92", #[], none⟩]
def q19_1 : Array Oper := #[⟨some 3, .alloc 28, 0, "ref.go:93", #[], none⟩]
def q19_2 : Array Oper := #[⟨some 5, .move (.tmp 0), 3, "ref.go:94", #[], none⟩, ⟨some 6, .binOp .lss 3 (.tmp 5) (.const (.int .i64 1)) 3, 4, "ref.go:94", #[⟨0, .data⟩], none⟩, ⟨some 7, .move (.tmp 6), 4, "ref.go:94", #[⟨1, .data⟩], none⟩, ⟨some 8, .move (.tmp 0), 3, "ref.go:94", #[⟨2, .guard⟩], some (2, false)⟩, ⟨some 9, .binOp .gtr 3 (.tmp 8) (.const (.int .i64 7)) 3, 4, "ref.go:94", #[⟨3, .data⟩, ⟨2, .guard⟩], some (2, false)⟩, ⟨some 10, .pick (.tmp 7) (.const (.bool true)) (.tmp 9), 4, "ref.go:94", #[⟨2, .data⟩, ⟨4, .data⟩], none⟩]
def q19_3 : Array Oper := #[⟨some 11, .load 28 (.tmp 3), 28, "ref.go:95", #[], none⟩, ⟨none, .store 28 (.tmp 2) (.tmp 11), 0, "ref.go:95", #[⟨0, .data⟩, ⟨0, .phase⟩], none⟩]
def q19_4 : Array Oper := #[⟨some 12, .move (.tmp 0), 3, "ref.go:97", #[], none⟩, ⟨some 13, .build 53 #[(0, .tmp 12), (1, .const (.int .i64 1)), (2, .const (.int .u64 1))], 53, "ref.go:97", #[⟨0, .data⟩], none⟩, ⟨some 14, .buildSlice 22 1 #[(0, .tmp 13)], 22, "ref.go:97", #[⟨1, .data⟩], none⟩, ⟨some 15, .fieldAddr 28 (.tmp 3) 0, 0, "ref.go:97", #[⟨0, .phase⟩, ⟨1, .phase⟩, ⟨2, .phase⟩], none⟩, ⟨none, .store 22 (.tmp 15) (.tmp 14), 0, "ref.go:97", #[⟨3, .data⟩, ⟨2, .data⟩, ⟨0, .phase⟩, ⟨1, .phase⟩, ⟨2, .phase⟩], none⟩]
def q19_5 : Array Oper := #[⟨some 4, .assign (.const (.int .i64 0)), 3, "ref.go:98", #[], none⟩]
def q19_6 : Array Oper := #[⟨some 16, .move (.tmp 4), 3, "ref.go:98", #[], none⟩, ⟨some 17, .binOp .lss 3 (.tmp 16) (.const (.int .i64 8)) 3, 4, "ref.go:98", #[⟨0, .data⟩], none⟩]
def q19_7 : Array Oper := #[⟨some 18, .move (.tmp 4), 3, "ref.go:98", #[], none⟩, ⟨some 19, .binOp .add 3 (.tmp 18) (.const (.int .i64 1)) 3, 3, "ref.go:98", #[⟨0, .data⟩], none⟩, ⟨some 4, .assign (.tmp 19), 3, "ref.go:98", #[⟨1, .data⟩, ⟨0, .phase⟩, ⟨1, .phase⟩], none⟩]
def q19_8 : Array Oper := #[⟨some 20, .move (.tmp 4), 3, "ref.go:99", #[], none⟩, ⟨some 21, .move (.tmp 0), 3, "ref.go:99", #[], none⟩, ⟨some 22, .build 25 #[(0, .tmp 21), (1, .const (.int .u64 1))], 25, "ref.go:99", #[⟨1, .data⟩], none⟩, ⟨some 23, .fieldAddr 28 (.tmp 3) 1, 0, "ref.go:99", #[], none⟩, ⟨some 24, .indexAddr 26 (.tmp 23) (.tmp 20), 0, "ref.go:99", #[⟨3, .data⟩, ⟨0, .data⟩, ⟨0, .phase⟩, ⟨1, .phase⟩, ⟨2, .phase⟩], none⟩, ⟨none, .store 25 (.tmp 24) (.tmp 22), 0, "ref.go:99", #[⟨4, .data⟩, ⟨2, .data⟩, ⟨0, .phase⟩, ⟨1, .phase⟩, ⟨2, .phase⟩], none⟩]
def q19_9 : Array Oper := #[⟨some 25, .load 28 (.tmp 3), 28, "ref.go:101", #[], none⟩, ⟨none, .store 28 (.tmp 2) (.tmp 25), 0, "ref.go:101", #[⟨0, .data⟩, ⟨0, .phase⟩], none⟩]
theorem r19_2a (hz : a0.tmps.size = 26) (node : Int) (h1 : node < 1) (e0 : a0.eval (.tmp 0) = .int .i64 node) (hend : ∀ ac wz, After [5, 6, 7, 8, 9, 10] a0 ac → ac.eval (.tmp 10) = .bool true → Gr w wz → Q .normal ac wz) : RW 2 q19_2 false Q a0 w := by
  refine seq_by (by kernel_rfl) 6 (by decide) [5, 6, 7, 8, 9, 10] (fun | 5 => .val (.int .i64 node) | 6 => .val (.bool true) | 7 => .val (.bool true) | 10 => .val (.bool true) | _ => .any) (by kernel_rfl) (fmc ⟨?s0, fmc ⟨?s1, fmc ⟨?s2, fmc ⟨?s3, fmc ⟨?s4, fmc ⟨?s5, fun o ho => nomatch ho⟩⟩⟩⟩⟩⟩) ?e
  case s0 => exact sa_mo 0 5 e0
  case s1 => exact sa_bin .lss 3 (.tmp 5) (.const _) 3 6 (.int .i64 node) (.int .i64 1) (.bool true) rfl rfl rfl (.nw 5 hz) (.const _) guard_int (bin_lss (decide_eq_true (by omega))) rfl
  case s2 => exact sa_mw 6 7 hz
  case s3 => exact so_nF 2 7 hz
  case s4 => exact so_nF 2 7 hz
  case s5 => exact sa_pick (.tmp 7) (.const _) (.tmp 9) 10 (.val (.bool true)) rfl rfl rfl (.nw 7 hz) (.const _) rfl
  case e =>
  intro ac wz hA hgr hv
  exact wl_end (hend ac wz hA (hw hv hz 10) hgr)
theorem r19_2b (hz : a0.tmps.size = 26) (node : Int) (h1 : ¬ node < 1) (h2 : 7 < node) (e0 : a0.eval (.tmp 0) = .int .i64 node) (hend : ∀ ac wz, After [5, 6, 7, 8, 9, 10] a0 ac → ac.eval (.tmp 10) = .bool true → Gr w wz → Q .normal ac wz) : RW 2 q19_2 false Q a0 w := by
  refine seq_by (by kernel_rfl) 6 (by decide) [5, 6, 7, 8, 9, 10] (fun | 5 => .val (.int .i64 node) | 6 => .val (.bool false) | 7 => .val (.bool false) | 8 => .val (.int .i64 node) | 9 => .val (.bool true) | 10 => .val (.bool true) | _ => .any) (by kernel_rfl) (fmc ⟨?s0, fmc ⟨?s1, fmc ⟨?s2, fmc ⟨?s3, fmc ⟨?s4, fmc ⟨?s5, fun o ho => nomatch ho⟩⟩⟩⟩⟩⟩) ?e
  case s0 => exact sa_mo 0 5 e0
  case s1 => exact sa_bin .lss 3 (.tmp 5) (.const _) 3 6 (.int .i64 node) (.int .i64 1) (.bool false) rfl rfl rfl (.nw 5 hz) (.const _) guard_int (bin_lss (decide_eq_false (by omega))) rfl
  case s2 => exact sa_mw 6 7 hz
  case s3 => exact sa_gf 2 7 hz (sa_mo 0 8 e0)
  case s4 => exact sa_gf 2 7 hz (sa_bin .gtr 3 (.tmp 8) (.const _) 3 9 (.int .i64 node) (.int .i64 7) (.bool true) rfl rfl rfl (.nw 8 hz) (.const _) guard_int (bin_gtr (decide_eq_true (by omega))) rfl)
  case s5 => exact sa_pickF (.tmp 7) (.const _) (.tmp 9) 10 (.val (.bool true)) rfl rfl rfl (.nw 7 hz) (.nw 9 hz) rfl
  case e =>
  intro ac wz hA hgr hv
  exact wl_end (hend ac wz hA (hw hv hz 10) hgr)
theorem r19_2c (hz : a0.tmps.size = 26) (node : Int) (h1 : ¬ node < 1) (h2 : ¬ 7 < node) (e0 : a0.eval (.tmp 0) = .int .i64 node) (hend : ∀ ac wz, After [5, 6, 7, 8, 9, 10] a0 ac → ac.eval (.tmp 10) = .bool false → Gr w wz → Q .normal ac wz) : RW 2 q19_2 false Q a0 w := by
  refine seq_by (by kernel_rfl) 6 (by decide) [5, 6, 7, 8, 9, 10] (fun | 5 => .val (.int .i64 node) | 6 => .val (.bool false) | 7 => .val (.bool false) | 8 => .val (.int .i64 node) | 9 => .val (.bool false) | 10 => .val (.bool false) | _ => .any) (by kernel_rfl) (fmc ⟨?s0, fmc ⟨?s1, fmc ⟨?s2, fmc ⟨?s3, fmc ⟨?s4, fmc ⟨?s5, fun o ho => nomatch ho⟩⟩⟩⟩⟩⟩) ?e
  case s0 => exact sa_mo 0 5 e0
  case s1 => exact sa_bin .lss 3 (.tmp 5) (.const _) 3 6 (.int .i64 node) (.int .i64 1) (.bool false) rfl rfl rfl (.nw 5 hz) (.const _) guard_int (bin_lss (decide_eq_false (by omega))) rfl
  case s2 => exact sa_mw 6 7 hz
  case s3 => exact sa_gf 2 7 hz (sa_mo 0 8 e0)
  case s4 => exact sa_gf 2 7 hz (sa_bin .gtr 3 (.tmp 8) (.const _) 3 9 (.int .i64 node) (.int .i64 7) (.bool false) rfl rfl rfl (.nw 8 hz) (.const _) guard_int (bin_gtr (decide_eq_false (by omega))) rfl)
  case s5 => exact sa_pickF (.tmp 7) (.const _) (.tmp 9) 10 (.val (.bool false)) rfl rfl rfl (.nw 7 hz) (.nw 9 hz) rfl
  case e =>
  intro ac wz hA hgr hv
  exact wl_end (hend ac wz hA (hw hv hz 10) hgr)
theorem r19_3 (hz : a0.tmps.size = 26) (b c : Nat) (u : Value) (r : Rg) (hC : Holds w c (ringC u r) 28) (hR : RingAt w.heap.size w u r) (old : List Value) (h2 : Holds w b old 28) (hl : old.length = 17) (e3 : a0.eval (.tmp 3) = .pointer (some ⟨c, 0, none⟩)) (e2 : a0.eval (.tmp 2) = .pointer (some ⟨b, 0, none⟩)) (hend : ∀ ac wz, After [11] a0 ac → Holds wz b (ringC u r) 28 → Upd b w wz → Q .normal ac wz) : RW 3 q19_3 false Q a0 w := by
  refine seq_by (by kernel_rfl) 1 (by decide) [11] (fun | 11 => .val (.agg (ringC u r).toArray) | _ => .any) (by kernel_rfl) (fmc ⟨?s0, fun o ho => nomatch ho⟩) ?e
  case s0 => exact sa_row 28 (.tmp 3) 11 c (0) 17 _ (ringC u r) rfl rfl rfl Tryz.underlying28 rfl siz28 (ringC_len hR) (.old 3 _ (by decide) e3) (fun y hy => range_of (hC.below hy hC.lt)) rfl
  case e =>
  intro ac wz hA hgr hv
  have o11 : ac.eval (.tmp 11) = .agg (ringC u r).toArray := hw hv hz 11
  have o2 : ac.eval (.tmp 2) = .pointer (some ⟨b, 0, none⟩) := (hA.old 2 (by decide)).trans e2
  refine wpList_store_all rfl 28 (.tmp 2) (.tmp 11) rfl b o2 (ringC u r) o11 28 _ (h2.below hgr h2.lt) (siz28.trans (by rw [ringC_len hR])) (by rw [hl, ringC_len hR]) (ringC_one hR) ?_
  intro w3 h3
  exact wl_end (hend _ w3 hA h3.holds ((Gr.upd hgr).trans (Turned.upd h3)))
theorem r19_9 (hz : a0.tmps.size = 26) (b c : Nat) (u : Value) (r : Rg) (hC : Holds w c (ringC u r) 28) (hR : RingAt w.heap.size w u r) (old : List Value) (h2 : Holds w b old 28) (hl : old.length = 17) (e3 : a0.eval (.tmp 3) = .pointer (some ⟨c, 0, none⟩)) (e2 : a0.eval (.tmp 2) = .pointer (some ⟨b, 0, none⟩)) (hend : ∀ ac wz, After [25] a0 ac → Holds wz b (ringC u r) 28 → Upd b w wz → Q .normal ac wz) : RW 9 q19_9 false Q a0 w := by
  refine seq_by (by kernel_rfl) 1 (by decide) [25] (fun | 25 => .val (.agg (ringC u r).toArray) | _ => .any) (by kernel_rfl) (fmc ⟨?s0, fun o ho => nomatch ho⟩) ?e
  case s0 => exact sa_row 28 (.tmp 3) 25 c (0) 17 _ (ringC u r) rfl rfl rfl Tryz.underlying28 rfl siz28 (ringC_len hR) (.old 3 _ (by decide) e3) (fun y hy => range_of (hC.below hy hC.lt)) rfl
  case e =>
  intro ac wz hA hgr hv
  have o25 : ac.eval (.tmp 25) = .agg (ringC u r).toArray := hw hv hz 25
  have o2 : ac.eval (.tmp 2) = .pointer (some ⟨b, 0, none⟩) := (hA.old 2 (by decide)).trans e2
  refine wpList_store_all rfl 28 (.tmp 2) (.tmp 25) rfl b o2 (ringC u r) o25 28 _ (h2.below hgr h2.lt) (siz28.trans (by rw [ringC_len hR])) (by rw [hl, ringC_len hR]) (ringC_one hR) ?_
  intro w3 h3
  exact wl_end (hend _ w3 hA h3.holds ((Gr.upd hgr).trans (Turned.upd h3)))
theorem r19_4 (hz : a0.tmps.size = 26) (c : Nat) (node : Int) (v : Value) (os : List Ow) (hC : Holds w c (v :: ownV os) 28) (e0 : a0.eval (.tmp 0) = .int .i64 node) (e3 : a0.eval (.tmp 3) = .pointer (some ⟨c, 0, none⟩)) (hend : ∀ ac wz g, After [12, 13, 14, 15] a0 ac → Holds wz c (.slice (some ⟨g, 0, none⟩) 1 1 :: ownV os) 28 → Holds wz g (mbV (node, 1, 1)) 53 → g ≠ c → Upd c w wz → Q .normal ac wz) : RW 4 q19_4 false Q a0 w := by
  refine seq_by (by kernel_rfl) 4 (by decide) [12, 13, 14, 15] (fun | 12 => .val (.int .i64 node) | 13 => .val (.agg (mbV (node, 1, 1)).toArray) | 14 => rowF (node, 1, 1) | 15 => .val (.pointer (some ⟨c, 0, none⟩)) | _ => .any) (by kernel_rfl) (fmc ⟨?s0, fmc ⟨?s1, fmc ⟨?s2, fmc ⟨?s3, fun o ho => nomatch ho⟩⟩⟩⟩) ?e
  case s0 => exact sa_mo 0 12 e0
  case s1 => exact sa_bd3 53 0 1 2 (.tmp 12) (.const _) (.const _) 13 (.int .i64 node) (.int .i64 1) (.int .u64 1) (.agg (mbV (node, 1, 1)).toArray) rfl rfl rfl (.nw 12 hz) (.const _) (.const _) (by intro w; kernel_rfl) rfl
  case s2 => exact sa_bs1 22 1 (.tmp 13) 14 (.agg (mbV (node, 1, 1)).toArray) rfl rfl rfl (.nw 13 hz) (bs_mb (node, 1, 1))
  case s3 => exact sa_fa 28 (.tmp 3) 0 15 (.pointer (some ⟨c, 0, none⟩)) (.pointer (some ⟨c, 0, none⟩)) rfl rfl rfl (.old 3 _ (by decide) e3) (by intro w; kernel_rfl) rfl
  case e =>
  intro ac wz hA hgr hv
  have o14 := hw hv hz 14
  have o15 : ac.eval (.tmp 15) = .pointer (some ⟨c, 0, none⟩) := hw hv hz 15
  obtain ⟨g, e14, hg⟩ := o14
  have hC2 := hC.below hgr hC.lt
  have hne : g ≠ c := fun e => by
    subst e
    unfold Holds at hg hC2
    rw [hg] at hC2
    simp at hC2
  have u := (Upd.refl c wz).setCell 0 (.slice (some ⟨g, 0, none⟩) 1 1)
  exact wl_of rfl (op_store1 22 (.tmp 15) (.tmp 14) rfl c 0 o15 _ e14 rfl rfl (by intro w; kernel_rfl) (hC2.at 0 _ rfl) (hC2.frozen 0) (wl_end (hend _ _ g hA (hC2.set 0 _) (hg.upd u hne) hne ((Gr.upd hgr).trans u))))
theorem r19_5 (hz : a0.tmps.size = 26)   (hend : ∀ ac wz, After [4] a0 ac → ac.eval (.tmp 4) = .int .i64 0 → Gr w wz → Q .normal ac wz) : RW 5 q19_5 false Q a0 w := by
  refine seq_by (by kernel_rfl) 1 (by decide) [4] (fun | 4 => .val (.int .i64 0) | _ => .any) (by kernel_rfl) (fmc ⟨?s0, fun o ho => nomatch ho⟩) ?e
  case s0 => exact sa_move (.const _) 4 (.val (.int .i64 0)) (.inr rfl) rfl rfl (.const _) rfl
  case e =>
  intro ac wz hA hgr hv
  exact wl_end (hend ac wz hA (hw hv hz 4) hgr)
theorem r19_6 (hz : a0.tmps.size = 26) (k : Nat) (e4 : a0.eval (.tmp 4) = .int .i64 (k : Int)) (hend : ∀ ac wz, After [16, 17] a0 ac → ac.eval (.tmp 17) = .bool (decide ((k : Int) < 8)) → Gr w wz → Q .normal ac wz) : RW 6 q19_6 false Q a0 w := by
  refine seq_by (by kernel_rfl) 2 (by decide) [16, 17] (fun | 16 => .val (.int .i64 (k : Int)) | 17 => .val (.bool (decide ((k : Int) < 8))) | _ => .any) (by kernel_rfl) (fmc ⟨?s0, fmc ⟨?s1, fun o ho => nomatch ho⟩⟩) ?e
  case s0 => exact sa_mo 4 16 e4
  case s1 => exact sa_bin .lss 3 (.tmp 16) (.const _) 3 17 (.int .i64 (k : Int)) (.int .i64 8) (.bool (decide ((k : Int) < 8))) rfl rfl rfl (.nw 16 hz) (.const _) guard_int (bin_lss rfl) rfl
  case e =>
  intro ac wz hA hgr hv
  exact wl_end (hend ac wz hA (hw hv hz 17) hgr)
theorem r19_7 (hz : a0.tmps.size = 26) (k : Nat) (hk : k < 9223372036854775807) (e4 : a0.eval (.tmp 4) = .int .i64 (k : Int)) (hend : ∀ ac wz, After [4, 18, 19] a0 ac → ac.eval (.tmp 4) = .int .i64 ((k + 1 : Nat) : Int) → Gr w wz → Q .normal ac wz) : RW 7 q19_7 false Q a0 w := by
  refine seq_by (by kernel_rfl) 2 (by decide) [18, 19] (fun | 18 => .val (.int .i64 (k : Int)) | 19 => .val (.int .i64 ((k + 1 : Nat) : Int)) | _ => .any) (by kernel_rfl) (fmc ⟨?s0, fmc ⟨?s1, fun o ho => nomatch ho⟩⟩) ?e
  case s0 => exact sa_mo 4 18 e4
  case s1 => exact sa_bin .add 3 (.tmp 18) (.const _) 3 19 (.int .i64 (k : Int)) (.int .i64 1) (.int .i64 ((k + 1 : Nat) : Int)) rfl rfl rfl (.nw 18 hz) (.const _) guard_int (bin_add (by omega) (by omega) (by omega)) rfl
  case e =>
  intro ac wz hA hgr hv
  have o19 : ac.eval (.tmp 19) = .int .i64 ((k + 1 : Nat) : Int) := hw hv hz 19
  refine wl_of rfl (op_move (.tmp 19) (.inr rfl) (wl_end ?_))
  exact hend _ wz (hA.put 4 _)  ((ev_put (by rw [hA.size, hz]; decide)).trans ((if_pos rfl).trans o19)) hgr
theorem r19_8 (hz : a0.tmps.size = 26) (k c : Nat) (node : Int) (v : Value) (ms : List Mb) (os : List Ow) (h8 : os.length = 8) (hk : k < 8) (hC : Holds w c (ringC v (ms, os)) 28) (e4 : a0.eval (.tmp 4) = .int .i64 (k : Int)) (e0 : a0.eval (.tmp 0) = .int .i64 node) (e3 : a0.eval (.tmp 3) = .pointer (some ⟨c, 0, none⟩)) (hend : ∀ ac wz, After [20, 21, 22, 23, 24] a0 ac → Holds wz c (ringC v (ms, os.set k (node, 1))) 28 → Upd c w wz → Q .normal ac wz) : RW 8 q19_8 false Q a0 w := by
  refine seq_by (by kernel_rfl) 5 (by decide) [20, 21, 22, 23, 24] (fun | 20 => .val (.int .i64 (k : Int)) | 21 => .val (.int .i64 node) | 22 => .val (.agg (owV (node, 1)).toArray) | 23 => .val (.pointer (some ⟨c, 1, none⟩)) | 24 => .val (.pointer (some ⟨c, 1 + k * 2, none⟩)) | _ => .any) (by kernel_rfl) (fmc ⟨?s0, fmc ⟨?s1, fmc ⟨?s2, fmc ⟨?s3, fmc ⟨?s4, fun o ho => nomatch ho⟩⟩⟩⟩⟩) ?e
  case s0 => exact sa_mo 4 20 e4
  case s1 => exact sa_mo 0 21 e0
  case s2 => exact sa_bd2 25 0 1 (.tmp 21) (.const _) 22 (.int .i64 node) (.int .u64 1) (.agg (owV (node, 1)).toArray) rfl rfl rfl (.nw 21 hz) (.const _) (by intro w; kernel_rfl) rfl
  case s3 => exact sa_fa 28 (.tmp 3) 1 23 (.pointer (some ⟨c, 0, none⟩)) (.pointer (some ⟨c, 1, none⟩)) rfl rfl rfl (.old 3 _ (by decide) e3) (by intro w; kernel_rfl) rfl
  case s4 => exact sa_ixa 26 (.tmp 23) (.tmp 20) 24 (.pointer (some ⟨c, 1, none⟩)) (.int .i64 (k : Int)) (.pointer (some ⟨c, 1 + k * 2, none⟩)) rfl rfl rfl (.nw 23 hz) (.nw 20 hz) (ix_array (sz := 2) und26 (by intro w; kernel_rfl) hk (by omega)) rfl
  case e =>
  intro ac wz hA hgr hv
  have o22 : ac.eval (.tmp 22) = .agg (owV (node, 1)).toArray := hw hv hz 22
  have o24 : ac.eval (.tmp 24) = .pointer (some ⟨c, 1 + k * 2, none⟩) := hw hv hz 24
  refine wpList_store_part rfl 25 (.tmp 24) (.tmp 22) rfl c (1 + k * 2) o24 (owV (node, 1)) o22 28 _ (hC.below hgr hC.lt) siz25 (by show 1 + k * 2 + 2 ≤ (v :: ownV os).length; rw [List.length_cons, ownV_len, h8]; omega) (owV_one _) ?_
  intro y t3
  have th := t3.holds
  rw [ring_set v ms os k (node, 1) (by rw [h8]; exact hk)] at th
  exact wl_end (hend _ y hA th ((Gr.upd hgr).trans (Turned.upd t3)))
def c19_a : Code := (((Code.region 6 q19_6 false).seq (Code.cond (.tmp 17) Code.skip (Code.exit 0))).seq ((Code.block 1 (Code.region 8 q19_8 false)).seq (Code.region 7 q19_7 false)))
def c19_l : Code := (Code.block 0 (c19_a.loop))
def c19 : Code := ((Code.region 0 q19_0 false).seq ((Code.region 1 q19_1 false).seq (((Code.region 2 q19_2 false).seq (Code.cond (.tmp 10) ((Code.region 3 q19_3 false).seq Code.ret) Code.skip)).seq ((Code.region 4 q19_4 false).seq (((Code.region 5 q19_5 false).seq c19_l).seq ((Code.region 9 q19_9 false).seq Code.ret))))))
theorem r19_0 (hz : a0.tmps.size = 26) (b : Nat) (hb : w.heap.size = b) (hend : ∀ ac wz, After [2] a0 ac → ac.eval (.tmp 2) = .pointer (some ⟨b, 0, none⟩) → Anew b w wz (ringC (.slice none 0 0) ([], noOs)) 28 → Q .normal ac wz) : RW 0 q19_0 false Q a0 w := by
  refine wp_region_list ?_
  refine wpList_alloc_new 2 rfl rfl 28 rfl b hb _ zero28 ?_
  intro w1 h1
  refine wl_end (hend _ w1 ((After.self a0).put 2 _) ?_ h1)
  simp [ev_put, hz]
theorem r19_1 (hz : a0.tmps.size = 26) (b : Nat) (hb : w.heap.size = b) (hend : ∀ ac wz, After [3] a0 ac → ac.eval (.tmp 3) = .pointer (some ⟨b, 0, none⟩) → Anew b w wz (ringC (.slice none 0 0) ([], noOs)) 28 → Q .normal ac wz) : RW 1 q19_1 false Q a0 w := by
  refine wp_region_list ?_
  refine wpList_alloc_new 3 rfl rfl 28 rfl b hb _ zero28 ?_
  intro w1 h1
  refine wl_end (hend _ w1 ((After.self a0).put 3 _) ?_ h1)
  simp [ev_put, hz]
def RetA (w : World) (r : Rg) (e : Ending) (z : World) : Prop := ∃ u, e = .returned (.agg (ringC u r).toArray) ∧ RingAt z.heap.size z u r ∧ Gr w z
theorem newOs_all (os os' : List Ow) (n : Int) : newOs os n 8 = newOs os' n 8 := by
  unfold newOs
  apply List.map_congr_left
  intro j hj
  rw [if_pos (List.mem_range.1 hj), if_pos (List.mem_range.1 hj)]
theorem newL_eq (n : Int) (h : 1 ≤ n ∧ n ≤ 7) : newL n = ([(n, 1, 1)], newOs noOs n 8) := by
  unfold newL
  rw [if_pos ((isN_iff n).2 h), newOs_all (turnL noR 1 [n]).2 noOs n]
  have : (turnL noR 1 [n]).1 = [(n, 1, 1)] := by
    rw [turn_one]
    have h7 : n = 1 ∨ n = 2 ∨ n = 3 ∨ n = 4 ∨ n = 5 ∨ n = 6 ∨ n = 7 := by omega
    rcases h7 with rfl | rfl | rfl | rfl | rfl | rfl | rfl <;> rfl
  rw [this]
structure Nw (w : World) (b : Nat) (node : Int) (u : Value) (os : List Ow) (ac : Act) (x : World) : Prop where
  z : ac.tmps.size = 26
  df : ac.defers = []
  e0 : ac.eval (.tmp 0) = .int .i64 node
  e2 : ac.eval (.tmp 2) = .pointer (some ⟨b, 0, none⟩)
  e3 : ac.eval (.tmp 3) = .pointer (some ⟨b + 1, 0, none⟩)
  h2 : Holds x b (ringC (.slice none 0 0) ([], noOs)) 28
  hc : Holds x (b + 1) (ringC u ([(node, 1, 1)], os)) 28
  hm : Mems x.heap.size x u [(node, 1, 1)]
  ne : ∀ g, u.ownBlock = some g → g ≠ b ∧ g ≠ b + 1
  bl : Below b w x
theorem Nw.gr {w x y : World} {b : Nat} {node : Int} {u : Value} {os : List Ow} {ac ad : Act} {D : List Nat} (h : Nw w b node u os ac x) (hA : After D ac ad) (hD : (D.all fun s => decide (4 ≤ s)) = true) (g : Gr x y) : Nw w b node u os ad y :=
  ⟨hA.size.trans h.z, hA.defers.trans h.df, hA.keep hD (by omega) h.e0, hA.keep hD (by omega) h.e2, hA.keep hD (by omega) h.e3, h.h2.below g h.h2.lt, h.hc.below g h.hc.lt, (h.hm.below g).mono g.size, h.ne, h.bl.trans (g.mono (Nat.le_of_lt h.h2.lt))⟩
theorem Nw.more {w x y : World} {b : Nat} {node : Int} {u : Value} {os os' : List Ow} {ac ad : Act} {D : List Nat} (h : Nw w b node u os ac x) (hA : After D ac ad) (hD : (D.all fun s => decide (4 ≤ s)) = true) (hc : Holds y (b + 1) (ringC u ([(node, 1, 1)], os')) 28) (hu : Upd (b + 1) x y) : Nw w b node u os' ad y :=
  ⟨hA.size.trans h.z, hA.defers.trans h.df, hA.keep hD (by omega) h.e0, hA.keep hD (by omega) h.e2, hA.keep hD (by omega) h.e3, h.h2.upd hu (by omega), hc, (h.hm.outs (s := fun g => g = b + 1) (Outs.ofUpd hu rfl) (Nat.le_refl _) (fun g hg e => (h.ne g hg).2 e)).mono hu.size, h.ne, h.bl.trans (hu.below (by omega) (Nat.le_of_lt h.h2.lt))⟩
set_option maxHeartbeats 1000000 in
theorem rnew_any (node : Int) (w : World) : Calls Tryz.prog 19 #[.int .i64 node] w (RetA w (newL node)) := by
  obtain ⟨b, hwb⟩ : ∃ b, w.heap.size = b := ⟨_, rfl⟩
  have hgr : ∀ y, Below b w y → Gr w y := fun y hy => by unfold Gr; rw [hwb]; exact hy
  refine calls_by (c := c19) Tryz.func19 (by kernel_rfl) 26 (by rw [Tryz.ntmps19]; rfl) (fun ac z df hv => ?_)
  have e0 := hv 0 _ rfl
  clear hv
  unfold c19
  refine wp_seq (r19_0 z b hwb (fun a1 x1 A1 o2 N1 => ?_))
  have z1 := A1.size.trans z
  have s1 : x1.heap.size = b + 1 := N1.size
  show Code.wp Tryz.prog (Code.seq _ _) _ a1 x1
  refine wp_seq (r19_1 z1 (b + 1) s1 (fun a2 x2 A2 o3 N2 => ?_))
  have z2 := A2.size.trans z1
  have f2 := A2.get o2 (by decide)
  have f0 := A2.get (A1.get e0 (by decide)) (by decide)
  have df2 : a2.defers = [] := A2.defers.trans (A1.defers.trans df)
  have hB2 : Below b w x2 := N1.below.trans (N2.below.mono (by omega))
  have H2 : Holds x2 b (ringC (.slice none 0 0) ([], noOs)) 28 := N1.holds.below N2.below (by omega)
  have H3 := N2.holds
  have s2 : x2.heap.size = b + 2 := N2.size
  have none_ : ∀ (K : Act → World → Prop) a4 x4 D, After D a2 a4 → (D.all fun s => decide (4 ≤ s)) = true → Gr x2 x4 → newL node = noR → ((Code.region 3 q19_3 false).seq Code.ret).wp Tryz.prog (Exit.then K (bodyPost Tryz.prog Tryz.f19 (RetA w (newL node)))) a4 x4 := fun K a4 x4 D A4 hD G4 hn => by
    rw [hn]
    refine wp_seq (r19_3 (A4.size.trans z2) b (b + 1) (.slice none 0 0) noR (H3.below G4 H3.lt) (noR_at _ _) _ (H2.below G4 H2.lt) noC_len (A4.keep hD (by omega) o3) (A4.keep hD (by omega) f2) (fun a5 x5 A5 H5 U5 => ?_))
    exact wp_ret (show bodyPost Tryz.prog Tryz.f19 (RetA w noR) .ret a5 x5 from bodyPost_ret (results_ring (p := 2) (by kernel_rfl) _ x5 b _ (A5.get (A4.keep hD (by omega) f2) (by decide)) H5 noC_len) (A5.defers.trans (A4.defers.trans df2)) ⟨_, rfl, noR_at _ _, hgr _ (hB2.trans ((G4.mono (by omega)).trans (U5.below (Nat.le_refl _) (by have := G4.size; omega))))⟩)
  have hnl : ¬ isN node = true → newL node = noR := fun h => by unfold newL; rw [if_neg h]
  show Code.wp Tryz.prog (Code.seq (Code.seq _ _) _) _ a2 x2
  by_cases h1 : node < 1
  · refine wp_seq (wp_seq (r19_2a z2 node h1 f0 (fun a3 x3 A3 o10 G3 => ?_)))
    show Code.wp Tryz.prog (Code.cond _ _ _) _ a3 x3
    exact wp_cond_split o10 (fun _ => none_ _ a3 x3 _ A3 (by decide) G3 (hnl (fun q => by have := (isN_iff node).1 q; omega))) (fun q => by cases q)
  · by_cases h2 : 7 < node
    · refine wp_seq (wp_seq (r19_2b z2 node h1 h2 f0 (fun a3 x3 A3 o10 G3 => ?_)))
      show Code.wp Tryz.prog (Code.cond _ _ _) _ a3 x3
      exact wp_cond_split o10 (fun _ => none_ _ a3 x3 _ A3 (by decide) G3 (hnl (fun q => by have := (isN_iff node).1 q; omega))) (fun q => by cases q)
    · rw [newL_eq node ⟨by omega, by omega⟩]
      refine wp_seq (wp_seq (r19_2c z2 node h1 h2 f0 (fun a3 x3 A3 o10 G3 => ?_)))
      have z3 := A3.size.trans z2
      show Code.wp Tryz.prog (Code.cond _ _ _) _ a3 x3
      refine wp_cond_split o10 (fun q => by cases q) (fun _ => ?_)
      refine wp_skip ?_
      show Code.wp Tryz.prog (Code.seq _ _) _ a3 x3
      have g0 := A3.get f0 (by decide)
      have g3 := A3.get o3 (by decide)
      have hG3 := G3.size
      refine wp_seq (r19_4 z3 (b + 1) node (.slice none 0 0) noOs (H3.below G3 H3.lt) g0 g3 (fun a4 x4 g A4 H4 M4 ne4 U4 => ?_))
      have hmm : Mems x4.heap.size x4 (.slice (some ⟨g, 0, none⟩) 1 1) [(node, 1, 1)] := rowF_mems ⟨g, rfl, M4⟩
      have H24 : Holds x4 b (ringC (.slice none 0 0) ([], noOs)) 28 := (H2.below G3 H2.lt).upd U4 (by omega)
      have neb : g ≠ b := fun e => by
        subst e
        unfold Holds at M4 H24
        rw [M4] at H24
        simp at H24
      have h4 : Nw w b node (.slice (some ⟨g, 0, none⟩) 1 1) noOs a4 x4 := ⟨A4.size.trans z3, A4.defers.trans (A3.defers.trans df2), A4.get g0 (by decide), A4.get (A3.get f2 (by decide)) (by decide), A4.get g3 (by decide), H24, H4, hmm, fun g' hg' => by cases hg'; exact ⟨neb, ne4⟩, (hB2.trans (G3.mono (by omega))).trans (U4.below (by omega) (by omega))⟩
      show Code.wp Tryz.prog (Code.seq (Code.seq _ c19_l) _) _ a4 x4
      refine wp_seq (wp_seq (r19_5 h4.z (fun a5 x5 A5 o4 G5 => ?_)))
      have h5 := h4.gr A5 (by decide) G5
      rw [show noOs = newOs noOs node 0 from (newOs_zero _ _ rfl).symm] at h5
      show Code.wp Tryz.prog c19_l _ a5 x5
      unfold c19_l
      refine wp_block ?_
      refine wp_loop (fun ad y => ∃ k : Nat, Nw w b node (.slice (some ⟨g, 0, none⟩) 1 1) (newOs noOs node k) ad y ∧ k ≤ 8 ∧ ad.eval (.tmp 4) = .int .i64 (k : Int)) (fun ad _ => 8 - (intOf (ad.eval (.tmp 4))).toNat)
        ⟨0, h5, by omega, o4⟩ (fun b0 x0 ⟨k, h0, hk, f4⟩ => ?_)
      unfold c19_a
      refine wp_seq (wp_seq (r19_6 h0.z k f4 (fun a6 x6 A6 o17 G6 => ?_)))
      have h6 := h0.gr A6 (by decide) G6
      have g4 := A6.get f4 (by decide)
      show Code.wp Tryz.prog (Code.cond _ _ _) _ a6 x6
      refine wp_cond_split o17 (fun q => ?_) (fun q => ?_)
      · have q : (k : Int) < 8 := of_decide_eq_true q
        have hk8 : k < 8 := by omega
        refine wp_skip ?_
        show Code.wp Tryz.prog (Code.seq _ _) _ a6 x6
        refine wp_seq (wp_block (r19_8 h6.z k (b + 1) node _ _ _ (newOs_len _ _ _) hk8 h6.hc g4 h6.e0 h6.e3 (fun a7 x7 A7 H7 U7 => ?_)))
        rw [← newOs_succ] at H7
        have h7 := h6.more A7 (by decide) H7 U7
        show Code.wp Tryz.prog (Code.region 7 q19_7 false) _ a7 x7
        refine r19_7 h7.z k (by omega) (A7.get g4 (by decide)) (fun a8 x8 A8 o4' G8 => ?_)
        refine ⟨⟨k + 1, h7.gr A8 (by decide) G8, by omega, o4'⟩, ?_⟩
        rw [o4', f4]
        simp only [intOf]
        omega
      · have q : ¬ (k : Int) < 8 := of_decide_eq_false q
        obtain rfl : k = 8 := by omega
        refine wp_exit ?_
        show Code.wp Tryz.prog (Code.seq _ _) _ a6 x6
        have RA6 : RingAt x6.heap.size x6 (.slice (some ⟨g, 0, none⟩) 1 1) ([(node, 1, 1)], newOs noOs node 8) := ⟨h6.hm, newOs_len _ _ _⟩
        refine wp_seq (r19_9 h6.z b (b + 1) _ _ h6.hc RA6 _ h6.h2 noC_len h6.e3 h6.e2 (fun a7 x7 A7 H7 U7 => ?_))
        exact wp_ret (show bodyPost Tryz.prog Tryz.f19 (RetA w ([(node, 1, 1)], newOs noOs node 8)) .ret a7 x7 from bodyPost_ret (results_ring (p := 2) (by kernel_rfl) _ x7 b _ (A7.get h6.e2 (by decide)) H7 (ringC_len RA6)) (A7.defers.trans h6.df) ⟨_, rfl, ⟨(h6.hm.outs (s := fun g => g = b) (Outs.ofUpd U7 rfl) (Nat.le_refl _) (fun g' hg' e => (h6.ne g' hg').1 e)).mono U7.size, newOs_len _ _ _⟩, hgr _ (h6.bl.trans (U7.below (Nat.le_refl _) (Nat.le_of_lt h6.h2.lt)))⟩)
end Go.Proofs.YthmnjebmnocoiaaGreat.En
