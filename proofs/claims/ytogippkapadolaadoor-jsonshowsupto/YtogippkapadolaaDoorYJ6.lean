/- JsPart, JsPartB, JsByte, JsText, JsShow. -/
import Derived.Lib.OthersKept
import Derived.Lib.AppendIntMem
import Derived.Test.YtogippkapadolaaDoorYJ5
import Derived.Test.YtogippkapadolaaDoorYJ4
/- A value's box, its elements and names in rows of its own; one element more. -/
namespace Go.Proofs.YtogippkapadolaaDoor
open Go.RowKit

theorem und24 : Tryd.prog.underlying 24 = some (.slice 27) := by kernel_rfl
theorem und25 : Tryd.prog.underlying 25 = some (.slice 9) := by kernel_rfl
def zeroJ : List Value := [.int .i64 0, .bool false, .int .i64 0, .string ⟨#[]⟩, .slice none 0 0, .slice none 0 0]
theorem full27 : (Tryd.prog.info? 27).map (fun i => (i.zero, i.size, i.bytes)) = some (some (.agg zeroJ.toArray), 6, 88) := by kernel_rfl
theorem inf27 : ∃ i, Tryd.prog.info? 27 = some i ∧ i.zero = some (.agg zeroJ.toArray) ∧ i.size = 6 ∧ i.bytes = 88 := by
  have := full27
  cases h : Tryd.prog.info? 27 with
  | none => simp [h] at this
  | some i =>
    simp [h] at this
    exact ⟨i, rfl, this.1, this.2.1, this.2.2⟩
theorem size27 : ∀ w, (Go.sizeOf 27).run Tryd.prog w = .ok 6 w := run_sizeOf (by kernel_rfl)
theorem size24 : ∀ w, (Go.sizeOf 24).run Tryd.prog w = .ok 1 w := run_sizeOf (by kernel_rfl)
theorem size25 : ∀ w, (Go.sizeOf 25).run Tryd.prog w = .ok 1 w := run_sizeOf (by kernel_rfl)
theorem jat_cells {w : World} {S : Nat → Prop} {j : J} {v : Value} (h : JAt w S j v) : ∃ c : List Value, v = .agg c.toArray ∧ c.length = 6 ∧ ∀ x ∈ c, x.oneCell' = true := by
  cases h with
  | mk k b n s l names la na lc nc es hes h6 hl hlies hnames =>
    refine ⟨_, rfl, rfl, fun x hx => ?_⟩
    simp only [jsonV, List.mem_cons, List.not_mem_nil, or_false] at hx
    rcases hx with rfl | rfl | rfl | rfl | rfl | rfl <;> rfl

/-- All blocks below M but c are as they were. -/
structure Keep (M c : Nat) (w w' : World) : Prop where
  os : w'.os = w.os
  tape : w'.tape = w.tape
  output : w'.output = w.output
  size : w.heap.size ≤ w'.heap.size
  block : ∀ k, k < w.heap.size → k < M → k ≠ c → w'.heap[k]? = w.heap[k]?
theorem Keep.trans {M c : Nat} {x y z : World} (h : Keep M c x y) (k : Keep M c y z) : Keep M c x z := ⟨k.os.trans h.os, k.tape.trans h.tape, k.output.trans h.output, Nat.le_trans h.size k.size, fun i hi h1 h2 => (k.block i (Nat.lt_of_lt_of_le hi h.size) h1 h2).trans (h.block i hi h1 h2)⟩
theorem Keep.refl (M c : Nat) (w : World) : Keep M c w w := ⟨rfl, rfl, rfl, Nat.le_refl _, fun _ _ _ _ => rfl⟩
theorem Holds.keep {M c g : Nat} {w w' : World} {l : List Value} {t : TypeId} (h : Holds w g l t) (k : Keep M c w w') (h1 : g < M) (h2 : g ≠ c) : Holds w' g l t := (k.block g h.lt h1 h2).trans h

def boxV (kd : Int) (u nv : Value) : List Value := [.int .i64 kd, .bool false, .int .i64 0, .string ⟨#[]⟩, u, nv]
/-- The box of a value that is being made. -/
structure VIn (M bv : Nat) (kd : Int) (l : List J) (names : List (List UInt8)) (w : World) (u nv : Value) (es : List (List Value)) : Prop where
  box : Holds w bv (boxV kd u nv) 27
  own : w.ownsRow M 27 6 u l.length es.flatten
  nown : w.ownsRow M 9 1 nv names.length (names.map strV1)
  apart : ∀ k, u.ownBlock = some k → nv.ownBlock ≠ some k
  len : es.length = l.length
  six : ∀ c ∈ es, c.length = 6
  each : ∀ (i : Nat) (x : J) (c : List Value), l[i]? = some x → es[i]? = some c → JAt w (fun k => M ≤ k ∧ u.ownBlock ≠ some k ∧ nv.ownBlock ≠ some k) x (.agg c.toArray)
theorem own_lt {w : World} {B : Nat} {e : TypeId} {z : Nat} {v : Value} {n : Nat} {xs : List Value} (h : w.ownsRow B e z v n xs) {j : Nat} (hj : v.ownBlock = some j) : j < w.heap.size := by
  rcases h.2 with ⟨rfl, _⟩ | ⟨g, cap, cur, rfl, hb, hg, _⟩
  · cases hj
  · cases hj; exact (Array.getElem?_eq_some_iff.1 hg).1
theorem owns_same {w w' : World} {B : Nat} {e : TypeId} {z : Nat} {v : Value} {n : Nat} {xs : List Value} (h : w.ownsRow B e z v n xs) (hk : ∀ k, v.ownBlock = some k → k < w.heap.size → B ≤ k → w'.heap[k]? = w.heap[k]?) : w'.ownsRow B e z v n xs := by
  obtain ⟨h1, h2 | ⟨g, cap, cur, rfl, hg, hgg, r⟩⟩ := h
  · exact ⟨h1, .inl h2⟩
  · exact ⟨h1, .inr ⟨g, cap, cur, rfl, hg, (hk g rfl (Array.getElem?_eq_some_iff.1 hgg).1 hg).trans hgg, r⟩⟩
/-- What stays when blocks from M on stay, and the box. -/
theorem VIn.same {M bv : Nat} {kd : Int} {l : List J} {names : List (List UInt8)} {w w' : World} {u nv : Value} {es : List (List Value)} (h : VIn M bv kd l names w u nv es) (hb : w'.heap[bv]? = w.heap[bv]?) (hk : ∀ k, M ≤ k → k < w.heap.size → w'.heap[k]? = w.heap[k]?) : VIn M bv kd l names w' u nv es :=
  ⟨hb.trans h.box, owns_same h.own fun k _ h1 h2 => hk k h2 h1, owns_same h.nown fun k _ h1 h2 => hk k h2 h1, h.apart, h.len, h.six, fun i x c h1 h2 => (h.each i x c h1 h2).mono fun k h3 h4 => ⟨h3, hk k h3.1 h4⟩⟩
theorem VIn.upd {M bv b : Nat} {kd : Int} {l : List J} {names : List (List UInt8)} {w w' : World} {u nv : Value} {es : List (List Value)} (h : VIn M bv kd l names w u nv es) (hu : Upd b w w') (h1 : bv ≠ b) (h2 : b < M) : VIn M bv kd l names w' u nv es :=
  h.same (hu.block bv h.box.lt h1) fun k h3 h4 => hu.block k h4 (by omega)
/-- One element more: what the row's block holds. -/
theorem row_more {w : World} {M g cap n : Nat} {xs cs old : List Value} (h : w.ownsRow M 27 6 (.slice (some ⟨g, 0, none⟩) (n + 1) cap) (n + 1) (xs ++ old)) (hx : xs.length = n * 6) (hc : cs.length = 6) :
    ∃ cur : List Value, Holds w g cur 27 ∧ n * 6 + 6 ≤ cur.length ∧ M ≤ g ∧ ∀ w', Holds w' g (overV cur (n * 6) cs) 27 → w'.ownsRow M 27 6 (.slice (some ⟨g, 0, none⟩) (n + 1) cap) (n + 1) (xs ++ cs) := by
  obtain ⟨h1, ⟨h2, _⟩ | ⟨g', cap', cur, h2, hg, hcur, hcap, hcm, hcz, htk⟩⟩ := h
  · cases h2
  · cases h2
    have hlen : cur.toList.length = cap * 6 := by simpa using hcz
    refine ⟨cur.toList, by unfold Holds; simpa using hcur, by omega, hg, fun w' hw => ?_⟩
    refine ⟨by simp [hx, hc]; omega, .inr ⟨g, cap, _, rfl, hg, hw, hcap, hcm, ?_, ?_⟩⟩
    · simp only [List.size_toArray, overV, List.length_append, List.length_take, List.length_drop]
      omega
    · have e1 : cur.toList.take (n * 6) = xs := by
        have q : (cur.toList.take ((n + 1) * 6)).take (n * 6) = xs := by rw [htk, List.take_left' hx]
        rw [List.take_take, Nat.min_eq_left (by omega)] at q
        exact q
      show (overV cur.toList (n * 6) cs).take ((n + 1) * 6) = xs ++ cs
      unfold overV
      rw [e1, List.take_append_of_le_length (by simp [hx, hc]; omega), List.take_of_length_le (by simp [hx, hc]; omega)]

/-- What of the world stands behind the tail: the row's block g and the box bv alone are written. -/
structure Two (w y : World) (g bv : Nat) : Prop where
  os : y.os = w.os
  tape : y.tape = w.tape
  output : y.output = w.output
  size : y.heap.size = w.heap.size
  block : ∀ k, k ≠ g → k ≠ bv → y.heap[k]? = w.heap[k]?
theorem Two.turned {w y z : World} {g bv c : Nat} {cs : List Value} {t : TypeId} (h : Two w y g bv) (k : Turned c y z cs t) (hc : c = g ∨ c = bv) : Two w z g bv :=
  ⟨k.os.trans h.os, k.tape.trans h.tape, k.output.trans h.output, k.size.trans h.size, fun i h1 h2 => (k.others i (by rintro rfl; rcases hc with rfl | rfl; exact h1 rfl; exact h2 rfl)).trans (h.block i h1 h2)⟩
structure TailI (bv g n cap : Nat) (kd : Int) (u nv val : Value) (cur cs : List Value) (t0 t5 t6 t8 t9 t10 : Nat) (a1 : Act) (w1 : World) (b1 b2 b3 b4 : Bool) (a : Act) (y : World) : Prop where
  after : After [t9, t10] a1 a
  p1 : b1 = true → a.eval (.tmp t9) = .pointer (some ⟨g, n * 6, none⟩)
  p3 : b3 = true → a.eval (.tmp t10) = .pointer (some ⟨bv, 4, none⟩)
  two : Two w1 y g bv
  row : Holds y g (if b2 then overV cur (n * 6) cs else cur) 27
  box : Holds y bv (boxV kd (if b4 then .slice (some ⟨g, 0, none⟩) (n + 1) cap else u) nv) 27
theorem put_after {D : List Nat} {a0 a : Act} (h : After D a0 a) (d : Nat) (hd : D.contains d = true) (v : Value) : After D a0 (a.put (some d) v) :=
  (h.put d v).mono (by simp at hd; simp [hd])
set_option maxHeartbeats 1000000 in
/-- One element more, behind the append's operands. -/
theorem elem_tail {ops : Array Oper} {m : Nat} (hB : pairB ops m = true) {o0 o1 o2 o3 o4 : Oper} (e0 : ops[m]? = some o0) (e1 : ops[m + 1]? = some o1) (e2 : ops[m + 2]? = some o2) (e3 : ops[m + 3]? = some o3) (e4 : ops[m + 4]? = some o4)
    (t0 t3 t5 t6 t7 t8 t9 t10 : Nat)
    (h0 : o0.op = .call { callee := .builtin .append, args := #[.tmp t3, .tmp t7], argTypes := #[24, 24] } ∧ o0.dst = some t8 ∧ o0.guard = none)
    (h1 : o1.op = .indexAddr 24 (.tmp t8) (.tmp t6) ∧ o1.dst = some t9 ∧ o1.guard = none)
    (h2 : o2.op = .store 27 (.tmp t9) (.tmp t5) ∧ o2.dst = none ∧ o2.guard = none)
    (h3 : o3.op = .fieldAddr 27 (.tmp t0) 4 ∧ o3.dst = some t10 ∧ o3.guard = none)
    (h4 : o4.op = .store 24 (.tmp t10) (.tmp t8) ∧ o4.dst = none ∧ o4.guard = none)
    (hne : ([t9, t10].contains t0 || [t9, t10].contains t5 || [t9, t10].contains t6 || [t9, t10].contains t8 || decide (t9 = t10) || decide (t8 = t0) || decide (t8 = t5) || decide (t8 = t6)) = false)
    {a : Act} {w : World} (hz : t8 < a.tmps.size ∧ t9 < a.tmps.size ∧ t10 < a.tmps.size) {Q : Exit → Act → World → Prop}
    {M bv B : Nat} {kd : Int} {l : List J} {names : List (List UInt8)} {u nv val : Value} {es : List (List Value)} {j : J} {fr : Nat × Nat}
    (hV : VIn M bv kd l names w u nv es) (hM : M ≤ w.heap.size) (hbv : bv < M) (hn : l.length ≤ 1099511627776)
    (hval : JAt w (fun k => M ≤ k ∧ u.ownBlock ≠ some k ∧ nv.ownBlock ≠ some k) j val)
    (v0 : a.eval (.tmp t0) = .pointer (some ⟨bv, 0, none⟩)) (v3 : a.eval (.tmp t3) = u) (v5 : a.eval (.tmp t5) = val) (v6 : a.eval (.tmp t6) = .int .i64 (l.length : Int)) (v7 : a.eval (.tmp t7) = .slice (some ⟨B, 0, none⟩) 1 1)
    (hBk : w.heap[B]? = some (.cells zeroJ.toArray 27 fr))
    (hend : ∀ ac wz u' es', After [t8, t9, t10] a ac → VIn M bv kd (l ++ [j]) names wz u' nv es' → Keep M bv w wz → Q .normal ac wz) (fuel : Nat) (hf : 5 ≤ fuel) : wpAny Tryd.prog .any ops Q fuel (LB m false false false false false) a w := by
  obtain ⟨i, i1, i2, i3, i4⟩ := inf27
  obtain ⟨cs, rfl, hc6, hc1⟩ := jat_cells hval
  have hlen : es.flatten.length = l.length * 6 := hV.own.1
  simp only [Bool.or_eq_false_iff, decide_eq_false_iff_not] at hne
  obtain ⟨⟨⟨⟨⟨⟨⟨n0, n5⟩, n6⟩, n8⟩, n9⟩, m0⟩, m5⟩, m6⟩ := hne
  have hnown : ∀ k, nv.ownBlock = some k → k < w.heap.size := fun k hk => own_lt hV.nown hk
  suffices hs : o0.wp Tryd.prog a w (fun a1 w1 => ∃ g cap cur, a1 = a.put (some t8) (.slice (some ⟨g, 0, none⟩) (l.length + 1) cap) ∧ TailI bv g l.length cap kd u nv (.agg cs.toArray) cur cs t0 t5 t6 t8 t9 t10 a1 w1 false false false false a1 w1 ∧
      (w1.ownsRow M 27 6 (.slice (some ⟨g, 0, none⟩) (l.length + 1) cap) (l.length + 1) (es.flatten ++ zeroJ) ∧ w.grownBy w1 u.ownBlock ∧ (u.ownBlock = some g ∨ g = w.heap.size) ∧ l.length * 6 + 6 ≤ cur.length ∧ M ≤ g ∧ ∀ w', Holds w' g (overV cur (l.length * 6) cs) 27 → w'.ownsRow M 27 6 (.slice (some ⟨g, 0, none⟩) (l.length + 1) cap) (l.length + 1) (es.flatten ++ cs))) Q by
    refine pair_tail hB e0 e1 e2 e3 e4 h0.2.2 h1.2.2 h2.2.2 h3.2.2 h4.2.2 (fun b1 b2 b3 b4 a' y => ∃ a1 w1 g cap cur, a1 = a.put (some t8) (.slice (some ⟨g, 0, none⟩) (l.length + 1) cap) ∧ TailI bv g l.length cap kd u nv (.agg cs.toArray) cur cs t0 t5 t6 t8 t9 t10 a1 w1 b1 b2 b3 b4 a' y ∧
      (w1.ownsRow M 27 6 (.slice (some ⟨g, 0, none⟩) (l.length + 1) cap) (l.length + 1) (es.flatten ++ zeroJ) ∧ w.grownBy w1 u.ownBlock ∧ (u.ownBlock = some g ∨ g = w.heap.size) ∧ l.length * 6 + 6 ≤ cur.length ∧ M ≤ g ∧ ∀ w', Holds w' g (overV cur (l.length * 6) cs) 27 → w'.ownsRow M 27 6 (.slice (some ⟨g, 0, none⟩) (l.length + 1) cap) (l.length + 1) (es.flatten ++ cs)))
      (Oper.wp_mono (fun a1 w1 ⟨g, cap, cur, q⟩ => ⟨a1, w1, g, cap, cur, q⟩) hs) ?_ ?_ ?_ ?_ ?_ fuel hf
    · rintro b3 b4 a' y ⟨a1, w1, g, cap, cur, rfl, T, hR⟩
      have x8 : a'.eval (.tmp t8) = .slice (some ⟨g, 0, none⟩) (l.length + 1) cap := (T.after.get ((ev_put hz.1).trans (if_pos rfl)) n8)
      have x6 : a'.eval (.tmp t6) = .int .i64 (l.length : Int) := T.after.get ((ev_put hz.1).trans ((if_neg m6).trans v6)) n6
      refine op_ixa 24 (.tmp t8) (.tmp t6) _ _ (.pointer (some ⟨g, l.length * 6, none⟩)) h1.1 x8 x6 (ix_slice und24 size27 (by omega) (by omega)) ?_
      rw [h1.2.1]
      exact ⟨_, w1, g, cap, cur, rfl, ⟨put_after T.after t9 (by simp) _, fun _ => (ev_put (by rw [T.after.size, put_size]; exact hz.2.1)).trans (if_pos rfl), fun h => (ev_put (by rw [T.after.size, put_size]; exact hz.2.1)).trans ((if_neg n9).trans (T.p3 h)), T.two, T.row, T.box⟩, hR⟩
    · rintro b3 b4 a' y ⟨a1, w1, g, cap, cur, rfl, T, hR⟩
      have x5 : a'.eval (.tmp t5) = .agg cs.toArray := T.after.get ((ev_put hz.1).trans ((if_neg m5).trans v5)) n5
      have hrow : Holds y g cur 27 := T.row
      refine wp_store_mid 27 (.tmp t9) (.tmp t5) h2.1 g (l.length * 6) cs.toArray (T.p1 rfl) x5 (hrow.there _ _ (by simpa [hc6] using hR.2.2.2.1)) (by rw [show cs.toArray.size = 6 by simpa using hc6]; kernel_rfl) (all_oneCell_toArray hc1) ?_
      rw [h2.2.1]
      have hT := turned_setCells (t := 27) g cs (l.length * 6) y cur hrow (by rw [hc6]; exact hR.2.2.2.1)
      have hgb : bv ≠ g := by have := hR.2.2.2.2.1; omega
      exact ⟨_, w1, g, cap, cur, rfl, ⟨T.after, T.p1, T.p3, T.two.turned hT (.inl rfl), hT.holds, (hT.others bv hgb).trans T.box⟩, hR⟩
    · rintro b1 b2 a' y ⟨a1, w1, g, cap, cur, rfl, T, hR⟩
      have x0 : a'.eval (.tmp t0) = .pointer (some ⟨bv, 0, none⟩) := T.after.get ((ev_put hz.1).trans ((if_neg m0).trans v0)) n0
      refine op_fa 27 (.tmp t0) 4 _ (.pointer (some ⟨bv, 4, none⟩)) h3.1 x0 (fun w => by kernel_rfl) ?_
      rw [h3.2.1]
      exact ⟨_, w1, g, cap, cur, rfl, ⟨put_after T.after t10 (by simp) _, fun h => (ev_put (by rw [T.after.size, put_size]; exact hz.2.2)).trans ((if_neg (fun e => n9 e.symm)).trans (T.p1 h)), fun _ => (ev_put (by rw [T.after.size, put_size]; exact hz.2.2)).trans (if_pos rfl), T.two, T.row, T.box⟩, hR⟩
    · rintro b1 b2 a' y ⟨a1, w1, g, cap, cur, rfl, T, hR⟩
      have x8 : a'.eval (.tmp t8) = .slice (some ⟨g, 0, none⟩) (l.length + 1) cap := (T.after.get ((ev_put hz.1).trans (if_pos rfl)) n8)
      have hbox : Holds y bv (boxV kd u nv) 27 := T.box
      refine op_store1 24 (.tmp t10) (.tmp t8) h4.1 bv 4 (T.p3 rfl) _ x8 rfl rfl size24 (hbox.at 4 _ rfl) (hbox.frozen 4) ?_
      rw [h4.2.1]
      have hT := turned_set hbox 4 (.slice (some ⟨g, 0, none⟩) (l.length + 1) cap)
      have hgb : g ≠ bv := by have := hR.2.2.2.2.1; omega
      exact ⟨_, w1, g, cap, cur, rfl, ⟨T.after, T.p1, T.p3, T.two.turned hT (.inr rfl), (hT.others g hgb).trans T.row, hT.holds⟩, hR⟩
    · rintro a' y ⟨a1, w1, g, cap, cur, rfl, T, hR1, hR2, hR3, hR4, hR5, hR6⟩
      have hng : ∀ k, nv.ownBlock = some k → k ≠ g := fun k hk e => by
        rcases hR3 with q | q
        · exact hV.apart g q (e ▸ hk)
        · have := hnown k hk; omega
      have hsame : ∀ k, k < w.heap.size → k ≠ g → k ≠ bv → u.ownBlock ≠ some k → y.heap[k]? = w.heap[k]? := fun k h1 h2 h3 h4 => (T.two.block k h2 h3).trans (hR2.block k h1 (fun e => h4 e.symm))
      have hub : ∀ k, u.ownBlock = some k → M ≤ k := fun k hk => own_base hV.own k hk
      refine hend a' y (.slice (some ⟨g, 0, none⟩) (l.length + 1) cap) (es ++ [cs]) ?_ ⟨T.box, ?_, ?_, ?_, by simp [hV.len], ?_, ?_⟩ ⟨T.two.os.trans hR2.os, T.two.tape.trans hR2.tape, T.two.output.trans hR2.output, by rw [T.two.size]; exact hR2.size, fun k h1 h2 h3 => ?_⟩
      · have h := T.after
        refine ⟨h.size.trans put_size, h.defers.trans rfl, fun s hs => (h.old s (fun q => hs (by simp at q ⊢; exact .inr q))).trans ((ev_put hz.1).trans (if_neg (fun e => hs (by simp [e]))))⟩
      · have := hR6 y T.row
        simpa using this
      · exact owns_same hV.nown fun k hk h1 h2 => hsame k h1 (hng k hk) (by omega) (fun e => hV.apart k e hk)
      · intro k hk e
        cases hk
        exact hng g e rfl
      · intro c hc
        rcases List.mem_append.1 hc with q | q
        · exact hV.six c q
        · simp at q; subst q; exact hc6
      · have hmono : ∀ {x : J} {v : Value}, JAt w (fun k => M ≤ k ∧ u.ownBlock ≠ some k ∧ nv.ownBlock ≠ some k) x v → JAt y (fun k => M ≤ k ∧ (Value.slice (some ⟨g, 0, none⟩) (l.length + 1) cap).ownBlock ≠ some k ∧ nv.ownBlock ≠ some k) x v := fun {x v} hx => hx.mono fun k ⟨h1, h2, h3⟩ h4 => by
          have hkg : k ≠ g := fun e => by
            rcases hR3 with q | q
            · exact h2 (e ▸ q)
            · omega
          exact ⟨⟨h1, fun e => hkg (by cases e; rfl), h3⟩, hsame k h4 hkg (by omega) h2⟩
        intro q x c h1 h2
        rcases Nat.lt_or_ge q l.length with h | h
        · rw [List.getElem?_append_left h] at h1
          rw [List.getElem?_append_left (by rw [hV.len]; exact h)] at h2
          exact hmono (hV.each q x c h1 h2)
        · have hq : q = l.length := by
            have := (List.getElem?_eq_some_iff.1 h1).1
            simp at this; omega
          subst hq
          rw [List.getElem?_append_right (Nat.le_refl _)] at h1
          rw [List.getElem?_append_right (by rw [hV.len]; exact Nat.le_refl _), hV.len] at h2
          simp at h1 h2
          subst h1 h2
          exact hmono hval
      · refine hsame k h1 (by omega) h3 (fun e => ?_)
        have := hub k e; omega
  refine wp_append_lies w (.tmp t3) (.tmp t7) 24 h0.1 M 27 i _ 6 88 und24 i1 i2 i3 i4 rfl (by omega) u l.length es.flatten v3 hV.own ⟨B, 0, none⟩ 1 1 zeroJ v7 rfl (World.news_of_block hBk) (by intro x hx; simp only [zeroJ, List.mem_cons, List.not_mem_nil, or_false] at hx; rcases hx with rfl | rfl | rfl | rfl | rfl | rfl <;> rfl) (by omega) (by unfold maxLen; omega) (by omega) hM w.heap.size rfl ?_
  intro g cap w1 hown hgr hat hlt
  obtain ⟨cur, hcur, hcl, hMg, hmore⟩ := row_more hown hlen hc6
  rw [h0.2.1]
  refine ⟨g, cap, cur, rfl, ⟨⟨rfl, rfl, fun _ _ => rfl⟩, (by intro h; cases h), (by intro h; cases h), ⟨rfl, rfl, rfl, rfl, fun _ _ _ => rfl⟩, hcur, (hgr.block bv hV.box.lt (fun e => ?_)).trans hV.box⟩, hown, hgr, hat, hcl, hMg, hmore⟩
  have := own_base hV.own bv e.symm
  omega
end Go.Proofs.YtogippkapadolaaDoor

/- Facts for the closures' regions. -/
namespace Go.Proofs.YtogippkapadolaaDoor
open Go.RowKit

theorem bs24 (y : World) : (Instr.buildSlice 24 1 #[(0, .agg zeroJ.toArray)]).run Tryd.prog y = .ok (.slice (some ⟨y.heap.size, 0, none⟩) 1 1) (y.alloc (.cells zeroJ.toArray 27)) := by kernel_rfl
theorem bs25 (s : ByteArray) (y : World) : (Instr.buildSlice 25 1 #[(0, .string s)]).run Tryd.prog y = .ok (.slice (some ⟨y.heap.size, 0, none⟩) 1 1) (y.alloc (.cells #[.string s] 9)) := by kernel_rfl
theorem len24 (t : TypeId) (ad : Option Addr) (n c : Nat) (y : World) : (Builtin.len_ #[24] t #[.slice ad n c]).run Tryd.prog y = .ok (.int .i64 (n : Int)) y := by simp [Builtin.len_, run_underlying und24]; rfl
theorem len25 (t : TypeId) (ad : Option Addr) (n c : Nat) (y : World) : (Builtin.len_ #[25] t #[.slice ad n c]).run Tryd.prog y = .ok (.int .i64 (n : Int)) y := by simp [Builtin.len_, run_underlying und25]; rfl
theorem full9 : (Tryd.prog.info? 9).map (fun i => (i.zero, i.size, i.bytes)) = some (some (.string ⟨#[]⟩), 1, 16) := by kernel_rfl
theorem inf9 : ∃ i, Tryd.prog.info? 9 = some i ∧ i.zero = some (.string ⟨#[]⟩) ∧ i.size = 1 ∧ i.bytes = 16 := by
  have := full9
  cases h : Tryd.prog.info? 9 with
  | none => simp [h] at this
  | some i =>
    simp [h] at this
    exact ⟨i, rfl, this.1, this.2.1, this.2.2⟩
/-- All blocks below M but those of L are as they were. -/
structure KeepL (L : List Nat) (M : Nat) (w w' : World) : Prop where
  os : w'.os = w.os
  tape : w'.tape = w.tape
  output : w'.output = w.output
  size : w.heap.size ≤ w'.heap.size
  block : ∀ k, k < w.heap.size → k < M → k ∉ L → w'.heap[k]? = w.heap[k]?
theorem KeepL.refl (L : List Nat) (M : Nat) (w : World) : KeepL L M w w := ⟨rfl, rfl, rfl, Nat.le_refl _, fun _ _ _ _ => rfl⟩
theorem KeepL.trans {L : List Nat} {M : Nat} {x y z : World} (h : KeepL L M x y) (k : KeepL L M y z) : KeepL L M x z := ⟨k.os.trans h.os, k.tape.trans h.tape, k.output.trans h.output, Nat.le_trans h.size k.size, fun i hi h1 h2 => (k.block i (Nat.lt_of_lt_of_le hi h.size) h1 h2).trans (h.block i hi h1 h2)⟩
theorem KeepL.more {L L' : List Nat} {M M' : Nat} {x y : World} (h : KeepL L M x y) (hl : ∀ k, k < M' → k ∈ L → k ∈ L') (hM : M' ≤ M) : KeepL L' M' x y := ⟨h.os, h.tape, h.output, h.size, fun k h1 h2 h3 => h.block k h1 (by omega) fun q => h3 (hl k h2 q)⟩
theorem Upd.keepL {b : Nat} {x y : World} (h : Upd b x y) {L : List Nat} (hb : b ∈ L) (M : Nat) : KeepL L M x y := ⟨h.os, h.tape, h.output, h.size, fun k h1 _ h3 => h.block k h1 fun e => h3 (e ▸ hb)⟩
theorem Up2.keepL {b m : Nat} {x y : World} (h : Up2 b m x y) {L : List Nat} (hb : b ∈ L) (hm : m ∈ L) (M : Nat) : KeepL L M x y := ⟨h.os, h.tape, h.output, h.size, fun k h1 _ h3 => h.block k h1 (fun e => h3 (e ▸ hb)) fun e => h3 (e ▸ hm)⟩
theorem Keep.keepL {M c : Nat} {x y : World} (h : Keep M c x y) {L : List Nat} (hc : c ∈ L) : KeepL L M x y := ⟨h.os, h.tape, h.output, h.size, fun k h1 h2 h3 => h.block k h1 h2 fun e => h3 (e ▸ hc)⟩
theorem Holds.keepL {L : List Nat} {M g : Nat} {w w' : World} {l : List Value} {t : TypeId} (h : Holds w g l t) (k : KeepL L M w w') (h1 : g < M) (h2 : g ∉ L) : Holds w' g l t := (k.block g h.lt h1 h2).trans h
theorem Holds.up2 {b m g : Nat} {w w' : World} {l : List Value} {t : TypeId} (h : Holds w g l t) (k : Up2 b m w w') (h1 : g ≠ b) (h2 : g ≠ m) : Holds w' g l t := (k.block g h.lt h1 h2).trans h
theorem VIn.up2 {M bv b m : Nat} {kd : Int} {l : List J} {names : List (List UInt8)} {w w' : World} {u nv : Value} {es : List (List Value)} (h : VIn M bv kd l names w u nv es) (hu : Up2 b m w w') (h1 : bv ≠ b) (h2 : bv ≠ m) (h3 : b < M) (h4 : m < M) : VIn M bv kd l names w' u nv es :=
  h.same (hu.block bv h.box.lt h1 h2) fun k h5 h6 => hu.block k h6 (by omega) (by omega)
/-- What value tells. -/
def jsV (y : World) : J → Value → World → Prop := fun j v w' => JAt w' (fun k => y.heap.size ≤ k) j v
def jsF (w : World) (r : Res J) (v : Value) (y : World) : Prop := match r with
  | .ok j _ => JAt y (fun k => w.heap.size ≤ k) j v
  | .bad _ _ => True
def jsFR (b : Nat) (w : World) (hb : b < w.heap.size) (r : Res J) : FactR (Upd b) := ⟨jsF w r, fun {v x y} h g => by
  cases r with
  | ok j q =>
    have h : JAt x (fun k => w.heap.size ≤ k) j v := h
    exact h.mono fun k h1 h2 => ⟨h1, g.block k h2 (by omega)⟩
  | bad q e => exact trivial⟩
def newF (w : World) (v : Value) (y : World) : Prop := ∃ B, v = .slice (some ⟨B, 0, none⟩) 1 1 ∧ ∃ fr, y.heap[B]? = some (.cells zeroJ.toArray 27 fr) ∧ w.heap.size ≤ B
def newFR (b : Nat) (w : World) (hb : b < w.heap.size) : FactR (Upd b) := ⟨newF w, fun {v x y} ⟨B, h1, fr, h2, h3⟩ g => ⟨B, h1, fr, (g.block B (Array.getElem?_eq_some_iff.1 h2).1 (by omega)).trans h2, h3⟩⟩
def jsS (b : Nat) (s : ByteArray) (p k : Nat) (r : Res J) : Nat → World → Prop
  | 0, y => PAt y b s p k
  | _ + 1, y => match r with
    | .ok _ q => PAt y b s q k
    | .bad _ _ => False
theorem jsS_gr {b : Nat} {s : ByteArray} {p k : Nat} {r : Res J} {n : Nat} {x y : World} (h : jsS b s p k r n x) (g : Gr x y) : jsS b s p k r n y := by
  cases n with
  | zero => exact Holds.gr (show PAt x b s p k from h) g
  | succ n =>
    cases r with
    | ok j q => exact Holds.gr (show PAt x b s q k from h) g
    | bad q e => exact (show False from h).elim
/-- What name tells. -/
def nmF (r : Res (List UInt8)) (v : Value) (_ : World) : Prop := match r with
  | .ok nm _ => v = .string (strL nm)
  | .bad _ _ => ∃ s, v = .string s
def nmFR (b mb : Nat) (r : Res (List UInt8)) : FactR (Up2 b mb) := ⟨nmF r, fun h _ => h⟩
def nmN (w : World) (r : Res (List UInt8)) (v : Value) (y : World) : Prop := ∃ B, v = .slice (some ⟨B, 0, none⟩) 1 1 ∧ ∃ sx, y.heap[B]? = some (.cells #[.string sx] 9 (0, 0)) ∧ w.heap.size ≤ B ∧ ∀ nm q, r = .ok nm q → sx = strL nm
def nmNR (b mb : Nat) (w : World) (hb : b < w.heap.size) (hm : mb < w.heap.size) (r : Res (List UInt8)) : FactR (Up2 b mb) := ⟨nmN w r, fun {v x y} ⟨B, h1, sx, h2, h3, h4⟩ g => ⟨B, h1, sx, (g.block B (Array.getElem?_eq_some_iff.1 h2).1 (by omega) (by omega)).trans h2, h3, h4⟩⟩
def nmS (b mb : Nat) (s : ByteArray) (p k : Nat) (names : List (List UInt8)) (r : Res (List UInt8)) : Nat → World → Prop
  | 0, y => PAt y b s p k ∧ NmsAt y mb names
  | _ + 1, y => match r with
    | .ok nm q => PAt y b s q k ∧ NmsAt y mb (names ++ [nm])
    | .bad _ _ => False
theorem NmsAt.gr {x y : World} {mb : Nat} {l : List (List UInt8)} (h : NmsAt x mb l) (g : Gr x y) : NmsAt y mb l := h.same (g.block mb h.lt)
theorem nmS_gr {b mb : Nat} {s : ByteArray} {p k : Nat} {names : List (List UInt8)} {r : Res (List UInt8)} {n : Nat} {x y : World} (h : nmS b mb s p k names r n x) (g : Gr x y) : nmS b mb s p k names r n y := by
  cases n with
  | zero =>
    have h : PAt x b s p k ∧ NmsAt x mb names := h
    exact ⟨h.1.gr g, h.2.gr g⟩
  | succ n =>
    cases r with
    | ok j q =>
      have h : PAt x b s q k ∧ NmsAt x mb (names ++ [j]) := h
      exact ⟨h.1.gr g, h.2.gr g⟩
    | bad q e => exact (show False from h).elim
/-- One name more. -/
theorem names_more {M bv b mb g cap : Nat} {s : ByteArray} {q k : Nat} {kd : Int} {l : List J} {names : List (List UInt8)} {w x w1 w2 : World} {u nv : Value} {es : List (List Value)} {nm : List UInt8} {G : Prop}
    (hV : VIn M bv kd l names w u nv es) (hR : Up2 b mb w x) (hgr : x.grownBy w1 nv.ownBlock) (hT : Turned bv w1 w2 ((boxV kd u nv).set 5 (.slice (some ⟨g, 0, none⟩) (names.length + 1) cap)) 27)
    (hb : b < M) (hbv : bv < M) (hmb : mb < M) (hne : bv ≠ b) (n2 : bv ≠ mb)
    (hown : w1.ownsRow M 9 1 (.slice (some ⟨g, 0, none⟩) (names.length + 1) cap) (names.length + 1) (names.map strV1 ++ [strV1 nm])) (hat : nv.ownBlock = some g ∨ g = x.heap.size)
    (hS : PAt x b s q k ∧ NmsAt x mb (names ++ [nm]))
    (hok : VIn M bv kd l (names ++ [nm]) w2 u (.slice (some ⟨g, 0, none⟩) (names.length + 1) cap) es → PAt w2 b s q k → NmsAt w2 mb (names ++ [nm]) → KeepL [b, bv, mb] M w w2 → G) : G := by
  have hVx := hV.up2 hR hne n2 hb hmb
  have hnb : ∀ k, nv.ownBlock = some k → M ≤ k := fun k hk => own_base hVx.nown k hk
  have hsame : ∀ k, k < x.heap.size → k ≠ bv → nv.ownBlock ≠ some k → w2.heap[k]? = x.heap[k]? := fun k h1 h2 h3 => (hT.others k h2).trans (hgr.block k h1 (fun e => h3 e.symm))
  have hlow : ∀ k, k < x.heap.size → k < M → k ≠ bv → w2.heap[k]? = x.heap[k]? := fun k h1 h2 h3 => hsame k h1 h3 fun e => by have := hnb k e; omega
  have hug : ∀ k, u.ownBlock = some k → k ≠ g := fun k hk e => by
    rcases hat with h | h
    · exact hVx.apart k hk (e ▸ h)
    · have := own_lt hVx.own hk; omega
  have hub : ∀ k, u.ownBlock = some k → M ≤ k := fun k hk => own_base hVx.own k hk
  refine hok ⟨hT.holds, ?_, ?_, ?_, hVx.len, hVx.six, ?_⟩ ((hlow b hS.1.lt hb (fun e => hne e.symm)).trans hS.1) (hS.2.same (hlow mb hS.2.lt hmb (fun e => n2 e.symm))) ⟨hT.os.trans (hgr.os.trans hR.os), hT.tape.trans (hgr.tape.trans hR.tape), hT.output.trans (hgr.output.trans hR.output), by have := hR.size; have := hgr.size; have := hT.size; omega, fun k h1 h2 h3 => ?_⟩
  · exact owns_same hVx.own fun k hk h1 h2 => hsame k h1 (by omega) (hVx.apart k hk)
  · have := owns_same hown (w' := w2) fun k hk h1 h2 => hT.others k (by omega)
    simpa using this
  · intro k hk e
    cases e
    exact hug _ hk rfl
  · intro i j c h1 h2
    exact (hVx.each i j c h1 h2).mono fun k ⟨h3, h4, h5⟩ h6 => by
      have hkg : k ≠ g := fun e => by
        rcases hat with h | h
        · exact h5 (e ▸ h)
        · omega
      exact ⟨⟨h3, h4, fun e => hkg (by cases e; rfl)⟩, hsame k h6 (by omega) h5⟩
  · simp only [List.mem_cons, List.not_mem_nil, or_false, not_or] at h3
    exact (hlow k (Nat.lt_of_lt_of_le h1 hR.size) h2 h3.2.1).trans (hR.block k h1 h3.1 h3.2.2)
end Go.Proofs.YtogippkapadolaaDoor

/- One byte of a text, shown. -/
namespace Go.Proofs.YtogippkapadolaaDoor
open Go.RowKit

def digitsL : List UInt8 := [48, 49, 50, 51, 52, 53, 54, 55, 56, 57, 97, 98, 99, 100, 101, 102]
def digC (n : Nat) : UInt8 := digitsL.getD n 0
/-- A byte's text. -/
def byteJ (c : UInt8) : List UInt8 := if c = 34 ∨ c = 92 then [92, c] else if c.toNat < 32 ∨ 127 ≤ c.toNat then [92, 117, 48, 48, digC (c.toNat / 16), digC (c.toNat % 16)] else [c]
/-- A row of bytes of one's own. -/
def Out (B : Nat) (w : World) (u : Value) (l : List UInt8) : Prop := w.ownsRow B 5 1 u l.length (l.map byteV)
theorem Out.gr {B : Nat} {w w' : World} {u : Value} {l : List UInt8} (h : Out B w u l) (g : Gr w w') : Out B w' u l := owns_gr h g
/-- A row of bytes was appended to: of what was there its own block alone may have changed. -/
structure Ap (B : Nat) (w : World) (u : Value) (w' : World) (v : Value) : Prop where
  below : Below B w w'
  grown : w.grownBy w' u.ownBlock
  own : ∀ k, v.ownBlock = some k → u.ownBlock = some k ∨ w.heap.size ≤ k
theorem Ap.size {B : Nat} {w w' : World} {u v : Value} (h : Ap B w u w' v) : w.heap.size ≤ w'.heap.size := h.below.size
theorem Ap.trans {B : Nat} {x y z : World} {u v q : Value} (h : Ap B x u y v) (k : Ap B y v z q) : Ap B x u z q :=
  ⟨h.below.trans k.below, ⟨k.grown.os.trans h.grown.os, k.grown.tape.trans h.grown.tape, k.grown.output.trans h.grown.output, Nat.le_trans h.size k.size, fun i h1 h2 => (k.grown.block i (Nat.lt_of_lt_of_le h1 h.size) (fun e => by
    rcases h.own i e.symm with q | q
    · exact h2 q.symm
    · omega)).trans (h.grown.block i h1 h2)⟩, fun i hi => by
    rcases k.own i hi with q | q
    · exact h.own i q
    · exact .inr (Nat.le_trans h.size q)⟩
theorem Ap.ofGr {B : Nat} {w w' : World} (u : Value) (h : Gr w w') (hB : B ≤ w.heap.size) : Ap B w u w' u := ⟨h.mono hB, ⟨h.os, h.tape, h.output, h.size, fun k hk _ => h.block k hk⟩, fun _ hk => .inl hk⟩
theorem Ap.new {B : Nat} {w : World} (u : Value) (hB : B ≤ w.heap.size) (o : Obj) : Ap B w u (w.alloc o) u := .ofGr u (Gr.alloc _ _) hB
/-- A block that holds no bytes. -/
theorem Holds.ap {B g : Nat} {w w' : World} {u v : Value} {l : List Value} {t : TypeId} {bs : List UInt8} (h : Holds w g l t) (k : Ap B w u w' v) (hO : Out B w u bs) (ht : t ≠ 5) : Holds w' g l t :=
  (k.grown.block g h.lt (fun e => by
    rcases hO.2 with ⟨rfl, _⟩ | ⟨g', cap, cur, rfl, _, hg, _⟩
    · cases e
    · cases e
      unfold Holds at h
      rw [hg] at h
      simp at h
      exact ht h.2.symm)).trans h
theorem wp_app55 {w : World} {o : Oper} {a : Act} {K : Act → World → Prop} {Q : Exit → Act → World → Prop} (s x : Operand) (ho : o.op = .call { callee := .builtin .append, args := #[s, x], argTypes := #[55, 55] })
    (B : Nat) (u : Value) (l news : List UInt8) (hown : Out B w u l) (hs : a.eval s = u) (ad : Addr) (c : Nat) (hx : a.eval x = .slice (some ad) news.length c) (hnews : ∀ j v, (news.map byteV)[j]? = some v → w.cell? (ad.add j) = some v) (hm : 0 < news.length)
    (hlim : l.length + news.length ≤ 140737488355327) (hB : B ≤ w.heap.size) (h : ∀ u' w', Out B w' u' (l ++ news) → Ap B w u w' u' → K (a.put o.dst u') w') : o.wp Tryd.prog a w K Q := by
  obtain ⟨i, i1, i2, i3, i4⟩ := inf5
  refine wp_append_lies w s x 55 ho B 5 i (.int .u8 0) 1 1 und55 i1 i2 i3 i4 rfl (by omega) u l.length (l.map byteV) hs hown ad news.length c (news.map byteV) hx (by simp) hnews (by intro v hv; obtain ⟨b, _, rfl⟩ := List.mem_map.1 hv; rfl) hm (by unfold maxLen; omega) (by omega) hB w.heap.size rfl ?_
  intro g cap w' h1 h2 h3 h4
  refine h _ w' ?_ ⟨grown_below h2 hB (fun j hj => own_base hown j hj), h2, fun k hk => ?_⟩
  · unfold Out
    rw [List.length_append, List.map_append]
    exact h1
  · cases hk
    rcases h3 with q | q
    · exact .inl q
    · exact .inr (Nat.le_of_eq q.symm)
theorem wpl_app55 {w : World} {ops : Array Oper} {rest : List Oper} {o : Oper} {a : Act} {Q : Exit → Act → World → Prop} (hgd : o.guard = none) (s x : Operand) (ho : o.op = .call { callee := .builtin .append, args := #[s, x], argTypes := #[55, 55] })
    (B : Nat) (u : Value) (l news : List UInt8) (hown : Out B w u l) (hs : a.eval s = u) (ad : Addr) (c : Nat) (hx : a.eval x = .slice (some ad) news.length c) (hnews : ∀ j v, (news.map byteV)[j]? = some v → w.cell? (ad.add j) = some v) (hm : 0 < news.length)
    (hlim : l.length + news.length ≤ 140737488355327) (hB : B ≤ w.heap.size) (h : ∀ u' w', Out B w' u' (l ++ news) → Ap B w u w' u' → wpList Tryd.prog ops Q rest (a.put o.dst u') w') : wpList Tryd.prog ops Q (o :: rest) a w :=
  wpList_plain hgd fun _ hK => wp_app55 s x ho B u l news hown hs ad c hx hnews hm hlim hB fun u' w' h1 h2 => hK _ _ (h u' w' h1 h2)
/-- What an append's new block holds. -/
theorem new_bytes (w : World) (news : List UInt8) (fr : Nat × Nat) : ∀ j v, (news.map byteV)[j]? = some v → (w.alloc (.cells (news.map byteV).toArray 5 fr)).cell? ((⟨w.heap.size, 0, none⟩ : Addr).add j) = some v := by
  have := World.news_of_block (heap_alloc_new w (.cells (news.map byteV).toArray 5 fr))
  intro j v hv
  exact this j v (by simpa using hv)
set_option maxHeartbeats 1000000 in
set_option maxRecDepth 100000 in
theorem laidByte_two {B : Nat} {w : World} {u : Value} {l : List UInt8} {c : UInt8} (h : Out B w u l) (hB : B ≤ w.heap.size) (hlim : l.length + 6 ≤ 140737488355327) (hc : c = 34 ∨ c = 92) :
    Calls Tryd.prog 64 #[u, .int .u8 (c.toNat : Int)] w fun e w' => ∃ v, e = .returned v ∧ Out B w' v (l ++ [92, c]) ∧ Ap B w u w' v := by
  have hn := new_bytes w [92, c] (0, 0)
  have hb := Ap.new u hB (.cells #[.int .u8 92, .int .u8 (c.toNat : Int)] 5)
  have h' : Out B (w.alloc (.cells #[.int .u8 92, .int .u8 (c.toNat : Int)] 5)) u l := h.gr (Gr.alloc _ _)
  have hB' : B ≤ (w.alloc (.cells #[.int .u8 92, .int .u8 (c.toNat : Int)] 5)).heap.size := by simp; omega
  have hlim' : l.length + [(92 : UInt8), c].length ≤ 140737488355327 := by simp; omega
  rcases hc with rfl | rfl
  all_goals
    go_enter Tryd.func64, Tryd.ntmps64
    go_wp2_with (at_builtin; refine wpl_app55 rfl (.tmp 12) (.tmp 14) rfl B u l [92, _] h' rfl ⟨w.heap.size, 0, none⟩ 2 rfl hn (by decide) hlim' hB' ?_; intro u' w' h1 h2)
    go_ret
    exact ⟨_, rfl, h1, hb.trans h2⟩
/-- A new row that holds some bytes. -/
def sixF (l : List UInt8) : Fact := ⟨fun v w => ∃ b, v = .slice (some ⟨b, 0, none⟩) l.length l.length ∧ w.heap[b]? = some (.cells (l.map byteV).toArray 5 (0, 0)), fun ⟨b, h1, h2⟩ g => ⟨b, h1, (g.block b (Array.getElem?_eq_some_iff.1 h2).1).trans h2⟩⟩
theorem bs55six (d1 d2 : Int) (y : World) : (Instr.buildSlice 55 6 #[(0, .int .u8 92), (1, .int .u8 117), (2, .int .u8 48), (3, .int .u8 48), (4, .int .u8 d1), (5, .int .u8 d2)]).run Tryd.prog y = .ok (.slice (some ⟨y.heap.size, 0, none⟩) 6 6) (y.alloc (.cells #[.int .u8 92, .int .u8 117, .int .u8 48, .int .u8 48, .int .u8 d1, .int .u8 d2] 5)) := by kernel_rfl
theorem ix_dig {n : Nat} (h : n < 16) : ∀ w, (Instr.index 9 (.string ⟨#[48, 49, 50, 51, 52, 53, 54, 55, 56, 57, 97, 98, 99, 100, 101, 102]⟩) (.int .u8 (n : Int))).run Tryd.prog w = .ok (.int .u8 ((digC n).toNat : Int)) w := by
  intro w
  rw [run_index_string w 9 _ .u8 n Tryd.underlying9, dif_pos ⟨by omega, by show (n : Int) < 16; omega⟩]
  have : ∀ n, n < 16 → ((⟨#[48, 49, 50, 51, 52, 53, 54, 55, 56, 57, 97, 98, 99, 100, 101, 102]⟩ : ByteArray).data[n]?).getD 0 = digC n := by decide
  have h2 := this n h
  congr 4
  rw [← h2]
  simp [show n < 16 from h]
  rfl
theorem bin_shr4 (c : UInt8) : ∀ w, (binOp .shr 5 (.int .u8 (c.toNat : Int)) (.int .u64 4)).run Tryd.prog w = .ok (.int .u8 ((c.toNat / 16 : Nat) : Int)) w := by
  intro w
  have e : (c.toNat : Int).fdiv 16 = ((c.toNat / 16 : Nat) : Int) := by rw [Int.fdiv_eq_ediv_of_nonneg _ (by omega)]; omega
  simp [binOp, Op.shift, IntKind.bits, e]
theorem bin_and15 (c : UInt8) : ∀ w, (binOp .and 5 (.int .u8 (c.toNat : Int)) (.int .u8 15)).run Tryd.prog w = .ok (.int .u8 ((c.toNat % 16 : Nat) : Int)) w := by
  intro w
  have h := Nat.and_two_pow_sub_one_eq_mod c.toNat 4
  have hc : c.toNat < 256 := c.toNat_lt
  have e : (binOp .and 5 (.int .u8 (c.toNat : Int)) (.int .u8 15)).run Tryd.prog w = (Op.intBits BinOp.and IntKind.u8 (c.toNat : Int) 15).run Tryd.prog w := by simp [binOp]
  rw [e]
  have e1 : (BitVec.ofInt IntKind.u8.bits (c.toNat : Int) &&& BitVec.ofInt IntKind.u8.bits 15).toNat = c.toNat % 16 := by
    rw [BitVec.toNat_and, BitVec.ofInt_natCast, BitVec.toNat_ofNat]
    show c.toNat % 256 &&& 15 = c.toNat % 16
    rw [Nat.mod_eq_of_lt hc]
    exact h
  unfold Op.intBits
  simp only [e1, Sem.run_pure]
  congr 2
  rw [wrap_u8]
  omega
def q64_4 : Array Oper := #[{ dst := some 23, op := Op.move (Operand.tmp 0), type := 55, pos := "show.go:54", after := #[], guard := none }, { dst := some 24, op := Op.move (Operand.tmp 1), type := 5, pos := "show.go:54", after := #[], guard := none }, { dst := some 25, op := Op.binOp BinOp.shr 5 (Operand.tmp 24) (Operand.const (Value.int IntKind.u64 4)) 98, type := 5, pos := "show.go:54", after := #[{ on := 1, ground := Ground.data }], guard := none }, { dst := some 26, op := Op.index 9 (Operand.const (Value.string { data := #[48, 49, 50, 51, 52, 53, 54, 55, 56, 57, 97, 98, 99, 100, 101, 102] })) (Operand.tmp 25), type := 5, pos := "show.go:54", after := #[{ on := 2, ground := Ground.data }], guard := none }, { dst := some 27, op := Op.move (Operand.tmp 1), type := 5, pos := "show.go:54", after := #[], guard := none }, { dst := some 28, op := Op.binOp BinOp.and 5 (Operand.tmp 27) (Operand.const (Value.int IntKind.u8 15)) 5, type := 5, pos := "show.go:54", after := #[{ on := 4, ground := Ground.data }], guard := none }, { dst := some 29, op := Op.index 9 (Operand.const (Value.string { data := #[48, 49, 50, 51, 52, 53, 54, 55, 56, 57, 97, 98, 99, 100, 101, 102] })) (Operand.tmp 28), type := 5, pos := "show.go:54", after := #[{ on := 5, ground := Ground.data }], guard := none }, { dst := some 30, op := Op.buildSlice 55 6 #[(0, Operand.const (Value.int IntKind.u8 92)), (1, Operand.const (Value.int IntKind.u8 117)), (2, Operand.const (Value.int IntKind.u8 48)), (3, Operand.const (Value.int IntKind.u8 48)), (4, Operand.tmp 26), (5, Operand.tmp 29)], type := 55, pos := "show.go:54", after := #[{ on := 3, ground := Ground.data }, { on := 6, ground := Ground.data }], guard := none }, { dst := some 31, op := Op.call { callee := Callee.builtin Builtin.append, args := #[Operand.tmp 23, Operand.tmp 30], argTypes := #[55, 55] }, type := 55, pos := "show.go:54", after := #[{ on := 0, ground := Ground.data }, { on := 7, ground := Ground.data }], guard := none }, { dst := some 4, op := Op.assign (Operand.tmp 31), type := 55, pos := "show.go:54", after := #[{ on := 8, ground := Ground.data }, { on := 8, ground := Ground.chain }, { on := 0, ground := Ground.phase }, { on := 1, ground := Ground.phase }, { on := 2, ground := Ground.phase }, { on := 3, ground := Ground.phase }, { on := 4, ground := Ground.phase }, { on := 5, ground := Ground.phase }, { on := 6, ground := Ground.phase }, { on := 7, ground := Ground.phase }, { on := 8, ground := Ground.phase }], guard := none }]
set_option maxRecDepth 100000 in
theorem r64_4 {Q : Exit → Act → World → Prop} {a0 : Act} {w : World} (hz : a0.tmps.size = 36) {B : Nat} {u : Value} {l : List UInt8} {c : UInt8} (h : Out B w u l) (hB : B ≤ w.heap.size) (hlim : l.length + 6 ≤ 140737488355327) (e0 : a0.eval (.tmp 0) = u) (e1 : a0.eval (.tmp 1) = (.int .u8 (c.toNat : Int)))
    (hend : ∀ ac wz u', After [4, 31, 23, 24, 25, 26, 27, 28, 29, 30] a0 ac → ac.eval (.tmp 4) = u' → Out B wz u' (l ++ [92, 117, 48, 48, digC (c.toNat / 16), digC (c.toNat % 16)]) → Ap B w u wz u' → Q .normal ac wz) : (Code.region 4 q64_4 true).wp Tryd.prog Q a0 w := by
  refine drawn_tail (by kernel_rfl) (by kernel_rfl) 8 (by decide) (by kernel_rfl) (by kernel_rfl) [23, 24, 25, 26, 27, 28, 29, 30] (fun | 23 => .val u | 24 => .val (.int .u8 (c.toNat : Int)) | 25 => .val (.int .u8 ((c.toNat / 16 : Nat) : Int)) | 26 => .val (.int .u8 ((digC (c.toNat / 16)).toNat : Int)) | 27 => .val (.int .u8 (c.toNat : Int)) | 28 => .val (.int .u8 ((c.toNat % 16 : Nat) : Int)) | 29 => .val (.int .u8 ((digC (c.toNat % 16)).toNat : Int)) | 30 => sixF [92, 117, 48, 48, digC (c.toNat / 16), digC (c.toNat % 16)] | _ => .any) (by kernel_rfl) (List.forall_mem_cons.2 ⟨?s0, List.forall_mem_cons.2 ⟨?s1, List.forall_mem_cons.2 ⟨?s2, List.forall_mem_cons.2 ⟨?s3, List.forall_mem_cons.2 ⟨?s4, List.forall_mem_cons.2 ⟨?s5, List.forall_mem_cons.2 ⟨?s6, List.forall_mem_cons.2 ⟨?s7, fun o ho => nomatch ho⟩⟩⟩⟩⟩⟩⟩⟩) ?e
  case s0 => exact sa_move (.tmp 0) 23 (.val u) (.inl rfl) rfl rfl (.old 0 _ (by decide) e0) rfl
  case s1 => exact sa_move (.tmp 1) 24 (.val (.int .u8 (c.toNat : Int))) (.inl rfl) rfl rfl (.old 1 _ (by decide) e1) rfl
  case s2 => exact sa_bin .shr 5 (.tmp 24) (.const (.int .u64 4)) 98 25 (.int .u8 (c.toNat : Int)) (.int .u64 4) (.int .u8 ((c.toNat / 16 : Nat) : Int)) rfl rfl rfl (.new 24 (by kernel_rfl) (by rw [hz]; decide)) (.const _) (fun w => rfl) (bin_shr4 c) rfl
  case s3 => exact sa_ix 9 (.const (.string ⟨#[48, 49, 50, 51, 52, 53, 54, 55, 56, 57, 97, 98, 99, 100, 101, 102]⟩)) (.tmp 25) 26 (.string ⟨#[48, 49, 50, 51, 52, 53, 54, 55, 56, 57, 97, 98, 99, 100, 101, 102]⟩) (.int .u8 ((c.toNat / 16 : Nat) : Int)) (.int .u8 ((digC (c.toNat / 16)).toNat : Int)) rfl rfl rfl (.const _) (.new 25 (by kernel_rfl) (by rw [hz]; decide)) (ix_dig (by have := c.toNat_lt; omega)) rfl
  case s4 => exact sa_move (.tmp 1) 27 (.val (.int .u8 (c.toNat : Int))) (.inl rfl) rfl rfl (.old 1 _ (by decide) e1) rfl
  case s5 => exact sa_bin .and 5 (.tmp 27) (.const (.int .u8 15)) 5 28 (.int .u8 (c.toNat : Int)) (.int .u8 15) (.int .u8 ((c.toNat % 16 : Nat) : Int)) rfl rfl rfl (.new 27 (by kernel_rfl) (by rw [hz]; decide)) (.const _) (fun w => rfl) (bin_and15 c) rfl
  case s6 => exact sa_ix 9 (.const (.string ⟨#[48, 49, 50, 51, 52, 53, 54, 55, 56, 57, 97, 98, 99, 100, 101, 102]⟩)) (.tmp 28) 29 (.string ⟨#[48, 49, 50, 51, 52, 53, 54, 55, 56, 57, 97, 98, 99, 100, 101, 102]⟩) (.int .u8 ((c.toNat % 16 : Nat) : Int)) (.int .u8 ((digC (c.toNat % 16)).toNat : Int)) rfl rfl rfl (.const _) (.new 28 (by kernel_rfl) (by rw [hz]; decide)) (ix_dig (by omega)) rfl
  case s7 =>
      refine sa_of 30 rfl rfl fun f a y cx => ?_
      have x26 : a.eval (.tmp 26) = (.int .u8 ((digC (c.toNat / 16)).toNat : Int)) := (Has.new (T := (fun | 23 => .val u | 24 => .val (.int .u8 (c.toNat : Int)) | 25 => .val (.int .u8 ((c.toNat / 16 : Nat) : Int)) | 26 => .val (.int .u8 ((digC (c.toNat / 16)).toNat : Int)) | 27 => .val (.int .u8 (c.toNat : Int)) | 28 => .val (.int .u8 ((c.toNat % 16 : Nat) : Int)) | 29 => .val (.int .u8 ((digC (c.toNat % 16)).toNat : Int)) | 30 => sixF [92, 117, 48, 48, digC (c.toNat / 16), digC (c.toNat % 16)] | _ => .any)) 26 (by kernel_rfl) (by rw [hz]; decide)).get cx
      have x29 : a.eval (.tmp 29) = (.int .u8 ((digC (c.toNat % 16)).toNat : Int)) := (Has.new (T := (fun | 23 => .val u | 24 => .val (.int .u8 (c.toNat : Int)) | 25 => .val (.int .u8 ((c.toNat / 16 : Nat) : Int)) | 26 => .val (.int .u8 ((digC (c.toNat / 16)).toNat : Int)) | 27 => .val (.int .u8 (c.toNat : Int)) | 28 => .val (.int .u8 ((c.toNat % 16 : Nat) : Int)) | 29 => .val (.int .u8 ((digC (c.toNat % 16)).toNat : Int)) | 30 => sixF [92, 117, 48, 48, digC (c.toNat / 16), digC (c.toNat % 16)] | _ => .any)) 29 (by kernel_rfl) (by rw [hz]; decide)).get cx
      refine op_val (.slice (some ⟨y.heap.size, 0, none⟩) 6 6) (y := y.alloc (.cells #[.int .u8 92, .int .u8 117, .int .u8 48, .int .u8 48, (.int .u8 ((digC (c.toNat / 16)).toNat : Int)), (.int .u8 ((digC (c.toNat % 16)).toNat : Int))] 5)) ?_ ⟨_, rfl, Gr.alloc _ _, y.heap.size, rfl, heap_alloc_new y _⟩
      show (execOp a.eval (Oper.mk _ (.buildSlice 55 6 #[(0, .const (.int .u8 92)), (1, .const (.int .u8 117)), (2, .const (.int .u8 48)), (3, .const (.int .u8 48)), (4, .tmp 26), (5, .tmp 29)]) _ _ _ _)).run Tryd.prog y = _
      unfold execOp
      simp only [List.map_toArray, List.map_cons, List.map_nil, Sem.run_bind, ev_const, x26, x29, bs55six, Sem.run_pure, Result.andThen_ok]
  case e =>
  intro ac x hA hgr hv
  have x23 : ac.eval (.tmp 23) = u := hv 23 (by kernel_rfl) (by rw [hz]; decide)
  obtain ⟨b, x30, hb⟩ : (sixF [92, 117, 48, 48, digC (c.toNat / 16), digC (c.toNat % 16)]).holds (ac.eval (.tmp 30)) x := hv 30 (by kernel_rfl) (by rw [hz]; decide)
  refine wpl_app55 rfl (.tmp 23) (.tmp 30) rfl B u l [92, 117, 48, 48, digC (c.toNat / 16), digC (c.toNat % 16)] (h.gr hgr) x23 ⟨b, 0, none⟩ 6 x30 (fun j v hv => World.news_of_block hb j v (by simpa using hv)) (Nat.zero_lt_succ _) hlim (Nat.le_trans hB hgr.size) ?_
  intro u' w' h1 h2
  have h3 : Ap B w u w' u' := (Ap.ofGr u hgr hB).trans h2
  refine wl_of rfl (op_move (.tmp 31) (.inr rfl) (wl_end ?_))
  have x31 : (ac.put (some 31) u').eval (.tmp 31) = u' := (ev_put (by rw [hA.size, hz]; decide)).trans (if_pos rfl)
  refine hend _ w' u' ((hA.put 31 _).put 4 _) ((ev_put (by rw [put_size, hA.size, hz]; decide)).trans ((if_pos rfl).trans x31)) h1 h3
theorem u8_neq_of {c d : UInt8} (h : c ≠ d) : ((c.toNat : Int) == (d.toNat : Int)) = false := by rw [u8_eq]; simpa using h
set_option maxHeartbeats 1000000 in
set_option maxRecDepth 100000 in
theorem laidByte_any {B : Nat} {w : World} {u : Value} {l : List UInt8} {c : UInt8} (h : Out B w u l) (hB : B ≤ w.heap.size) (hlim : l.length + 6 ≤ 140737488355327) :
    Calls Tryd.prog 64 #[u, .int .u8 (c.toNat : Int)] w fun e w' => ∃ v, e = .returned v ∧ Out B w' v (l ++ byteJ c) ∧ Ap B w u w' v := by
  unfold byteJ
  by_cases hc : c = 34 ∨ c = 92
  · rw [if_pos hc]
    exact laidByte_two h hB hlim hc
  rw [if_neg hc]
  have g34 : ((c.toNat : Int) == 34) = false := u8_neq_of (d := 34) (fun e => hc (.inl e))
  have g92 : ((c.toNat : Int) == 92) = false := u8_neq_of (d := 92) (fun e => hc (.inr e))
  by_cases h6 : c.toNat < 32 ∨ 127 ≤ c.toNat
  · rw [if_pos h6]
    have fin : ∀ ac : Act, ac.tmps.size = 36 → ac.defers = [] → ac.eval (.tmp 0) = u → ac.eval (.tmp 1) = .int .u8 (c.toNat : Int) → ∀ Q : Exit → Act → World → Prop, (∀ ac' wz u', ac'.defers = [] → ac'.tmps.getD 4 undef = u' → Out B wz u' (l ++ [92, 117, 48, 48, digC (c.toNat / 16), digC (c.toNat % 16)]) → Ap B w u wz u' → Q .normal ac' wz) → (Code.region 4 q64_4 true).wp Tryd.prog Q ac w := fun ac hz hd e0 e1 Q hQ =>
      r64_4 hz h hB hlim e0 e1 fun ac' wz u' hA e4 hO hBl => hQ ac' wz u' (hA.defers.trans hd) e4 hO hBl
    have g32 : (decide ((c.toNat : Int) < 32) = true) ∨ (decide ((c.toNat : Int) < 32) = false ∧ (c.toNat : Int) ≥ 127) := by
      rcases h6 with q | q
      · exact .inl (by simp; omega)
      · by_cases q2 : (c.toNat : Int) < 32
        · exact .inl (by simpa using q2)
        · exact .inr ⟨by simpa using q2, by omega⟩
    clear h hc
    rcases g32 with g | ⟨g, g'⟩
    · have g1 : (c.toNat : Int) < 32 := by simpa using g
      go_enter Tryd.func64, Tryd.ntmps64
      go_wp2_with fail
      refine fin _ rfl rfl rfl rfl _ fun ac' wz u' hd e4 hO hBl => ?_
      rename_i hK
      refine hK _ _ (wp_ret ?_)
      show bodyPost Tryd.prog Tryd.f64 (fun e w' => ∃ v, e = .returned v ∧ Out B w' v (l ++ [92, 117, 48, 48, digC (c.toNat / 16), digC (c.toNat % 16)]) ∧ Ap B w u w' v) .ret ac' wz
      exact bodyPost_ret (results_tmp (t := 4) (by kernel_rfl) _ _ _) hd ⟨_, by rw [e4], hO, hBl⟩
    · have g1 : ¬ (c.toNat : Int) < 32 := by simpa using g
      go_enter Tryd.func64, Tryd.ntmps64
      go_wp2_with fail
      refine fin _ rfl rfl rfl rfl _ fun ac' wz u' hd e4 hO hBl => ?_
      rename_i hK
      refine hK _ _ (wp_ret ?_)
      show bodyPost Tryd.prog Tryd.f64 (fun e w' => ∃ v, e = .returned v ∧ Out B w' v (l ++ [92, 117, 48, 48, digC (c.toNat / 16), digC (c.toNat % 16)]) ∧ Ap B w u w' v) .ret ac' wz
      exact bodyPost_ret (results_tmp (t := 4) (by kernel_rfl) _ _ _) hd ⟨_, by rw [e4], hO, hBl⟩
  · rw [if_neg h6]
    have g1 : ¬ (c.toNat : Int) < 32 := by omega
    have g2 : ¬ (c.toNat : Int) ≥ 127 := by omega
    have hn := new_bytes w [c] (0, 0)
    have hb := Ap.new u hB (.cells #[.int .u8 (c.toNat : Int)] 5)
    have h' : Out B (w.alloc (.cells #[.int .u8 (c.toNat : Int)] 5)) u l := h.gr (Gr.alloc _ _)
    have hB' : B ≤ (w.alloc (.cells #[.int .u8 (c.toNat : Int)] 5)).heap.size := by simp; omega
    have hlim' : l.length + [c].length ≤ 140737488355327 := by simp; omega
    clear hc h6 h
    go_enter Tryd.func64, Tryd.ntmps64
    go_wp2_with (at_builtin; refine wpl_app55 rfl (.tmp 32) (.tmp 34) rfl B u l [c] h' rfl ⟨w.heap.size, 0, none⟩ 1 rfl hn (Nat.zero_lt_succ _) hlim' hB' ?_; intro u' w' h1 h2)
    go_ret
    exact ⟨_, rfl, h1, hb.trans h2⟩
end Go.Proofs.YtogippkapadolaaDoor

/- A text, shown. -/
namespace Go.Proofs.YtogippkapadolaaDoor
open Go.RowKit

def textJ (s : List UInt8) : List UInt8 := 34 :: (s.flatMap byteJ) ++ [34]
theorem byteJ_len (c : UInt8) : (byteJ c).length ≤ 6 := by
  unfold byteJ
  split
  · simp
  · split <;> simp
theorem flat_len : ∀ (s : List UInt8), (s.flatMap byteJ).length ≤ 6 * s.length
  | [] => by simp
  | c :: r => by
    have := byteJ_len c
    have := flat_len r
    simp only [List.flatMap_cons, List.length_append, List.length_cons]
    omega
theorem take_len (s : List UInt8) (i : Nat) : ((s.take i).flatMap byteJ).length ≤ (s.flatMap byteJ).length := by
  have h : s.flatMap byteJ = (s.take i).flatMap byteJ ++ (s.drop i).flatMap byteJ := by rw [← List.flatMap_append, List.take_append_drop]
  rw [h, List.length_append]; omega
theorem flat_ge : ∀ (s : List UInt8), s.length ≤ (s.flatMap byteJ).length
  | [] => by simp
  | c :: r => by
    have h1 : 1 ≤ (byteJ c).length := by
      unfold byteJ
      split
      · simp
      · split <;> simp
    have := flat_ge r
    simp only [List.flatMap_cons, List.length_append, List.length_cons]
    omega
theorem textJ_len (s : List UInt8) : (textJ s).length = (s.flatMap byteJ).length + 2 := by unfold textJ; simp
theorem take_step {s : List UInt8} {i : Nat} {c : UInt8} (h : s[i]? = some c) : (s.take (i + 1)).flatMap byteJ = (s.take i).flatMap byteJ ++ byteJ c := by
  rw [List.take_add_one, h]
  simp
set_option maxHeartbeats 1000000 in
set_option maxRecDepth 100000 in
theorem laidText_any {B : Nat} {w : World} {u : Value} {l : List UInt8} {s : List UInt8} (h : Out B w u l) (hB : B ≤ w.heap.size) (hlim : l.length + (textJ s).length + 10 ≤ 140737488355327) :
    Calls Tryd.prog 42 #[u, .string (strL s)] w fun e w' => ∃ v, e = .returned v ∧ Out B w' v (l ++ textJ s) ∧ Ap B w u w' v := by
  rw [textJ_len] at hlim
  obtain ⟨n, hn⟩ : ∃ n, s.length = n := ⟨_, rfl⟩
  have hsz : (strL s).size = n := hn
  have hn64 : (n : Int) ≤ 140737488355327 := by have := flat_ge s; omega
  have hn1 := new_bytes w [34] (0, 0)
  have hb := Ap.new u hB (.cells #[.int .u8 34] 5)
  have h' : Out B (w.alloc (.cells #[.int .u8 34] 5)) u l := h.gr (Gr.alloc _ _)
  have hB' : B ≤ (w.alloc (.cells #[.int .u8 34] 5)).heap.size := by simp; omega
  have hlim' : l.length + [(34 : UInt8)].length ≤ 140737488355327 := by simp; omega
  clear h
  go_enter Tryd.func42, Tryd.ntmps42
  go_wp2_with (at_builtin; refine wpl_app55 rfl (.tmp 6) (.tmp 7) rfl B u l [34] h' rfl ⟨w.heap.size, 0, none⟩ 1 rfl hn1 (Nat.zero_lt_succ _) hlim' hB' ?_; intro u1 w1 h1 hb1)
  go_loopw [0, 11] (fun v c wr => ∃ i : Nat, c = .int .i64 (i : Int) ∧ i ≤ n ∧ Out B wr v (l ++ 34 :: (s.take i).flatMap byteJ) ∧ Ap B w u wr v ∧ B ≤ wr.heap.size) (fun _ c _ => n - (intOf c).toNat)
  case atStart => exact ⟨0, rfl, by omega, h1, hb.trans hb1, Nat.le_trans hB (hb.trans hb1).size⟩
  case round =>
    obtain ⟨i, rfl, hi, hO, hBl, hBs⟩ := hrel
    have hfl := take_len s i
    rcases Nat.lt_or_ge i n with hlt | hge
    · have hd : s[i]? = some s[i] := List.getElem?_eq_getElem (by omega)
      have g1 : (i : Int) < (n : Int) := by omega
      have hby := laidByte_any (c := s[i]) hO hBs (by simp only [List.length_append, List.length_cons]; omega)
      have hix : ∀ w, (Instr.index 9 (.string (strL s)) (.int .i64 (i : Int))).run Tryd.prog w = .ok (.int .u8 ((s[i]).toNat : Int)) w := fun w => by
        rw [run_index_string w 9 (strL s) .i64 i Tryd.underlying9, dif_pos ⟨by omega, by rw [strL_size]; omega⟩]
        rfl
      have hst := take_step hd
      generalize s[i] = c at *
      generalize strL s = z at *
      go_wp2_with (go_at_call 64; refine hby.mono ?_; rintro e w2 ⟨v, rfl, hO2, hb2⟩)
      refine ⟨⟨i + 1, rfl, by omega, ?_, hBl.trans hb2, Nat.le_trans hBs hb2.size⟩, by simp; omega⟩
      rw [hst]
      simpa using hO2
    · have hin : i = n := by omega
      subst hin
      have g1 : ¬ (i : Int) < (i : Int) := by omega
      rw [List.take_of_length_le (by omega)] at hO
      have hn2 := new_bytes wr [34] (0, 0)
      have hb2 := Ap.new u0 hBs (.cells #[.int .u8 34] 5)
      have hO2 : Out B (wr.alloc (.cells #[.int .u8 34] 5)) u0 (l ++ 34 :: s.flatMap byteJ) := hO.gr (Gr.alloc _ _)
      have hB2 : B ≤ (wr.alloc (.cells #[.int .u8 34] 5)).heap.size := by simp; omega
      have hl2 : (l ++ 34 :: s.flatMap byteJ).length + [(34 : UInt8)].length ≤ 140737488355327 := by
        simp only [List.length_append, List.length_cons, List.length_nil]; omega
      clear hO
      go_wp2_with (at_builtin; refine wpl_app55 rfl (.tmp 20) (.tmp 21) rfl B u0 _ [34] hO2 rfl ⟨wr.heap.size, 0, none⟩ 1 rfl hn2 (Nat.zero_lt_succ _) hl2 hB2 ?_; intro u3 w3 h3 hb3)
      go_ret
      refine ⟨_, rfl, ?_, hBl.trans (hb2.trans hb3)⟩
      unfold textJ
      simpa using h3
end Go.Proofs.YtogippkapadolaaDoor

/- What a value's text is, in plain words. -/
namespace Go.Proofs.YtogippkapadolaaDoor
open Go.RowKit

mutual
def showJ : J → List UInt8
  | .mk k b n s l names => if k = 1 then (if b then [116, 114, 117, 101] else [102, 97, 108, 115, 101]) else if k = 2 then Lib.itoa n else if k = 3 then textJ s
    else if k = 4 then 91 :: partsJ false 0 l names ++ [93] else if k = 5 then 123 :: partsJ true 0 l names ++ [125] else [110, 117, 108, 108]
def partsJ (o : Bool) (i : Nat) : List J → List (List UInt8) → List UInt8
  | [], _ => []
  | x :: r, names => ((if 0 < i then [44] else []) ++ (if o = true then textJ (names.getD i []) ++ [58] else []) ++ showJ x) ++ partsJ o (i + 1) r names
end
def pieceJ (o : Bool) (i : Nat) (x : J) (names : List (List UInt8)) : List UInt8 := (if 0 < i then [44] else []) ++ (if o = true then textJ (names.getD i []) ++ [58] else []) ++ showJ x
theorem names_get {names : List (List UInt8)} {i : Nat} {nm : List UInt8} {h : i < names.length} (e : names[i] = nm) : names.getD i [] = nm := by
  rw [← e]; simp [List.getD, List.getElem?_eq_getElem h]
def Tab (B : Nat) (w : World) : Prop := Lib.TabBelow Tryd.prog B w "internal/strconv.uint64pow10" .u64 Lib.pow10Tab
theorem Tab.of {B : Nat} {w w' : World} (h : Tab B w) (hb : Below B w w') : Tab B w' := fun z hz => h z (hb.trans hz)
/-- laid's contract at a value. -/
def LaidP (B : Nat) (w0 : World) (j : J) (v : Value) : Prop := ∀ (w : World) (u : Value) (o : List UInt8), Below B w0 w → B ≤ w.heap.size → Out B w u o → Tab B w → o.length + (showJ j).length + 40 ≤ 140737488355327 →
  Calls Tryd.prog 25 #[u, v] w fun e w' => ∃ u', e = .returned u' ∧ Out B w' u' (o ++ showJ j) ∧ Ap B w u w' u'
theorem gr_new {w w2 : World} {obj : Obj} {cs : List Value} {t : TypeId} (h : Turned w.heap.size (w.alloc obj) w2 cs t) : Gr w w2 :=
  ⟨h.os, h.tape, h.output, by rw [h.size, World.size_alloc]; omega, fun k hk => (h.others k (by omega)).trans ((Gr.alloc w obj).block k hk)⟩
theorem flat_at {es : List (List Value)} (h6 : ∀ c ∈ es, c.length = 6) : ∀ {i : Nat} {c : List Value}, es[i]? = some c → ∀ (j : Nat) (v : Value), c[j]? = some v → es.flatten[i * 6 + j]? = some v := by
  induction es with
  | nil => intro i c h; simp at h
  | cons d r ih =>
    intro i c h j v hv
    have hd := h6 d (by simp)
    cases i with
    | zero =>
      simp at h
      subst h
      have hj : j < d.length := (List.getElem?_eq_some_iff.1 hv).1
      simp only [List.flatten_cons, Nat.zero_mul, Nat.zero_add]
      rw [List.getElem?_append_left hj]; exact hv
    | succ i =>
      have h' : r[i]? = some c := by simpa using h
      have := ih (fun c hc => h6 c (by simp [hc])) h' j v hv
      simp only [List.flatten_cons]
      rw [List.getElem?_append_right (by rw [hd]; omega), hd, show (i + 1) * 6 + j - 6 = i * 6 + j by omega]
      exact this
/-- An element's cells, wherever the world has come to. -/
theorem Lies.elem {w0 wr : World} {S : Nat → Prop} {B : Nat} {la : Option Addr} {es : List (List Value)} (h : Lies w0 S la es.flatten) (hS : ∀ i, S i → i < B) (hb : Below B w0 wr) (h6 : ∀ c ∈ es, c.length = 6) {i : Nat} {c : List Value} (hc : es[i]? = some c) :
    ∃ g off, la = some ⟨g, off, none⟩ ∧ g < B ∧ wr.rangeAt g (off + i * 6) c := by
  have hcl := h6 c (List.mem_of_getElem? hc)
  rcases h with h | ⟨g, off, rfl, hg, _, hr⟩
  · exfalso
    have h1 : c[0]? = some (c[0]'(by omega)) := List.getElem?_eq_getElem (by omega)
    have := flat_at h6 hc 0 _ h1
    rw [h] at this; simp at this
  · refine ⟨g, off, rfl, hS g hg, fun j v hv => ?_⟩
    rw [← hr (i * 6 + j) v (flat_at h6 hc j v hv)]
    simp only [World.cell?, hb.block g (hS g hg), Nat.add_assoc]
/-- A name's cell. -/
theorem Lies.name {w0 : World} {S : Nat → Prop} {B : Nat} {na : Option Addr} {names : List (List UInt8)} (h : Lies w0 S na (names.map strV1)) (hS : ∀ i, S i → i < B) {i : Nat} (hi : i < names.length) :
    ∃ g off, na = some ⟨g, off, none⟩ ∧ ∀ z, Below B w0 z → z.cell? ⟨g, off + i, none⟩ = some (.string (strL names[i])) := by
  rcases h with h | ⟨g, off, rfl, hg, _, hr⟩
  · exfalso
    have := congrArg List.length h
    simp at this
    rw [this] at hi; simp at hi
  · refine ⟨g, off, rfl, fun z hz => ?_⟩
    show z.cell? _ = some (strV1 names[i])
    rw [← hr i (strV1 names[i]) (by rw [List.getElem?_map, List.getElem?_eq_getElem hi]; rfl)]
    simp only [World.cell?, hz.block g (hS g hg)]
end Go.Proofs.YtogippkapadolaaDoor
