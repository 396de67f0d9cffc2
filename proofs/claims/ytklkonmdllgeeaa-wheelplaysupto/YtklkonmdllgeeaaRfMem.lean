/- The document's own wheel in memory; its Cancel (8) and Set (14). -/
import Derived.Test.YtklkonmdllgeeaaWhWin
import Derived.Deep.Cut
namespace Go.Proofs.Ytklkonmdllgeeaa
open Go.RowKit Go.Maps

def rfV (x : Tm) : List Value := [.int .i64 x.2.1, .string (strL x.1)]
def cellsR (l : Ts) : List Value := l.flatMap rfV
theorem cellsR_append (a b : Ts) : cellsR (a ++ b) = cellsR a ++ cellsR b := by simp [cellsR]
theorem cellsR_len (l : Ts) : (cellsR l).length = l.length * 2 := by
  induction l with
  | nil => rfl
  | cons p l ih => simp [cellsR, rfV] at ih ⊢; omega
theorem cellsR_cell : ∀ {l : Ts} {i : Nat} {p : Tm}, l[i]? = some p → ∀ (j : Nat), j < 2 → (cellsR l)[i * 2 + j]? = (rfV p)[j]?
  | [], i, p, h, j, hj => by simp at h
  | q :: l, 0, p, h, j, hj => by
    simp at h
    subst h
    rw [Nat.zero_mul, Nat.zero_add]
    have e : cellsR (q :: l) = rfV q ++ cellsR l := by simp [cellsR]
    rw [e, List.getElem?_append_left (by simpa [rfV] using hj)]
  | q :: l, i + 1, p, h, j, hj => by
    have := cellsR_cell (l := l) (i := i) (p := p) (by simpa using h) j hj
    have e : cellsR (q :: l) = rfV q ++ cellsR l := by simp [cellsR]
    rw [e, List.getElem?_append_right (by simp [rfV]; omega), ← this]
    congr 1
    simp [rfV]; omega
theorem row_rf {w : World} {base : Nat} {a : Option Addr} {n c : Nat} {l : Ts} (h : w.ownsRow base 53 2 (.slice a n c) l.length (cellsR l)) {i : Nat} {x : Tm} (hi : l[i]? = some x) : ∃ g, a = some ⟨g, 0, none⟩ ∧ g < w.heap.size ∧ w.cell? ⟨g, i * 2, none⟩ = some (.int .i64 x.2.1) ∧ w.cell? ⟨g, i * 2 + 1, none⟩ = some (.string (strL x.1)) := by
  have hlt := (List.getElem?_eq_some_iff.1 hi).1
  rcases h.2 with ⟨e, h0⟩ | ⟨g, cap, cur, e, _, hg, hc, hcm, hcs, ht⟩
  · omega
  · obtain ⟨rfl, _, _⟩ := Value.slice.inj e
    have hcell : ∀ j, j < 2 → w.cell? ⟨g, i * 2 + j, none⟩ = (rfV x)[j]? := fun j hj => by
      rw [cell_of_row w g _ cur 53 (0, 0) hg, ← cellsR_cell hi j hj]
      rw [← ht, List.getElem?_take_of_lt (by omega), Array.getElem?_toList]
    exact ⟨g, rfl, (Array.getElem?_eq_some_iff.1 hg).1, hcell 0 (by omega), hcell 1 (by omega)⟩
/-- The document's wheel at r. -/
structure RefAt (N : Nat) (w : World) (r : Nat) (l : Ts) : Prop where
  low : N ≤ r
  mem : ∃ v, Holds w r [v] 29 ∧ w.ownsRow N 53 2 v l.length (cellsR l)
/-- What its calls leave: all but its own block and blocks of its timers. -/
structure RUpd (N r : Nat) (w w' : World) : Prop where
  os : w'.os = w.os
  tape : w'.tape = w.tape
  output : w'.output = w.output
  size : w.heap.size ≤ w'.heap.size
  low : ∀ g, g < N → w'.heap[g]? = w.heap[g]?
  rest : ∀ g o, g ≠ r → w.heap[g]? = some o → (∀ cs fr, o ≠ .cells cs 53 fr) → w'.heap[g]? = some o
theorem RUpd.refl (N r : Nat) (w : World) : RUpd N r w w := ⟨rfl, rfl, rfl, Nat.le_refl _, fun _ _ => rfl, fun _ _ _ h _ => h⟩
theorem RUpd.trans {N r : Nat} {x y z : World} (h : RUpd N r x y) (k : RUpd N r y z) : RUpd N r x z :=
  ⟨k.os.trans h.os, k.tape.trans h.tape, k.output.trans h.output, Nat.le_trans h.size k.size, fun g hg => (k.low g hg).trans (h.low g hg), fun g o hr hg hn => k.rest g o hr (h.rest g o hr hg hn) hn⟩
theorem RUpd.ofBelow {N r : Nat} {w w' : World} (h : Below w.heap.size w w') (hN : N ≤ w.heap.size) : RUpd N r w w' :=
  ⟨h.os, h.tape, h.output, h.size, fun g hg => h.block g (by omega), fun g o _ hg _ => (h.block g (Array.getElem?_eq_some_iff.1 hg).1).trans hg⟩
theorem RUpd.own {N r : Nat} {w w' : World} (hr : N ≤ r) (hl : r < w.heap.size) (h : Upd r w w') : RUpd N r w w' :=
  ⟨h.os, h.tape, h.output, h.size, fun g hg => h.block g (by omega) (by omega), fun g o hne hg _ => (h.block g (Array.getElem?_eq_some_iff.1 hg).1 hne).trans hg⟩
theorem RefAt.lt {N : Nat} {w : World} {r : Nat} {l : Ts} (h : RefAt N w r l) : r < w.heap.size := by
  obtain ⟨v, hH, _⟩ := h.mem
  exact hH.lt
theorem RefAt.below {N : Nat} {w w' : World} {r : Nat} {l : Ts} (h : RefAt N w r l) (hb : Below w.heap.size w w') : RefAt N w' r l := by
  obtain ⟨h1, v, hH, hr⟩ := h
  exact ⟨h1, v, hH.below hb hH.lt, own_same hr fun i cs fr _ hc => hb.block i (Array.getElem?_eq_some_iff.1 hc).1⟩
theorem RefAt.wupd {N : Nat} {w w' : World} {r b : Nat} {l : Ts} (h : RefAt N w r l) (hw : WUpd N b w w') (hb : ∃ cs fr, w.heap[b]? = some (.cells cs 50 fr)) : RefAt N w' r l := by
  obtain ⟨h1, v, hH, hr⟩ := h
  obtain ⟨cs', fr', hb⟩ := hb
  refine ⟨h1, v, hH.wupd hw (fun e => ?_), own_same hr fun i cs fr _ hc => hw.cells i cs 53 fr (fun e => ?_) hc⟩
  · unfold Holds at hH
    rw [e, hb] at hH
    simp at hH
  · rw [e, hb] at hc
    simp at hc
theorem WheelAt.rupd {N : Nat} {w w' : World} {b r : Nat} {l : Ts} {t : Nat} (h : WheelAt N w b l t) (hr : RUpd N r w w') (hne : b ≠ r) (hR : ∃ v, Holds w r [v] 29) : WheelAt N w' b l t := by
  obtain ⟨h1, h2, h3, mv, hH, hm⟩ := h
  refine ⟨h1, h2, h3, mv, hr.rest b _ hne hH (fun cs fr q => by cases q), ?_⟩
  rcases hm with hm | ⟨mb, e, hmb, hT⟩
  · exact .inl hm
  · obtain ⟨es, c, hes⟩ := hT.isMap
    have hmr : mb ≠ r := fun q => by
      obtain ⟨v, hv⟩ := hR
      unfold Holds at hv
      rw [← q, hes] at hv
      cases hv
    exact .inr ⟨mb, e, hmb, hT.same ((hr.rest mb _ hmr hes (fun cs fr q => by cases q)).trans hes.symm)⟩
/-- An append to a row of timers. -/
theorem RUpd.grown {N r : Nat} {w w' : World} {v : Value} {n : Nat} {xs : List Value} (hr : w.ownsRow N 53 2 v n xs) (hN : N ≤ w.heap.size) (gr : w.grownBy w' v.ownBlock) : RUpd N r w w' := by
  refine ⟨gr.os, gr.tape, gr.output, gr.size, fun g hg => gr.block g (by omega) (row_up hr hg), fun g o _ hg hn => ?_⟩
  rw [gr.block g (Array.getElem?_eq_some_iff.1 hg).1 (fun q => ?_)]
  · exact hg
  · rcases hr.2 with ⟨e, _⟩ | ⟨j, cap, cur, e, hb, hj, _⟩
    · rw [e] at q; cases q
    · rw [e] at q
      have : g = j := by simpa [Value.ownBlock] using q
      rw [this, hj] at hg
      exact hn _ _ (Option.some.inj hg).symm
theorem und27 : Try.prog.underlying 27 = some (.slice 53) := by kernel_rfl
theorem full53 : (Try.prog.info? 53).map (fun i => (i.zero, i.size, i.bytes)) = some (some (.agg #[.int .i64 0, .string ⟨#[]⟩]), 2, 24) := by kernel_rfl
theorem inf53 : ∃ i, Try.prog.info? 53 = some i ∧ i.zero = some (.agg #[.int .i64 0, .string ⟨#[]⟩]) ∧ i.size = 2 ∧ i.bytes = 24 := by
  have := full53
  cases h : Try.prog.info? 53 with
  | none => simp [h] at this
  | some i =>
    simp [h] at this
    exact ⟨i, rfl, this.1, this.2.1, this.2.2⟩
theorem dropT_snoc (k : List UInt8) (ps : Ts) (x : Tm) : dropT k (ps ++ [x]) = if x.1 = k then dropT k ps else dropT k ps ++ [x] := by
  unfold dropT
  rw [List.filter_append]
  by_cases h : x.1 = k <;> simp [h]
theorem str_ne {a k : List UInt8} (h : a ≠ k) : ((strL a).toList == (strL k).toList) = false := by rw [ByteArray.toList_eq, ByteArray.toList_eq, strL_list, strL_list]; simpa using h
theorem str_same (k : List UInt8) : ((strL k).toList == (strL k).toList) = true := by simp
set_option maxHeartbeats 3200000 in
set_option maxRecDepth 100000 in
theorem rcancel_any (N r : Nat) (l : Ts) (k : List UInt8) (hl : l.length < 1073741824) (w : World) (h : RefAt N w r l) : Calls Try.prog 8 #[.pointer (some ⟨r, 0, none⟩), .string (strL k)] w fun e w' => e = .returned (.int .i64 ((l.length : Int) - ((dropT k l).length : Int))) ∧ Hid (RefAt N w' r (dropT k l) ∧ RUpd N r w w') := by
  obtain ⟨i53, F53', hz53, hs53, hb53⟩ := inf53
  have F53 : Hid (Try.prog.info? 53 = some i53) := F53'
  clear F53'
  have hrl := h.lt
  obtain ⟨h1, v, hH, hrow⟩ := h
  obtain ⟨a, c, rfl⟩ := row_slice hrow
  have HH : Hid (Holds w r [.slice a l.length c] 29) := hH
  have HROW : Hid (w.ownsRow N 53 2 (.slice a l.length c) l.length (cellsR l)) := hrow
  have hdl := (dropT_sub k l).length_le
  obtain ⟨n, hn⟩ : ∃ n, l.length = n := ⟨_, rfl⟩
  have HN : Hid (l.length = n) := hn
  obtain ⟨H, hHs⟩ : ∃ H, w.heap.size = H := ⟨_, rfl⟩
  have HHs : Hid (w.heap.size = H) := hHs
  rw [hn] at hl hdl ⊢
  rw [hHs] at hrl
  clear hH hrow hn hHs
  go_enter Try.func8, Try.ntmps8
  go_wp2
  go_loopw [5, 6] (fun o ci wr => ∃ i : Nat, ci = .int .i64 (i : Int) ∧ i ≤ n ∧ Hid (wr.ownsRow H 53 2 o (dropT k (l.take i)).length (cellsR (dropT k (l.take i))) ∧ Below H w wr)) (fun _ ci _ => n - (intOf ci).toNat)
  case atStart => exact ⟨0, rfl, Nat.zero_le _, World.ownsRow_nil _ _ _ _, Below.refl _ _⟩
  case round =>
    obtain ⟨i, rfl, hi, hR⟩ := hrel
    obtain ⟨oa, oc, rfl⟩ := row_slice hR.out.1
    have c0 : wr.cell? ⟨r, 0, none⟩ = some (.slice a n c) := by
      have := (HH.out.below hR.out.2 hrl).at 0 _ rfl
      rw [HN.out] at this; exact this
    by_cases hlt : i < n
    · have g1 : (i : Int) < (n : Int) := by omega
      have g0 : (0 : Int) ≤ (i : Int) := by omega
      obtain ⟨⟨x1, x2, x3⟩, hx⟩ : ∃ x, l[i]? = some x := ⟨_, List.getElem?_eq_getElem (by rw [HN.out]; exact hlt)⟩
      obtain ⟨g, rfl, hg, d0', d1'⟩ := row_rf HROW.out hx
      rw [HHs.out] at hg
      have hbk := hR.out.2.block g hg
      have d0 : wr.cell? ⟨g, i * 2, none⟩ = some (.int .i64 x2) := by rw [World.cell?_of_block (w := w) hbk]; exact d0'
      have d1 : wr.cell? ⟨g, i * 2 + 1, none⟩ = some (.string (strL x1)) := by rw [World.cell?_of_block (w := w) hbk]; exact d1'
      have htk : l.take (i + 1) = l.take i ++ [(x1, x2, x3)] := by rw [List.take_add_one, hx]; rfl
      have hsn := dropT_snoc k (l.take i) (x1, x2, x3)
      rw [← htk] at hsn
      have hdl2 : (dropT k (l.take i)).length ≤ n := by have h1 := (dropT_sub k (l.take i)).length_le; rw [List.length_take] at h1; omega
      have HSN : Hid (dropT k (l.take (i + 1)) = if x1 = k then dropT k (l.take i) else dropT k (l.take i) ++ [(x1, x2, x3)]) := hsn
      have hHr : H ≤ wr.heap.size := by have := hR.out.2.size; rw [HHs.out] at this; exact this
      have HOW : Hid (wr.ownsRow H 53 2 (.slice oa (dropT k (l.take i)).length oc) (dropT k (l.take i)).length (cellsR (dropT k (l.take i)))) := hR.out.1
      have HB : Hid (Below H w wr) := hR.out.2
      clear hx d0' d1' hbk htk hsn hR
      obtain ⟨m, hm⟩ : ∃ m, (dropT k (l.take i)).length = m := ⟨_, rfl⟩
      have HM : Hid ((dropT k (l.take i)).length = m) := hm
      rw [hm] at HOW hdl2 ⊢
      clear hm
      by_cases he : x1 = k
      · subst he
        have e1 := str_same x1
        go_wp2
        go_roundw
        case rel => exact ⟨i + 1, by go_num, by omega, by rw [HSN.out, if_pos rfl, HM.out]; exact HOW.out, HB.out⟩
        case measure => simp [intOf]; omega
      · have e1 := str_ne he
        have HNC : Hid (∀ (j : Nat) (u : Value), [Value.int .i64 x2, .string (strL x1)][j]? = some u → (wr.alloc (.cells #[.int .i64 x2, .string (strL x1)] 53)).cell? (Addr.add ⟨wr.heap.size, 0, none⟩ j) = some u) := fun j u hu => World.news_of_block (heap_alloc_new wr _) j u hu
        go_wp2_with (first
          | (at_builtin; refine wpList_append_src rfl (.tmp 27) (.tmp 35) 27 rfl H 53 i53 _ 2 24 und27 F53.out hz53 hs53 hb53 (by rfl) (by omega) _ _ _ (HOW.out.alloc _) rfl [.int .i64 x2, .string (strL x1)] _ 1 1 rfl (by rfl) (fun _ => ⟨_, rfl, fun j u hu => HNC.out j u hu⟩) (fun u hu => by simp at hu; rcases hu with rfl | rfl <;> rfl) (by unfold maxLen; omega) (by omega) (by simp; omega) ?_; intro v3 w3 own3 gr3 _)
          | go_in)
        have hB3 : Below H w w3 := (HB.out.alloc (by omega) _).trans ⟨gr3.os, gr3.tape, gr3.output, gr3.size, fun j hj => gr3.block j (by simp; omega) (row_up HOW.out hj)⟩
        go_roundw
        case rel => exact ⟨i + 1, by go_num, by omega, by rw [HSN.out, if_neg he, cellsR_append, List.length_append, HM.out]; exact own3, hB3⟩
        case measure => simp [intOf]; omega
    · obtain rfl : i = n := by omega
      have ht : l.take i = l := List.take_of_length_le (by rw [HN.out]; exact Nat.le_refl _)
      rw [ht] at hR ⊢
      have f0 : wr.frozen? ⟨r, 0, none⟩ = false := (HH.out.below hR.out.2 hrl).frozen 0
      have hHr : H ≤ wr.heap.size := by have := hR.out.2.size; rw [HHs.out] at this; exact this
      have HE : Hid (RefAt N (wr.setCell ⟨r, 0, none⟩ (.slice oa (dropT k l).length oc)) r (dropT k l) ∧ RUpd N r w (wr.setCell ⟨r, 0, none⟩ (.slice oa (dropT k l).length oc))) := by
        have hHw := HH.out.below hR.out.2 hrl
        refine ⟨⟨h1, _, hHw.set 0 _, own_mono (own_same hR.out.1 fun j cs fr hj hc => heap_setCell_other wr ⟨r, 0, none⟩ j _ (by show j ≠ r; omega)) (by omega)⟩, ?_⟩
        exact (RUpd.ofBelow (by rw [HHs.out]; exact hR.out.2) (by rw [HHs.out]; omega)).trans (RUpd.own h1 hHw.lt ((Upd.refl r wr).setCell 0 _))
      clear hR
      obtain ⟨m, hm⟩ : ∃ m, (dropT k l).length = m := ⟨_, rfl⟩
      have HM : Hid ((dropT k l).length = m) := hm
      rw [hm] at HE hdl ⊢
      clear hm
      go_wp2
      go_ret
      exact ⟨by rw [HM.out]; rfl, HE⟩
set_option maxHeartbeats 3200000 in
set_option maxRecDepth 100000 in
theorem rset_any (N r : Nat) (l : Ts) (k : List UInt8) (a : Int) (t : Nat) (hl : l.length < 1073741824) (w : World) (h : RefAt N w r l) : Calls Try.prog 14 #[.pointer (some ⟨r, 0, none⟩), .int .i64 a, .string (strL k)] w fun e w' => e = .returned (.tuple #[]) ∧ Hid (RefAt N w' r (setT k a t l) ∧ RUpd N r w w') := by
  obtain ⟨i53, F53', hz53, hs53, hb53⟩ := inf53
  have F53 : Hid (Try.prog.info? 53 = some i53) := F53'
  clear F53'
  have hNr := h.low
  have hca : Hid (Calls Try.prog 8 #[.pointer (some ⟨r, 0, none⟩), .string (strL k)] w fun e w' => ∃ z : Int, e = .returned (.int .i64 z) ∧ Hid (RefAt N w' r (dropT k l) ∧ RUpd N r w w')) := (rcancel_any N r l k hl w h).mono fun e w' ⟨e1, e2⟩ => ⟨_, e1, e2⟩
  have hdl : (dropT k l).length < 1073741824 := Nat.lt_of_le_of_lt (dropT_sub k l).length_le hl
  unfold setT
  clear h
  generalize dropT k l = m at *
  go_enter Try.func14, Try.ntmps14
  go_upto_region 1 with (go_at_call 8; refine hca.out.mono ?_; rintro e w1 ⟨z, rfl, h1⟩)
  obtain ⟨v, hH, hrow⟩ := h1.out.1.mem
  have HU : Hid (RUpd N r w w1) := h1.out.2
  obtain ⟨va, vc, rfl⟩ := row_slice hrow
  have c0 := hH.at 0 _ rfl
  have HH : Hid (Holds w1 r [.slice va m.length vc] 29) := hH
  have HOW : Hid (w1.ownsRow N 53 2 (.slice va m.length vc) m.length (cellsR m)) := hrow
  have hN1 : N ≤ w1.heap.size := by have := hH.lt; omega
  have hr1 : r < w1.heap.size := hH.lt
  have HNC : Hid (∀ (j : Nat) (u : Value), [Value.int .i64 a, .string (strL k)][j]? = some u → (w1.alloc (.cells #[.int .i64 a, .string (strL k)] 53)).cell? (Addr.add ⟨w1.heap.size, 0, none⟩ j) = some u) := fun j u hu => World.news_of_block (heap_alloc_new w1 _) j u hu
  have hkeep : Hid (∀ w3, (w1.alloc (.cells #[.int .i64 a, .string (strL k)] 53)).grownBy w3 (Value.slice va m.length vc).ownBlock → Holds w3 r [.slice va m.length vc] 29) := fun w3 gr => by
    have hA := HH.out.alloc (.cells #[.int .i64 a, .string (strL k)] 53)
    have hAl := hA.lt
    unfold Holds at *
    rw [gr.block r hAl (fun q => ?_)]
    · exact hA
    · rcases HOW.out.2 with ⟨e, _⟩ | ⟨g, cap, cur, e, hb, hg, _⟩
      · rw [e] at q; cases q
      · rw [e] at q
        have : r = g := by simpa [Value.ownBlock] using q
        have hh := HH.out
        unfold Holds at hh
        rw [this, hg] at hh
        simp at hh
  clear hH hrow h1 hca
  obtain ⟨n, hn⟩ : ∃ n, m.length = n := ⟨_, rfl⟩
  have HN : Hid (m.length = n) := hn
  rw [hn] at HH HOW c0 hdl hkeep
  clear hn
  go_wp2_with (first
    | (at_builtin; refine wpList_append_src rfl (.tmp 13) (.tmp 17) 27 rfl N 53 i53 _ 2 24 und27 F53.out hz53 hs53 hb53 (by rfl) (by omega) _ _ _ (HOW.out.alloc _) rfl [.int .i64 a, .string (strL k)] _ 1 1 rfl (by rfl) (fun _ => ⟨_, rfl, fun j u hu => HNC.out j u hu⟩) (fun u hu => by simp at hu; rcases hu with rfl | rfl <;> rfl) (by unfold maxLen; omega) (by omega) (by simp; omega) ?_; intro v3 w3 own3 gr3 hx3; have d0 := (hkeep.out w3 gr3).at 0 _ rfl; have f0 := (hkeep.out w3 gr3).frozen 0; obtain ⟨q3, p3, rfl⟩ := row_slice own3)
    | go_in)
  refine bodyPost_end (results_none (by kernel_rfl) _ _ _) rfl ?_
  refine ⟨rfl, ⟨hNr, _, (hkeep.out w3 gr3).set 0 _, ?_⟩, ?_⟩
  · rw [cellsR_append, List.length_append, HN.out]
    exact own_same own3 fun j cs fr hj hc => heap_setCell_other w3 ⟨r, 0, none⟩ j _ (fun e => by
      have hh := hkeep.out w3 gr3
      unfold Holds at hh
      have e' : j = r := e
      rw [← e', hc] at hh
      simp at hh)
  · have h2 := RUpd.ofBelow (r := r) ((Below.refl _ w1).alloc (Nat.le_refl _) (.cells #[.int .i64 a, .string (strL k)] 53)) hN1
    have h3 : RUpd N r _ w3 := RUpd.grown (HOW.out.alloc _) (by simp; omega) gr3
    exact ((HU.out.trans h2).trans h3).trans (RUpd.own hNr (hkeep.out w3 gr3).lt ((Upd.refl r w3).setCell 0 _))
end Go.Proofs.Ytklkonmdllgeeaa
