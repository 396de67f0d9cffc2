/- Due (10). -/
import Derived.Test.YtklkonmdllgeeaaWhUp
namespace Go.Proofs.Ytklkonmdllgeeaa
open Go.RowKit Go.Maps Go.WideMaps

def namesV (ks : List (List UInt8)) : List Value := ks.map fun k => Value.string (strL k)
theorem namesV_len (ks : List (List UInt8)) : (namesV ks).length = ks.length := by simp [namesV]
theorem cellsT_cell : ∀ {l : Ts} {i : Nat} {p : Tm}, l[i]? = some p → ∀ (j : Nat), j < 3 → ∀ tl : List Value, (cellsT l ++ tl)[i * 3 + j]? = (tmV p)[j]?
  | [], i, p, h, j, hj, tl => by simp at h
  | q :: l, 0, p, h, j, hj, tl => by
    simp at h
    subst h
    rw [Nat.zero_mul, Nat.zero_add]
    have e : cellsT (q :: l) ++ tl = tmV q ++ (cellsT l ++ tl) := by simp [cellsT]
    rw [e, List.getElem?_append_left (by simpa [tmV] using hj)]
  | q :: l, i + 1, p, h, j, hj, tl => by
    have := cellsT_cell (l := l) (i := i) (p := p) (by simpa using h) j hj tl
    have e : cellsT (q :: l) ++ tl = tmV q ++ (cellsT l ++ tl) := by simp [cellsT]
    rw [e, List.getElem?_append_right (by simp [tmV]; omega), ← this]
    congr 1
    simp [tmV]; omega
theorem row_tm {w : World} {base : Nat} {a : Option Addr} {n c : Nat} {l : Ts} (h : w.ownsRow base 57 3 (.slice a n c) l.length (cellsT l)) {i : Nat} {x : Tm} (hi : l[i]? = some x) : ∃ g, a = some ⟨g, 0, none⟩ ∧ g < w.heap.size ∧ w.cell? ⟨g, i * 3, none⟩ = some (.string (strL x.1)) ∧ w.cell? ⟨g, i * 3 + 1, none⟩ = some (.int .i64 x.2.1) ∧ w.cell? ⟨g, i * 3 + 2, none⟩ = some (.int .u64 (x.2.2 : Int)) := by
  have hlt := (List.getElem?_eq_some_iff.1 hi).1
  rcases h.2 with ⟨e, h0⟩ | ⟨g, cap, cur, e, _, hg, hc, hcm, hcs, ht⟩
  · omega
  · obtain ⟨rfl, _, _⟩ := Value.slice.inj e
    have hcell : ∀ j, j < 3 → w.cell? ⟨g, i * 3 + j, none⟩ = (tmV x)[j]? := fun j hj => by
      rw [cell_of_row w g _ cur 57 (0, 0) hg, ← cellsT_cell hi j hj []]
      rw [List.append_nil, ← ht, List.getElem?_take_of_lt (by omega), Array.getElem?_toList]
    exact ⟨g, rfl, (Array.getElem?_eq_some_iff.1 hg).1, hcell 0 (by omega), hcell 1 (by omega), hcell 2 (by omega)⟩
theorem strs_of_row {w : World} {m b : Nat} {v : Value} {ks : List (List UInt8)} (h : w.ownsRow m 9 1 v ks.length (namesV ks)) (hb : b < m) : Strs b w v ks := by
  rcases h.2 with ⟨rfl, h0⟩ | ⟨g, cap, cur, rfl, hm, hg, hc, hcm, hcs, ht⟩
  · exact ⟨none, 0, by rw [h0], .inl h0⟩
  · refine ⟨_, cap, rfl, .inr ⟨g, 0, cur, 9, (0, 0), rfl, by omega, hg, fun i k hi => ?_⟩⟩
    have hlt := (List.getElem?_eq_some_iff.1 hi).1
    rw [Nat.zero_add, cell_of_row w g _ cur 9 (0, 0) hg]
    have e : (namesV ks)[i]? = some (.string (strL k)) := by simp [namesV, hi]
    rw [← ht, List.getElem?_take_of_lt (by omega), Array.getElem?_toList] at e
    exact e
theorem due_nil (v : Value) (w : World) : Calls Try.prog 10 #[.pointer none, v] w fun e w' => e = .returned (.slice none 0 0) ∧ w' = w := by
  go_enter Try.func10, Try.ntmps10
  go_wp2
  go_ret
  exact ⟨rfl, rfl⟩
theorem row_up {w : World} {M g : Nat} {e : TypeId} {size : Nat} {v : Value} {n : Nat} {xs : List Value} (h : w.ownsRow M e size v n xs) (hg : g < M) : some g ≠ v.ownBlock := fun q => by
  have := (h.lt g q.symm).1
  omega
set_option maxHeartbeats 3200000 in
set_option maxRecDepth 100000 in
theorem due_any (hsort : SortOk) (N b : Nat) (l : Ts) (t : Nat) (now : Int) (ht : t < 1073741824) (w : World) (h : WheelAt N w b l t) : Calls Try.prog 10 #[.pointer (some ⟨b, 0, none⟩), .int .i64 now] w fun e w' => ∃ v, e = .returned v ∧ Hid (w'.ownsRow w.heap.size 9 1 v ((dueT now l).map (·.1)).length (namesV ((dueT now l).map (·.1))) ∧ WheelAt N w' b (leftT now l) t ∧ WUpd N b w w') := by
  obtain ⟨i9, F9', hz9, hs9, hb9⟩ := inf9
  have F9 : Hid (Try.prog.info? 9 = some i9) := F9'
  clear F9'
  have hup := upTo_any hsort N b l t now ht w h
  have hbl := h.lt
  have hNb := h.low
  have HW : Hid (WheelAt N w b l t) := h
  have hdl := due_left now l
  have hll := h.fine.len
  obtain ⟨H, hHs⟩ : ∃ H, w.heap.size = H := ⟨_, rfl⟩
  have HH : Hid (w.heap.size = H) := hHs
  rw [hHs] at hup hbl ⊢
  obtain ⟨ds, hds⟩ : ∃ ds, dueT now l = ds := ⟨_, rfl⟩
  have HD : Hid (dueT now l = ds) := hds
  rw [hds] at hup hdl ⊢
  obtain ⟨n, hn⟩ : ∃ n, ds.length = n := ⟨_, rfl⟩
  have HN : Hid (ds.length = n) := hn
  have hn30 : n < 1073741824 := by omega
  have hup' : Hid (Calls Try.prog 20 #[.pointer (some ⟨b, 0, none⟩), .int .i64 now] w fun e w' => ∃ a c, e = .returned (.slice a n c) ∧ Hid (w'.ownsRow H 57 3 (.slice a n c) ds.length (cellsT ds) ∧ Below H w w')) := hup.mono fun e w' ⟨v, e1, e2, e3⟩ => by
    obtain ⟨a, c, rfl⟩ := row_slice e2
    rw [hn] at e1 e2
    exact ⟨a, c, e1, by rw [hn]; exact e2, e3⟩
  clear hup h hsort hds hn hdl hll
  go_enter Try.func10, Try.ntmps10
  go_wp2_with (go_at_call 20; refine hup'.out.mono ?_; rintro e w1 ⟨a, c, rfl, hR1⟩)
  obtain ⟨M, hM⟩ : ∃ M, w1.heap.size = M := ⟨_, rfl⟩
  have hHM : H ≤ M := by have := hR1.out.2.size; have := HH.out; omega
  have HM : Hid (w1.heap.size = M) := hM
  clear hM hup'
  go_loopw [5, 14] (fun v cc wr => ∃ i : Nat, cc = .int .i64 (i : Int) ∧ i ≤ n ∧ Hid (wr.ownsRow M 9 1 v i (namesV ((ds.take i).map (·.1))) ∧ Below M w1 wr)) (fun _ cc _ => n - (intOf cc).toNat)
  case atStart => exact ⟨0, rfl, Nat.zero_le _, World.ownsRow_nil _ _ _ _, Below.refl _ _⟩
  case round =>
    obtain ⟨i, rfl, hi, hR⟩ := hrel
    obtain ⟨va, vc, rfl⟩ := row_slice hR.out.1
    by_cases hlt : i < n
    · obtain ⟨⟨x1, x2, x3⟩, hx⟩ : ∃ x, ds[i]? = some x := ⟨_, List.getElem?_eq_getElem (by rw [HN.out]; exact hlt)⟩
      obtain ⟨g, rfl, hg, c0', c1', c2'⟩ := row_tm hR1.out.1 hx
      have hgM : g < M := by have := HM.out; omega
      have hbk := hR.out.2.block g hgM
      have c0 : wr.cell? ⟨g, i * 3, none⟩ = some (.string (strL x1)) := by rw [World.cell?_of_block (w := w1) hbk]; exact c0'
      have c1 : wr.cell? ⟨g, i * 3 + 1, none⟩ = some (.int .i64 x2) := by rw [World.cell?_of_block (w := w1) hbk]; exact c1'
      have c2 : wr.cell? ⟨g, i * 3 + 2, none⟩ = some (.int .u64 (x3 : Int)) := by rw [World.cell?_of_block (w := w1) hbk]; exact c2'
      have hMr : M ≤ wr.heap.size := by have := hR.out.2.size; have := HM.out; omega
      have HOW : Hid (wr.ownsRow M 9 1 (.slice va i vc) i (namesV ((ds.take i).map (·.1)))) := hR.out.1
      have HBW : Hid (Below M w1 wr) := hR.out.2
      have HNX : Hid (namesV ((ds.take (i + 1)).map (·.1)) = namesV ((ds.take i).map (·.1)) ++ [.string (strL x1)]) := by
        show namesV ((ds.take (i + 1)).map (·.1)) = _
        rw [List.take_add_one, hx]
        simp [namesV]
      have HNC : Hid (∀ (j : Nat) (u : Value), [Value.string (strL x1)][j]? = some u → ((wr.alloc (.cells #[.string (strL x1), .int .i64 x2, .int .u64 (x3 : Int)] 57)).alloc (.cells #[.string (strL x1)] 9)).cell? (Addr.add ⟨wr.heap.size + 1, 0, none⟩ j) = some u) := fun j u hu => by
        have := World.news_of_block (heap_alloc_new (wr.alloc (.cells #[.string (strL x1), .int .i64 x2, .int .u64 (x3 : Int)] 57)) (.cells #[.string (strL x1)] 9)) j u hu
        rw [World.size_alloc] at this
        exact this
      have hlt' : (i : Int) < (n : Int) := by omega
      have hi0 : (0 : Int) ≤ (i : Int) := by omega
      clear hR hx hbk c0' c1' c2'
      go_wp2_with (first
        | (at_builtin; refine wpList_append_src rfl (.tmp 18) (.tmp 21) 30 rfl M 9 i9 _ 1 16 und30 F9.out hz9 hs9 hb9 (by rfl) (by omega) _ _ _ ((HOW.out.alloc _).alloc _) rfl [.string (strL x1)] _ 1 1 rfl (by rfl) (fun _ => ⟨_, rfl, fun j u hu => HNC.out j u hu⟩) (fun u hu => by simp at hu; subst hu; rfl) (by unfold maxLen; omega) (by omega) (by simp; omega) ?_; intro v3 w3 own3 gr3 _)
        | go_in)
      have hB3 : Below M w1 w3 := ((HBW.out.alloc (by omega) _).alloc (by simp; omega) _).trans ⟨gr3.os, gr3.tape, gr3.output, gr3.size, fun k hk => gr3.block k (by simp; omega) (row_up HOW.out hk)⟩
      go_roundw
      case rel => exact ⟨i + 1, by go_num, by omega, by rw [HNX.out]; exact own3, hB3⟩
      case measure => simp [intOf]; omega
    · obtain rfl : i = n := by omega
      have hdn : ds.take i = ds := List.take_of_length_le (by rw [HN.out]; exact Nat.le_refl _)
      have hk : (ds.map (·.1)).length = i := by rw [List.length_map, HN.out]
      have hrow : wr.ownsRow M 9 1 (.slice va i vc) (ds.map (·.1)).length (namesV (ds.map (·.1))) := by
        have := hR.out.1
        rw [hdn] at this
        rw [hk]; exact this
      have hBw : Below H w wr := hR1.out.2.trans (hR.out.2.mono hHM)
      have hWr : WheelAt N wr b l t := HW.out.same (by rw [HH.out]; exact hBw)
      have hmm : ∀ k ∈ ds.map (·.1), k.length ≤ maxLen := fun k hk => by
        obtain ⟨x, hx, rfl⟩ := List.mem_map.1 hk
        rw [← HD.out] at hx
        exact HW.out.names x (mem_dueT.1 hx).1
      have hcan := cancel_any N b l t (.slice va i vc) (ds.map (·.1)) hmm (by rw [hk]; unfold maxLen; omega) (by omega) wr hWr (strs_of_row hrow (by omega))
      have hcan' : Hid (Calls Try.prog 9 #[.pointer (some ⟨b, 0, none⟩), .slice va i vc] wr fun e w' => ∃ z : Int, e = .returned (.int .i64 z) ∧ Hid (w'.ownsRow H 9 1 (.slice va i vc) (ds.map (·.1)).length (namesV (ds.map (·.1))) ∧ WheelAt N w' b (leftT now l) t ∧ WUpd N b w w')) := hcan.mono fun e w' ⟨e1, e2, e3⟩ => by
        refine ⟨_, e1, own_mono (own_same hrow (fun j cs fr hj hc => e3.cells j cs 9 fr (by omega) hc)) hHM, ?_, (WUpd.ofBelow (by rw [HH.out]; exact hBw) (by rw [HH.out]; omega)).trans e3⟩
        rw [← drop_due HW.out.fine now, HD.out]
        exact e2
      clear hcan hrow hWr hBw hdn hk hmm hR hR1
      go_wp2_with (go_at_call 9; refine hcan'.out.mono ?_; rintro e w3 ⟨z, rfl, hE⟩)
      go_ret
      exact ⟨_, rfl, hE⟩
end Go.Proofs.Ytklkonmdllgeeaa
