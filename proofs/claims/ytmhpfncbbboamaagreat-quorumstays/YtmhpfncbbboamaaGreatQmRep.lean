/- Cell (6) and Repairs (13) of a read that got one cell of nothing, and of none. -/
import Derived.Test.YtmhpfncbbboamaaGreatQmRead
namespace Go.Proofs.YtmhpfncbbboamaaGreat
open Go.RowKit Go.Maps Go.WideMaps

theorem res6 {tmps : Array Value} {w : World} {g : Nat} {cs : List Value} (h2 : tmps.getD 2 undef = .pointer (some ⟨g, 0, none⟩)) (hz : cs.length = 4) (hH : Holds w g cs 38) : (results Tryz.f6 tmps).run Tryz.prog w = .ok (.tuple #[.agg cs.toArray, tmps.getD 3 undef]) w := by
  rw [results_cell_tmp (p := 2) (u := 3) (ty := 38) (by kernel_rfl), h2]
  have := run_loadVar_row (P := Tryz.prog) w g 38 38 cs.toArray (0, 0) _ hH Tryz.underlying38 rfl (by rw [siz38]; simp [hz])
  simp [asAddr, this, Result.andThen]
set_option maxRecDepth 100000 in
theorem cell_nil (w : World) : Calls Tryz.prog 6 #[.pointer none] w fun e w' => e = .returned (.tuple #[.agg Z38.toArray, .bool false]) ∧ Gr w w' := by
  go_enter Tryz.func6, Tryz.ntmps6
  go_wp2
  exact bodyPost_ret (res6 (g := w.heap.size) (cs := Z38) rfl rfl (holds_new w Z38 38)) rfl ⟨rfl, al1⟩
set_option maxRecDepth 100000 in
theorem repairs_nil (w : World) : Calls Tryz.prog 13 #[.pointer none] w fun e w' => e = .returned (.slice none 0 0) ∧ Gr w w' := by
  have h6 : Hid (∀ W, Calls Tryz.prog 6 #[.pointer none] W fun e w' => e = .returned (.tuple #[.agg Z38.toArray, .bool false]) ∧ Hid (Gr W w')) := cell_nil
  go_enter Tryz.func13, Tryz.ntmps13
  go_wp2_with (go_at_call 6; refine (h6.out _).mono ?_; rintro e w2 ⟨rfl, g2⟩)
  go_ret
  exact ⟨rfl, g2.out.trans al1⟩
/-- Two integers that a call made. -/
theorem two_ints {w : World} {base : Nat} {v : Value} {x y : Int} (h : w.ownsRow base 3 1 v 2 (intsV [x, y])) : ∃ g cap cs, v = .slice (some ⟨g, 0, none⟩) 2 cap ∧ base ≤ g ∧ Holds w g cs 3 ∧ cs[0]? = some (.int .i64 x) ∧ cs[1]? = some (.int .i64 y) := by
  obtain ⟨_, ⟨rfl, h0⟩ | ⟨g, cap, cur, rfl, hb, hcur, hle, hcap, hcs, hxs⟩⟩ := h
  · omega
  · refine ⟨g, cap, cur.toList, rfl, hb, by unfold Holds; simpa using hcur, ?_, ?_⟩
    · have : (cur.toList.take (2 * 1))[0]? = some (.int .i64 x) := by rw [hxs]; rfl
      rwa [List.getElem?_take_of_lt (by omega)] at this
    · have : (cur.toList.take (2 * 1))[1]? = some (.int .i64 y) := by rw [hxs]; rfl
      rwa [List.getElem?_take_of_lt (by omega)] at this
/-- How Cell stands in its rounds: M is where its memory begins, g the row of the nodes. -/
structure CellSt (M g : Nat) (cs gs : List Value) (w W : World) : Prop where
  b0 : Holds W M Z38 38
  b1 : Holds W (M + 1) cs 38
  row : Holds W g gs 3
  lo : Below M w W
  far : M + 1 < g
theorem CellSt.gr {M g : Nat} {cs gs : List Value} {w W W' : World} (h : CellSt M g cs gs w W) (hg : Gr W W') : CellSt M g cs gs w W' :=
  ⟨h.b0.below hg h.b0.lt, h.b1.below hg h.b1.lt, h.row.below hg h.row.lt, h.lo.trans (Below.mono hg (by have := h.b0.lt; omega)), h.far⟩
theorem CellSt.turn {M g : Nat} {cs cs' gs : List Value} {w W W' : World} (h : CellSt M g cs gs w W) (ht : Turned (M + 1) W W' cs' 38) : CellSt M g cs' gs w W' := by
  have hf := h.far
  refine ⟨?_, ht.holds, ?_, h.lo.trans (ht.below (by omega)), hf⟩
  · unfold Holds; rw [ht.others M (by omega)]; exact h.b0
  · unfold Holds; rw [ht.others g (by omega)]; exact h.row
set_option maxRecDepth 100000 in
set_option maxHeartbeats 2000000 in
theorem cell_one {N : Nat} {need prime : Int} {w0 w : World} {b : Nat} {l : Ses} {x y : Int} (h : RdAt N need prime w0 w b l x) (hsl : slN l 1 = [x, y]) (hxy : x ≠ y) (hx : I64 x) (hy : I64 y) :
    Calls Tryz.prog 6 #[.pointer (some ⟨b, 0, none⟩)] w fun e w' => e = .returned (.tuple #[E38, .bool true]) ∧ Gr w w' := by
  obtain ⟨⟨hi, cb, hT, hC, hcb⟩, _⟩ := h
  obtain ⟨M, hM⟩ : ∃ M, w.heap.size = M := ⟨_, rfl⟩
  have HM : Hid (w.heap.size = M) := hM
  have hbM : b < M := by have := hT.low; have := hT.top; omega
  have hcM : cb < M := by have := hC.lt; omega
  have HC : Hid (∀ W, Below M w W → W.cell? ⟨b, 10, none⟩ = some (.map (some cb)) ∧ (Instr.lookup 63 (.map (some cb)) (.int .i64 x) true).run Tryz.prog W = .ok (.tuple #[E38, .bool true]) W ∧ (Instr.lookup 63 (.map (some cb)) (.int .i64 y) true).run Tryz.prog W = .ok (.tuple #[.agg Z38.toArray, .bool false]) W) := fun W hW => by
    have hC2 := hC.same (hW.block cb hcM)
    have l1 := hC2.look x hx
    have l2 := hC2.look y hy
    rw [if_pos rfl] at l1
    rw [if_neg (fun e => hxy e.symm)] at l2
    exact ⟨(World.cell?_of_block (a := ⟨b, 10, none⟩) (hW.block b hbM)).trans hT.cell10.1, l1, l2⟩
  have h16 : Hid (Calls Tryz.prog 16 #[.pointer (some ⟨b, 0, none⟩), .int .i64 1] ((w.alloc (.cells Z38.toArray 38)).alloc (.cells Z38.toArray 38)) fun e w' => ∃ g cap gs, e = .returned (.slice (some ⟨g, 0, none⟩) 2 cap) ∧ gs[0]? = some (.int .i64 x) ∧ gs[1]? = some (.int .i64 y) ∧ Hid (CellSt M g Z38 gs w w')) := by
    refine (said_any (hT.gr al2) 1).mono fun e w' ⟨u, e1, e2, e3⟩ => ?_
    rw [hsl] at e2
    obtain ⟨g, cap, gs, rfl, hg, hG, g0, g1⟩ := two_ints e2
    have q0 : Holds ((w.alloc (.cells Z38.toArray 38)).alloc (.cells Z38.toArray 38)) w.heap.size Z38 38 := (holds_new w Z38 38).alloc _
    have q1 : Holds ((w.alloc (.cells Z38.toArray 38)).alloc (.cells Z38.toArray 38)) (w.heap.size + 1) Z38 38 := new2
    rw [hM] at q0 q1
    have hz : ((w.alloc (.cells Z38.toArray 38)).alloc (.cells Z38.toArray 38)).heap.size = M + 1 + 1 := by simp [hM]
    refine ⟨g, cap, gs, e1, g0, g1, q0.below e3 q0.lt, q1.below e3 q1.lt, hG, ?_, by omega⟩
    have := (al2 (w := w) (o1 := .cells Z38.toArray 38) (o2 := .cells Z38.toArray 38)).trans e3
    unfold Gr at this
    rwa [hM] at this
  have h17 : Hid (∀ W, Calls Tryz.prog 17 #[E38, E38] W fun e w' => e = .returned E38 ∧ Hid (Gr W w')) := cjoin_none
  clear hT hC hM hsl
  go_enter Tryz.func6, Tryz.ntmps6
  go_wp2_with (go_at_call 16; refine h16.out.mono ?_; rintro e w3 ⟨g, cap, gs, rfl, g0, g1, hS⟩)
  rw [HM.out]
  go_loopw [5, 18] (fun c5 c18 wr => (c18 = .int .i64 0 ∧ c5 = .bool false ∧ Hid (CellSt M g Z38 gs w wr)) ∨ (c18 = .int .i64 1 ∧ c5 = .bool true ∧ Hid (CellSt M g C38 gs w wr)) ∨ (c18 = .int .i64 2 ∧ c5 = .bool true ∧ Hid (CellSt M g C38 gs w wr))) (fun _ c _ => 2 - (intOf c).toNat)
  case atStart => exact .inl ⟨by trivial, by trivial, hS⟩
  case round =>
    rcases hrel with ⟨rfl, rfl, hR⟩ | ⟨rfl, rfl, hR⟩ | ⟨rfl, rfl, hR⟩
    · obtain ⟨c10, lx, ly⟩ := HC.out wr hR.out.lo
      have r0 := hR.out.row.at 0 _ g0
      have hA := hR.out.gr (al1 (o := .cells C38.toArray 38))
      have HA : Hid (CellSt M g Z38 gs w (wr.alloc (.cells C38.toArray 38))) := hA
      have h8 : Hid (Holds (wr.alloc (.cells C38.toArray 38)) wr.heap.size C38 38) := holds_new wr C38 38
      have hwr : Hid (M + 1 < wr.heap.size) := hR.out.b1.lt
      clear hA hR ly
      go_wp2_with (first
        | (go_at_call 17; refine (h17.out _).mono ?_; rintro e w5 ⟨rfl, g5⟩; have HB : Hid (CellSt M g C38 gs w w5) := H4.out.gr g5.out; clear g5)
        | (refine wpList_store_all rfl 38 _ _ rfl (M + 1) rfl C38 rfl 38 Z38 HA.out.b1 siz38 rfl one38 ?_; intro W4 t4; have H4 : Hid (CellSt M g C38 gs w W4) := HA.out.turn t4; have k0 := H4.out.b1.at 0 _ rfl; have k1 := H4.out.b1.at 1 _ rfl; have k2 := H4.out.b1.at 2 _ rfl; have k3 := H4.out.b1.at 3 _ rfl; have m8 : Holds W4 wr.heap.size C38 38 := (show W4.heap[wr.heap.size]? = _ from (t4.others wr.heap.size (Nat.ne_of_gt hwr.out)).trans h8.out); have n0 := m8.at 0 _ rfl; have n1 := m8.at 1 _ rfl; have n2 := m8.at 2 _ rfl; have n3 := m8.at 3 _ rfl; clear m8 t4)
        | (refine wpList_store_all rfl 38 _ _ rfl (M + 1) rfl C38 rfl 38 C38 HB.out.b1 siz38 rfl one38 ?_; intro W6 t6))
      exact ⟨.inr (.inl ⟨rfl, rfl, HB.out.turn t6⟩), by simp [intOf]⟩
    · obtain ⟨c10, lx, ly⟩ := HC.out wr hR.out.lo
      have r1 := hR.out.row.at 1 _ g1
      have hA : Hid (CellSt M g C38 gs w (wr.alloc (.cells Z38.toArray 38))) := hR.out.gr (al1 (o := .cells Z38.toArray 38))
      clear hR lx
      go_wp2
      exact ⟨.inr (.inr ⟨rfl, rfl, hA⟩), by simp [intOf]⟩
    · have k0 := hR.out.b1.at 0 _ rfl
      have k1 := hR.out.b1.at 1 _ rfl
      have k2 := hR.out.b1.at 2 _ rfl
      have k3 := hR.out.b1.at 3 _ rfl
      go_wp2_with (refine wpList_store_all rfl 38 _ _ rfl M rfl C38 rfl 38 Z38 hR.out.b0 siz38 rfl one38 ?_; intro W9 t9)
      exact bodyPost_ret (res6 (g := M) (cs := C38) rfl rfl t9.holds) rfl ⟨rfl, by show Below w.heap.size w W9; rw [HM.out]; exact hR.out.lo.trans (t9.below (Nat.le_refl _))⟩
set_option maxRecDepth 100000 in
set_option maxHeartbeats 2000000 in
theorem repairs_one {N : Nat} {need prime : Int} {w0 w : World} {b : Nat} {l : Ses} {x y : Int} (h : RdAt N need prime w0 w b l x) (hsl : slN l 1 = [x, y]) (hxy : x ≠ y) (hx : I64 x) (hy : I64 y) :
    Calls Tryz.prog 13 #[.pointer (some ⟨b, 0, none⟩)] w fun e w' => ∃ g cap, e = .returned (.slice (some ⟨g, 0, none⟩) 1 cap) ∧ w'.cell? ⟨g, 0, none⟩ = some (.int .i64 y) ∧ Gr w w' := by
  have h6 : Hid (Calls Tryz.prog 6 #[.pointer (some ⟨b, 0, none⟩)] w fun e w' => e = .returned (.tuple #[E38, .bool true]) ∧ Hid (Gr w w')) := cell_one h hsl hxy hx hy
  obtain ⟨⟨hi, cb, hT, hC, hcb⟩, _⟩ := h
  obtain ⟨i0, hi0, hz0, hsz0, hby0⟩ := info3x
  have F0 : Hid (Tryz.prog.info? 3 = some i0) := hi0
  have HC : Hid (∀ W, Gr w W → W.cell? ⟨b, 10, none⟩ = some (.map (some cb)) ∧ (Instr.lookup 63 (.map (some cb)) (.int .i64 x) true).run Tryz.prog W = .ok (.tuple #[E38, .bool true]) W ∧ (Instr.lookup 63 (.map (some cb)) (.int .i64 y) true).run Tryz.prog W = .ok (.tuple #[.agg Z38.toArray, .bool false]) W) := fun W hW => by
    have l1 := (hC.gr hW).look x hx
    have l2 := (hC.gr hW).look y hy
    rw [if_pos rfl] at l1
    rw [if_neg (fun e => hxy e.symm)] at l2
    exact ⟨(hT.gr hW).cell10.1, l1, l2⟩
  have h16 : Hid (∀ W, Gr w W → Calls Tryz.prog 16 #[.pointer (some ⟨b, 0, none⟩), .int .i64 1] W fun e w' => ∃ g cap gs, e = .returned (.slice (some ⟨g, 0, none⟩) 2 cap) ∧ gs[0]? = some (.int .i64 x) ∧ gs[1]? = some (.int .i64 y) ∧ Hid (Holds w' g gs 3 ∧ Gr W w')) := fun W hW => by
    refine (said_any (hT.gr hW) 1).mono fun e w' ⟨u, e1, e2, e3⟩ => ?_
    rw [hsl] at e2
    obtain ⟨g, cap, gs, rfl, hg, hG, g0, g1⟩ := two_ints e2
    exact ⟨g, cap, gs, e1, g0, g1, hG, e3⟩
  have h25 : Hid (∀ W, Calls Tryz.prog 25 #[E38, E38] W fun e w' => e = .returned (.bool true) ∧ Hid (Gr W w')) := csame_none
  clear hT hC hsl hi0
  go_enter Tryz.func13, Tryz.ntmps13
  go_wp2_with (first
    | (go_at_call 6; refine h6.out.mono ?_; rintro e w2 ⟨rfl, g2⟩; have G3 : Hid (Gr w (w2.alloc (.cells C38.toArray 38))) := g2.out.trans al1; have H3 : Hid (Holds (w2.alloc (.cells C38.toArray 38)) w2.heap.size C38 38) := holds_new w2 C38 38; clear g2)
    | (go_at_call 16; refine (h16.out _ G3.out).mono ?_; rintro e w4 ⟨g, cap, gs, rfl, g0, g1, h4⟩; have G4 : Hid (Gr w w4) := G3.out.trans h4.out.2; have H4 : Hid (Holds w4 w2.heap.size C38 38) := H3.out.below h4.out.2 H3.out.lt; have R4 : Hid (Holds w4 g gs 3) := h4.out.1; clear h4 G3 H3))
  generalize w2.heap.size = q3 at H4 ⊢
  obtain ⟨B, hB⟩ : ∃ B, w4.heap.size = B := ⟨_, rfl⟩
  have HB : Hid (w4.heap.size = B) := hB
  clear hB
  go_loopw [5, 22] (fun c5 c22 wr => ((c22 = .int .i64 0 ∨ c22 = .int .i64 1) ∧ c5 = .slice none 0 0 ∧ Hid (Gr w4 wr)) ∨ (c22 = .int .i64 2 ∧ Hid (wr.ownsRow B 3 1 c5 1 [.int .i64 y] ∧ Gr w4 wr))) (fun _ c _ => 2 - (intOf c).toNat)
  case atStart => exact .inl ⟨.inl (by trivial), by trivial, Gr.refl w4⟩
  case round =>
    rcases hrel with ⟨rfl | rfl, rfl, hR⟩ | ⟨rfl, hR⟩
    · obtain ⟨c10, lx, ly⟩ := HC.out wr (G4.out.trans hR.out)
      have r0 := (R4.out.below hR.out R4.out.lt).at 0 _ g0
      have hq := (H4.out.below hR.out H4.out.lt).alloc (.cells C38.toArray 38)
      have k0 := hq.at 0 _ rfl
      have k1 := hq.at 1 _ rfl
      have k2 := hq.at 2 _ rfl
      have k3 := hq.at 3 _ rfl
      have HG : Hid (Gr w4 (wr.alloc (.cells C38.toArray 38))) := hR.out.trans al1
      clear hq hR ly
      go_wp2_with (go_at_call 25; refine (h25.out _).mono ?_; rintro e w5 ⟨rfl, g5⟩)
      exact ⟨.inl ⟨.inr rfl, by trivial, HG.out.trans g5.out⟩, by simp [intOf]⟩
    · obtain ⟨c10, lx, ly⟩ := HC.out wr (G4.out.trans hR.out)
      have r1 := (R4.out.below hR.out R4.out.lt).at 1 _ g1
      have HG : Hid (Gr w4 ((wr.alloc (.cells Z38.toArray 38)).alloc (.cells #[.int .i64 y] 3))) := hR.out.trans al2
      have HO : Hid (((wr.alloc (.cells Z38.toArray 38)).alloc (.cells #[.int .i64 y] 3)).ownsRow B 3 1 (.slice none 0 0) 0 []) := ⟨rfl, .inl ⟨rfl, rfl⟩⟩
      have HNC : Hid (∀ (j : Nat) (u : Value), [Value.int .i64 y][j]? = some u → ((wr.alloc (.cells Z38.toArray 38)).alloc (.cells #[.int .i64 y] 3)).cell? (Addr.add ⟨wr.heap.size + 1, 0, none⟩ j) = some u) := fun j u hu => World.news_of_block new2 j u hu
      have hBw : B ≤ wr.heap.size := by rw [← HB.out]; exact hR.out.size
      clear hR lx
      go_wp2_with (first
        | (at_builtin; refine wpList_append_src rfl (.tmp 43) (.tmp 45) 46 rfl B 3 i0 _ 1 8 und46 F0.out hz0 hsz0 hby0 (by rfl) (by omega) _ _ _ HO.out rfl [.int .i64 y] _ 1 1 rfl (by rfl) (fun _ => ⟨_, rfl, fun j u hu => HNC.out j u (by simpa using hu)⟩) (by intro v hv; simp at hv; subst hv; rfl) (by unfold maxLen; omega) (by omega) (by simp; omega) ?_; intro v3 w5 own3 gr3 _)
        | go_in)
      exact ⟨.inr ⟨rfl, own3, gr_grown HG.out HB.out HO.out gr3⟩, by simp [intOf]⟩
    · obtain ⟨_, ⟨rfl, h0⟩ | ⟨q, cap5, cur, rfl, hb5, hcur, hle, hcap, hcs, hxs⟩⟩ := hR.out.1
      · omega
      · have hcell : Hid (wr.cell? ⟨q, 0, none⟩ = some (.int .i64 y)) := by
          show wr.cell? ⟨q, 0, none⟩ = some (.int .i64 y)
          rw [cell_of_row wr q _ cur 3 (0, 0) hcur]
          have : (cur.toList.take (1 * 1))[0]? = some (.int .i64 y) := by rw [hxs]; rfl
          rw [List.getElem?_take_of_lt (by omega)] at this
          simpa using this
        clear hcur hxs hcs
        go_wp2
        go_ret
        exact ⟨q, cap5, rfl, hcell.out, G4.out.trans hR.out.2⟩
end Go.Proofs.YtmhpfncbbboamaaGreat
