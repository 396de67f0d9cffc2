/- ask (27): a target more. -/
import Derived.Test.YtmhpfncbbboamaaGreatQmAskR
import Derived.Test.YtmhpfncbbboamaaGreatQmSay
import Derived.Deep.AppendLies
import Derived.Deep.RegionLaw
namespace Go.Proofs.YtmhpfncbbboamaaGreat
open Go.RowKit Go.Maps

theorem row_slice {w : World} {base : Nat} {e : TypeId} {size : Nat} {v : Value} {n : Nat} {xs : List Value} (h : w.ownsRow base e size v n xs) : ∃ a c, v = .slice a n c := by
  obtain ⟨h1, ⟨rfl, rfl⟩ | ⟨g, cap, cur, rfl, _⟩⟩ := h
  · exact ⟨_, _, rfl⟩
  · exact ⟨_, _, rfl⟩
theorem und24 : Tryz.prog.underlying 24 = some (.slice 77) := by kernel_rfl
def z77 : Value := .agg #[.int .i64 0, .int .i64 0, .int .i64 0]
theorem info77 : (Tryz.prog.info? 77).map (fun i => (i.zero, i.size, i.bytes)) = some (some z77, 3, 24) := by kernel_rfl
theorem info77x : ∃ i, Tryz.prog.info? 77 = some i ∧ i.zero = some z77 ∧ i.size = 3 ∧ i.bytes = 24 := by
  have := info77
  cases h : Tryz.prog.info? 77 with
  | none => rw [h] at this; cases this
  | some i =>
    rw [h] at this
    simp at this
    exact ⟨i, rfl, this⟩
/-- How things stand behind the map's turn, ahead of the append. -/
structure Ahead (lo : Nat) (w W : World) (b g6 mb n : Nat) (v : Value) (l : Ses) (cs : List Value) (ty : TypeId) (x f : Int) : Prop where
  below : Below lo w W
  hold : Holds W b (v :: cs) ty
  box : Holds W g6 [.int .i64 x, .int .i64 f, .int .i64 0] 77
  map : PlAt W mb (l.map (·.1) ++ [x])
  row : W.ownsRow 0 77 3 v n (sesF l)
  apart : ∀ g, v.ownBlock = some g → lo ≤ g ∧ g ≠ b ∧ g ≠ g6
  low : lo ≤ b ∧ lo ≤ mb ∧ lo ≤ g6 ∧ b ≠ g6
/-- And behind the append and its store. -/
structure Behind (lo : Nat) (w W : World) (b g6 mb n g cap : Nat) (l : Ses) (cs : List Value) (ty : TypeId) (x f : Int) : Prop where
  below : Below lo w W
  hold : Holds W b (.slice (some ⟨g, 0, none⟩) (n + 1) cap :: cs) ty
  box : Holds W g6 [.int .i64 x, .int .i64 f, .int .i64 0] 77
  map : PlAt W mb (l.map (·.1) ++ [x])
  row : W.ownsRow 0 77 3 (.slice (some ⟨g, 0, none⟩) (n + 1) cap) (n + 1) (sesF l ++ [.int .i64 x, .int .i64 f, .int .i64 0])
  apart : lo ≤ g ∧ g ≠ b
theorem pl_ne {w : World} {b mb : Nat} {cs : List Value} {t : TypeId} {L : List Int} (hH : Holds w b cs t) (hT : PlAt w mb L) : mb ≠ b := fun e => by
  obtain ⟨es, c, h⟩ := hT.isMap
  unfold Holds at hH
  rw [← e, h] at hH; cases hH
theorem ask_mem {lo : Nat} {w W w4 : World} {b g6 mb n g cap : Nat} {v : Value} {l : Ses} {cs : List Value} {ty : TypeId} {x f : Int} (h : Ahead lo w W b g6 mb n v l cs ty x f)
    (hown : w4.ownsRow 0 77 3 (.slice (some ⟨g, 0, none⟩) (n + 1) cap) (n + 1) (sesF l ++ [.int .i64 x, .int .i64 f, .int .i64 0])) (hgr : (W.alloc (.cells #[.int .i64 x, .int .i64 f, .int .i64 0] 77)).drew.grownBy w4 v.ownBlock) (hloc : v.ownBlock = some g ∨ g = W.heap.size + 1) :
    w4.cell? ⟨b, 0, none⟩ = some v ∧ w4.frozen? ⟨b, 0, none⟩ = false ∧ Hid (Behind lo w (w4.setCell ⟨b, 0, none⟩ (.slice (some ⟨g, 0, none⟩) (n + 1) cap)) b g6 mb n g cap l cs ty x f) := by
  have hsz : (W.alloc (.cells #[.int .i64 x, .int .i64 f, .int .i64 0] 77)).drew.heap.size = W.heap.size + 1 := by simp
  have hblk : ∀ k, k < W.heap.size → some k ≠ v.ownBlock → w4.heap[k]? = W.heap[k]? := fun k hk hkv => (hgr.block k (by omega) hkv).trans (((Below.refl _ _).alloc (Nat.le_refl _) _).block k hk)
  have hb := h.hold.lt
  have hg6 := h.box.lt
  have hnb : some b ≠ v.ownBlock := fun e => (h.apart b e.symm).2.1 rfl
  have hn6 : some g6 ≠ v.ownBlock := fun e => (h.apart g6 e.symm).2.2 rfl
  have hnm : some mb ≠ v.ownBlock := fun e => by
    obtain ⟨cur, hcur⟩ := owns_cells h.row e.symm
    obtain ⟨es, c, hm⟩ := h.map.isMap
    rw [hm] at hcur; cases hcur
  have hH4 : Holds w4 b (v :: cs) ty := by unfold Holds; rw [hblk b hb hnb]; exact h.hold
  have hB4 : Holds w4 g6 [.int .i64 x, .int .i64 f, .int .i64 0] 77 := by unfold Holds; rw [hblk g6 hg6 hn6]; exact h.box
  have hmb : mb ≠ b := pl_ne h.hold h.map
  have hgb : lo ≤ g ∧ g ≠ b := by
    rcases hloc with e | e
    · exact ⟨(h.apart g e).1, (h.apart g e).2.1⟩
    · exact ⟨by have := h.low.1; omega, by omega⟩
  refine ⟨hH4.at 0 _ rfl, hH4.frozen 0, ⟨?_, ?_, ?_, ?_, ?_, hgb⟩⟩
  · refine h.below.trans ⟨hgr.os, hgr.tape, hgr.output, by have := hgr.size; simp; omega, fun k hk => ?_⟩
    have hkb : k ≠ b := by have := h.low.1; omega
    rw [heap_setCell_other _ _ _ _ hkb]
    exact hblk k (by have := h.low.1; omega) (fun e => by have := (h.apart k e.symm).1; omega)
  · exact hH4.set 0 _
  · exact hB4.setOther b 0 _ (fun e => h.low.2.2.2 e.symm)
  · exact h.map.same ((heap_setCell_other _ _ _ _ hmb).trans (hblk mb h.map.lt hnm))
  · exact owns_same hown fun k hk => heap_setCell_other _ _ _ _ (fun e => hgb.2 ((Option.some.inj hk).trans e))
theorem cnt_snoc {l : Ses} {x f : Int} (hl : l.length < 1000) (v mv : Value) (rest : List Value) :
    cnC v mv (wrap64 ((cntA l 0 : Int) + 1)) (wrap64 ((cntP l 0 : Int) + prI x f)) (cntA l 1) (cntP l 1) (cntA l 2) (cntP l 2) rest
      = cnC v mv (cntA (l ++ [(x, f, 0)]) 0) (cntP (l ++ [(x, f, 0)]) 0) (cntA (l ++ [(x, f, 0)]) 1) (cntP (l ++ [(x, f, 0)]) 1) (cntA (l ++ [(x, f, 0)]) 2) (cntP (l ++ [(x, f, 0)]) 2) rest := by
  have b0 := cntA_le l 0
  have c0 := cntP_le l 0
  rw [cntA_snoc, cntA_snoc, cntA_snoc, cntP_snoc, cntP_snoc, cntP_snoc]
  have e1 : wrap64 ((cntA l 0 : Int) + 1) = ((cntA l 0 + 1 : Nat) : Int) := wrap_add (n := cntA l 0) (d := 1) (by omega)
  have e2 : wrap64 ((cntP l 0 : Int) + prI x f) = ((cntP l 0 + (if (0 : Nat) = 0 ∧ x = f then 1 else 0) : Nat) : Int) := by
    unfold prI
    by_cases e : x = f
    · have := wrap_add (n := cntP l 0) (d := 1) (by omega)
      simpa [e] using this
    · have := wrap_add (n := cntP l 0) (d := 0) (by omega)
      simpa [e] using this
  rw [e1, e2]
  simp
theorem ask_end {lo : Nat} {rest : List Value} {ty : TypeId} {need prime : Int} {w W z6 w6 : World} {b g6 mb g cap : Nat} {l : Ses} {x f : Int} (hn : hasN l x = false) (h1 : lo ≤ b ∧ b < w.heap.size) (h3 : Once l) (hfew : l.length < 1000) {v0 : Value} (hBh : Behind lo w W b g6 mb l.length g cap l (tyC v0 (.map (some mb)) l need prime rest).tail ty x f) (hm : lo ≤ mb) (hz6 : Gr W z6)
    (hT6 : Turned b z6 w6 (overV (cnC (.slice (some ⟨g, 0, none⟩) (l.length + 1) cap) (.map (some mb)) (cntA l 0) (cntP l 0) (cntA l 1) (cntP l 1) (cntA l 2) (cntP l 2) (.int .i64 need :: .int .i64 prime :: rest)) 2 [.int .i64 (wrap64 ((cntA l 0 : Int) + 1)), .int .i64 (wrap64 ((cntP l 0 : Int) + prI x f))]) ty) :
    TyAt lo w6.heap.size rest ty need prime w6 b (l ++ [(x, f, 0)]) ∧ Below lo w w6 := by
  rw [over2, cnt_snoc hfew] at hT6
  have hP6 : PlAt z6 mb (l.map (·.1) ++ [x]) := hBh.map.gr hz6
  have hmb : mb ≠ b := pl_ne hBh.hold hBh.map
  have hPw : PlAt w6 mb (l.map (·.1) ++ [x]) := hP6.same (hT6.others mb hmb)
  have hgl : g < W.heap.size := owns_lt hBh.row rfl
  have hs6 := hz6.size
  have hs7 := hT6.size
  refine ⟨⟨⟨h1.1, hT6.holds.lt⟩, Nat.le_refl _, ?_, by simp; omega, .slice (some ⟨g, 0, none⟩) (l.length + 1) cap, mb, hT6.holds, ⟨hm, hPw.lt⟩, by simpa using hPw, ?_, fun k hk => ?_⟩, ?_⟩
  · have := h3.ask (x, f)
    unfold askS at this
    rwa [if_neg (by simp [hn])] at this
  · have e1 : (l ++ [(x, f, 0)]).length = l.length + 1 := by simp
    have e2 : sesF (l ++ [(x, f, 0)]) = sesF l ++ [.int .i64 x, .int .i64 f, .int .i64 0] := sesF_app _ _
    rw [e1, e2]
    refine owns_same hBh.row fun k hk => ?_
    obtain rfl : g = k := Option.some.inj hk
    exact (hT6.others g hBh.apart.2).trans (Below.block hz6 g hgl)
  · obtain rfl : g = k := Option.some.inj hk
    exact ⟨hBh.apart.1, by omega, hBh.apart.2⟩
  · have hbl := hBh.hold.lt
    exact hBh.below.trans ((Below.mono hz6 (by omega)).trans (hT6.below h1.1))
set_option maxRecDepth 100000 in
set_option maxHeartbeats 1000000 in
theorem ask_new {lo : Nat} {rest : List Value} {ty : TypeId} {need prime : Int} {w : World} {b : Nat} {l : Ses} (h : TyAt lo w.heap.size rest ty need prime w b l) (x f : Int) (hx : I64 x) (hfew : l.length < 1000) (hn : hasN l x = false) :
    Calls Tryz.prog 27 #[.pointer (some ⟨b, 0, none⟩), .agg #[.int .i64 x, .int .i64 f]] w fun e w' => e = .returned (.tuple #[]) ∧ TyAt lo w'.heap.size rest ty need prime w' b (l ++ [(x, f, 0)]) ∧ Below lo w w' := by
  have hN : Hid (TyAt lo w.heap.size rest ty need prime w b l) := h
  obtain ⟨h1, h2, h3, h4, v, mb, hH, hm, hP, hR, hv⟩ := h
  have hnin : x ∉ l.map (·.1) := fun q => by rw [hasN_iff.2 q] at hn; cases hn
  obtain ⟨av, cv, rfl⟩ := row_slice hR
  go_enter Tryz.func27, Tryz.ntmps27
  go_upto_region 1 with fail
  have g01 : Gr w (w.alloc (.cells #[.int .i64 x, .int .i64 f] 53)) := Gr.alloc _ _
  have hB1 : Holds (w.alloc (.cells #[.int .i64 x, .int .i64 f] 53)) w.heap.size [.int .i64 x, .int .i64 f] 53 := holds_new w _ 53
  generalize hg1 : w.heap.size = g1 at hB1 ⊢
  generalize w.alloc (.cells #[.int .i64 x, .int .i64 f] 53) = w1 at *
  refine r27_1 rfl b g1 mb x 0 false (fun y hy => (hH.below (g01.trans hy) hH.lt).at 1 _ rfl) (fun y hy => (hB1.below hy hB1.lt).at 0 _ rfl) (fun y hy => by
    have := (hP.gr (g01.trans hy)).look x hx
    rw [plI, if_neg hnin, decide_eq_false hnin] at this
    exact this) rfl rfl (fun z hz => ?_)
  simp only [putsL, List.foldl_cons, List.foldl_nil, put_lit, List.set_cons_succ, List.set_cons_zero]
  have d0 := (hB1.below hz hB1.lt).at 0 _ rfl
  have d1 := (hB1.below hz hB1.lt).at 1 _ rfl
  have gz : Gr w z := g01.trans hz
  have HB1 : Hid (Holds w1 g1 [.int .i64 x, .int .i64 f] 53) := hB1
  have HH : Hid (Holds w b (tyC (.slice av l.length cv) (.map (some mb)) l need prime rest) ty) := hH
  clear hB1 hH
  go_upto_region 4 with fail
  have g2 : Gr z (z.alloc (.cells #[.int .i64 x, .int .i64 f, .int .i64 0] 77)) := Gr.alloc _ _
  have hB6 : Holds (z.alloc (.cells #[.int .i64 x, .int .i64 f, .int .i64 0] 77)) z.heap.size [.int .i64 x, .int .i64 f, .int .i64 0] 77 := holds_new z _ 77
  have hzs := gz.size
  generalize hg6 : z.heap.size = g6 at hB6 ⊢
  generalize z.alloc (.cells #[.int .i64 x, .int .i64 f, .int .i64 0] 77) = w2 at *
  have g02 : Gr w w2 := gz.trans g2
  have hH := HH.out
  have hB1 := HB1.out
  clear d0 d1
  refine r27_4 rfl (fun y u => PlAt u mb (l.map (·.1) ++ [x]) ∧ Upd mb y u) b g1 mb l.length x av cv (fun y hy => (hH.below (g02.trans hy) hH.lt).at 1 _ rfl) (fun y hy => (hB1.below (hz.trans (g2.trans hy)) hB1.lt).at 0 _ rfl) (fun y hy => (hH.below (g02.trans hy) hH.lt).at 0 _ rfl) (fun y hy => by
    obtain ⟨u, u1, u2, u3⟩ := (hP.gr (g02.trans hy)).store (by rw [List.length_map]; unfold maxLen; omega) x hx hnin
    rw [List.length_map] at u1
    exact ⟨u, u1, u2, u3⟩) rfl rfl (fun z3 W hz3 ⟨hP3, hU3⟩ => ?_)
  have hmb : mb ≠ b := pl_ne hH hP
  have hg03 : Gr w z3 := g02.trans hz3
  have hm6 : mb ≠ g6 := fun e => by have := hP.lt; omega
  have hAh : Hid (Ahead lo w W b g6 mb l.length (.slice av l.length cv) l (tyC (.slice av l.length cv) (.map (some mb)) l need prime rest).tail ty x f) := by
    refine ⟨?_, ?_, ?_, hP3, ?_, fun g q => ?_, h1.1, hm.1, by omega, by omega⟩
    · exact (Below.mono hg03 (by omega)).trans (hU3.below hm.1 (by have := hg03.size; omega))
    · exact (hH.below hg03 hH.lt).upd hU3 (fun e => hmb e.symm)
    · exact (hB6.below hz3 hB6.lt).upd hU3 (fun e => hm6 e.symm)
    · refine owns_same hR fun g q => ?_
      have hgl := owns_lt hR q
      have hgm : g ≠ mb := fun e => by
        obtain ⟨cur, hcur⟩ := owns_cells hR q
        obtain ⟨es, c, hmm⟩ := hP.isMap
        rw [e, hmm] at hcur; cases hcur
      exact (hU3.block g (by have := hg03.size; omega) hgm).trans (Below.block hg03 g hgl)
    · have := hv g q
      exact ⟨this.1, this.2.2, by omega⟩
  simp only [putsL, List.foldl_cons, List.foldl_nil, put_lit, List.set_cons_succ, List.set_cons_zero]
  have HMB : Hid (lo ≤ mb) := hm.1
  clear hH hB1 hP hR hv hP3 hU3 hB6 hz3 hg03 g02 g2 hz gz g01 HH HB1 h2 hm hnin
  obtain ⟨i0, hi0, hz0, hsz0, hby0⟩ := info77x
  have HI0 : Hid (Tryz.prog.info? 77 = some i0) := hi0
  have a0 := hAh.out.hold.at 0 _ rfl
  have e0 := hAh.out.box.at 0 _ rfl
  have e1 := hAh.out.box.at 1 _ rfl
  have e2 := hAh.out.box.at 2 _ rfl
  have k0 := (hAh.out.hold.alloc (.cells #[.int .i64 x, .int .i64 f, .int .i64 0] 77)).at 0 _ rfl
  have HOW : Hid ((W.alloc (.cells #[.int .i64 x, .int .i64 f, .int .i64 0] 77)).drew.ownsRow 0 77 3 (.slice av l.length cv) l.length (sesF l)) := hAh.out.row.alloc _
  have HNC : Hid (∀ (j : Nat) (u : Value), ([.int .i64 x, .int .i64 f, .int .i64 0] : List Value)[j]? = some u → (W.alloc (.cells #[.int .i64 x, .int .i64 f, .int .i64 0] 77)).drew.cell? (Addr.add ⟨W.heap.size, 0, none⟩ j) = some u) := fun j u hu => World.news_of_block (heap_alloc_new W _) j u hu
  have hM : Hid (∀ g cap w4, w4.ownsRow 0 77 3 (.slice (some ⟨g, 0, none⟩) (l.length + 1) cap) (l.length + 1) (sesF l ++ [.int .i64 x, .int .i64 f, .int .i64 0]) → (W.alloc (.cells #[.int .i64 x, .int .i64 f, .int .i64 0] 77)).drew.grownBy w4 (Value.slice av l.length cv).ownBlock → ((Value.slice av l.length cv).ownBlock = some g ∨ g = W.heap.size + 1) → _) := fun g cap w4 q1 q2 q3 => ask_mem hAh.out q1 q2 q3
  have HFew : Hid (l.length < 1000) := hfew
  clear hi0
  go_upto_region 5 with fail
  go_region_law ((refine step_append_lies _ rfl _ _ 24 rfl 0 77 i0 z77 3 24 und24 HI0.out hz0 hsz0 hby0 rfl (by decide) (.slice av l.length cv) l.length (sesF l) rfl HOW.out ⟨W.heap.size, 0, none⟩ 1 1 [.int .i64 x, .int .i64 f, .int .i64 0] rfl rfl HNC.out (by intro v hv; simp at hv; rcases hv with rfl | rfl | rfl <;> rfl) (by decide) (by unfold maxLen; omega) (by omega) (Nat.zero_le _) (W.heap.size + 1) (by simp) ?_; intro g4 cap4 w4 own4 grow4 loc4 lt4; obtain ⟨x0, x1, x2⟩ := hM.out g4 cap4 w4 own4 grow4 loc4; clear own4 grow4 loc4 lt4))
  all_goals
    have hBh := x2.out
    clear x2 x1 x0 hM HOW HNC
    generalize w4.setCell ⟨b, 0, none⟩ (.slice (some ⟨g4, 0, none⟩) (l.length + 1) cap4) = W5 at hBh ⊢
    go_upto_region 6 with fail
    refine r27_6 rfl b g6 _ _ _ _ _ _ _ _ _ ty hBh.hold x f 0 (gs_range hBh.box rfl rfl rfl) rfl rfl (fun z6 w6 hz6 hT6 => ?_)
    refine bodyPost_end (results_none (by kernel_rfl) _ _ _) rfl ⟨rfl, ask_end hn h1 h3 HFew.out hBh HMB.out hz6 hT6⟩
end Go.Proofs.YtmhpfncbbboamaaGreat
