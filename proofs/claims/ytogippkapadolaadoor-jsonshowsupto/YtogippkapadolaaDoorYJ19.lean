/- JsMake, JsTexts. -/
import Derived.Test.YtogippkapadolaaDoorYJ18
import Derived.Test.YtogippkapadolaaDoorYJ16
/- Object of the program, walked (by gen_jsmakeb.py). -/
namespace Go.Proofs.YtogippkapadolaaDoor
open Go.RowKit

theorem keepL_gr {w x y : World} {bv M : Nat} (h : Gr w x) (k : KeepL [bv] M x y) (h1 : w.heap.size ≤ bv) (h2 : w.heap.size ≤ M) : Gr w y :=
  ⟨k.os.trans h.os, k.tape.trans h.tape, k.output.trans h.output, Nat.le_trans h.size k.size, fun i hi => (k.block i (Nat.lt_of_lt_of_le hi h.size) (by omega) (by simp; omega)).trans (h.block i hi)⟩
theorem upd_gr {w x y : World} {b : Nat} (h : Gr w x) (k : Upd b x y) (h1 : w.heap.size ≤ b) : Gr w y :=
  ⟨k.os.trans h.os, k.tape.trans h.tape, k.output.trans h.output, Nat.le_trans h.size k.size, fun i hi => (k.block i (Nat.lt_of_lt_of_le hi h.size) (by omega)).trans (h.block i hi)⟩
theorem und25' : Tryd.prog.underlying 25 = some (.slice 9) := und25
set_option maxHeartbeats 8000000 in
set_option maxRecDepth 100000 in
theorem make_any {w0 : World} {S : Nat → Prop} {ls : List J} {la : Option Addr} {lc : Nat} {es : List (List Value)} (hes : es.length = ls.length) (h6' : ∀ c ∈ es, c.length = 6) (hl : ∀ (i : Nat) (x : J) (c : List Value), ls[i]? = some x → es[i]? = some c → JAt w0 S x (.agg c.toArray)) (hlies : Lies w0 S la es.flatten)
    (hL : ls.length * 88 ≤ 140737488355328) (hC : ∀ x ∈ ls, FitC x) (hS : ∀ x ∈ ls, x.str.length ≤ maxLen) {w : World} (hw : Gr w0 w) :
    Calls Tryd.prog 10 #[.slice la ls.length lc] w fun e w' => ∃ u, e = .returned u ∧ Gr w w' ∧ JAt w' (fun k => w.heap.size ≤ k) (makeJ ls) u := by
  obtain ⟨n, hn⟩ : ∃ n, ls.length = n := ⟨_, rfl⟩
  obtain ⟨RR, hRR⟩ : ∃ R, makeF ls [] [] = R := ⟨_, rfl⟩
  have hmm : ∀ w : World, (Instr.makeMap 53 none).run Tryd.prog w = .ok (.map (some w.heap.size)) (w.alloc (.map #[] 0)) := by intro w; kernel_rfl
  have hn64 : (n : Int) ≤ 1599289640401 := by omega
  obtain ⟨w1, hw1e⟩ : ∃ w1, (w.alloc (.cells zeroJ.toArray 27)).alloc (.cells (boxV 5 (.slice none 0 0) (.slice none 0 0)).toArray 27) = w1 := ⟨_, rfl⟩
  have hg1 : Gr w w1 := hw1e ▸ (Gr.alloc _ _).trans (Gr.alloc _ _)
  have hs1 : w1.heap.size = w.heap.size + 2 := by rw [← hw1e]; simp
  have hz1 : Holds w1 w.heap.size zeroJ 27 := by rw [← hw1e]; exact (holds_new w zeroJ 27).alloc _
  have hbx : Holds w1 (w.heap.size + 1) (boxV 5 (.slice none 0 0) (.slice none 0 0)) 27 := by
    have := holds_new (w.alloc (.cells zeroJ.toArray 27)) (boxV 5 (.slice none 0 0) (.slice none 0 0)) 27
    rw [hw1e] at this
    simpa using this
  have hm1 := nms_made w1
  rw [hs1] at hm1
  have hgm := Gr.alloc w1 (.map #[] 0)
  have hs2 : (w1.alloc (.map #[] 0)).heap.size = w.heap.size + 3 := by simp [hs1]
  subst hw1e
  unfold makeJ
  rw [hRR, hn]
  go_enter Tryd.func10, Tryd.ntmps10
  go_wp2_with fail
  go_loopw [5] (fun c wr => ∃ (i : Nat) (ejs : List J) (names tk : List (List UInt8)) (u nv : Value) (ess : List (List Value)), c = .int .i64 (i : Int) ∧ i ≤ n + 1 ∧ makeF (ls.drop i) names ejs = RR ∧ VIn (w.heap.size + 3) (w.heap.size + 1) 5 ejs names wr u nv ess ∧ NmsAt wr (w.heap.size + 2) tk ∧ (∀ s, s ∈ tk ↔ s ∈ names) ∧ tk.length ≤ i ∧ names.length ≤ i ∧ ejs.length ≤ i ∧ Holds wr w.heap.size zeroJ 27 ∧ Gr w wr ∧ w.heap.size + 3 ≤ wr.heap.size) (fun c _ => n + 1 - (intOf c).toNat)
  case atStart =>
    refine ⟨0, [], [], [], .slice none 0 0, .slice none 0 0, [], rfl, by omega, by rw [List.drop_zero]; exact hRR, ⟨hbx.gr hgm, World.ownsRow_nil _ _ _ _, World.ownsRow_nil _ _ _ _, (fun k h => by cases h), rfl, (fun c h => nomatch h), fun i x c h => by simp at h⟩, hm1, fun s => Iff.rfl, Nat.le_refl _, Nat.le_refl _, Nat.le_refl _, hz1.gr hgm, hg1.trans hgm, Nat.le_of_eq hs2.symm⟩
  case round =>
    obtain ⟨i, ejs, names, tk, u, nv, ess, rfl, hi, hR, hV, hm, htk, ht1, ht2, ht3, hz, hgw, hsr⟩ := hrel
    clear hz1 hbx hm1 hRR hs1 hg1 hgm hs2
    rcases Nat.lt_or_ge (i + 1) n with hlt | hge
    · have hx : ls[i]? = some ls[i] := List.getElem?_eq_getElem (by omega)
      have hy : ls[i + 1]? = some ls[i + 1] := List.getElem?_eq_getElem (by omega)
      have hce : es[i]? = some (es[i]'(by omega)) := List.getElem?_eq_getElem (by omega)
      have hde : es[i + 1]? = some (es[i + 1]'(by omega)) := List.getElem?_eq_getElem (by omega)
      have d6 := h6' _ (List.mem_of_getElem? hde)
      have hJx := hl i _ _ hx hce
      have hcp := copied_ok (hl (i + 1) _ _ hy hde) (hC _ (List.mem_of_getElem? hy))
      have hSx := hS _ (List.mem_of_getElem? hx)
      obtain ⟨g, off, rfl, hgS, hrng⟩ := hlies.elemG (hw.trans hgw) h6' hce
      have hrd : ∀ z, Gr w z → z.rangeAt g (off + (i + 1) * 6) (es[i + 1]'(by omega)) := by
        intro z hz'
        obtain ⟨g', off', e1, _, e3⟩ := hlies.elemG (hw.trans hz') h6' hde
        cases e1
        exact e3
      have hix : ∀ w, (Instr.indexAt 24 (.slice (some ⟨g, off, none⟩) n lc) (.int .i64 (i : Int))).run Tryd.prog w = .ok (.pointer (some ⟨g, off + i * 6, none⟩)) w := ix_slice und24 size27 (by omega) rfl
      have g1 : (i : Int) + 1 < (n : Int) := by omega
      have hw1 : IntKind.i64.wrap ((i : Int) + 1) = (i : Int) + 1 := wrap_in (by omega) (by omega)
      have hw2 : IntKind.i64.wrap ((i : Int) + 2) = ((i + 2 : Nat) : Int) := by rw [wrap_in (by omega) (by omega)]; omega
      have hgN : g < w.heap.size := Nat.lt_of_lt_of_le hgS hw.size
      rw [make_next (by omega)] at hR
      generalize hxx : ls[i] = x at *
      generalize hyy : ls[i + 1] = y at *
      generalize es[i]'(by omega) = c at *
      generalize es[i + 1]'(by omega) = d at *
      obtain ⟨k, b, m, s, xl, xn⟩ := x
      obtain ⟨lx, nx, cx, kx, ex, rfl, _⟩ := jat_at hJx
      have hR : (if k = 3 then (if s ∈ names then makeF (ls.drop (i + 2)) names ejs else makeF (ls.drop (i + 2)) (names ++ [s]) (ejs ++ [y])) else makeF (ls.drop (i + 2)) names ejs) = RR := hR
      have hSx : s.length ≤ maxLen := hSx
      clear hes h6' hl hlies hC hS hx hy hce hde hJx hxx hyy
      by_cases hk : k = 3
      case neg =>
        have gk : (k == 3) = false := by simp [hk]
        rw [if_neg hk] at hR
        clear hk hrd hcp hSx
        go_wp2_with (first
          | (refine wpList_load_part rfl 27 (.tmp 18) rfl g (off + i * 6) rfl (jsonV k b m s lx nx xl.length cx xn.length kx) _ hrng Tryd.underlying27 rfl (by kernel_rfl) ?_)
          | (refine wpList_store_all rfl 27 (.tmp 6) (.tmp 19) rfl wr.heap.size rfl (jsonV k b m s lx nx xl.length cx xn.length kx) rfl 27 zeroJ (holds_new wr zeroJ 27) (by kernel_rfl) rfl (one_jsonV _ _ _ _ _ _ _ _ _ _) ?_; intro w2 hT2; have hg2 := gr_new hT2; have z0 : w2.cell? ⟨wr.heap.size, 0, none⟩ = some (.int .i64 k) := Holds.at hT2.holds 0 _ rfl; have z3 : w2.cell? ⟨wr.heap.size, 3, none⟩ = some (.string (strL s)) := Holds.at hT2.holds 3 _ rfl; have hm2 : NmsAt w2 (w.heap.size + 2) tk := hm.same (hg2.block _ hm.lt); have hV2 : VIn (w.heap.size + 3) (w.heap.size + 1) 5 ejs names w2 u nv ess := hV.same (hg2.block _ hV.box.lt) fun k _ h => hg2.block k h; have hz2 : Holds w2 w.heap.size zeroJ 27 := hz.gr hg2))
        exact ⟨⟨i + 2, ejs, names, tk, u, nv, ess, rfl, by omega, hR, hV2, hm2, htk, by omega, by omega, by omega, hz2, hgw.trans hg2, Nat.le_trans hsr hg2.size⟩, by simp; omega⟩
      subst hk
      rw [if_pos rfl] at hR
      by_cases hin : s ∈ names
      · rw [if_pos hin] at hR
        have htc : ∀ y, NmsAt y (w.heap.size + 2) tk → Calls Tryd.prog 23 #[.map (some (w.heap.size + 2)), .string (strL s)] y fun e z => e = .returned (.bool false) ∧ NmsAt z (w.heap.size + 2) (tk ++ [s]) ∧ Upd (w.heap.size + 2) y z := fun y hy => by
          have := take_any (s := s) hy (by unfold maxLen; omega) hSx
          rwa [show (!decide (s ∈ tk)) = false by simp [(htk s).2 hin]] at this
        have htk' : ∀ q, q ∈ tk ++ [s] ↔ q ∈ names := by
          intro q
          rw [List.mem_append, htk]
          constructor
          · rintro (h | h)
            · exact h
            · have : q = s := by simpa using h
              rw [this]; exact hin
          · exact fun h => .inl h
        clear hrd hcp hin
        go_wp2_with (first
          | (refine wpList_load_part rfl 27 (.tmp 18) rfl g (off + i * 6) rfl (jsonV 3 b m s lx nx xl.length cx xn.length kx) _ hrng Tryd.underlying27 rfl (by kernel_rfl) ?_)
          | (refine wpList_store_all rfl 27 (.tmp 6) (.tmp 19) rfl wr.heap.size rfl (jsonV 3 b m s lx nx xl.length cx xn.length kx) rfl 27 zeroJ (holds_new wr zeroJ 27) (by kernel_rfl) rfl (one_jsonV _ _ _ _ _ _ _ _ _ _) ?_; intro w2 hT2; have hg2 := gr_new hT2; have z0 : w2.cell? ⟨wr.heap.size, 0, none⟩ = some (.int .i64 3) := Holds.at hT2.holds 0 _ rfl; have z3 : w2.cell? ⟨wr.heap.size, 3, none⟩ = some (.string (strL s)) := Holds.at hT2.holds 3 _ rfl; have hm2 : NmsAt w2 (w.heap.size + 2) tk := hm.same (hg2.block _ hm.lt); have hV2 : VIn (w.heap.size + 3) (w.heap.size + 1) 5 ejs names w2 u nv ess := hV.same (hg2.block _ hV.box.lt) fun k _ h => hg2.block k h; have hz2 : Holds w2 w.heap.size zeroJ 27 := hz.gr hg2)
          | (go_at_call 23; refine (htc w2 hm2).mono ?_; rintro e w3 ⟨rfl, hm3, hu3⟩; have hV3 := hV2.upd hu3 (by omega) (by omega); have hz3 := hz2.upd hu3 (by omega)))
        exact ⟨⟨i + 2, ejs, names, tk ++ [s], u, nv, ess, rfl, by omega, hR, hV3, hm3, htk', by simp; omega, by omega, by omega, hz3, upd_gr (hgw.trans hg2) hu3 (by omega), Nat.le_trans hsr (Nat.le_trans hg2.size hu3.size)⟩, by simp; omega⟩
      · rw [if_neg hin] at hR
        have htc : ∀ y, NmsAt y (w.heap.size + 2) tk → Calls Tryd.prog 23 #[.map (some (w.heap.size + 2)), .string (strL s)] y fun e z => e = .returned (.bool true) ∧ NmsAt z (w.heap.size + 2) (tk ++ [s]) ∧ Upd (w.heap.size + 2) y z := fun y hy => by
          have := take_any (s := s) hy (by unfold maxLen; omega) hSx
          rwa [show (!decide (s ∈ tk)) = true by simp [htk s, hin]] at this
        have htk' : ∀ q, q ∈ tk ++ [s] ↔ q ∈ names ++ [s] := by
          intro q
          rw [List.mem_append, List.mem_append, htk]
        obtain ⟨i9, j1, j2, j3, j4⟩ := inf9
        have hmx : names.length + 1 ≤ maxLen := by unfold maxLen; omega
        have hby : (names.length + 1) * 16 ≤ 140737488355328 := by omega
        have h16 : ([strV1 s] : List Value).length = 1 * 1 := rfl
        clear hin
        go_wp2_with (first
          | (refine wpList_load_part rfl 27 (.tmp 18) rfl g (off + i * 6) rfl (jsonV 3 b m s lx nx xl.length cx xn.length kx) _ hrng Tryd.underlying27 rfl (by kernel_rfl) ?_)
          | (refine wpList_store_all rfl 27 (.tmp 6) (.tmp 19) rfl wr.heap.size rfl (jsonV 3 b m s lx nx xl.length cx xn.length kx) rfl 27 zeroJ (holds_new wr zeroJ 27) (by kernel_rfl) rfl (one_jsonV _ _ _ _ _ _ _ _ _ _) ?_; intro w2 hT2; have hg2 := gr_new hT2; have z0 : w2.cell? ⟨wr.heap.size, 0, none⟩ = some (.int .i64 3) := Holds.at hT2.holds 0 _ rfl; have z3 : w2.cell? ⟨wr.heap.size, 3, none⟩ = some (.string (strL s)) := Holds.at hT2.holds 3 _ rfl; have hm2 : NmsAt w2 (w.heap.size + 2) tk := hm.same (hg2.block _ hm.lt); have hV2 : VIn (w.heap.size + 3) (w.heap.size + 1) 5 ejs names w2 u nv ess := hV.same (hg2.block _ hV.box.lt) fun k _ h => hg2.block k h; have hz2 : Holds w2 w.heap.size zeroJ 27 := hz.gr hg2)
          | (go_at_call 23; refine (htc w2 hm2).mono ?_; rintro e w3 ⟨rfl, hm3, hu3⟩; have hV3 := hV2.upd hu3 (by omega) (by omega); have hz3 := hz2.upd hu3 (by omega); have q3 : w3.cell? ⟨wr.heap.size, 3, none⟩ = some (.string (strL s)) := (Holds.upd hT2.holds hu3 (by omega)).at 3 _ rfl; have q5 : w3.cell? ⟨w.heap.size + 1, 5, none⟩ = some nv := hV3.box.at 5 _ rfl; have hga := Gr.alloc w3 (.cells #[.string (strL s)] 9); have hnw := heap_alloc_new w3 (.cells #[.string (strL s)] 9))
          | (at_builtin; refine wpList_append_lies _ rfl (.tmp 30) (.tmp 33) 25 rfl (w.heap.size + 3) 9 i9 (.string ⟨#[]⟩) 1 16 und25' j1 j2 j3 j4 rfl (by omega) nv names.length (names.map strV1) rfl (owns_gr hV3.nown hga) ⟨w3.heap.size, 0, none⟩ 1 1 [strV1 s] rfl h16 (World.news_of_block hnw) (by intro x hx; simp at hx; subst hx; rfl) (by omega) hmx hby (by have := hu3.size; have := hg2.size; simp; omega) _ rfl ?_; intro g4 cap4 w4 hown4 hgr4 hat4 hlt4; have hb4 : Holds w4 (w.heap.size + 1) (boxV 5 u nv) 27 := (hgr4.block _ (by have := hV3.box.lt; simp; omega) (fun e => by have := own_base hV3.nown _ e.symm; omega)).trans (hV3.box.gr hga))
          | (refine wpl_store_cell rfl 25 (.tmp 35) (.tmp 34) rfl (w.heap.size + 1) 5 rfl (.slice (some ⟨g4, 0, none⟩) (names.length + 1) cap4) rfl rfl rfl (by intro w; kernel_rfl) (boxV 5 u nv) 27 hb4 (by simp [boxV]) ?_; intro w5 hT5))
        have hsg := hg2.size
        have hs3 := hu3.size
        have hs4 := hga.size
        have hVa : VIn (w.heap.size + 3) (w.heap.size + 1) 5 ejs names (w3.alloc (.cells #[.string (strL s)] 9)) u nv ess := hV3.same (hga.block _ hV3.box.lt) fun k _ h => hga.block k h
        obtain ⟨hV5, hK5⟩ := vin_name hVa hgr4 hT5 (by omega) hown4 hat4
        have hg3 : Gr w w3 := upd_gr (hgw.trans hg2) hu3 (by omega)
        have hg5 : Gr w w5 := keepL_gr (hg3.trans hga) hK5 (by omega) (by omega)
        have hz5 : Holds w5 w.heap.size zeroJ 27 := (hK5.block _ (by omega) (by omega) (by simp)).trans (hz3.gr hga)
        have hm5 : NmsAt w5 (w.heap.size + 2) (tk ++ [s]) := (hm3.same (hga.block _ hm3.lt)).same (hK5.block _ (by omega) (by omega) (by simp))
        rw [show ∀ (a : Act) (v : Value), a.put none v = a from fun _ _ => rfl]
        refine r10_9 rfl hV5 (by have := hK5.size; omega) (by omega) (by omega) (by omega) (by omega) (hrd w5 hg5) (by have := hg5.size; omega) d6 (fun z hz' => (hcp z (hw.trans (hg5.trans hz'))).mono (fun e q ⟨u', e1, e2, e3⟩ => ⟨u', e1, e2, e3.mono fun k h1 _ => ⟨Nat.le_trans hz'.size h1, rfl⟩⟩)) rfl rfl rfl fun ac wz g' cap' d' hA hV6 hK6 => ?_
        rename_i hK
        refine hK _ _ ?_
        have hg6 : Gr w wz := keepL_gr hg5 hK6 (by omega) (by omega)
        have hz6 : Holds wz w.heap.size zeroJ 27 := (hK6.block _ hz5.lt (by omega) (by simp)).trans hz5
        have hm6 : NmsAt wz (w.heap.size + 2) (tk ++ [s]) := hm5.same (hK6.block _ hm5.lt (by omega) (by simp))
        have hs6 : w.heap.size + 3 ≤ wz.heap.size := by have := hK5.size; have := hK6.size; omega
        have e : ac = ⟨(ac.eval (.tmp 0) :: ac.eval (.tmp 1) :: ac.eval (.tmp 2) :: ac.eval (.tmp 3) :: ac.eval (.tmp 4) :: ac.eval (.tmp 5) :: ac.eval (.tmp 6) :: ac.eval (.tmp 7) :: ac.eval (.tmp 8) :: ac.eval (.tmp 9) :: ac.eval (.tmp 10) :: ac.eval (.tmp 11) :: ac.eval (.tmp 12) :: ac.eval (.tmp 13) :: ac.eval (.tmp 14) :: ac.eval (.tmp 15) :: ac.eval (.tmp 16) :: ac.eval (.tmp 17) :: ac.eval (.tmp 18) :: ac.eval (.tmp 19) :: ac.eval (.tmp 20) :: ac.eval (.tmp 21) :: ac.eval (.tmp 22) :: ac.eval (.tmp 23) :: ac.eval (.tmp 24) :: ac.eval (.tmp 25) :: ac.eval (.tmp 26) :: ac.eval (.tmp 27) :: ac.eval (.tmp 28) :: ac.eval (.tmp 29) :: ac.eval (.tmp 30) :: ac.eval (.tmp 31) :: ac.eval (.tmp 32) :: ac.eval (.tmp 33) :: ac.eval (.tmp 34) :: ac.eval (.tmp 35) :: ac.eval (.tmp 36) :: ac.eval (.tmp 37) :: ac.eval (.tmp 38) :: ac.eval (.tmp 39) :: ac.eval (.tmp 40) :: ac.eval (.tmp 41) :: ac.eval (.tmp 42) :: ac.eval (.tmp 43) :: ac.eval (.tmp 44) :: ac.eval (.tmp 45) :: ac.eval (.tmp 46) :: ac.eval (.tmp 47) :: ([] : List Value)).toArray, ac.defers⟩ := (act_lit2 (hA.size.trans rfl)).trans rfl
        rw [hA.defers, (hA.old 0 (by decide)).trans rfl, (hA.old 1 (by decide)).trans rfl, (hA.old 2 (by decide)).trans rfl, (hA.old 3 (by decide)).trans rfl, (hA.old 4 (by decide)).trans rfl, (hA.old 5 (by decide)).trans rfl, (hA.old 6 (by decide)).trans rfl, (hA.old 7 (by decide)).trans rfl, (hA.old 8 (by decide)).trans rfl, (hA.old 9 (by decide)).trans rfl, (hA.old 10 (by decide)).trans rfl, (hA.old 11 (by decide)).trans rfl, (hA.old 12 (by decide)).trans rfl, (hA.old 13 (by decide)).trans rfl, (hA.old 14 (by decide)).trans rfl, (hA.old 15 (by decide)).trans rfl, (hA.old 16 (by decide)).trans rfl, (hA.old 17 (by decide)).trans rfl, (hA.old 18 (by decide)).trans rfl, (hA.old 19 (by decide)).trans rfl, (hA.old 20 (by decide)).trans rfl, (hA.old 21 (by decide)).trans rfl, (hA.old 22 (by decide)).trans rfl, (hA.old 23 (by decide)).trans rfl, (hA.old 24 (by decide)).trans rfl, (hA.old 25 (by decide)).trans rfl, (hA.old 26 (by decide)).trans rfl, (hA.old 27 (by decide)).trans rfl, (hA.old 28 (by decide)).trans rfl, (hA.old 29 (by decide)).trans rfl, (hA.old 30 (by decide)).trans rfl, (hA.old 31 (by decide)).trans rfl, (hA.old 32 (by decide)).trans rfl, (hA.old 33 (by decide)).trans rfl, (hA.old 34 (by decide)).trans rfl, (hA.old 35 (by decide)).trans rfl, (hA.old 47 (by decide)).trans rfl] at e
        generalize ac.eval (.tmp 36) = x36 at e
        generalize ac.eval (.tmp 37) = x37 at e
        generalize ac.eval (.tmp 38) = x38 at e
        generalize ac.eval (.tmp 39) = x39 at e
        generalize ac.eval (.tmp 40) = x40 at e
        generalize ac.eval (.tmp 41) = x41 at e
        generalize ac.eval (.tmp 42) = x42 at e
        generalize ac.eval (.tmp 43) = x43 at e
        generalize ac.eval (.tmp 44) = x44 at e
        generalize ac.eval (.tmp 45) = x45 at e
        generalize ac.eval (.tmp 46) = x46 at e
        subst e
        clear hrd hcp hmm j1 j2 j3 j4 hmx hby h16
        go_wp2
        exact ⟨⟨i + 2, ejs ++ [y], names ++ [s], tk ++ [s], _, _, ess ++ [d'], rfl, by omega, hR, hV6, hm6, htk', by simp; omega, by simp; omega, by simp; omega, hz6, hg6, hs6⟩, by simp; omega⟩
    · rw [make_end (by omega)] at hR
      subst hR
      obtain ⟨ua, uc, rfl⟩ := own_grown hV.own
      obtain ⟨va, vc, rfl⟩ := own_grown hV.nown
      have g1 : ¬ (i : Int) + 1 < (n : Int) := by omega
      have hw1 : IntKind.i64.wrap ((i : Int) + 1) = (i : Int) + 1 := wrap_in (by omega) (by omega)
      have hb := hV.box
      have h1c : ∀ x ∈ boxV 5 (.slice ua ejs.length uc) (.slice va names.length vc), x.oneCell' = true := by
        intro x hx
        simp only [boxV, List.mem_cons, List.not_mem_nil, or_false] at hx
        rcases hx with rfl | rfl | rfl | rfl | rfl | rfl <;> rfl
      clear hmm hes h6' hl hlies hC hS
      go_wp2_with (first
        | (refine wpList_load_part rfl 27 (.tmp 3) rfl (w.heap.size + 1) 0 rfl (boxV 5 (.slice ua ejs.length uc) (.slice va names.length vc)) _ (range_of hb) Tryd.underlying27 rfl (by kernel_rfl) ?_)
        | (refine wpList_store_all rfl 27 (.tmp 2) (.tmp 47) rfl w.heap.size rfl (boxV 5 (.slice ua ejs.length uc) (.slice va names.length vc)) rfl 27 zeroJ hz (by kernel_rfl) rfl h1c ?_; intro w5 hT5))
      refine bodyPost_ret (results_cell_row (p := 2) (by kernel_rfl) _ w5 w.heap.size 27 (boxV 5 (.slice ua ejs.length uc) (.slice va names.length vc)).toArray (0, 0) _ rfl hT5.holds Tryd.underlying27 rfl (by kernel_rfl)) rfl ?_
      refine ⟨_, rfl, gr_turned hgw hT5 (Nat.le_refl _), ?_⟩
      exact .mk 5 false 0 [] ejs names ua va uc vc ess hV.len hV.six (fun q x c h1 h2 => (hV.each q x c h1 h2).mono fun k h3 h4 => ⟨by omega, hT5.others k (by omega)⟩) ((own_lies hV.own).mono fun k h3 h4 => ⟨by omega, hT5.others k (by omega)⟩) ((own_lies hV.nown).mono fun k h3 h4 => ⟨by omega, hT5.others k (by omega)⟩)
end Go.Proofs.YtogippkapadolaaDoor

/- JsonTexts, walked (by gen_jstexts.py). -/
namespace Go.Proofs.YtogippkapadolaaDoor
open Go.RowKit

/-- The two values handed to Object, in a row of their own. -/
def twoV (s : List UInt8) (n : Int) : List Value := jsonV 3 false 0 s none none 0 0 0 0 ++ jsonV 2 false n [] none none 0 0 0 0
theorem two_make {w : World} {s : List UInt8} {n : Int} (hs : s.length ≤ 2000) : Calls Tryd.prog 10 #[.slice (some ⟨w.heap.size, 0, none⟩) 2 2] (w.alloc (.cells (twoV s n).toArray 27)) fun e w' => ∃ cs : List Value, e = .returned (.agg cs.toArray) ∧ cs.length = 6 ∧ (∀ x ∈ cs, x.oneCell' = true) ∧ Gr w w' ∧ JAt w' (fun k => w.heap.size ≤ k) (tJ s n) (.agg cs.toArray) := by
  have hl := lies_new w (twoV s n) 27
  have hm := make_any (w0 := w.alloc (.cells (twoV s n).toArray 27)) (S := fun _ => True) (ls := [.mk 3 false 0 s [] [], .mk 2 false n [] [] []]) (la := some ⟨w.heap.size, 0, none⟩) (lc := 2)
    (es := [jsonV 3 false 0 s none none 0 0 0 0, jsonV 2 false n [] none none 0 0 0 0]) rfl (by intro c hc; simp at hc; rcases hc with rfl | rfl <;> rfl)
    (by
      intro i x c hx hc
      match i with
      | 0 => simp at hx hc; subst hx hc; exact (leaf_jat _ _ 3 false 0 s).mono fun k hk _ => ⟨hk, rfl⟩
      | 1 => simp at hx hc; subst hx hc; exact (leaf_jat _ _ 2 false n []).mono fun k hk _ => ⟨hk, rfl⟩
      | i + 2 => simp at hx)
    (by simpa [twoV] using hl) (by show 2 * 88 ≤ _; decide)
    (by intro x hx; simp at hx; rcases hx with rfl | rfl <;> exact .mk (by decide) (by decide) (by intro x hx; simp at hx))
    (by intro x hx; simp at hx; rcases hx with rfl | rfl <;> (unfold J.str maxLen; simp; try omega)) (Gr.refl _)
  refine hm.mono ?_
  rintro e w' ⟨u, rfl, hg, hJ⟩
  rw [make_t] at hJ
  obtain ⟨cs, rfl, h6, h1⟩ := jat_cells hJ
  refine ⟨cs, rfl, h6, h1, (Gr.alloc _ _).trans hg, hJ.mono fun k h1 h2 => ⟨?_, rfl⟩⟩
  have : w.heap.size ≤ (w.alloc (.cells (twoV s n).toArray 27)).heap.size := by simp
  omega
theorem cut_2000 {S : ByteArray} (h : 2000 < S.size) : ∀ w, (Instr.slice 9 (.string S) none (some (.int .i64 2000)) none).run Tryd.prog w = .ok (.string (strL (S.data.toList.take 2000))) w := fun w => by
  have := cut_str (s := S) (p := 0) (q := 2000) (by omega) (by omega) w
  exact this
theorem loop_t {s : List UInt8} {n : Int} {i : Nat} (hi : i < (showJ (tJ s n)).length) : (∀ w, (Instr.index 9 (.string (strL (showJ (tJ s n)))) (.int .i64 (i : Int))).run Tryd.prog w = .ok (.int .u8 (((showJ (tJ s n))[i]).toNat : Int)) w) ∧ ¬ (((showJ (tJ s n))[i]).toNat : Int) < 32 ∧ ¬ (((showJ (tJ s n))[i]).toNat : Int) > 126 := by
  have hp := plain_t s n _ (List.getElem_mem hi)
  exact ⟨ix_str (wd := strL (showJ (tJ s n))) hi, by omega, by omega⟩
theorem said_t (s : List UInt8) (n : Int) : saidJ (tJ s n) = .tuple #[.string (strL (showJ (tJ s n))), .int .i64 0] := by
  unfold saidJ
  rw [right_t, if_pos rfl]
theorem var_t {w : World} {N : Nat} {s : List UInt8} {n : Int} {cs : List Value} (h : Var w N cs (tJ s n)) : ∃ la lc g o nc, cs = jsonV 5 false 0 [] la (some ⟨g, o, none⟩) 1 lc 1 nc ∧ w.cell? ⟨g, o, none⟩ = some (.string (strL s)) := by
  obtain ⟨la, na, lc, nc, es, rfl, _, _, _, _, hn⟩ := jat_at h.says
  rcases hn with h0 | ⟨g, o, rfl, _, hgl, hr⟩
  · simp at h0
  · exact ⟨la, lc, g, o, nc, rfl, by have := hr 0 _ rfl; simpa [strV1] using this⟩
set_option maxHeartbeats 8000000 in
set_option maxRecDepth 100000 in
theorem texts_law {w : World} (hB : Base w) {S : ByteArray} {n : Int} (hS : S.size ≤ maxLen) (h1 : -9223372036854775808 ≤ n) (h2 : n ≤ 9223372036854775807) :
    Calls Tryd.prog 4 #[.string S, .int .i64 n] w fun e w' => e = .returned (.bool true) ∧ Gr w w' := by
  have haw := awake_any hB
  unfold maxLen at hS
  by_cases hz : 2000 < S.size
  · have hcut := cut_2000 hz
    have hl : (S.data.toList.take 2000).length ≤ 2000 := by simp; omega
    generalize S.data.toList.take 2000 = s at *
    have gz : (S.size : Int) > 2000 := by omega
    have TWO := fun w => two_make (w := w) (n := n) hl
    go_enter Tryd.func4, Tryd.ntmps4
    go_wp2_with (first
      | (go_at_call 8; refine haw.mono ?_; rintro e w1 ⟨rfl, hg1⟩; clear haw)
      | (go_at_call 10; refine (TWO w1).mono ?_; rintro e w2 ⟨c2, rfl, c26, c21, hg2', hJ2⟩; have hg2 := hg1.trans hg2'; clear TWO)
      | (refine wpList_store_all rfl 27 (.tmp 6) (.tmp 26) rfl w2.heap.size rfl c2 rfl 27 zeroJ (holds_new w2 zeroJ 27) (by rw [c26]; kernel_rfl) c26.symm c21 ?_; intro w3 hT3; have hg3 := hg2.trans (gr_new hT3); have v3 := Var.new hJ2 c26 hT3; clear hJ2)
      | (refine wpList_load_part rfl 27 (.tmp 6) rfl w2.heap.size 0 rfl c2 _ (range_of (Var.holds (by assumption))) Tryd.underlying27 rfl (by rw [c26]; kernel_rfl) ?_)
      | (go_at_call 11; refine (show_any v3.says (fun i h => h.1) (fits_t hl) (fun _ => ⟨fit_t h1 h2, by have := len_t hl h1 h2; omega⟩) (hB.gr hg3).tab).mono ?_; rw [said_t]; rintro e w4 ⟨rfl, hg4'⟩; have hg4 := hg3.trans hg4'; have v4 := v3.gr hg4'; clear v3))
    have hln := len_t hl h1 h2
    have hlp := fun i hi => loop_t (s := s) (n := n) (i := i) hi
    have hwh := whole_t (s := s) h1 h2
    have hsz : (strL (showJ (tJ s n))).size = (showJ (tJ s n)).length := strL_size _
    generalize showJ (tJ s n) = T at *
    obtain ⟨N, hN⟩ : ∃ N, T.length = N := ⟨_, rfl⟩
    rw [hN] at hln hsz
    go_loopw [9] (fun c wr => ∃ i : Nat, c = .int .i64 (i : Int) ∧ i ≤ N ∧ Gr w4 wr) (fun c _ => N - (intOf c).toNat)
    case atStart => exact ⟨0, rfl, by omega, Gr.refl _⟩
    case round =>
      obtain ⟨i, rfl, hi, hg⟩ := hrel
      rcases Nat.lt_or_ge i N with hlt | hge
      · obtain ⟨hix, k1, k2⟩ := hlp i (by omega)
        have g1 : (i : Int) < (N : Int) := by omega
        have hw1 : IntKind.i64.wrap ((i : Int) + 1) = ((i + 1 : Nat) : Int) := by rw [wrap_in (by omega) (by omega)]; omega
        clear hlp hwh
        generalize T[i]'(by omega) = cb at *
        generalize strL T = TB at *
        go_wp2
        exact ⟨⟨i + 1, rfl, by omega, hg⟩, by simp; omega⟩
      · have hin : i = N := by omega
        subst hin
        have g1 : ¬ (i : Int) < (i : Int) := by omega
        have hp := parse_ok (hB.gr (hg4.trans hg)) (by rw [strL_size]; omega) hwh
        have v5 := v4.gr hg
        have hg5 := hg4.trans hg
        clear hlp hwh v4
        generalize strL T = TB at *
        go_wp2_with (first
          | (go_at_call 9; refine hp.mono ?_; rintro e w6 ⟨c6, rfl, c66, c61, hJ6, hg6'⟩; clear hp; have hg6 := hg5.trans hg6')
          | (refine wpList_store_all rfl 27 (.tmp 10) (.tmp 51) rfl w6.heap.size rfl c6 rfl 27 zeroJ (holds_new w6 zeroJ 27) (by rw [c66]; kernel_rfl) c66.symm c61 ?_; intro w7 hT7; have hg7 := hg6.trans (gr_new hT7); have v7 := Var.new hJ6 c66 hT7; clear hJ6)
          | (refine wpList_load_part rfl 27 (.tmp 10) rfl w6.heap.size 0 rfl c6 _ (range_of (Var.holds (by assumption))) Tryd.underlying27 rfl (by rw [c66]; kernel_rfl) ?_)
          | (go_at_call 12; refine (get_any v7.says (fits_t hl) fitc_t (Gr.alloc w7 _) (path := [s]) (lies_new w7 _ 9) (by show 1 < _; decide)).mono fun e w8 h => ?_; obtain ⟨c8, rfl, c86, c81, hJ8, hg8'⟩ := got_some (got_t s n) h; have hg8 := hg7.trans ((Gr.alloc w7 _).trans hg8'); have v8 := v7.gr ((Gr.alloc w7 _).trans hg8'); clear v7)
          | (refine wpList_store_all rfl 27 (.tmp 13) (.tmp 59) rfl w8.heap.size rfl c8 rfl 27 zeroJ (holds_new w8 zeroJ 27) (by rw [c86]; kernel_rfl) c86.symm c81 ?_; intro w9 hT9; have hg9 := hg8.trans (gr_new hT9); have v9 := v8.gr (gr_new hT9); have x9 := Var.new hJ8 c86 hT9; clear v8 hJ8; obtain ⟨la8, na8, lc8, nc8, es8, rfl, _⟩ := jat_at x9.says; obtain ⟨_, _, y2, _⟩ := x9.cells; obtain ⟨la6, lc6, g6, o6, nc6, rfl, q6⟩ := var_t v9; obtain ⟨z0, z1, z2, z3, z4, z5⟩ := v9.cells))
        go_ret
        exact ⟨rfl, hg9⟩
  · obtain ⟨s, rfl⟩ : ∃ s, S = strL s := ⟨_, (strL_of S).symm⟩
    have hl : s.length ≤ 2000 := by have := strL_size s; omega
    have gz : ¬ ((strL s).size : Int) > 2000 := by omega
    have TWO := fun w => two_make (w := w) (n := n) hl
    go_enter Tryd.func4, Tryd.ntmps4
    go_wp2_with (first
      | (go_at_call 8; refine haw.mono ?_; rintro e w1 ⟨rfl, hg1⟩; clear haw)
      | (go_at_call 10; refine (TWO w1).mono ?_; rintro e w2 ⟨c2, rfl, c26, c21, hg2', hJ2⟩; have hg2 := hg1.trans hg2'; clear TWO)
      | (refine wpList_store_all rfl 27 (.tmp 6) (.tmp 26) rfl w2.heap.size rfl c2 rfl 27 zeroJ (holds_new w2 zeroJ 27) (by rw [c26]; kernel_rfl) c26.symm c21 ?_; intro w3 hT3; have hg3 := hg2.trans (gr_new hT3); have v3 := Var.new hJ2 c26 hT3; clear hJ2)
      | (refine wpList_load_part rfl 27 (.tmp 6) rfl w2.heap.size 0 rfl c2 _ (range_of (Var.holds (by assumption))) Tryd.underlying27 rfl (by rw [c26]; kernel_rfl) ?_)
      | (go_at_call 11; refine (show_any v3.says (fun i h => h.1) (fits_t hl) (fun _ => ⟨fit_t h1 h2, by have := len_t hl h1 h2; omega⟩) (hB.gr hg3).tab).mono ?_; rw [said_t]; rintro e w4 ⟨rfl, hg4'⟩; have hg4 := hg3.trans hg4'; have v4 := v3.gr hg4'; clear v3))
    have hln := len_t hl h1 h2
    have hlp := fun i hi => loop_t (s := s) (n := n) (i := i) hi
    have hwh := whole_t (s := s) h1 h2
    have hsz : (strL (showJ (tJ s n))).size = (showJ (tJ s n)).length := strL_size _
    generalize showJ (tJ s n) = T at *
    obtain ⟨N, hN⟩ : ∃ N, T.length = N := ⟨_, rfl⟩
    rw [hN] at hln hsz
    go_loopw [9] (fun c wr => ∃ i : Nat, c = .int .i64 (i : Int) ∧ i ≤ N ∧ Gr w4 wr) (fun c _ => N - (intOf c).toNat)
    case atStart => exact ⟨0, rfl, by omega, Gr.refl _⟩
    case round =>
      obtain ⟨i, rfl, hi, hg⟩ := hrel
      rcases Nat.lt_or_ge i N with hlt | hge
      · obtain ⟨hix, k1, k2⟩ := hlp i (by omega)
        have g1 : (i : Int) < (N : Int) := by omega
        have hw1 : IntKind.i64.wrap ((i : Int) + 1) = ((i + 1 : Nat) : Int) := by rw [wrap_in (by omega) (by omega)]; omega
        clear hlp hwh
        generalize T[i]'(by omega) = cb at *
        generalize strL T = TB at *
        go_wp2
        exact ⟨⟨i + 1, rfl, by omega, hg⟩, by simp; omega⟩
      · have hin : i = N := by omega
        subst hin
        have g1 : ¬ (i : Int) < (i : Int) := by omega
        have hp := parse_ok (hB.gr (hg4.trans hg)) (by rw [strL_size]; omega) hwh
        have v5 := v4.gr hg
        have hg5 := hg4.trans hg
        clear hlp hwh v4
        generalize strL T = TB at *
        go_wp2_with (first
          | (go_at_call 9; refine hp.mono ?_; rintro e w6 ⟨c6, rfl, c66, c61, hJ6, hg6'⟩; clear hp; have hg6 := hg5.trans hg6')
          | (refine wpList_store_all rfl 27 (.tmp 10) (.tmp 51) rfl w6.heap.size rfl c6 rfl 27 zeroJ (holds_new w6 zeroJ 27) (by rw [c66]; kernel_rfl) c66.symm c61 ?_; intro w7 hT7; have hg7 := hg6.trans (gr_new hT7); have v7 := Var.new hJ6 c66 hT7; clear hJ6)
          | (refine wpList_load_part rfl 27 (.tmp 10) rfl w6.heap.size 0 rfl c6 _ (range_of (Var.holds (by assumption))) Tryd.underlying27 rfl (by rw [c66]; kernel_rfl) ?_)
          | (go_at_call 12; refine (get_any v7.says (fits_t hl) fitc_t (Gr.alloc w7 _) (path := [s]) (lies_new w7 _ 9) (by show 1 < _; decide)).mono fun e w8 h => ?_; obtain ⟨c8, rfl, c86, c81, hJ8, hg8'⟩ := got_some (got_t s n) h; have hg8 := hg7.trans ((Gr.alloc w7 _).trans hg8'); have v8 := v7.gr ((Gr.alloc w7 _).trans hg8'); clear v7)
          | (refine wpList_store_all rfl 27 (.tmp 13) (.tmp 59) rfl w8.heap.size rfl c8 rfl 27 zeroJ (holds_new w8 zeroJ 27) (by rw [c86]; kernel_rfl) c86.symm c81 ?_; intro w9 hT9; have hg9 := hg8.trans (gr_new hT9); have v9 := v8.gr (gr_new hT9); have x9 := Var.new hJ8 c86 hT9; clear v8 hJ8; obtain ⟨la8, na8, lc8, nc8, es8, rfl, _⟩ := jat_at x9.says; obtain ⟨_, _, y2, _⟩ := x9.cells; obtain ⟨la6, lc6, g6, o6, nc6, rfl, q6⟩ := var_t v9; obtain ⟨z0, z1, z2, z3, z4, z5⟩ := v9.cells))
        go_ret
        exact ⟨rfl, hg9⟩
end Go.Proofs.YtogippkapadolaaDoor
