/- JsCopyB, JsGet, JsSaid, JsAwake, JsDeepP. -/
import Derived.Test.YtogippkapadolaaDoorYJ14
import Derived.Test.YtogippkapadolaaDoorYJ15
import Derived.Test.YtogippkapadolaaDoorYJ3
/- copied of the program, at every value (by gen_jscopyb.py). -/
namespace Go.Proofs.YtogippkapadolaaDoor
open Go.RowKit

/-- Values whose rows a copy may have. -/
inductive FitC : J → Prop where
  | mk {k : Int} {b : Bool} {n : Int} {s : List UInt8} {l : List J} {names : List (List UInt8)} (hl : l.length * 88 ≤ 140737488355328) (hn : names.length * 16 ≤ 140737488355328) (hx : ∀ x ∈ l, FitC x) : FitC (.mk k b n s l names)
def CopyC (w0 : World) (j : J) (v : Value) : Prop := ∀ w, Gr w0 w → Calls Tryd.prog 24 #[v] w fun e w' => ∃ u, e = .returned u ∧ Gr w w' ∧ JAt w' (fun k => w.heap.size ≤ k) j u
theorem wpl_store_cell {P : Program} {ops : Array Oper} {rest : List Oper} {o : Oper} {a : Act} {w : World} {Q : Exit → Act → World → Prop} (hgd : o.guard = none) (ty : TypeId) (x y : Operand) (ho : o.op = .store ty x y)
    (b i : Nat) (hx : a.eval x = .pointer (some ⟨b, i, none⟩)) (v : Value) (hy : a.eval y = v) (hv : v.cells = #[v]) (hv1 : v.oneCell' = true) (hs : ∀ w, (Go.sizeOf ty).run P w = .ok 1 w) (cs : List Value) (t : TypeId) (hg : Holds w b cs t) (hi : i < cs.length)
    (h : ∀ w', Turned b w w' (cs.set i v) t → wpList P ops Q rest (a.put o.dst undef) w') : wpList P ops Q (o :: rest) a w :=
  wl_of hgd (op_store1 ty x y ho b i hx v hy hv hv1 hs (old := cs[i]) (by rw [hg.cell]; exact List.getElem?_eq_getElem hi) (hg.frozen _) (h _ (turned_set hg i v)))
theorem overV_mid (A c B d : List Value) (h : d.length = c.length) (n : Nat) (hn : A.length = n) : overV (A ++ (c ++ B)) n d = A ++ (d ++ B) := by
  subst hn
  unfold overV
  rw [List.take_left, List.drop_append, List.drop_of_length_le (by omega), h]
  simp
theorem gr_turned {x y z : World} {g : Nat} {cs : List Value} {t : TypeId} (h : Gr x y) (k : Turned g y z cs t) (hg : x.heap.size ≤ g) : Gr x z := Below.trans h (k.below hg)
theorem own_holds {w : World} {B n c : Nat} {e : TypeId} {z : Nat} {ad : Option Addr} {xs : List Value} (h : w.ownsRow B e z (.slice ad n c) n xs) (h0 : 0 < n) : ∃ g rest, ad = some ⟨g, 0, none⟩ ∧ B ≤ g ∧ Holds w g (xs ++ rest) e := by
  obtain ⟨hl, ⟨h1, h2⟩ | ⟨g, cap, cur, h1, h2, h3, h4, h5, h6, h7⟩⟩ := h
  · omega
  · cases h1
    refine ⟨g, cur.toList.drop (n * z), rfl, h2, ?_⟩
    rw [← h7, List.take_append_drop]
    exact h3
theorem flat6_len {es : List (List Value)} (h6 : ∀ c ∈ es, c.length = 6) : es.flatten.length = es.length * 6 := by
  induction es with
  | nil => rfl
  | cons c t ih =>
    rw [List.flatten_cons, List.length_append, ih (fun c hc => h6 c (List.mem_cons_of_mem _ hc)), h6 c (List.mem_cons_self ..), List.length_cons]
    omega
theorem upd_turned {x y : World} {g : Nat} {cs : List Value} {t : TypeId} (h : Turned g x y cs t) : Upd g x y := ⟨h.os, h.tape, h.output, Nat.le_of_eq h.size.symm, fun k _ hk => h.others k hk⟩
set_option maxHeartbeats 4000000 in
set_option maxRecDepth 100000 in
theorem copied_mk {w0 : World} {S : Nat → Prop} {k : Int} {b : Bool} {n0 : Int} {s : List UInt8} {l : List J} {names : List (List UInt8)} {la na : Option Addr} {lc nc : Nat} {es : List (List Value)} (hes : es.length = l.length) (h6' : ∀ c ∈ es, c.length = 6) (hc1' : ∀ c ∈ es, ∀ x ∈ c, x.oneCell' = true) (hlies : Lies w0 S la es.flatten) (hnames : Lies w0 S na (names.map strV1))
    (hl : l.length * 88 ≤ 140737488355328) (hnl : names.length * 16 ≤ 140737488355328) (ih : ∀ (i : Nat) (x : J) (c : List Value), l[i]? = some x → es[i]? = some c → CopyC w0 x (.agg c.toArray)) : CopyC w0 (.mk k b n0 s l names) (.agg (jsonV k b n0 s la na l.length lc names.length nc).toArray) := by
  intro w hw
  obtain ⟨N, hN⟩ : ∃ N, w.heap.size = N := ⟨_, rfl⟩
  obtain ⟨n, hn⟩ : ∃ n, l.length = n := ⟨_, rfl⟩
  obtain ⟨W, hW⟩ : ∃ W, (w.alloc (.cells (jsonV k b n0 s la na l.length lc names.length nc).toArray 27)).alloc (.cells zeroJ.toArray 27) = W := ⟨_, rfl⟩
  have hgW : Gr w W := hW ▸ (Gr.alloc _ _).trans (Gr.alloc _ _)
  have hsz : W.heap.size = N + 2 := by rw [← hW]; simp [hN]
  have hbx : Holds W N (jsonV k b n0 s la na l.length lc names.length nc) 27 := by
    rw [← hW, ← hN]; exact (holds_new w _ 27).alloc _
  have hz0 : Holds W (N + 1) zeroJ 27 := by
    have := holds_new (w.alloc (.cells (jsonV k b n0 s la na l.length lc names.length nc).toArray 27)) zeroJ 27
    rw [hW] at this
    simpa [hN] using this
  have cN := clone_names (nc := nc) (hnames.mono fun i h1 h2 => ⟨h1, (hw.trans hgW).block i h2⟩) hnl
  have cE : ∀ y, Gr w y → Calls Tryd.prog 39 #[.slice la n lc] y fun e w' => ∃ ad c, e = .returned (.slice ad n c) ∧ w'.ownsRow y.heap.size 27 6 (.slice ad n c) n es.flatten ∧ Gr y w' := fun y hy => clone_elems (hes.trans hn) h6' hc1' (hlies.mono fun i h1 h2 => ⟨h1, (hw.trans hy).block i h2⟩) (by omega)
  have c5 : W.cell? ⟨N, 5, none⟩ = some (.slice na names.length nc) := hbx.at 5 _ rfl
  rw [hn] at hbx hW ⊢
  have hn64 : (n : Int) + 1 ≤ 9223372036854775806 := by omega
  clear hnl hlies hnames
  subst hN hW
  show Calls Tryd.prog 24 #[.agg #[.int .i64 k, .bool b, .int .i64 n0, .string (strL s), .slice la n lc, .slice na names.length nc]] w _
  go_enter Tryd.func24, Tryd.ntmps24
  go_wp2_with (first
    | (go_at_call 38; refine cN.mono ?_; rintro e w1 ⟨ad, nc1, rfl, hown1, hg1⟩; have hbx1 := hbx.gr hg1; clear cN)
    | (refine wpl_store_cell rfl 25 (.tmp 8) (.tmp 7) rfl w.heap.size 5 rfl (.slice ad names.length nc1) rfl rfl rfl (by intro w; kernel_rfl) _ 27 hbx1 (by simp [jsonV]) ?_; intro w2 hT2; have c4 : w2.cell? ⟨w.heap.size, 4, none⟩ = some (.slice la n lc) := Holds.at hT2.holds 4 _ rfl; have hg2 : Gr w w2 := gr_turned (hgW.trans hg1) hT2 (Nat.le_refl _))
    | (go_at_call 39; refine (cE w2 hg2).mono ?_; rintro e w3 ⟨adl, cap, rfl, hown3, hg3⟩; have hbx3 := hT2.holds.gr hg3; clear cE)
    | (refine wpl_store_cell rfl 24 (.tmp 12) (.tmp 11) rfl w.heap.size 4 rfl (.slice adl n cap) rfl rfl rfl (by intro w; kernel_rfl) _ 27 hbx3 (by simp [jsonV]) ?_; intro w4 hT4; have c44 : w4.cell? ⟨w.heap.size, 4, none⟩ = some (.slice adl n cap) := Holds.at hT4.holds 4 _ rfl))
  have hg2 : Gr w w2 := gr_turned (hgW.trans hg1) hT2 (Nat.le_refl _)
  have hg4 : Gr w w4 := gr_turned (hg2.trans hg3) hT4 (Nat.le_refl _)
  have hs1 : w.heap.size + 2 ≤ w1.heap.size := hsz ▸ hg1.size
  have hs2 : w2.heap.size = w1.heap.size := hT2.size
  have hs3 : w2.heap.size ≤ w3.heap.size := hg3.size
  have hs4 : w4.heap.size = w3.heap.size := hT4.size
  have hbx4 : Holds w4 w.heap.size (jsonV k b n0 s adl ad n cap names.length nc1) 27 := hT4.holds
  have hz4 : Holds w4 (w.heap.size + 1) zeroJ 27 := (hT4.others _ (by omega)).trans (Holds.gr ((hT2.others _ (by omega)).trans (hz0.gr hg1)) hg3)
  obtain ⟨g, rest, hgg, hgr, hgl⟩ : ∃ g rest, w2.heap.size ≤ g ∧ (0 < n → Holds w4 g (es.flatten ++ rest) 27) ∧ (0 < n → adl = some ⟨g, 0, none⟩) := by
    by_cases h0 : 0 < n
    · obtain ⟨g, rest, e1, e2, e3⟩ := own_holds hown3 h0
      exact ⟨g, rest, e2, fun _ => (hT4.others g (by omega)).trans e3, fun _ => e1⟩
    · exact ⟨w2.heap.size, [], Nat.le_refl _, fun h => absurd h h0, fun h => absurd h h0⟩
  clear hbx hz0 hbx1 hbx3 c44 c4 c5
  go_loopw [16] (fun c wr => ∃ (i : Nat) (ds : List (List Value)), c = .int .i64 (i : Int) ∧ i ≤ n ∧ ds.length = i ∧ (∀ c ∈ ds, c.length = 6) ∧ (∀ c ∈ ds, ∀ x ∈ c, x.oneCell' = true) ∧ Holds wr w.heap.size (jsonV k b n0 s adl ad n cap names.length nc1) 27 ∧ Holds wr (w.heap.size + 1) zeroJ 27 ∧ Upd g w4 wr ∧ Gr w wr ∧ (0 < n → Holds wr g (ds.flatten ++ ((es.drop i).flatten ++ rest)) 27) ∧ ∀ (i' : Nat) (x : J) (d : List Value), l[i']? = some x → ds[i']? = some d → JAt wr (fun k => w4.heap.size ≤ k) x (.agg d.toArray)) (fun c _ => n - (intOf c).toNat)
  case atStart => exact ⟨0, [], rfl, by omega, rfl, (fun c h => nomatch h), (fun c h => nomatch h), hbx4, hz4, gr_upd (Gr.refl _), hg4, (by rw [List.drop_zero]; exact hgr), fun i' x d h1 h2 => by simp at h2⟩
  case round =>
    obtain ⟨i, ds, rfl, hi, hds, hd6, hd1, hbxr, hzr, hU, hgw, hrow, hJ⟩ := hrel
    have hsr : w4.heap.size ≤ wr.heap.size := hU.size
    rcases Nat.lt_or_ge i n with hlt | hge
    · have hx : l[i]? = some l[i] := List.getElem?_eq_getElem (by omega)
      have hce : es[i]? = some (es[i]'(by omega)) := List.getElem?_eq_getElem (by omega)
      have h6 := h6' _ (List.mem_of_getElem? hce)
      have hc1 := hc1' _ (List.mem_of_getElem? hce)
      have ihx := ih i _ _ hx hce
      have hgl' := hgl (by omega)
      subst hgl'
      have hrow' := hrow (by omega)
      rw [List.drop_eq_getElem_cons (show i < es.length by omega), List.flatten_cons, List.append_assoc] at hrow'
      generalize hxl : l[i] = x at *
      generalize hcl : es[i]'(by omega) = c at *
      have hrng : wr.rangeAt g (i * 6) c := hrow'.range (i * 6) c (fun j v hv => by
        rw [List.getElem?_append_right (by rw [flat6_len hd6, hds]; omega), flat6_len hd6, hds, Nat.add_sub_cancel_left]
        rw [List.getElem?_append_left (by exact (List.getElem?_eq_some_iff.1 hv).1)]
        exact hv)
      have hlen : i * 6 + 6 ≤ (ds.flatten ++ (c ++ ((es.drop (i + 1)).flatten ++ rest))).length := by
        rw [List.length_append, List.length_append, flat6_len hd6, hds, h6]; omega
      have hixa : ∀ w, (Instr.indexAt 24 (.slice (some ⟨g, 0, none⟩) n cap) (.int .i64 (i : Int))).run Tryd.prog w = .ok (.pointer (some ⟨g, i * 6, none⟩)) w := ix_slice und24 size27 hlt (by omega)
      have hnew : ∀ w2, Turned wr.heap.size (wr.alloc (.cells zeroJ.toArray 27)) w2 c 27 → Gr wr w2 ∧ Holds w2 wr.heap.size c 27 := fun w2 hT => ⟨gr_new hT, hT.holds⟩
      have g1 : (i : Int) < (n : Int) := by omega
      have hi1 : (i : Int) + 1 ≤ 9223372036854775806 := by omega
      go_wp2_with (first
        | (refine wpList_load_part rfl 27 (.tmp 19) rfl g (i * 6) rfl c _ hrng Tryd.underlying27 rfl (by rw [h6]; kernel_rfl) ?_)
        | (refine wpList_store_all rfl 27 (.tmp 4) (.tmp 20) rfl wr.heap.size rfl c rfl 27 zeroJ (holds_new wr zeroJ 27) (by rw [h6]; kernel_rfl) h6.symm hc1 ?_; intro w6 hT6; obtain ⟨hg6, hm6⟩ := hnew w6 hT6))
      refine r24_6 rfl (M := w4.heap.size) (x := x) (hbxr.gr hg6) rfl hm6 h6 (hrow'.gr hg6) hlen hlt (fun y hy => (ihx y (hw.trans ((hgw.trans hg6).trans hy))).mono (fun e z ⟨u, e1, e2, e3⟩ => ⟨u, e1, e2, e3.mono fun k h1 _ => ⟨Nat.le_trans (Nat.le_trans hsr (Nat.le_trans hg6.size hy.size)) h1, rfl⟩⟩)) (fun k h1 h2 => ?_) rfl rfl rfl fun ac wz d hA hJd hd6' hd1' hwy => ?_
      · have := (hgr (by omega)).lt; omega
      rename_i hK
      obtain ⟨wy, hgy, hTy⟩ := hwy
      refine hK _ _ ?_
      have e : ac = ⟨(ac.eval (.tmp 0) :: ac.eval (.tmp 1) :: ac.eval (.tmp 2) :: ac.eval (.tmp 3) :: ac.eval (.tmp 4) :: ac.eval (.tmp 5) :: ac.eval (.tmp 6) :: ac.eval (.tmp 7) :: ac.eval (.tmp 8) :: ac.eval (.tmp 9) :: ac.eval (.tmp 10) :: ac.eval (.tmp 11) :: ac.eval (.tmp 12) :: ac.eval (.tmp 13) :: ac.eval (.tmp 14) :: ac.eval (.tmp 15) :: ac.eval (.tmp 16) :: ac.eval (.tmp 17) :: ac.eval (.tmp 18) :: ac.eval (.tmp 19) :: ac.eval (.tmp 20) :: ac.eval (.tmp 21) :: ac.eval (.tmp 22) :: ac.eval (.tmp 23) :: ac.eval (.tmp 24) :: ac.eval (.tmp 25) :: ac.eval (.tmp 26) :: ac.eval (.tmp 27) :: ac.eval (.tmp 28) :: ([] : List Value)).toArray, ac.defers⟩ := (act_lit2 (hA.size.trans rfl)).trans rfl
      rw [hA.defers, (hA.old 0 (by decide)).trans rfl, (hA.old 1 (by decide)).trans rfl, (hA.old 2 (by decide)).trans rfl, (hA.old 3 (by decide)).trans rfl, (hA.old 4 (by decide)).trans rfl, (hA.old 5 (by decide)).trans rfl, (hA.old 6 (by decide)).trans rfl, (hA.old 7 (by decide)).trans rfl, (hA.old 8 (by decide)).trans rfl, (hA.old 9 (by decide)).trans rfl, (hA.old 10 (by decide)).trans rfl, (hA.old 11 (by decide)).trans rfl, (hA.old 12 (by decide)).trans rfl, (hA.old 13 (by decide)).trans rfl, (hA.old 14 (by decide)).trans rfl, (hA.old 15 (by decide)).trans rfl, (hA.old 16 (by decide)).trans rfl, (hA.old 17 (by decide)).trans rfl, (hA.old 18 (by decide)).trans rfl, (hA.old 19 (by decide)).trans rfl, (hA.old 20 (by decide)).trans rfl, (hA.old 27 (by decide)).trans rfl, (hA.old 28 (by decide)).trans rfl] at e
      generalize ac.eval (.tmp 21) = x21 at e
      generalize ac.eval (.tmp 22) = x22 at e
      generalize ac.eval (.tmp 23) = x23 at e
      generalize ac.eval (.tmp 24) = x24 at e
      generalize ac.eval (.tmp 25) = x25 at e
      generalize ac.eval (.tmp 26) = x26 at e
      subst e
      go_wp2
      have hwr : IntKind.i64.wrap ((i : Int) + 1) = ((i + 1 : Nat) : Int) := by rw [wrap_in (by omega) (by omega)]; omega
      refine ⟨⟨i + 1, ds ++ [d], by first | rfl | rw [hwr] | simp [hwr], by omega, by simp [hds], ?_, ?_, ?_, ?_, ?_, ?_, ?_, ?_⟩, ?_⟩
      · intro c' hc'
        rcases List.mem_append.1 hc' with q | q
        · exact hd6 _ q
        · have : c' = d := by simpa using q
          subst this; exact hd6'
      · intro c' hc'
        rcases List.mem_append.1 hc' with q | q
        · exact hd1 _ q
        · have : c' = d := by simpa using q
          subst this; exact hd1'
      · exact (hTy.others _ (by omega)).trans ((hbxr.gr hg6).gr hgy)
      · exact (hTy.others _ (by omega)).trans ((hzr.gr hg6).gr hgy)
      · exact hU.trans (((hg6.trans hgy).upd).trans (upd_turned hTy))
      · exact gr_turned ((hgw.trans hg6).trans hgy) hTy (by omega)
      · intro _
        have hT' := hTy.holds
        rw [overV_mid _ _ _ _ (by rw [hd6', h6]) _ (by rw [flat6_len hd6, hds])] at hT'
        rw [List.flatten_append, List.append_assoc]
        simpa using hT'
      · intro i' x' d' h1 h2
        rcases Nat.lt_or_ge i' i with q | q
        · rw [List.getElem?_append_left (by omega)] at h2
          exact (hJ i' x' d' h1 h2).mono fun k h3 h4 => ⟨h3, (hTy.others k (by have := (hgr (by omega)).lt; omega)).trans ((hg6.trans hgy).block k h4)⟩
        · rw [List.getElem?_append_right (by omega)] at h2
          have q2 : i' = i := by
            have := (List.getElem?_eq_some_iff.1 h2).1
            simp at this; omega
          subst q2
          have : d = d' := by simpa [hds] using h2
          subst this
          have : x = x' := by rw [hx] at h1; simpa using h1
          subst this
          exact hJd
      · show n - (intOf (.int .i64 (IntKind.i64.wrap ((i : Int) + 1)))).toNat < n - (intOf (.int .i64 (i : Int))).toNat
        rw [hwr]
        show n - ((i + 1 : Nat) : Int).toNat < n - ((i : Nat) : Int).toNat
        omega
    · have hin : i = n := by omega
      subst hin
      have g1 : ¬ (i : Int) < (i : Int) := by omega
      have h1c : ∀ x ∈ jsonV k b n0 s adl ad i cap names.length nc1, x.oneCell' = true := by
        intro x hx
        simp only [jsonV, List.mem_cons, List.not_mem_nil, or_false] at hx
        rcases hx with rfl | rfl | rfl | rfl | rfl | rfl <;> rfl
      go_wp2_with (first
        | (refine wpList_load_part rfl 27 (.tmp 1) rfl w.heap.size 0 rfl (jsonV k b n0 s adl ad i cap names.length nc1) _ (range_of hbxr) Tryd.underlying27 rfl (by kernel_rfl) ?_)
        | (refine wpList_store_all rfl 27 (.tmp 2) (.tmp 28) rfl (w.heap.size + 1) rfl (jsonV k b n0 s adl ad i cap names.length nc1) rfl 27 zeroJ hzr (by kernel_rfl) rfl h1c ?_; intro w5 hT5))
      refine bodyPost_ret (results_cell_row (p := 2) (by kernel_rfl) _ w5 (w.heap.size + 1) 27 (jsonV k b n0 s adl ad i cap names.length nc1).toArray (0, 0) _ rfl hT5.holds Tryd.underlying27 rfl (by kernel_rfl)) rfl ?_
      have hsame : ∀ k, k < w1.heap.size → k ≠ w.heap.size → k ≠ w.heap.size + 1 → w5.heap[k]? = w1.heap[k]? := fun k h1 h2 h3 =>
        (hT5.others k h3).trans ((hU.block k (by omega) (by omega)).trans ((hT4.others k h2).trans ((hg3.block k (by omega)).trans (hT2.others k h2))))
      refine ⟨_, rfl, gr_turned hgw hT5 (by omega), ?_⟩
      rw [← hn]
      refine .mk k b n0 s l names adl ad cap nc1 ds (hds.trans hn.symm) hd6 (fun i' x c h1 h2 => ?_) ?_ ?_
      · exact (hJ i' x c h1 h2).mono fun k h3 h4 => ⟨by have := hU.size; omega, hT5.others k (by omega)⟩
      · by_cases h0 : 0 < i
        · have hg5 := hrow h0
          refine .inr ⟨g, 0, hgl h0, by omega, by have := hg5.lt; rw [hT5.size]; exact this, ?_⟩
          have hg6 : Holds w5 g _ 27 := (hT5.others g (by omega)).trans hg5
          exact hg6.range 0 _ (fun j v hv => by rw [Nat.zero_add, List.getElem?_append_left (List.getElem?_eq_some_iff.1 hv).1]; exact hv)
        · have : ds = [] := List.eq_nil_of_length_eq_zero (by omega)
          subst this
          exact .inl rfl
      · exact (own_lies hown1).mono fun k h1 h2 => ⟨by omega, hsame k h2 (by omega) (by omega)⟩
theorem copied_ok {w0 : World} {S : Nat → Prop} : ∀ {j : J} {v : Value}, JAt w0 S j v → FitC j → CopyC w0 j v := by
  intro j v hJ
  induction hJ with
  | mk k b n s l names la na lc nc es hes h6 hl hlies hnames ih =>
    intro hF
    obtain ⟨hll, hnl, hfx⟩ := hF
    exact copied_mk hes h6 (es_one hes hl) hlies hnames hll hnl fun i x c h1 h2 => ih i x c h1 h2 (hfx x (List.mem_of_getElem? h1))
end Go.Proofs.YtogippkapadolaaDoor

/- Get of the program. -/
namespace Go.Proofs.YtogippkapadolaaDoor
open Go.RowKit

/-- Where a name stands first. -/
def posN : List (List UInt8) → List UInt8 → Option Nat
  | [], _ => none
  | x :: r, y => if x = y then some 0 else (posN r y).map (· + 1)
theorem posN_lt : ∀ {names : List (List UInt8)} {nm : List UInt8} {i : Nat}, posN names nm = some i → i < names.length
  | [], _, _, h => by simp [posN] at h
  | x :: r, y, i, h => by
    rw [posN] at h
    split at h
    · simp at h; subst h; simp
    · cases hp : posN r y with
      | none => rw [hp] at h; simp at h
      | some k =>
        rw [hp] at h
        simp at h
        have := posN_lt hp
        simp; omega
theorem strL_inj {x y : List UInt8} (h : strL x = strL y) : x = y := by simpa [strL] using congrArg (fun x => x.data.toList) h
theorem idx_pos (nm : List UInt8) : ∀ (names : List (List UInt8)) (i : Nat), Lib.idxFromS (names.map strL) (strL nm) i = match posN names nm with | some k => ((i + k : Nat) : Int) | none => -1
  | [], i => rfl
  | x :: r, i => by
    rw [List.map_cons, Lib.idxFromS, posN]
    by_cases h : x = nm
    · subst h
      simp
    · have h' : ¬ strL x = strL nm := fun e => h (strL_inj e)
      rw [if_neg h', if_neg h, idx_pos nm r (i + 1)]
      cases posN r nm with
      | none => rfl
      | some k =>
        simp only [Option.map_some]
        congr 1; omega
/-- The element by names. -/
def getP : J → List (List UInt8) → Option J
  | j, [] => some j
  | .mk k _ _ _ l names, nm :: r => if k = 5 then match posN names nm with
    | some i => match l[i]? with
      | some x => getP x r
      | none => none
    | none => none else none
theorem index_any {w : World} {S : Nat → Prop} {na : Option Addr} {nc : Nat} {names : List (List UInt8)} {nm : List UInt8} (h : Lies w S na (names.map strV1)) (hl : names.length < maxLen) :
    Calls Tryd.prog 26 #[.slice na names.length nc, .string (strL nm)] w fun e z => e = .returned (.int .i64 (match posN names nm with | some k => (k : Int) | none => -1)) ∧ Gr w z := by
  have e := idx_pos nm names 0
  simp only [Nat.zero_add] at e
  by_cases h0 : names = []
  · subst h0
    refine (Tryd.slices_Index_string_empty na nc (strL nm) w).mono ?_
    rintro e z ⟨rfl, rfl⟩
    exact ⟨rfl, Gr.refl _⟩
  · obtain ⟨g, o, rfl, hc⟩ := names_cell h h0
    refine (Tryd.slices_Index_string g o names.length nc (names.map strL) (strL nm) w (by simp) (by unfold maxLen at hl; omega) hc).mono ?_
    rintro e' z ⟨rfl, rfl⟩
    refine ⟨?_, Gr.refl _⟩
    rw [List.take_of_length_le (by simp)]
    show Ending.returned (.int .i64 (Lib.idxFromS (names.map strL) (strL nm) 0)) = _
    rw [e]
theorem results_row1 {P : Program} {fn : Func} {p t : Tmp} {t1 : TypeId} (h : fn.results = #[.cell p t1, .tmp t]) (tmps : Array Value) (w : World) (g1 : Nat) (c1 : List Value) (d1 : TypeDesc) (x : Value)
    (hp : tmps.getD p undef = .pointer (some ⟨g1, 0, none⟩)) (hx : tmps.getD t undef = x) (h1 : Holds w g1 c1 t1)
    (u1 : P.underlying t1 = some d1) (r1 : (match d1 with | .struct _ | .array _ _ => true | _ => false) = true) (s1 : (P.info? t1).map (·.size) = some c1.length) :
    (results fn tmps).run P w = .ok (.tuple #[.agg c1.toArray, x]) w := by
  have hp' : tmps[p]?.getD undef = .pointer (some ⟨g1, 0, none⟩) := by simpa using hp
  have hx' : tmps[t]?.getD undef = x := by simpa using hx
  simp [results, h, hp', hx', asAddr, run_loadVar_row w g1 t1 t1 c1.toArray (0, 0) d1 h1 u1 r1 (by simpa using s1)]
theorem one_jsonV (k : Int) (b : Bool) (n : Int) (s : List UInt8) (la na : Option Addr) (ll lc nl nc : Nat) : ∀ x ∈ jsonV k b n s la na ll lc nl nc, x.oneCell' = true := by
  intro x hx
  simp only [jsonV, List.mem_cons, List.not_mem_nil, or_false] at hx
  rcases hx with rfl | rfl | rfl | rfl | rfl | rfl <;> rfl
theorem one_zero : ∀ x ∈ zeroJ, x.oneCell' = true := by
  intro x hx
  simp only [zeroJ, List.mem_cons, List.not_mem_nil, or_false] at hx
  rcases hx with rfl | rfl | rfl | rfl | rfl | rfl <;> rfl
theorem range_gr {x y : World} {g o : Nat} {cs : List Value} (h : x.rangeAt g o cs) (hg : Gr x y) (hlt : g < x.heap.size) : y.rangeAt g o cs := fun j v hv => cell_below hg hlt (h j v hv)
def GotP (w : World) (r : Option J) : Ending → World → Prop := fun e w' => Gr w w' ∧ match r with
  | some x => ∃ u, e = .returned (.tuple #[u, .bool true]) ∧ JAt w' (fun k => w.heap.size ≤ k) x u
  | none => e = .returned (.tuple #[.agg zeroJ.toArray, .bool false])
set_option maxHeartbeats 4000000 in
set_option maxRecDepth 100000 in
theorem get_any {w0 : World} {S S' : Nat → Prop} {j : J} {v : Value} (hJ : JAt w0 S j v) (hF : Fits j) (hC : FitC j) {w : World} (hw : Gr w0 w) {path : List (List UInt8)} {pa : Option Addr} {pc : Nat} (hp : Lies w S' pa (path.map strV1)) (hpl : path.length < maxLen) :
    Calls Tryd.prog 12 #[v, .slice pa path.length pc] w (GotP w (getP j path)) := by
  obtain ⟨cs, rfl, h6, h1⟩ := jat_cells hJ
  obtain ⟨n, hn⟩ : ∃ n, path.length = n := ⟨_, rfl⟩
  obtain ⟨RR, hRR⟩ : ∃ R, getP j path = R := ⟨_, rfl⟩
  obtain ⟨W, hW⟩ : ∃ W, (w.alloc (.cells cs.toArray 27)).alloc (.cells zeroJ.toArray 27) = W := ⟨_, rfl⟩
  have hgW : Gr w W := hW ▸ (Gr.alloc _ _).trans (Gr.alloc _ _)
  have hsz : W.heap.size = w.heap.size + 2 := by rw [← hW]; simp
  have hbx : Holds W w.heap.size cs 27 := by rw [← hW]; exact (holds_new w _ 27).alloc _
  have hz0 : Holds W (w.heap.size + 1) zeroJ 27 := by
    have := holds_new (w.alloc (.cells cs.toArray 27)) zeroJ 27
    rw [hW] at this
    simpa using this
  have hn64 : (n : Int) ≤ 9223372036854775806 := by unfold maxLen at hpl; omega
  rw [hRR, hn]
  subst hW
  go_enter Tryd.func12, Tryd.ntmps12
  go_wp2_with fail
  go_loopw [11] (fun c wr => ∃ (i : Nat) (j' : J) (ds : List Value), c = .int .i64 (i : Int) ∧ i ≤ n ∧ JAt w0 S j' (.agg ds.toArray) ∧ Fits j' ∧ FitC j' ∧ Holds wr w.heap.size ds 27 ∧ Holds wr (w.heap.size + 1) zeroJ 27 ∧ Gr w wr ∧ getP j' (path.drop i) = RR) (fun c _ => n - (intOf c).toNat)
  case atStart => exact ⟨0, j, cs, rfl, by omega, hJ, hF, hC, hbx, hz0, hgW, by rw [List.drop_zero]; exact hRR⟩
  case round =>
    obtain ⟨i, j', ds, rfl, hi, hJr, hFr, hCr, hbr, hzr, hgw, hR⟩ := hrel
    clear hJ hF hC hbx hz0 hRR h6 h1
    rcases Nat.lt_or_ge i n with hlt | hge
    · have hce : path[i]? = some path[i] := List.getElem?_eq_getElem (by omega)
      rw [List.drop_eq_getElem_cons (show i < path.length by omega)] at hR
      obtain ⟨g, o, rfl, _, hgl, hrg⟩ := hp.resolve_left (by intro e; have e2 : path = [] := (by simpa using e); rw [e2] at hn; simp at hn; omega)
      have hnm : wr.cell? ⟨g, o + i, none⟩ = some (.string (strL path[i])) := cell_below hgw hgl (hrg i _ (by simp [hce, strV1]))
      have hixa : ∀ w, (Instr.indexAt 25 (.slice (some ⟨g, o, none⟩) n pc) (.int .i64 (i : Int))).run Tryd.prog w = .ok (.pointer (some ⟨g, o + i, none⟩)) w := ix_slice und25 size25 hlt (by omega)
      have g1 : (i : Int) < (n : Int) := by omega
      have hi1 : (i : Int) + 1 ≤ 9223372036854775807 := by omega
      generalize path[i] = nm at *
      generalize hrest : path.drop (i + 1) = rest at *
      generalize hdd : ds.toArray = dA at hJr
      cases hJr with
      | mk k b m s l names la na lc nc es hes h6 hl hlies hnames =>
      have hds : ds = jsonV k b m s la na l.length lc names.length nc := by simpa using congrArg Array.toList hdd
      subst hds
      obtain ⟨hll, hnl, hsl, hfx⟩ := hFr
      obtain ⟨_, _, hcx⟩ := hCr
      have hix : ∀ y, Gr wr y → Calls Tryd.prog 26 #[.slice na names.length nc, .string (strL nm)] y fun e z => e = .returned (.int .i64 (match posN names nm with | some k => (k : Int) | none => -1)) ∧ Gr y z := fun y hy => index_any (hnames.mono fun i h1 h2 => ⟨h1, ((hw.trans hgw).trans hy).block i h2⟩) hnl
      have k0 : wr.cell? ⟨w.heap.size, 0, none⟩ = some (.int .i64 k) := hbr.at 0 _ rfl
      have k4 : wr.cell? ⟨w.heap.size, 4, none⟩ = some (.slice la l.length lc) := hbr.at 4 _ rfl
      have k5 : wr.cell? ⟨w.heap.size, 5, none⟩ = some (.slice na names.length nc) := hbr.at 5 _ rfl
      rw [getP] at hR
      clear hp hpl hdd hnames hce
      by_cases hk : k = 5
      case neg =>
        have gk : (k != 5) = true := by simp [hk]
        rw [if_neg hk] at hR
        subst hR
        clear hes hk
        generalize l.length = ll at *
        generalize (match posN names nm with | some k => (k : Int) | none => -1) = ix at *
        go_wp2_with (first
          | (go_at_call 26; refine (hix _ (Gr.refl _)).mono ?_; rintro e w3 ⟨rfl, hg3⟩; have q0 := cell_below hg3 (hbr.lt) k0; have q4 := cell_below hg3 (hbr.lt) k4; have hz3 := hzr.gr hg3; have hb3 := hbr.gr hg3)
          | (refine wpList_store_all rfl 27 (.tmp 4) (.tmp 33) rfl (w.heap.size + 1) rfl zeroJ rfl 27 zeroJ hz3 (by kernel_rfl) rfl one_zero ?_; intro w5 hT5))
        refine bodyPost_ret (results_row1 (p := 4) (t := 5) (by kernel_rfl) _ w5 (w.heap.size + 1) zeroJ _ _ rfl rfl hT5.holds Tryd.underlying27 rfl (by kernel_rfl)) rfl ?_
        exact ⟨gr_turned (hgw.trans hg3) hT5 (by omega), rfl⟩
      subst hk
      rw [if_pos rfl] at hR
      cases hpos : posN names nm with
      | none =>
        rw [hpos] at hR hix
        subst hR
        clear hes
        generalize l.length = ll at *
        go_wp2_with (first
          | (go_at_call 26; refine (hix _ (Gr.refl _)).mono ?_; rintro e w3 ⟨rfl, hg3⟩; have q0 := cell_below hg3 (hbr.lt) k0; have q4 := cell_below hg3 (hbr.lt) k4; have hz3 := hzr.gr hg3; have hb3 := hbr.gr hg3)
          | (refine wpList_store_all rfl 27 (.tmp 4) (.tmp 33) rfl (w.heap.size + 1) rfl zeroJ rfl 27 zeroJ hz3 (by kernel_rfl) rfl one_zero ?_; intro w5 hT5))
        refine bodyPost_ret (results_row1 (p := 4) (t := 5) (by kernel_rfl) _ w5 (w.heap.size + 1) zeroJ _ _ rfl rfl hT5.holds Tryd.underlying27 rfl (by kernel_rfl)) rfl ?_
        exact ⟨gr_turned (hgw.trans hg3) hT5 (by omega), rfl⟩
      | some q =>
        rw [hpos] at hR hix
        rcases Nat.lt_or_ge q l.length with hq | hq
        case inr =>
          simp only [List.getElem?_eq_none hq] at hR
          subst hR
          have gq : (q : Int) ≥ (l.length : Int) := by omega
          have gq2 : ¬ (q : Int) < 0 := by omega
          clear hes
          generalize l.length = ll at *
          go_wp2_with (first
            | (go_at_call 26; refine (hix _ (Gr.refl _)).mono ?_; rintro e w3 ⟨rfl, hg3⟩; have q0 := cell_below hg3 (hbr.lt) k0; have q4 := cell_below hg3 (hbr.lt) k4; have hz3 := hzr.gr hg3; have hb3 := hbr.gr hg3)
            | (refine wpList_store_all rfl 27 (.tmp 4) (.tmp 33) rfl (w.heap.size + 1) rfl zeroJ rfl 27 zeroJ hz3 (by kernel_rfl) rfl one_zero ?_; intro w5 hT5))
          refine bodyPost_ret (results_row1 (p := 4) (t := 5) (by kernel_rfl) _ w5 (w.heap.size + 1) zeroJ _ _ rfl rfl hT5.holds Tryd.underlying27 rfl (by kernel_rfl)) rfl ?_
          exact ⟨gr_turned (hgw.trans hg3) hT5 (by omega), rfl⟩
        simp only [List.getElem?_eq_getElem hq] at hR
        have hx : l[q]? = some l[q] := List.getElem?_eq_getElem hq
        have hce : es[q]? = some (es[q]'(by omega)) := List.getElem?_eq_getElem (by omega)
        have d6 := h6 _ (List.mem_of_getElem? hce)
        have d1 := es_one hes hl _ (List.mem_of_getElem? hce)
        have hJx := hl q _ _ hx hce
        have hFx := hfx _ (List.mem_of_getElem? hx)
        have hCx := hcx _ (List.mem_of_getElem? hx)
        obtain ⟨g', off, rfl, hgS, hrng⟩ := hlies.elemG (hw.trans hgw) h6 hce
        have hixe : ∀ w, (Instr.indexAt 24 (.slice (some ⟨g', off, none⟩) l.length lc) (.int .i64 (q : Int))).run Tryd.prog w = .ok (.pointer (some ⟨g', off + q * 6, none⟩)) w := ix_slice und24 size27 hq rfl
        have hgS2 : g' < wr.heap.size := Nat.lt_of_lt_of_le hgS (hw.trans hgw).size
        have gq : ¬ (q : Int) ≥ (l.length : Int) := by omega
        have gq2 : ¬ (q : Int) < 0 := by omega
        generalize l[q] = x at *
        generalize es[q]'(by omega) = d at *
        have hwr : IntKind.i64.wrap ((i : Int) + 1) = ((i + 1 : Nat) : Int) := by rw [wrap_in (by omega) (by omega)]; omega
        clear hes h6 hl hlies hfx hcx hx hce hi1
        generalize l.length = ll at *
        go_wp2_with (first
          | (go_at_call 26; refine (hix _ (Gr.refl _)).mono ?_; rintro e w3 ⟨rfl, hg3⟩; have q0 := cell_below hg3 (hbr.lt) k0; have q4 := cell_below hg3 (hbr.lt) k4; have hz3 := hzr.gr hg3; have hb3 := hbr.gr hg3; have hrng4 := range_gr hrng hg3 hgS2)
          | (refine wpList_load_part rfl 27 (.tmp 37) rfl g' (off + q * 6) rfl d _ hrng4 Tryd.underlying27 rfl (by rw [d6]; kernel_rfl) ?_)
          | (refine wpList_store_all rfl 27 (.tmp 2) (.tmp 38) rfl w.heap.size rfl d rfl 27 (jsonV 5 b m s (some ⟨g', off, none⟩) na ll lc names.length nc) hb3 (by rw [d6]; kernel_rfl) (by rw [d6]; rfl) d1 ?_; intro w5 hT5))
        exact ⟨⟨i + 1, x, d, rfl, by omega, hJx, hFx, hCx, hT5.holds, (hT5.others _ (by omega)).trans hz3, gr_turned (hgw.trans hg3) hT5 (Nat.le_refl _), hrest ▸ hR⟩, by simp; omega⟩
    · have hin : i = n := by omega
      subst hin
      have g1 : ¬ (i : Int) < (i : Int) := by omega
      rw [List.drop_of_length_le (by omega)] at hR
      have hR : some j' = RR := by
        cases j'; exact hR
      subst hR
      obtain ⟨cs', e, h6, h1⟩ := jat_cells hJr
      have : ds = cs' := by simpa using e
      subst this
      have hcp := copied_ok hJr hCr
      go_wp2_with (first
        | (refine wpList_load_part rfl 27 (.tmp 2) rfl w.heap.size 0 rfl ds _ (range_of hbr) Tryd.underlying27 rfl (by rw [h6]; kernel_rfl) ?_)
        | (go_at_call 24; refine (hcp wr (hw.trans hgw)).mono ?_; rintro e w3 ⟨u, rfl, hg3, hJ3⟩; obtain ⟨d, rfl, d6, d1⟩ := jat_cells hJ3; have hz3 := hzr.gr hg3)
        | (refine wpList_store_all rfl 27 (.tmp 4) (.tmp 41) rfl (w.heap.size + 1) rfl d rfl 27 zeroJ hz3 (by rw [d6]; kernel_rfl) (by rw [d6]; rfl) d1 ?_; intro w5 hT5))
      refine bodyPost_ret (results_row1 (p := 4) (t := 5) (by kernel_rfl) _ w5 (w.heap.size + 1) d _ _ rfl rfl hT5.holds Tryd.underlying27 rfl (by rw [d6]; kernel_rfl)) rfl ?_
      have := hgw.size
      have := hzr.lt
      exact ⟨gr_turned (hgw.trans hg3) hT5 (by omega), _, rfl, hJ3.mono fun k h2 h3 => ⟨by omega, hT5.others k (by omega)⟩⟩
end Go.Proofs.YtogippkapadolaaDoor

/- Show of the program. -/
namespace Go.Proofs.YtogippkapadolaaDoor
open Go.RowKit

/-- What Show comes to. -/
def saidJ (j : J) : Value := if rightP 0 j then .tuple #[.string (strL (showJ j)), .int .i64 0] else .tuple #[.string ⟨#[]⟩, .int .i64 1]
theorem Out.nil (B : Nat) (w : World) : Out B w (.slice none 0 0) [] := ⟨rfl, .inl ⟨rfl, rfl⟩⟩
set_option maxHeartbeats 4000000 in
set_option maxRecDepth 100000 in
theorem show_any {w : World} {S : Nat → Prop} {j : J} {v : Value} (h : JAt w S j v) (hS : ∀ i, S i → i < w.heap.size) (hF : Fits j) (hF2 : rightP 0 j = true → Fit j ∧ (showJ j).length + 40 ≤ 140737488355327) (htab : Tab w.heap.size w) :
    Calls Tryd.prog 11 #[v] w fun e w' => e = .returned (saidJ j) ∧ Gr w w' := by
  obtain ⟨cs, rfl, h6, h1⟩ := jat_cells h
  obtain ⟨W, hW⟩ : ∃ W, w.alloc (.cells cs.toArray 27) = W := ⟨_, rfl⟩
  have hg : Gr w W := hW ▸ Gr.alloc _ _
  have hr := right_any (h.gr hg) hF
  have hn : Holds W w.heap.size cs 27 := hW ▸ holds_new w cs 27
  have hl : rightP 0 j = true → ∀ z, Gr W z → Calls Tryd.prog 25 #[.slice none 0 0, .agg cs.toArray] z fun e w' => ∃ u', e = .returned u' ∧ Out w.heap.size w' u' (showJ j) ∧ Gr w w' := by
    intro hR z hz
    obtain ⟨hf, hlen⟩ := hF2 hR
    refine (laid_ok hS h hf z (.slice none 0 0) [] (hg.trans hz) (hg.trans hz).size (Out.nil _ _) (htab.of (hg.trans hz)) (by simpa using hlen)).mono ?_
    rintro e y ⟨u', rfl, h2, h3⟩
    refine ⟨u', rfl, by simpa using h2, (hg.trans hz).trans ?_⟩
    exact ⟨h3.grown.os, h3.grown.tape, h3.grown.output, h3.size, fun k hk => h3.grown.block k hk (by intro e; cases e)⟩
  clear h hF hF2 htab
  unfold saidJ
  generalize rightP 0 j = X at *
  generalize showJ j = Y at *
  subst hW
  cases X with
  | false =>
    go_enter Tryd.func11, Tryd.ntmps11
    go_wp2_with (first
      | (refine wpList_load_part rfl 27 (.tmp 1) rfl w.heap.size 0 rfl cs _ (range_of hn) Tryd.underlying27 rfl (by rw [h6]; kernel_rfl) ?_)
      | (go_at_call 18; refine hr.mono ?_; rintro e w3 ⟨rfl, hg3⟩))
    go_ret2
    exact ⟨rfl, hg.trans hg3⟩
  | true =>
    go_enter Tryd.func11, Tryd.ntmps11
    go_wp2_with (first
      | (refine wpList_load_part rfl 27 (.tmp 1) rfl w.heap.size 0 rfl cs _ (range_of hn) Tryd.underlying27 rfl (by rw [h6]; kernel_rfl) ?_)
      | (go_at_call 18; refine hr.mono ?_; rintro e w3 ⟨rfl, hg3⟩; have hn := hn.gr hg3)
      | (go_at_call 25; refine (hl (by trivial) w3 hg3).mono ?_; rintro e w4 ⟨u', rfl, hO4, hg4⟩))
    rw [convert_own hO4]
    go_wp2
    go_ret2
    exact ⟨rfl, hg4⟩
end Go.Proofs.YtogippkapadolaaDoor

/- awake of the laws. -/
namespace Go.Proofs.YtogippkapadolaaDoor
open Go.RowKit

theorem Tab.up {B B' : Nat} {w : World} (h : Tab B w) (hb : B ≤ B') : Tab B' w := fun z hz => h z (hz.mono hb)
/-- What all functions of the program want of the world. -/
structure Base (w : World) : Prop where
  glob : Glob w
  two : 2 < w.heap.size
  tab : Tab w.heap.size w
theorem Base.gr {w w' : World} (h : Base w) (g : Gr w w') : Base w' := ⟨h.glob.gr g, Nat.lt_of_lt_of_le h.two g.size, (h.tab.of g).up g.size⟩
def awL : J := .mk 4 false 0 [] [.mk 2 false 1 [] [] [], .mk 2 false (-2) [] [] [], .mk 1 true 0 [] [] []] []
def awJ : J := .mk 5 false 0 [] [awL, .mk 3 false 0 [120, 65, 10] [] []] [[97], [98]]
theorem aw_p : wholeP [123, 34, 97, 34, 58, 32, 91, 49, 44, 32, 45, 50, 44, 32, 116, 114, 117, 101, 93, 44, 32, 34, 98, 34, 58, 32, 34, 120, 92, 117, 48, 48, 52, 49, 92, 110, 34, 125] = .ok awJ 38 := by kernel_rfl
theorem aw_q : wholeP [91, 49, 44, 93] = .bad 3 60 := by kernel_rfl
theorem aw_r : rightP 0 awJ = true := by kernel_rfl
theorem aw_s : showJ awJ = [123, 34, 97, 34, 58, 91, 49, 44, 45, 50, 44, 116, 114, 117, 101, 93, 44, 34, 98, 34, 58, 34, 120, 65, 92, 117, 48, 48, 48, 97, 34, 125] := by kernel_rfl
theorem aw_g : getP awJ [[97]] = some awL := by kernel_rfl
theorem aw_h : getP awJ [[97], [120]] = none := by kernel_rfl
theorem aw_said : saidJ awJ = .tuple #[.string ⟨#[123, 34, 97, 34, 58, 91, 49, 44, 45, 50, 44, 116, 114, 117, 101, 93, 44, 34, 98, 34, 58, 34, 120, 65, 92, 117, 48, 48, 48, 97, 34, 125]⟩, .int .i64 0] := by
  unfold saidJ
  rw [aw_r, aw_s]
  rfl
theorem aw_fits : Fits awJ := by
  refine .mk (by decide) (by decide) (by intro x hx; simp at hx; rcases hx with rfl | rfl <;> decide) (by
    intro x hx
    simp at hx
    rcases hx with rfl | rfl
    · refine .mk (by decide) (by decide) (by intro x hx; simp at hx) (by
        intro x hx
        simp at hx
        rcases hx with rfl | rfl | rfl <;> exact .mk (by decide) (by decide) (by intro x hx; simp at hx) (by intro x hx; simp at hx))
    · exact .mk (by decide) (by decide) (by intro x hx; simp at hx) (by intro x hx; simp at hx))
theorem aw_fitc : FitC awJ := by
  refine .mk (by decide) (by decide) (by
    intro x hx
    simp at hx
    rcases hx with rfl | rfl
    · refine .mk (by decide) (by decide) (by
        intro x hx
        simp at hx
        rcases hx with rfl | rfl | rfl <;> exact .mk (by decide) (by decide) (by intro x hx; simp at hx))
    · exact .mk (by decide) (by decide) (by intro x hx; simp at hx))
theorem aw_fit : Fit awJ := by
  refine .mk (by intro _; rfl) (by decide) (by decide) (by decide) (by
    intro x hx
    simp at hx
    rcases hx with rfl | rfl
    · refine .mk (by intro h; cases h) (by decide) (by decide) (by decide) (by
        intro x hx
        simp at hx
        rcases hx with rfl | rfl | rfl <;> exact .mk (by intro h; cases h) (by decide) (by decide) (by decide) (by intro x hx; simp at hx))
    · exact .mk (by intro h; cases h) (by decide) (by decide) (by decide) (by intro x hx; simp at hx))
/-- A struct of its own cell: what the cell's block holds, and what it says. -/
structure Var (w : World) (N : Nat) (cs : List Value) (j : J) : Prop where
  holds : Holds w N cs 27
  len : cs.length = 6
  says : JAt w (fun i => i < w.heap.size ∧ i ≠ N) j (.agg cs.toArray)
theorem Var.gr {w w' : World} {N : Nat} {cs : List Value} {j : J} (h : Var w N cs j) (g : Gr w w') : Var w' N cs j := ⟨h.holds.gr g, h.len, h.says.mono fun i h1 h2 => ⟨⟨Nat.lt_of_lt_of_le h1.1 g.size, h1.2⟩, g.block i h2⟩⟩
theorem jat_lt {w : World} {S : Nat → Prop} {j : J} {v : Value} (h : JAt w S j v) : JAt w (fun i => i < w.heap.size) j v := h.mono fun _ _ h2 => ⟨h2, rfl⟩
theorem Var.new {w w2 : World} {S : Nat → Prop} {cs : List Value} {j : J} (h : JAt w S j (.agg cs.toArray)) (hl : cs.length = 6) (hT : Turned w.heap.size (w.alloc (.cells zeroJ.toArray 27)) w2 cs 27) : Var w2 w.heap.size cs j :=
  ⟨hT.holds, hl, (jat_lt h).mono fun i h1 h2 => ⟨⟨Nat.lt_of_lt_of_le h1 (gr_new hT).size, by omega⟩, (gr_new hT).block i h2⟩⟩
theorem parse_ok {s : ByteArray} {j : J} {p : Nat} {w : World} (hB : Base w) (hs : s.size ≤ 1099511627775) (h : wholeP s.data.toList = .ok j p) :
    Calls Tryd.prog 9 #[.string s] w fun e w' => ∃ cs, e = .returned (.tuple #[.agg (cs : List Value).toArray, .int .i64 0, .int .i64 0]) ∧ cs.length = 6 ∧ (∀ x ∈ cs, x.oneCell' = true) ∧ JAt w' (fun i => w.heap.size ≤ i) j (.agg cs.toArray) ∧ Gr w w' := by
  refine (parse_any hs hB.glob hB.two).mono ?_
  rw [h]
  rintro e w' ⟨hg, v, rfl, hJ⟩
  obtain ⟨cs, rfl, h6, h1⟩ := jat_cells hJ
  exact ⟨cs, rfl, h6, h1, hJ, hg⟩
theorem parse_bad {s : ByteArray} {q : Nat} {er : Int} {w : World} (hB : Base w) (hs : s.size ≤ 1099511627775) (h : wholeP s.data.toList = .bad q er) :
    Calls Tryd.prog 9 #[.string s] w fun e w' => e = .returned (.tuple #[.agg zeroJ.toArray, .int .i64 (q : Int), .int .i64 er]) ∧ Gr w w' := by
  refine (parse_any hs hB.glob hB.two).mono ?_
  rw [h]
  rintro e w' ⟨hg, rfl⟩
  exact ⟨rfl, hg⟩
theorem lies_new (w : World) (cs : List Value) (t : TypeId) : Lies (w.alloc (.cells cs.toArray t)) (fun _ => True) (some ⟨w.heap.size, 0, none⟩) cs :=
  .inr ⟨w.heap.size, 0, rfl, trivial, (holds_new w cs t).lt, range_of (holds_new w cs t)⟩
theorem jat_at {w : World} {S : Nat → Prop} {k : Int} {b : Bool} {n : Int} {s : List UInt8} {l : List J} {names : List (List UInt8)} {cs : List Value} (h : JAt w S (.mk k b n s l names) (.agg cs.toArray)) :
    ∃ la na lc nc es, cs = jsonV k b n s la na l.length lc names.length nc ∧ (es : List (List Value)).length = l.length ∧ (∀ c ∈ es, c.length = 6) ∧ (∀ (i : Nat) (x : J) (c : List Value), l[i]? = some x → es[i]? = some c → JAt w S x (.agg c.toArray)) ∧ Lies w S la es.flatten ∧ Lies w S na (names.map strV1) := by
  generalize hv : (Value.agg cs.toArray) = v at h
  cases h with
  | mk k b n s l names la na lc nc es hes h6 hl hlies hnames =>
    refine ⟨la, na, lc, nc, es, ?_, hes, h6, hl, hlies, hnames⟩
    simpa using hv
theorem Var.cells {w : World} {N : Nat} {k : Int} {b : Bool} {n : Int} {s : List UInt8} {la na : Option Addr} {ll lc nl nc : Nat} {j : J} (h : Var w N (jsonV k b n s la na ll lc nl nc) j) :
    w.cell? ⟨N, 0, none⟩ = some (.int .i64 k) ∧ w.cell? ⟨N, 1, none⟩ = some (.bool b) ∧ w.cell? ⟨N, 2, none⟩ = some (.int .i64 n) ∧ w.cell? ⟨N, 3, none⟩ = some (.string (strL s)) ∧ w.cell? ⟨N, 4, none⟩ = some (.slice la ll lc) ∧ w.cell? ⟨N, 5, none⟩ = some (.slice na nl nc) :=
  ⟨h.holds.at 0 _ rfl, h.holds.at 1 _ rfl, h.holds.at 2 _ rfl, h.holds.at 3 _ rfl, h.holds.at 4 _ rfl, h.holds.at 5 _ rfl⟩
theorem got_some {w : World} {j x : J} {path : List (List UInt8)} {e : Ending} {w' : World} (hx : getP j path = some x) (h : GotP w (getP j path) e w') : ∃ cs, e = .returned (.tuple #[.agg (cs : List Value).toArray, .bool true]) ∧ cs.length = 6 ∧ (∀ x ∈ cs, x.oneCell' = true) ∧ JAt w' (fun k => w.heap.size ≤ k) x (.agg cs.toArray) ∧ Gr w w' := by
  rw [hx] at h
  obtain ⟨hg, u, rfl, hJ⟩ := h
  obtain ⟨cs, rfl, h6, h1⟩ := jat_cells hJ
  exact ⟨cs, rfl, h6, h1, hJ, hg⟩
theorem got_none {w : World} {j : J} {path : List (List UInt8)} {e : Ending} {w' : World} (hx : getP j path = none) (h : GotP w (getP j path) e w') : e = .returned (.tuple #[.agg zeroJ.toArray, .bool false]) ∧ Gr w w' := by
  rw [hx] at h
  exact ⟨h.2, h.1⟩
set_option maxHeartbeats 4000000 in
set_option maxRecDepth 100000 in
theorem awake_any {w : World} (hB : Base w) : Calls Tryd.prog 8 #[] w fun e w' => e = .returned (.bool true) ∧ Gr w w' := by
  have p1 := parse_ok (s := ⟨#[123, 34, 97, 34, 58, 32, 91, 49, 44, 32, 45, 50, 44, 32, 116, 114, 117, 101, 93, 44, 32, 34, 98, 34, 58, 32, 34, 120, 92, 117, 48, 48, 52, 49, 92, 110, 34, 125]⟩) hB (by decide) aw_p
  have p2 : ∀ y, Gr w y → _ := fun y hy => parse_bad (s := ⟨#[91, 49, 44, 93]⟩) (hB.gr hy) (by decide) aw_q
  go_enter Tryd.func8, Tryd.ntmps8
  go_wp2_with (first
    | (go_at_call 9; refine p1.mono ?_; rintro e w1 ⟨c1, rfl, c16, c11, hJ1, hg1⟩; clear p1)
    | (refine wpList_store_all rfl 27 (.tmp 1) (.tmp 15) rfl w1.heap.size rfl c1 rfl 27 zeroJ (holds_new w1 zeroJ 27) (by rw [c16]; kernel_rfl) c16.symm c11 ?_; intro w2 hT2; have hg2 := hg1.trans (gr_new hT2); have v2 := Var.new hJ1 c16 hT2; clear hJ1)
    | (refine wpList_load_part rfl 27 (.tmp 1) rfl w1.heap.size 0 rfl c1 _ (range_of (Var.holds (by assumption))) Tryd.underlying27 rfl (by rw [c16]; kernel_rfl) ?_)
    | (go_at_call 11; refine (show_any v2.says (fun i h => h.1) aw_fits (fun _ => ⟨aw_fit, by rw [aw_s]; decide⟩) (hB.gr hg2).tab).mono ?_; rw [aw_said]; rintro e w3 ⟨rfl, hg3'⟩; have hg3 := hg2.trans hg3'; have v3 := v2.gr hg3'; clear v2)
    | (go_at_call 9; refine (p2 w3 hg3).mono ?_; rintro e w4 ⟨rfl, hg4'⟩; have hg4 := hg3.trans hg4'; have v4 := v3.gr hg4'; clear v3)
    | (refine wpList_store_all rfl 27 (.tmp 6) (.tmp 25) rfl w4.heap.size rfl zeroJ rfl 27 zeroJ (holds_new w4 zeroJ 27) (by kernel_rfl) rfl one_zero ?_; intro w5 hT5; have hg5 := hg4.trans (gr_new hT5); have v5 := v4.gr (gr_new hT5); clear v4)
    | (go_at_call 12; refine (get_any v5.says aw_fits aw_fitc (Gr.alloc w5 _) (path := [[97]]) (lies_new w5 _ 9) (by decide)).mono fun e w6 h => ?_; obtain ⟨c6, rfl, c66, c61, hJ6, hg6'⟩ := got_some aw_g h; have hg6 := hg5.trans ((Gr.alloc w5 _).trans hg6'); have v6 := v5.gr ((Gr.alloc w5 _).trans hg6'); clear v5)
    | (refine wpList_store_all rfl 27 (.tmp 9) (.tmp 32) rfl w6.heap.size rfl c6 rfl 27 zeroJ (holds_new w6 zeroJ 27) (by rw [c66]; kernel_rfl) c66.symm c61 ?_; intro w7 hT7; have hg7 := hg6.trans (gr_new hT7); have v7 := v6.gr (gr_new hT7); have x7 := Var.new hJ6 c66 hT7; clear v6)
    | (go_at_call 12; refine (get_any v7.says aw_fits aw_fitc (Gr.alloc w7 _) (path := [[97], [120]]) (lies_new w7 _ 9) (by decide)).mono fun e w8 h => ?_; obtain ⟨rfl, hg8'⟩ := got_none aw_h h; have hg8 := hg7.trans ((Gr.alloc w7 _).trans hg8'); have v8 := v7.gr ((Gr.alloc w7 _).trans hg8'); have x8 := x7.gr ((Gr.alloc w7 _).trans hg8'); clear v7 x7)
    | (refine wpList_store_all rfl 27 (.tmp 11) (.tmp 38) rfl w8.heap.size rfl zeroJ rfl 27 zeroJ (holds_new w8 zeroJ 27) (by kernel_rfl) rfl one_zero ?_; intro w9 hT9; have hg9 := hg8.trans (gr_new hT9); have v9 := v8.gr (gr_new hT9); have x9 := x8.gr (gr_new hT9); clear v8 x8; obtain ⟨la, na, lc, nc, es, hc6, _⟩ := jat_at x9.says; have q9 : w9.cell? ⟨w6.heap.size, 4, none⟩ = some (.slice la 3 lc) := x9.holds.at 4 _ (by rw [hc6]; rfl); obtain ⟨la1, na1, lc1, nc1, es1, rfl, _⟩ := jat_at v9.says; obtain ⟨y0, y1, y2, y3, y4, y5⟩ := v9.cells)
    | (go_at_call 18; refine (right_any v9.says aw_fits).mono ?_; rw [aw_r]; rintro e w10 ⟨rfl, hg10'⟩; have hg10 := hg9.trans hg10'; have v10 := v9.gr hg10'; clear v9; obtain ⟨z0, z1, z2, z3, z4, z5⟩ := v10.cells)
    | (go_at_call 20; refine (same_ok v10.says v10.says aw_fits aw_fits w10 (Gr.refl _)).mono ?_; rw [sameB_eq.2 rfl]; rintro e w11 ⟨rfl, hg11'⟩; have hg11 := hg10.trans hg11'))
  go_ret
  exact ⟨rfl, hg11⟩
end Go.Proofs.YtogippkapadolaaDoor

/- Lists within lists: what the parser makes of their text. -/
namespace Go.Proofs.YtogippkapadolaaDoor

def openT (o : Bool) : List UInt8 := if o then [123, 34, 97, 34, 58] else [91]
def closeT (o : Bool) : List UInt8 := if o then [125] else [93]
def nestT : List Bool → List UInt8
  | [] => [55]
  | o :: r => openT o ++ nestT r ++ closeT o
def nestJ : List Bool → J
  | [] => .mk 2 false 7 [] [] []
  | o :: r => .mk (if o then 5 else 4) false 0 [] [nestJ r] (if o then [[97]] else [])
theorem here_pre (A B : List UInt8) (n : Nat) (h : A.length = n) : hereP (A ++ B) n = (B.head?).getD 0 := by
  subst h
  unfold hereP
  rw [List.getElem?_append_right (Nat.le_refl _), Nat.sub_self, List.head?_eq_getElem?]
theorem bind_val {α β : Type} (v : α) (p : Nat) (f : α → Nat → Res β) : (Res.ok v p).bind f = f v p := rfl
theorem bind_bad {α β : Type} (p : Nat) (e : Int) (f : α → Nat → Res β) : (Res.bad p e : Res α).bind f = .bad p e := rfl
theorem skip_id {L : List UInt8} {p : Nat} (h : blankB (hereP L p) = false) : ∀ f, skipP L f p = p
  | 0 => rfl
  | f + 1 => by rw [skipP, h]; simp
theorem next_id {L : List UInt8} {p : Nat} (h : blankB (hereP L p) = false) : nextP L p = p := skip_id h _
theorem nest_head : ∀ (fs : List Bool) (B : List UInt8), ∃ c r, nestT fs ++ B = c :: r ∧ blankB c = false ∧ c ≠ 93 ∧ c ≠ 125 ∧ c ≠ 44
  | [], B => ⟨55, B, rfl, rfl, by decide, by decide, by decide⟩
  | false :: r, B => ⟨91, nestT r ++ closeT false ++ B, by simp [nestT, openT], rfl, by decide, by decide, by decide⟩
  | true :: r, B => ⟨123, [34, 97, 34, 58] ++ nestT r ++ closeT true ++ B, by simp [nestT, openT], rfl, by decide, by decide, by decide⟩
/-- What may stand behind a value here. -/
def endB (B : List UInt8) : Prop := B = [] ∨ ∃ c r, B = c :: r ∧ (c = 93 ∨ c = 125)
theorem num_seven {A B : List UInt8} {n : Nat} (h : A.length = n) (hB : endB B) : numP (A ++ 55 :: B) n = .ok 7 (n + 1) := by
  have h1 : hereP (A ++ 55 :: B) n = 55 := by rw [here_pre A _ n h]; rfl
  have h2 : hereP (A ++ 55 :: B) (n + 1) = B.head?.getD 0 := by
    rw [show A ++ 55 :: B = (A ++ [55]) ++ B by simp]
    exact here_pre _ _ _ (by simp [h])
  have h3 : digitB (B.head?.getD 0) = false := by
    rcases hB with rfl | ⟨c, r, rfl, rfl | rfl⟩ <;> rfl
  have hm : minusP (A ++ 55 :: B) n = n := by unfold minusP; rw [h1]; rfl
  have hd : ∀ f, digsP (A ++ 55 :: B) f (n + 1) = n + 1 := by
    intro f
    cases f with
    | zero => rfl
    | succ f => rw [digsP, h2, h3]; rfl
  have he : numEnd (A ++ 55 :: B) n = n + 1 := by
    unfold numEnd
    rw [hm, h1]
    have : (A ++ 55 :: B).length - n = B.length + 1 := by simp; omega
    rw [this, digsP, h1]
    rw [if_neg (by decide), if_pos (by decide)]
    exact hd _
  unfold numP
  rw [hm, h1, he]
  have : ((A ++ 55 :: B).take (n + 1)).drop n = [55] := by
    subst h
    rw [show A ++ 55 :: B = A ++ ([55] ++ B) by simp, List.take_append, List.take_of_length_le (by omega), Nat.add_sub_cancel_left, List.drop_append, List.drop_of_length_le (by omega)]
    simp
  rw [if_pos (by decide), this]
  rfl
/-- The name of an object here. -/
theorem name_a {A B : List UInt8} {n : Nat} (h : A.length = n) : nameP (A ++ 34 :: 97 :: 34 :: 58 :: B) [] n = .ok [97] (n + 4) := by
  have h0 : hereP (A ++ 34 :: 97 :: 34 :: 58 :: B) n = 34 := by rw [here_pre A _ n h]; rfl
  have h1 : hereP (A ++ 34 :: 97 :: 34 :: 58 :: B) (n + 1) = 97 := by
    rw [show A ++ 34 :: 97 :: 34 :: 58 :: B = (A ++ [34]) ++ 97 :: 34 :: 58 :: B by simp, here_pre _ _ _ (by simp [h])]; rfl
  have h2 : hereP (A ++ 34 :: 97 :: 34 :: 58 :: B) (n + 2) = 34 := by
    rw [show A ++ 34 :: 97 :: 34 :: 58 :: B = (A ++ [34, 97]) ++ 34 :: 58 :: B by simp, here_pre _ _ _ (by simp [h])]; rfl
  have h3 : hereP (A ++ 34 :: 97 :: 34 :: 58 :: B) (n + 3) = 58 := by
    rw [show A ++ 34 :: 97 :: 34 :: 58 :: B = (A ++ [34, 97, 34]) ++ 58 :: B by simp, here_pre _ _ _ (by simp [h])]; rfl
  have hl : (A ++ 34 :: 97 :: 34 :: 58 :: B).length + 1 - (n + 1) = (B.length + 2) + 1 + 1 := by simp; omega
  have hq : quoP (A ++ 34 :: 97 :: 34 :: 58 :: B) n = .ok [97] (n + 3) := by
    unfold quoP
    rw [passP, h0, if_pos rfl, passP]
    show quoL _ (_ + 1 - (n + 1)) (n + 1) [] = _
    rw [hl, quoL, h1, if_neg (by decide), if_neg (by decide), if_neg (by decide), quoL, h2, if_pos rfl]
    rfl
  unfold nameP
  rw [next_id (by rw [h0]; rfl), hq]
  rw [bind_val, if_neg (by simp), next_id (by rw [h3]; rfl), passP, h3, if_pos rfl]
  rfl
theorem each_one1 {σ : Type} {L : List UInt8} {close : UInt8} {step : σ → Nat → Res σ} {x y : σ} {p q : Nat} {c : UInt8} (h1 : hereP L (p + 1) = c) (hb : blankB c = false) (hc : c ≠ close) (hs : step x (p + 1) = .ok y q) (h3 : hereP L q = close) (hcl : blankB close = false) (h44 : close ≠ 44) :
    eachP L close step x p = .ok y (q + 1) := by
  have hE : ∀ f, eachL L step f y q = .ok y q := by
    intro f
    cases f with
    | zero => rw [eachL, next_id (by rw [h3]; exact hcl)]
    | succ f => rw [eachL, next_id (by rw [h3]; exact hcl), h3, if_neg h44]
  unfold eachP
  rw [next_id (by rw [h1]; exact hb), h1, if_neg hc, hs, bind_val, hE, bind_val, passP, h3, if_pos rfl, passP, bind_val]
theorem each_bad1 {σ : Type} {L : List UInt8} {close : UInt8} {step : σ → Nat → Res σ} {x : σ} {p q : Nat} {er : Int} {c : UInt8} (h1 : hereP L (p + 1) = c) (hb : blankB c = false) (hc : c ≠ close) (hs : step x (p + 1) = .bad q er) :
    eachP L close step x p = .bad q er := by
  unfold eachP
  rw [next_id (by rw [h1]; exact hb), h1, if_neg hc, hs, bind_bad, bind_bad]
theorem close_end {o : Bool} {B : List UInt8} : endB (closeT o ++ B) := by
  cases o
  · exact .inr ⟨93, B, rfl, .inl rfl⟩
  · exact .inr ⟨125, B, rfl, .inr rfl⟩
theorem val_seven {A B : List UInt8} {n : Nat} (h : A.length = n) (hB : endB B) (d : Nat) : valP (A ++ (nestT [] ++ B)) d n = .ok (nestJ []) (n + (nestT []).length) := by
  have h1 : hereP (A ++ (nestT [] ++ B)) n = 55 := by rw [here_pre A _ n h]; rfl
  have hv : ∀ inner, val2 (A ++ (nestT [] ++ B)) inner n = .ok (nestJ []) (n + 1) := by
    intro inner
    unfold val2
    rw [h1]
    show (numP (A ++ 55 :: B) n).bind _ = _
    rw [num_seven h hB]
    rfl
  cases d with
  | zero => rw [valP, next_id (by rw [h1]; rfl)]; exact hv _
  | succ d => rw [valP, next_id (by rw [h1]; rfl)]; exact hv _
/-- One level more. -/
theorem val_step {d : Nat} {o : Bool} {r : List Bool} {A B : List UInt8} {n : Nat} (h : A.length = n) : ∃ c L, A ++ (nestT (o :: r) ++ B) = L ∧ L = (A ++ openT o) ++ (nestT r ++ (closeT o ++ B)) ∧
    (∀ j q, valP L d (n + (openT o).length) = .ok j q → hereP L q = c → closeT o = [c] → valP L (d + 1) n = .ok (.mk (if o then 5 else 4) false 0 [] [j] (if o then [[97]] else [])) (q + 1)) ∧
    (∀ q er, valP L d (n + (openT o).length) = .bad q er → valP L (d + 1) n = .bad q er) ∧ valP L 0 n = .bad n 61 ∧ closeT o = [c] := by
  cases o with
  | false =>
    obtain ⟨c, t, hc, hb, h93, h125, h44⟩ := nest_head r (93 :: B)
    refine ⟨93, (A ++ [91]) ++ (nestT r ++ (93 :: B)), by simp [nestT, openT, closeT], rfl, ?_⟩
    have h1 : hereP ((A ++ [91]) ++ (nestT r ++ (93 :: B))) n = 91 := by rw [List.append_assoc, here_pre A _ n h]; rfl
    have h2 : hereP ((A ++ [91]) ++ (nestT r ++ (93 :: B))) (n + 1) = c := by rw [here_pre _ _ _ (by simp [h]), hc]; rfl
    generalize (A ++ [91]) ++ (nestT r ++ (93 :: B)) = L at *
    refine ⟨fun j q hj hq _ => ?_, fun q er hj => ?_, ?_, rfl⟩
    · have hj : valP L d (n + 1) = .ok j q := hj
      rw [valP, next_id (by rw [h1]; rfl)]
      unfold val2
      rw [h1]
      show ((eachP L 93 (stepL (valP L d)) [] n).bind _) = _
      rw [each_one1 h2 hb h93 (y := [j]) (q := q) (by unfold stepL; rw [hj]; rfl) hq rfl (by decide)]
      rfl
    · have hj : valP L d (n + 1) = .bad q er := hj
      rw [valP, next_id (by rw [h1]; rfl)]
      unfold val2
      rw [h1]
      show ((eachP L 93 (stepL (valP L d)) [] n).bind _) = _
      rw [each_bad1 h2 hb h93 (q := q) (er := er) (by unfold stepL; rw [hj]; rfl)]
      rfl
    · rw [valP, next_id (by rw [h1]; rfl)]
      unfold val2
      rw [h1]
      rfl
  | true =>
    refine ⟨125, (A ++ [123, 34, 97, 34, 58]) ++ (nestT r ++ (125 :: B)), by simp [nestT, openT, closeT], rfl, ?_⟩
    have h1 : hereP ((A ++ [123, 34, 97, 34, 58]) ++ (nestT r ++ (125 :: B))) n = 123 := by rw [List.append_assoc, here_pre A _ n h]; rfl
    have h2 : hereP ((A ++ [123, 34, 97, 34, 58]) ++ (nestT r ++ (125 :: B))) (n + 1) = 34 := by
      rw [show (A ++ [123, 34, 97, 34, 58]) ++ (nestT r ++ (125 :: B)) = (A ++ [123]) ++ ([34, 97, 34, 58] ++ (nestT r ++ (125 :: B))) by simp, here_pre _ _ _ (by simp [h])]; rfl
    have hnm : nameP ((A ++ [123, 34, 97, 34, 58]) ++ (nestT r ++ (125 :: B))) [] (n + 1) = .ok [97] (n + 5) := by
      have := name_a (A := A ++ [123]) (B := nestT r ++ (125 :: B)) (n := n + 1) (by simp [h])
      simpa using this
    generalize (A ++ [123, 34, 97, 34, 58]) ++ (nestT r ++ (125 :: B)) = L at *
    refine ⟨fun j q hj hq _ => ?_, fun q er hj => ?_, ?_, rfl⟩
    · have hj : valP L d (n + 5) = .ok j q := hj
      rw [valP, next_id (by rw [h1]; rfl)]
      unfold val2
      rw [h1]
      show ((eachP L 125 (stepO L (valP L d)) ([], []) n).bind _) = _
      rw [each_one1 h2 rfl (by decide) (y := ([[97]], [j])) (q := q) (by unfold stepO; dsimp only; rw [hnm, bind_val, hj]; rfl) hq rfl (by decide)]
      rfl
    · have hj : valP L d (n + 5) = .bad q er := hj
      rw [valP, next_id (by rw [h1]; rfl)]
      unfold val2
      rw [h1]
      show ((eachP L 125 (stepO L (valP L d)) ([], []) n).bind _) = _
      rw [each_bad1 h2 rfl (by decide) (q := q) (er := er) (by unfold stepO; dsimp only; rw [hnm, bind_val, hj]; rfl)]
      rfl
    · rw [valP, next_id (by rw [h1]; rfl)]
      unfold val2
      rw [h1]
      rfl
theorem val_nest : ∀ (fs : List Bool) (d : Nat) (A B : List UInt8) (n : Nat), A.length = n → endB B → fs.length ≤ d → valP (A ++ (nestT fs ++ B)) d n = .ok (nestJ fs) (n + (nestT fs).length)
  | [], d, A, B, n, h, hB, _ => val_seven h hB d
  | o :: r, 0, A, B, n, h, hB, hd => by simp at hd
  | o :: r, d + 1, A, B, n, h, hB, hd => by
    obtain ⟨c, L, e1, e2, h1, _, _, hc⟩ := val_step (d := d) (o := o) (r := r) (B := B) h
    have v := val_nest r d (A ++ openT o) (closeT o ++ B) (n + (openT o).length) (by simp [h]) close_end (by simpa using hd)
    rw [← e2] at v
    rw [e1]
    have hq : hereP L (n + (openT o).length + (nestT r).length) = c := by
      rw [e2, ← List.append_assoc, here_pre _ _ _ (by simp [h]; omega), hc]; rfl
    have e3 : n + (openT o).length + (nestT r).length + 1 = n + (nestT (o :: r)).length := by
      rw [nestT, hc]
      simp only [List.length_append, List.length_cons, List.length_nil]
      omega
    rw [h1 _ _ v hq hc, nestJ, e3]
theorem val_deep : ∀ (d : Nat) (fs : List Bool) (A B : List UInt8) (n : Nat), A.length = n → d < fs.length → valP (A ++ (nestT fs ++ B)) d n = .bad (n + ((fs.take d).flatMap openT).length) 61
  | _, [], _, _, _, _, hd => by simp at hd
  | 0, o :: r, A, B, n, h, _ => by
    obtain ⟨c, L, e1, _, _, _, h0, _⟩ := val_step (d := 0) (o := o) (r := r) (B := B) h
    rw [e1, h0]; rfl
  | d + 1, o :: r, A, B, n, h, hd => by
    obtain ⟨c, L, e1, e2, _, h2, _, hc⟩ := val_step (d := d) (o := o) (r := r) (B := B) h
    have v := val_deep d r (A ++ openT o) (closeT o ++ B) (n + (openT o).length) (by simp [h]) (by simpa using hd)
    rw [← e2] at v
    rw [e1, h2 _ _ v]
    congr 1
    simp [List.take_succ_cons]; omega
theorem whole_nest {fs : List Bool} (h : fs.length ≤ 16) : ∃ p, wholeP (nestT fs) = .ok (nestJ fs) p := by
  have v := val_nest fs 16 [] [] 0 rfl (.inl rfl) h
  rw [List.nil_append, List.append_nil, Nat.zero_add] at v
  refine ⟨(nestT fs).length, ?_⟩
  unfold wholeP
  rw [v, bind_val]
  have : hereP (nestT fs) (nestT fs).length = 0 := by unfold hereP; simp
  rw [next_id (by rw [this]; rfl), if_pos rfl]
theorem whole_deep {fs : List Bool} (h : 16 < fs.length) : wholeP (nestT fs) = .bad ((fs.take 16).flatMap openT).length 61 := by
  have v := val_deep 16 fs [] [] 0 rfl h
  rw [List.nil_append, List.append_nil, Nat.zero_add] at v
  unfold wholeP
  rw [v, bind_bad]
theorem nest_text : ∀ (fs : List Bool), nestT fs = fs.flatMap openT ++ ([55] ++ fs.reverse.flatMap closeT)
  | [] => rfl
  | o :: r => by
    rw [nestT, nest_text r]
    simp
end Go.Proofs.YtogippkapadolaaDoor
