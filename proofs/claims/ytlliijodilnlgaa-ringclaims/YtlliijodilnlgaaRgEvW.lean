/- RingEven's walk (code by tools/gen_evw.py). -/
import Derived.Test.YtlliijodilnlgaaRgEvR
import Derived.ChangeKeysEq
namespace Go.Proofs.Ytlliijodilnlgaa
open Go.RowKit
def c4_ra : Code := (((Code.region 7 q4_7 false).seq (Code.cond (Operand.tmp 35) Code.skip (Code.exit 0))).seq ((Code.block 1 ((Code.region 9 q4_9 false).seq (Code.cond (Operand.tmp 42) (Code.region 10 q4_10 false) Code.skip))).seq (Code.region 8 q4_8 false)))
def c4_la : Code := (Code.block 0 (c4_ra.loop))
def c4_rb : Code := (((Code.region 15 q4_15 false).seq (Code.cond (Operand.tmp 60) Code.skip (Code.exit 2))).seq ((Code.block 3 ((Code.region 17 q4_17 false).seq (((Code.region 18 q4_18 false).seq (Code.cond (Operand.tmp 67) (Code.region 19 q4_19 false) Code.skip)).seq (((Code.region 20 q4_20 false).seq (Code.cond (Operand.tmp 73) (Code.region 21 q4_21 false) Code.skip)).seq (Code.region 22 q4_22 false))))).seq (Code.region 16 q4_16 false)))
def c4_lb : Code := (Code.block 2 (c4_rb.loop))
def c4_rc : Code := (((Code.region 26 q4_26 false).seq (Code.cond (Operand.tmp 87) Code.skip (Code.exit 4))).seq ((Code.block 5 (((Code.region 28 q4_28 true).seq (Code.cond (Operand.tmp 96) (Code.region 29 q4_29 false) Code.skip)).seq ((Code.region 30 q4_30 true).seq (Code.cond (Operand.tmp 105) (Code.region 31 q4_31 false) Code.skip)))).seq (Code.region 27 q4_27 false)))
def c4_lc : Code := (Code.block 4 (c4_rc.loop))
def c4_t3 : Code := ((Code.region 32 q4_32 false).seq Code.ret)
def c4_t2 : Code := ((Code.region 23 q4_23 false).seq ((Code.region 24 q4_24 false).seq (((Code.region 25 q4_25 false).seq c4_lc).seq c4_t3)))
def c4_t1 : Code := ((Code.region 13 q4_13 false).seq (((Code.region 14 q4_14 false).seq c4_lb).seq c4_t2))
def c4_c11 : Code := ((Code.region 11 q4_11 false).seq (Code.cond (Operand.tmp 52) ((Code.region 12 q4_12 false).seq Code.ret) Code.skip))
def c4_l1 : Code := (((Code.region 6 q4_6 false).seq c4_la).seq (c4_c11.seq c4_t1))
def c4_c3 : Code := ((Code.region 3 q4_3 true).seq (Code.cond (Operand.tmp 31) ((Code.region 4 q4_4 false).seq Code.ret) Code.skip))
def c4 : Code := ((Code.region 0 q4_0 false).seq ((Code.region 1 q4_1 false).seq ((Code.region 2 q4_2 false).seq (c4_c3.seq ((Code.region 5 q4_5 false).seq c4_l1)))))
/-- What stands through the law: the arguments, the boxed owners, that it is awake. -/
structure Ev (w : World) (b : Nat) (v1 v2 : Value) (o : List Int) (ac : Act) (x : World) : Prop where
  z : ac.tmps.size = 120
  df : ac.defers = []
  e1 : ac.eval (.tmp 1) = v1
  e2 : ac.eval (.tmp 2) = v2
  e3 : ac.eval (.tmp 3) = .pointer (some ⟨b, 0, none⟩)
  bl : Below b w x
  h3 : Holds x b (intV o) 23
theorem Ev.next {w x y : World} {b M : Nat} {v1 v2 : Value} {o : List Int} {ac ad : Act} {D : List Nat} (h : Ev w b v1 v2 o ac x) (hA : After D ac ad) (hD : (D.all fun s => decide (4 ≤ s)) = true) (hb : Below M x y) (hM : b < M) : Ev w b v1 v2 o ad y :=
  ⟨hA.size.trans h.z, hA.defers.trans h.df, hA.keep hD (by omega) h.e1, hA.keep hD (by omega) h.e2, hA.keep hD (by omega) h.e3, h.bl.trans (hb.mono (by omega)), h.h3.below hb hM⟩
theorem Ev.gr {w x y : World} {b : Nat} {v1 v2 : Value} {o : List Int} {ac ad : Act} {D : List Nat} (h : Ev w b v1 v2 o ac x) (hA : After D ac ad) (hD : (D.all fun s => decide (4 ≤ s)) = true) (g : Gr x y) : Ev w b v1 v2 o ad y := h.next hA hD g h.h3.lt
/-- With the claim. -/
structure Ew (w : World) (b M : Nat) (v1 v2 : Value) (o c : List Int) (ac : Act) (x : World) : Prop where
  ev : Ev w b v1 v2 o ac x
  e7 : ac.eval (.tmp 7) = .bool true
  cl : ∃ b8, ac.eval (.tmp 8) = .pointer (some ⟨b8, 0, none⟩) ∧ Holds x b8 (intV c) 23 ∧ b8 < M
  ltb : b < M
  szM : M ≤ x.heap.size
theorem Ew.next {w x y : World} {b M : Nat} {v1 v2 : Value} {o c : List Int} {ac ad : Act} {D : List Nat} (h : Ew w b M v1 v2 o c ac x) (hA : After D ac ad) (hD : (D.all fun s => decide (9 ≤ s)) = true) (hb : Below M x y) : Ew w b M v1 v2 o c ad y := by
  obtain ⟨ev, e7, ⟨b8, e8, h8, lt8⟩, ltb, szM⟩ := h
  exact ⟨ev.next hA (List.all_eq_true.2 fun s hs => by have := List.all_eq_true.1 hD s hs; simp at this ⊢; omega) hb ltb, hA.keep hD (by omega) e7, ⟨b8, hA.keep hD (by omega) e8, h8.below hb lt8, lt8⟩, ltb, Nat.le_trans szM hb.size⟩
theorem Ew.gr {w x y : World} {b M : Nat} {v1 v2 : Value} {o c : List Int} {ac ad : Act} {D : List Nat} (h : Ew w b M v1 v2 o c ac x) (hA : After D ac ad) (hD : (D.all fun s => decide (9 ≤ s)) = true) (g : Gr x y) : Ew w b M v1 v2 o c ad y := h.next hA hD (g.mono h.szM)
theorem Ew.rise {w x : World} {b M M' : Nat} {v1 v2 : Value} {o c : List Int} {ac : Act} (h : Ew w b M v1 v2 o c ac x) (hM : M ≤ M') (hx : M' ≤ x.heap.size) : Ew w b M' v1 v2 o c ac x := by
  obtain ⟨ev, e7, ⟨b8, e8, h8, lt8⟩, ltb, szM⟩ := h
  exact ⟨ev, e7, ⟨b8, e8, h8, by omega⟩, by omega, hx⟩
theorem ints_at {B : Nat} {w : World} {v : Value} {l : List Int} (h : Ints B w v l) (k : Nat) (hk : k < l.length) : ∃ g of cap, v = .slice (some ⟨g, of, none⟩) l.length cap ∧ g < B ∧ w.cell? ⟨g, of + k, none⟩ = some (.int .i64 (l.getD k 0)) := by
  obtain ⟨a, cap, rfl, _, h0 | ⟨g, of, rfl, hg, hc⟩⟩ := h
  · omega
  · exact ⟨g, of, cap, rfl, hg, hc k hk⟩
theorem cell_below {B : Nat} {x y : World} (h : Below B x y) {g k : Nat} (hg : g < B) {v : Value} (hc : x.cell? ⟨g, k, none⟩ = some v) : y.cell? ⟨g, k, none⟩ = some v := by
  rw [← hc]
  simp only [World.cell?, h.block g hg]
theorem even_la {Q : Exit → Act → World → Prop} {w x : World} {b M : Nat} {v1 v2 : Value} {o c ms : List Int} {ac : Act} (h : Ew w b M v1 v2 o c ac x) (hm : Ints b w v1 ms) (hl : ms.length ≤ 17592186043904) (e9 : ac.eval (.tmp 9) = .slice none 0 0) (e10 : ac.eval (.tmp 10) = .int .i64 ((0 : Nat) : Int))
    (hend : ∀ ad y v9, Ew w b M v1 v2 o c ad y → ad.eval (.tmp 9) = v9 → y.ownsRow M 3 1 v9 (posL ms).length (intV (posL ms)) → Q .normal ad y) : c4_la.wp Try.prog Q ac x := by
  obtain ⟨a1, cap1, hv1⟩ := hm.len
  unfold c4_la
  refine wp_block ?_
  refine wp_loop (fun ad y => ∃ (k : Nat) (v9 : Value), Ew w b M v1 v2 o c ad y ∧ k ≤ ms.length ∧ ad.eval (.tmp 10) = .int .i64 (k : Int) ∧ ad.eval (.tmp 9) = v9 ∧ y.ownsRow M 3 1 v9 (posL (ms.take k)).length (intV (posL (ms.take k)))) (fun ad _ => ms.length - (intOf (ad.eval (.tmp 10))).toNat)
    ⟨0, _, h, Nat.zero_le _, e10, e9, World.ownsRow_nil _ _ _ _⟩ (fun a0 x0 ⟨k, v9, h0, hk, f10, f9, own⟩ => ?_)
  unfold c4_ra
  refine wp_seq (wp_seq (r4_7 h0.ev.z k ms.length cap1 a1 f10 (by rw [h0.ev.e1, hv1]) (fun a2 x2 A2 o2 G2 => ?_)))
  have h2 := h0.gr A2 (by decide) G2
  have g9 := A2.get f9 (by decide)
  have g10 := A2.get f10 (by decide)
  have own2 := owns_gr own G2
  show Code.wp Try.prog (Code.cond _ _ _) _ a2 x2
  refine wp_cond_split o2 (fun q => ?_) (fun q => ?_)
  · have q : (k : Int) < (ms.length : Int) := of_decide_eq_true q
    have hkl : k < ms.length := by omega
    obtain ⟨g, of, cap, hv, hgb, hc⟩ := ints_at hm k hkl
    have hstep := posL_take ms k _ (getD_at ms k hkl)
    generalize ms.getD k 0 = xx at hc hstep
    have hX : ∀ y, Below M x2 y → y.cell? ⟨g, of + k, none⟩ = some (.int .i64 xx) := fun y hy => cell_below (h2.ev.bl.trans (hy.mono (Nat.le_of_lt h2.ltb))) hgb hc
    have hXg : ∀ y, Gr x2 y → y.cell? ⟨g, of + k, none⟩ = some (.int .i64 xx) := fun y hy => hX y (hy.mono h2.szM)
    refine wp_skip ?_
    show Code.wp Try.prog (Code.seq _ _) _ a2 x2
    have fin : ∀ a4 x4 v, Ew w b M v1 v2 o c a4 x4 → a4.eval (.tmp 10) = .int .i64 (k : Int) → a4.eval (.tmp 9) = v → x4.ownsRow M 3 1 v (posL (ms.take (k + 1))).length (intV (posL (ms.take (k + 1)))) → (Code.region 8 q4_8 false).wp Try.prog (Exit.then (fun a' w' => (∃ (k : Nat) (v9 : Value), Ew w b M v1 v2 o c a' w' ∧ k ≤ ms.length ∧ a'.eval (.tmp 10) = .int .i64 (k : Int) ∧ a'.eval (.tmp 9) = v9 ∧ w'.ownsRow M 3 1 v9 (posL (ms.take k)).length (intV (posL (ms.take k)))) ∧ ms.length - (intOf (a'.eval (.tmp 10))).toNat < ms.length - (intOf (a0.eval (.tmp 10))).toNat) (Exit.inBlock 0 Q)) a4 x4 := fun a4 x4 v h4 k10 k9 own4 => by
      refine r4_8 h4.ev.z k (by omega) k10 (fun a5 x5 A5 o5 G5 => ?_)
      refine ⟨⟨k + 1, v, h4.gr A5 (by decide) G5, by omega, o5, A5.get k9 (by decide), owns_gr own4 G5⟩, ?_⟩
      rw [o5, f10]
      simp only [intOf]
      omega
    refine wp_seq (wp_block ?_)
    refine wp_seq (r4_9 h2.ev.z g of ms.length cap k xx hkl hXg (by rw [h2.ev.e1, hv]) g10 (fun a3 x3 A3 o3 G3 => ?_))
    have h3 := h2.gr A3 (by decide) G3
    have k9 := A3.get g9 (by decide)
    have k10 := A3.get g10 (by decide)
    have own3 := owns_gr own2 G3
    show Code.wp Try.prog (Code.cond _ _ _) _ a3 x3
    refine wp_cond_split o3 (fun q' => ?_) (fun q' => ?_)
    · have q' : xx > 0 := of_decide_eq_true q'
      rw [if_pos (by omega)] at hstep
      have hlen : (posL (ms.take k)).length ≤ k := by have := posL_len (ms.take k); rw [List.length_take] at this; omega
      refine r4_10 h3.ev.z g of ms.length cap k xx hkl (fun y hy => hX y ((G3.mono h2.szM).trans (hy.mono h3.szM))) v9 _ M (posL (ms.take k)) rfl own3 h3.szM (by omega) (by rw [h3.ev.e1, hv]) k10 k9 (fun a4 x4 v A4 o4 own4 B4 => ?_)
      refine fin a4 x4 v (h3.next A4 (by decide) B4) (A4.get k10 (by decide)) o4 ?_
      rw [hstep, List.length_append]
      exact own4
    · have q' : ¬ xx > 0 := of_decide_eq_false q'
      rw [if_neg (by omega), List.append_nil] at hstep
      refine wp_skip ?_
      exact fin a3 x3 v9 h3 k10 k9 (by rw [hstep]; exact own3)
  · have q : ¬ (k : Int) < (ms.length : Int) := of_decide_eq_false q
    have e : k = ms.length := by omega
    rw [e, List.take_length] at own2
    exact wp_exit (hend a2 x2 v9 h2 g9 own2)
theorem even_lb {Q : Exit → Act → World → Prop} {w x : World} {b M : Nat} {v1 v2 v9 : Value} {o c L other : List Int} {ac : Act} (h : Ew w b M v1 v2 o c ac x) (hm : Ints b w v2 other) (hL : Ints M x v9 L) (hL0 : 0 < L.length) (hLl : L.length ≤ 17592186043904) (hoth : ∀ y ∈ other, -9223372036854775808 ≤ y) (e9 : ac.eval (.tmp 9) = v9) (e11 : ac.eval (.tmp 11) = .pointer (some ⟨M, 0, none⟩)) (hd : Holds x M (intV (divTo L other 0)) 23) (e12 : ac.eval (.tmp 12) = .int .i64 ((0 : Nat) : Int))
    (hend : ∀ ad y, Ew w b M v1 v2 o c ad y → ad.eval (.tmp 11) = .pointer (some ⟨M, 0, none⟩) → Holds y M (intV (divTo L other 8)) 23 → Q .normal ad y) : c4_lb.wp Try.prog Q ac x := by
  obtain ⟨a1, cap1, hv2⟩ := hm.len
  unfold c4_lb
  refine wp_block ?_
  refine wp_loop (fun ad y => ∃ k : Nat, Ew w b M v1 v2 o c ad y ∧ k ≤ 8 ∧ ad.eval (.tmp 12) = .int .i64 (k : Int) ∧ ad.eval (.tmp 9) = v9 ∧ ad.eval (.tmp 11) = .pointer (some ⟨M, 0, none⟩) ∧ Ints M y v9 L ∧ Holds y M (intV (divTo L other k)) 23) (fun ad _ => 8 - (intOf (ad.eval (.tmp 12))).toNat)
    ⟨0, h, by omega, e12, e9, e11, hL, hd⟩ (fun a0 x0 ⟨k, h0, hk, f12, f9, f11, iL, hD⟩ => ?_)
  unfold c4_rb
  refine wp_seq (wp_seq (r4_15 h0.ev.z k f12 (fun a2 x2 A2 o2 G2 => ?_)))
  have h2 := h0.gr A2 (by decide) G2
  have g9 := A2.get f9 (by decide)
  have g11 := A2.get f11 (by decide)
  have g12 := A2.get f12 (by decide)
  have iL2 := iL.below (G2.mono h0.szM)
  have hD2 := hD.below G2 hD.lt
  show Code.wp Try.prog (Code.cond _ _ _) _ a2 x2
  refine wp_cond_split o2 (fun q => ?_) (fun q => ?_)
  · have q : (k : Int) < 8 := of_decide_eq_true q
    have hk8 : k < 8 := by omega
    refine wp_skip ?_
    show Code.wp Try.prog (Code.seq _ _) _ a2 x2
    refine wp_seq (wp_block ?_)
    refine wp_seq (r4_17 h2.ev.z k g12 (fun a3 x3 A3 o13 G3 => ?_))
    have h3 := h2.gr A3 (by decide) G3
    have k9 := A3.get g9 (by decide)
    have k11 := A3.get g11 (by decide)
    have k12 := A3.get g12 (by decide)
    have iL3 := iL2.below (G3.mono h2.szM)
    have hD3 := hD2.below G3 hD2.lt
    -- behind the choice of the number
    have rest : ∀ a4 x4 (kx : Int), Ew w b M v1 v2 o c a4 x4 → a4.eval (.tmp 9) = v9 → a4.eval (.tmp 11) = .pointer (some ⟨M, 0, none⟩) → a4.eval (.tmp 12) = .int .i64 (k : Int) → a4.eval (.tmp 13) = .int .i64 kx → kx = ixI other k → Ints M x4 v9 L → Holds x4 M (intV (divTo L other k)) 23 → (Code.region 22 q4_22 false).wp Try.prog (Exit.inBlock 3 (Exit.then ((Code.region 16 q4_16 false).wp Try.prog (Exit.then (fun a' w' => (∃ k : Nat, Ew w b M v1 v2 o c a' w' ∧ k ≤ 8 ∧ a'.eval (.tmp 12) = .int .i64 (k : Int) ∧ a'.eval (.tmp 9) = v9 ∧ a'.eval (.tmp 11) = .pointer (some ⟨M, 0, none⟩) ∧ Ints M w' v9 L ∧ Holds w' M (intV (divTo L other k)) 23) ∧ 8 - (intOf (a'.eval (.tmp 12))).toNat < 8 - (intOf (a0.eval (.tmp 12))).toNat) (Exit.inBlock 2 Q))) (Exit.then (fun a' w' => (∃ k : Nat, Ew w b M v1 v2 o c a' w' ∧ k ≤ 8 ∧ a'.eval (.tmp 12) = .int .i64 (k : Int) ∧ a'.eval (.tmp 9) = v9 ∧ a'.eval (.tmp 11) = .pointer (some ⟨M, 0, none⟩) ∧ Ints M w' v9 L ∧ Holds w' M (intV (divTo L other k)) 23) ∧ 8 - (intOf (a'.eval (.tmp 12))).toNat < 8 - (intOf (a0.eval (.tmp 12))).toNat) (Exit.inBlock 2 Q)))) a4 x4 := fun a4 x4 kx h4 m9 m11 m12 m13 hkx iL4 hD4 => by
      have hnn := ixI_nonneg other k
      obtain ⟨qn, hqn⟩ : ∃ qn : Nat, kx = (qn : Int) := ⟨kx.toNat, by omega⟩
      subst hqn
      have hq2 : (ixI other k).toNat = qn := by omega
      obtain ⟨rr, hrr⟩ : ∃ rr, qn % L.length = rr := ⟨_, rfl⟩
      have hrl : rr < L.length := by rw [← hrr]; exact Nat.mod_lt _ hL0
      obtain ⟨g, of, cap, hv, hgb, hc⟩ := ints_at iL4 rr hrl
      refine r4_22 h4.ev.z g of L.length cap k qn rr M (L.getD rr 0) (divTo L other k) hL0 (by omega) hrr hk8 (fun y hy => cell_below (hy.mono h4.szM) hgb hc) hD4 (divTo_len _ _ _ (by omega)) m12 (by rw [m9, hv]) m13 m11 (fun a5 x5 A5 H5 B5 _ => ?_)
      have h5 := h4.next A5 (by decide) B5
      show Code.wp Try.prog (Code.region 16 q4_16 false) _ a5 x5
      refine r4_16 h5.ev.z k (by omega) (A5.get m12 (by decide)) (fun a6 x6 A6 o6 G6 => ?_)
      have e := divTo_succ L other k hk8
      rw [hq2, hrr] at e
      refine ⟨⟨k + 1, h5.gr A6 (by decide) G6, by omega, o6, A6.get (A5.get m9 (by decide)) (by decide), A6.get (A5.get m11 (by decide)) (by decide), (iL4.below B5).below (G6.mono h5.szM), by rw [e]; exact H5.below G6 H5.lt⟩, ?_⟩
      rw [o6, f12]
      simp only [intOf]
      omega
    -- the sign
    have sign : ∀ a4 x4 (kx : Int), Ew w b M v1 v2 o c a4 x4 → a4.eval (.tmp 9) = v9 → a4.eval (.tmp 11) = .pointer (some ⟨M, 0, none⟩) → a4.eval (.tmp 12) = .int .i64 (k : Int) → a4.eval (.tmp 13) = .int .i64 kx → kx = (if k < other.length then other.getD k 0 else (k : Int)) → -9223372036854775808 ≤ kx → Ints M x4 v9 L → Holds x4 M (intV (divTo L other k)) 23 → (((Code.region 20 q4_20 false).seq (Code.cond (Operand.tmp 73) (Code.region 21 q4_21 false) Code.skip)).seq (Code.region 22 q4_22 false)).wp Try.prog (Exit.inBlock 3 (Exit.then ((Code.region 16 q4_16 false).wp Try.prog (Exit.then (fun a' w' => (∃ k : Nat, Ew w b M v1 v2 o c a' w' ∧ k ≤ 8 ∧ a'.eval (.tmp 12) = .int .i64 (k : Int) ∧ a'.eval (.tmp 9) = v9 ∧ a'.eval (.tmp 11) = .pointer (some ⟨M, 0, none⟩) ∧ Ints M w' v9 L ∧ Holds w' M (intV (divTo L other k)) 23) ∧ 8 - (intOf (a'.eval (.tmp 12))).toNat < 8 - (intOf (a0.eval (.tmp 12))).toNat) (Exit.inBlock 2 Q))) (Exit.then (fun a' w' => (∃ k : Nat, Ew w b M v1 v2 o c a' w' ∧ k ≤ 8 ∧ a'.eval (.tmp 12) = .int .i64 (k : Int) ∧ a'.eval (.tmp 9) = v9 ∧ a'.eval (.tmp 11) = .pointer (some ⟨M, 0, none⟩) ∧ Ints M w' v9 L ∧ Holds w' M (intV (divTo L other k)) 23) ∧ 8 - (intOf (a'.eval (.tmp 12))).toNat < 8 - (intOf (a0.eval (.tmp 12))).toNat) (Exit.inBlock 2 Q)))) a4 x4 := fun a4 x4 kx h4 m9 m11 m12 m13 hkx hkb iL4 hD4 => by
      refine wp_seq (wp_seq (r4_20 h4.ev.z kx m13 (fun a5 x5 A5 o5 G5 => ?_)))
      have h5 := h4.gr A5 (by decide) G5
      have iL5 := iL4.below (G5.mono h4.szM)
      have hD5 := hD4.below G5 hD4.lt
      show Code.wp Try.prog (Code.cond _ _ _) _ a5 x5
      refine wp_cond_split o5 (fun q' => ?_) (fun q' => ?_)
      · have q' : kx < 0 := of_decide_eq_true q'
        refine r4_21 h5.ev.z kx q' hkb (A5.get m13 (by decide)) (fun a6 x6 A6 o6 G6 => ?_)
        have h6 := h5.gr A6 (by decide) G6
        refine rest a6 x6 _ h6 (A6.get (A5.get m9 (by decide)) (by decide)) (A6.get (A5.get m11 (by decide)) (by decide)) (A6.get (A5.get m12 (by decide)) (by decide)) o6 ?_ (iL5.below (G6.mono h5.szM)) (hD5.below G6 hD5.lt)
        unfold ixI
        rw [← hkx, if_pos q']
      · have q' : ¬ kx < 0 := of_decide_eq_false q'
        refine wp_skip ?_
        refine rest a5 x5 kx h5 (A5.get m9 (by decide)) (A5.get m11 (by decide)) (A5.get m12 (by decide)) (A5.get m13 (by decide)) ?_ iL5 hD5
        unfold ixI
        rw [← hkx, if_neg q']
    show Code.wp Try.prog (Code.seq _ _) _ a3 x3
    refine wp_seq (wp_seq (r4_18 h3.ev.z k other.length cap1 a1 k12 (by rw [h3.ev.e2, hv2]) (fun a4 x4 A4 o4 G4 => ?_)))
    have h4 := h3.gr A4 (by decide) G4
    have m9 := A4.get k9 (by decide)
    have m11 := A4.get k11 (by decide)
    have m12 := A4.get k12 (by decide)
    have m13 := A4.get o13 (by decide)
    have iL4 := iL3.below (G4.mono h3.szM)
    have hD4 := hD3.below G4 hD3.lt
    show Code.wp Try.prog (Code.cond _ _ _) _ a4 x4
    refine wp_cond_split o4 (fun q' => ?_) (fun q' => ?_)
    · have q' : (k : Int) < (other.length : Int) := of_decide_eq_true q'
      have hko : k < other.length := by omega
      obtain ⟨g, of, cap, hv, hgb, hc⟩ := ints_at hm k hko
      refine r4_19 h4.ev.z g of other.length cap k _ hko (fun y hy => cell_below (h4.ev.bl.trans (hy.mono (Nat.le_of_lt h4.ev.h3.lt))) hgb hc) (by rw [h4.ev.e2, hv]) m12 (fun a5 x5 A5 o5 G5 => ?_)
      have h5 := h4.gr A5 (by decide) G5
      refine sign a5 x5 _ h5 (A5.get m9 (by decide)) (A5.get m11 (by decide)) (A5.get m12 (by decide)) o5 (if_pos hko).symm (hoth _ ?_) (iL4.below (G5.mono h4.szM)) (hD4.below G5 hD4.lt)
      rw [List.getD_eq_getElem?_getD, List.getElem?_eq_getElem hko]
      exact List.getElem_mem hko
    · have q' : ¬ (k : Int) < (other.length : Int) := of_decide_eq_false q'
      refine wp_skip ?_
      exact sign a4 x4 _ h4 m9 m11 m12 m13 (if_neg (by omega)).symm (by omega) iL4 hD4
  · have q : ¬ (k : Int) < 8 := of_decide_eq_false q
    have e : k = 8 := by omega
    rw [e] at hD2
    exact wp_exit (hend a2 x2 h2 g11 hD2)
theorem even_lc {Q : Exit → Act → World → Prop} {w x : World} {b M : Nat} {v1 v2 : Value} {o c d : List Int} {ac : Act} (h : Ew w b M v1 v2 o c ac x) (ho : o.length = 8) (hc : c.length = 8) (hd8 : d.length = 8) (e11 : ac.eval (.tmp 11) = .pointer (some ⟨M, 0, none⟩)) (hd : Holds x M (intV d) 23) (e14 : ac.eval (.tmp 14) = .int .i64 ((0 : Nat) : Int)) (e15 : ac.eval (.tmp 15) = .int .i64 ((0 : Nat) : Int)) (e16 : ac.eval (.tmp 16) = .int .i64 ((0 : Nat) : Int))
    (hend : ∀ ad y, Ew w b M v1 v2 o c ad y → ad.eval (.tmp 11) = .pointer (some ⟨M, 0, none⟩) → Holds y M (intV d) 23 → ad.eval (.tmp 14) = .int .i64 ((eqTo o c 8 : Nat) : Int) → ad.eval (.tmp 15) = .int .i64 ((eqTo o d 8 : Nat) : Int) → Q .normal ad y) : c4_lc.wp Try.prog Q ac x := by
  unfold c4_lc
  refine wp_block ?_
  refine wp_loop (fun ad y => ∃ k : Nat, Ew w b M v1 v2 o c ad y ∧ k ≤ 8 ∧ ad.eval (.tmp 16) = .int .i64 (k : Int) ∧ ad.eval (.tmp 11) = .pointer (some ⟨M, 0, none⟩) ∧ Holds y M (intV d) 23 ∧ ad.eval (.tmp 14) = .int .i64 ((eqTo o c k : Nat) : Int) ∧ ad.eval (.tmp 15) = .int .i64 ((eqTo o d k : Nat) : Int)) (fun ad _ => 8 - (intOf (ad.eval (.tmp 16))).toNat)
    ⟨0, h, by omega, e16, e11, hd, e14, e15⟩ (fun a0 x0 ⟨k, h0, hk, f16, f11, hD, f14, f15⟩ => ?_)
  unfold c4_rc
  refine wp_seq (wp_seq (r4_26 h0.ev.z k f16 (fun a2 x2 A2 o2 G2 => ?_)))
  have h2 := h0.gr A2 (by decide) G2
  have g11 := A2.get f11 (by decide)
  have g14 := A2.get f14 (by decide)
  have g15 := A2.get f15 (by decide)
  have g16 := A2.get f16 (by decide)
  have hD2 := hD.below G2 hD.lt
  show Code.wp Try.prog (Code.cond _ _ _) _ a2 x2
  refine wp_cond_split o2 (fun q => ?_) (fun q => ?_)
  · have q : (k : Int) < 8 := of_decide_eq_true q
    have hk8 : k < 8 := by omega
    have s1 := eqTo_succ o c k
    have s2 := eqTo_succ o d k
    have l1 := eqTo_le o c k
    have l2 := eqTo_le o d k
    refine wp_skip ?_
    show Code.wp Try.prog (Code.seq _ _) _ a2 x2
    refine wp_seq (wp_block ?_)
    have fin : ∀ a4 x4, Ew w b M v1 v2 o c a4 x4 → a4.eval (.tmp 16) = .int .i64 (k : Int) → a4.eval (.tmp 11) = .pointer (some ⟨M, 0, none⟩) → Holds x4 M (intV d) 23 → a4.eval (.tmp 14) = .int .i64 ((eqTo o c (k + 1) : Nat) : Int) → a4.eval (.tmp 15) = .int .i64 ((eqTo o d (k + 1) : Nat) : Int) → (Code.region 27 q4_27 false).wp Try.prog (Exit.then (fun a' w' => (∃ k : Nat, Ew w b M v1 v2 o c a' w' ∧ k ≤ 8 ∧ a'.eval (.tmp 16) = .int .i64 (k : Int) ∧ a'.eval (.tmp 11) = .pointer (some ⟨M, 0, none⟩) ∧ Holds w' M (intV d) 23 ∧ a'.eval (.tmp 14) = .int .i64 ((eqTo o c k : Nat) : Int) ∧ a'.eval (.tmp 15) = .int .i64 ((eqTo o d k : Nat) : Int)) ∧ 8 - (intOf (a'.eval (.tmp 16))).toNat < 8 - (intOf (a0.eval (.tmp 16))).toNat) (Exit.inBlock 4 Q)) a4 x4 := fun a4 x4 h4 m16 m11 hD4 m14 m15 => by
      refine r4_27 h4.ev.z k (by omega) m16 (fun a5 x5 A5 o5 G5 => ?_)
      refine ⟨⟨k + 1, h4.gr A5 (by decide) G5, by omega, o5, A5.get m11 (by decide), hD4.below G5 hD4.lt, A5.get m14 (by decide), A5.get m15 (by decide)⟩, ?_⟩
      rw [o5, f16]
      simp only [intOf]
      omega
    have second : ∀ a4 x4, Ew w b M v1 v2 o c a4 x4 → a4.eval (.tmp 16) = .int .i64 (k : Int) → a4.eval (.tmp 11) = .pointer (some ⟨M, 0, none⟩) → Holds x4 M (intV d) 23 → a4.eval (.tmp 14) = .int .i64 ((eqTo o c (k + 1) : Nat) : Int) → a4.eval (.tmp 15) = .int .i64 ((eqTo o d k : Nat) : Int) → ((Code.region 30 q4_30 true).seq (Code.cond (Operand.tmp 105) (Code.region 31 q4_31 false) Code.skip)).wp Try.prog (Exit.inBlock 5 (Exit.then ((Code.region 27 q4_27 false).wp Try.prog (Exit.then (fun a' w' => (∃ k : Nat, Ew w b M v1 v2 o c a' w' ∧ k ≤ 8 ∧ a'.eval (.tmp 16) = .int .i64 (k : Int) ∧ a'.eval (.tmp 11) = .pointer (some ⟨M, 0, none⟩) ∧ Holds w' M (intV d) 23 ∧ a'.eval (.tmp 14) = .int .i64 ((eqTo o c k : Nat) : Int) ∧ a'.eval (.tmp 15) = .int .i64 ((eqTo o d k : Nat) : Int)) ∧ 8 - (intOf (a'.eval (.tmp 16))).toNat < 8 - (intOf (a0.eval (.tmp 16))).toNat) (Exit.inBlock 4 Q))) (Exit.then (fun a' w' => (∃ k : Nat, Ew w b M v1 v2 o c a' w' ∧ k ≤ 8 ∧ a'.eval (.tmp 16) = .int .i64 (k : Int) ∧ a'.eval (.tmp 11) = .pointer (some ⟨M, 0, none⟩) ∧ Holds w' M (intV d) 23 ∧ a'.eval (.tmp 14) = .int .i64 ((eqTo o c k : Nat) : Int) ∧ a'.eval (.tmp 15) = .int .i64 ((eqTo o d k : Nat) : Int)) ∧ 8 - (intOf (a'.eval (.tmp 16))).toNat < 8 - (intOf (a0.eval (.tmp 16))).toNat) (Exit.inBlock 4 Q)))) a4 x4 := fun a4 x4 h4 m16 m11 hD4 m14 m15 => by
      refine wp_seq (r4_30 h4.ev.z M b k d o hk8 hD4 h4.ev.h3 hd8 ho m16 m11 h4.ev.e3 (fun a5 x5 A5 o5 G5 => ?_))
      have h5 := h4.gr A5 (by decide) G5
      have hD5 := hD4.below G5 hD4.lt
      show Code.wp Try.prog (Code.cond _ _ _) _ a5 x5
      refine wp_cond_split o5 (fun q' => ?_) (fun q' => ?_)
      · have q' : d.getD k 0 = o.getD k 0 := of_decide_eq_true q'
        rw [if_pos q'] at s2
        refine r4_31 h5.ev.z (eqTo o d k) (by omega) (A5.get m15 (by decide)) (fun a6 x6 A6 o6 G6 => ?_)
        have h6 := h5.gr A6 (by decide) G6
        exact fin a6 x6 h6 (A6.get (A5.get m16 (by decide)) (by decide)) (A6.get (A5.get m11 (by decide)) (by decide)) (hD5.below G6 hD5.lt) (A6.get (A5.get m14 (by decide)) (by decide)) (by rw [s2]; exact o6)
      · have q' : ¬ d.getD k 0 = o.getD k 0 := of_decide_eq_false q'
        rw [if_neg q', Nat.add_zero] at s2
        refine wp_skip ?_
        exact fin a5 x5 h5 (A5.get m16 (by decide)) (A5.get m11 (by decide)) hD5 (A5.get m14 (by decide)) (by rw [s2]; exact A5.get m15 (by decide))
    obtain ⟨b8, e8, h8, lt8⟩ := h2.cl
    refine wp_seq (wp_seq (r4_28 h2.ev.z b8 b k c o hk8 h8 h2.ev.h3 hc ho g16 e8 h2.ev.e3 (fun a3 x3 A3 o3 G3 => ?_)))
    have h3 := h2.gr A3 (by decide) G3
    have hD3 := hD2.below G3 hD2.lt
    show Code.wp Try.prog (Code.cond _ _ _) _ a3 x3
    refine wp_cond_split o3 (fun q' => ?_) (fun q' => ?_)
    · have q' : c.getD k 0 = o.getD k 0 := of_decide_eq_true q'
      rw [if_pos q'] at s1
      refine r4_29 h3.ev.z (eqTo o c k) (by omega) (A3.get g14 (by decide)) (fun a4 x4 A4 o4 G4 => ?_)
      have h4 := h3.gr A4 (by decide) G4
      exact second a4 x4 h4 (A4.get (A3.get g16 (by decide)) (by decide)) (A4.get (A3.get g11 (by decide)) (by decide)) (hD3.below G4 hD3.lt) (by rw [s1]; exact o4) (A4.get (A3.get g15 (by decide)) (by decide))
    · have q' : ¬ c.getD k 0 = o.getD k 0 := of_decide_eq_false q'
      rw [if_neg q', Nat.add_zero] at s1
      refine wp_skip ?_
      exact second a3 x3 h3 (A3.get g16 (by decide)) (A3.get g11 (by decide)) hD3 (by rw [s1]; exact A3.get g14 (by decide)) (A3.get g15 (by decide))
  · have q : ¬ (k : Int) < 8 := of_decide_eq_false q
    have e : k = 8 := by omega
    rw [e] at g14 g15
    exact wp_exit (hend a2 x2 h2 g11 hD2 g14 g15)
abbrev evPost (w : World) : Exit → Act → World → Prop := bodyPost Try.prog Try.f4 fun e z => e = .returned (.bool true) ∧ Below w.heap.size w z
theorem ev_ret {w x : World} {b : Nat} {v1 v2 : Value} {o : List Int} {ac : Act} (h : Ev w b v1 v2 o ac x) (hb : w.heap.size = b) (e6 : ac.eval (.tmp 6) = .bool true) : evPost w .ret ac x :=
  bodyPost_ret (results_tmp rfl _ _ _) h.df ⟨congrArg Ending.returned e6, by rw [hb]; exact h.bl⟩
theorem part_int (l : List Int) (j : Nat) (hj : j < l.length) (y : World) : (part 3 (intV l).toArray (j * 1)).run Try.prog y = .ok (.int .i64 (l.getD j 0)) y := by
  have h1 : ((isAgg 3).run Try.prog y) = .ok false y := by kernel_rfl
  have h2 := intV_at l j hj
  simp only [part, Sem.run_bind, Result.andThen_ok, h1, Nat.mul_one, List.getElem?_toArray, h2]
  rfl
theorem items_int (l : List Int) (y : World) : ∀ (is : List Nat), (∀ j ∈ is, j < l.length) → (Op.eqItems 9999 3 1 (intV l).toArray (intV l).toArray is).run Try.prog y = .ok true y
  | [], _ => by simp [Op.eqItems]
  | j :: is, h => by
    have hj := h j (by simp)
    have hp := part_int l j hj y
    have ih := items_int l y is (fun k hk => h k (by simp [hk]))
    have he : ∀ z : Int, (Op.equalIn 9999 3 (.int .i64 z) (.int .i64 z)).run Try.prog y = .ok true y := fun z => by
      simp [go_sem, Try.underlying3]
    simp only [Op.eqItems, Sem.run_bind, hp, Result.andThen_ok, he]
    simpa using ih
theorem eql8 (l : List Int) (hl : l.length = 8) : ∀ y, (Op.equal 23 (.agg (intV l).toArray) (.agg (intV l).toArray)).run Try.prog y = .ok true y := by
  intro y
  obtain ⟨i3, f3, hz3, hs3, hb3⟩ := inf3
  show (Op.equalIn 10000 23 _ _).run Try.prog y = _
  rw [run_equalIn_array y 9999 _ _ und23 f3, show Try.prog.cellsOf 3 = 1 by kernel_rfl]
  exact items_int l y _ (fun j hj => by rw [hl]; exact List.mem_range.1 hj)
theorem neq8 (l : List Int) (hl : l.length = 8) : ∀ y, (binOp .neq 23 (.agg (intV l).toArray) (.agg (intV l).toArray)).run Try.prog y = .ok (.bool false) y := by
  intro y
  show (do pure (.bool (!(← Op.equal 23 (.agg (intV l).toArray) (.agg (intV l).toArray)))) : Sem Value).run Try.prog y = _
  rw [Sem.run_bind, eql8 l hl, Result.andThen_ok]
  rfl
theorem grd8 (b : BinOp) (l m : List Int) : ∀ u v y, (eqGuard b 23 u v (.agg (intV l).toArray) (.agg (intV m).toArray)).run Try.prog y = .ok () y := by
  intro u v y
  cases b <;> kernel_rfl
theorem even_t3 {w x : World} {b M : Nat} {v1 v2 : Value} {o c d ms : List Int} {ac : Act} (h : Ew w b M v1 v2 o c ac x) (hwb : w.heap.size = b) (hm : Ints b w v1 ms) (hl : ms.length ≤ 17592186043904) (hd8 : d.length = 8) (e11 : ac.eval (.tmp 11) = .pointer (some ⟨M, 0, none⟩)) (hd : Holds x M (intV d) 23) (e14 : ac.eval (.tmp 14) = .int .i64 ((eqTo o c 8 : Nat) : Int)) (e15 : ac.eval (.tmp 15) = .int .i64 ((eqTo o d 8 : Nat) : Int)) (hle : (!(balL d ms) || decide (eqTo o d 8 ≤ eqTo o c 8)) = true) : c4_t3.wp Try.prog (evPost w) ac x := by
  have hB : ∀ y, Gr x y → Calls Try.prog 12 #[.agg (intV d).toArray, v1] y fun e z => e = .returned (.bool (balL d ms)) ∧ Gr y z := fun y hy =>
    balanced_any b d hd8 v1 ms y (hm.below (h.ev.bl.trans (hy.mono (Nat.le_of_lt h.ev.h3.lt)))) (by have := h.ev.h3.lt; have := hy.size; omega) (by omega)
  unfold c4_t3
  cases hbal : balL d ms with
  | true =>
    rw [hbal] at hB hle
    refine wp_seq (r4_32t h.ev.z M v1 d (by rw [intV_len, hd8]) hd _ _ (by simpa using hle) hB h.e7 e11 h.ev.e1 e15 e14 (fun a1 x1 A1 o6 G1 => ?_))
    exact wp_ret (ev_ret (h.ev.gr A1 (by decide) G1) hwb o6)
  | false =>
    rw [hbal] at hB
    refine wp_seq (r4_32f h.ev.z M v1 d (by rw [intV_len, hd8]) hd hB h.e7 e11 h.ev.e1 (fun a1 x1 A1 o6 G1 => ?_))
    exact wp_ret (ev_ret (h.ev.gr A1 (by decide) G1) hwb o6)
theorem even_t1 {w x : World} {b M : Nat} {v1 v2 v9 : Value} {o ms other : List Int} {ac : Act} (h : Ew w b M v1 v2 o (claimL o ms) ac x) (hwb : w.heap.size = b) (ho : o.length = 8) (hm : Ints b w v1 ms) (hl : ms.length ≤ 17592186043904) (hm2 : Ints b w v2 other) (hoth : ∀ y ∈ other, -9223372036854775808 ≤ y) (e9 : ac.eval (.tmp 9) = v9) (own : x.ownsRow M 3 1 v9 (posL ms).length (intV (posL ms))) (hp : (posL ms).length ≠ 0) : c4_t1.wp Try.prog (evPost w) ac x := by
  have hpl := posL_len ms
  have iL := ints_of_row own
  have h' := h.rise (M' := x.heap.size) h.szM (Nat.le_refl _)
  unfold c4_t1
  refine wp_seq (r4_13 h.ev.z x.heap.size rfl (fun a1 x1 A1 o11 N1 => ?_))
  have h1 := h'.next A1 (by decide) N1.below
  have iL1 := iL.below N1.below
  show Code.wp Try.prog (Code.seq (Code.seq _ c4_lb) c4_t2) _ a1 x1
  refine wp_seq (wp_seq (r4_14 h1.ev.z (fun a2 x2 A2 o12 G2 => ?_)))
  have h2 := h1.gr A2 (by decide) G2
  show Code.wp Try.prog c4_lb _ a2 x2
  refine even_lb h2 hm2 (iL1.below (G2.mono h1.szM)) (by omega) (by omega) hoth (A2.get (A1.get e9 (by decide)) (by decide)) (A2.get o11 (by decide)) (N1.holds.below G2 N1.holds.lt) o12 (fun a3 x3 h3 k11 hD3 => ?_)
  show Code.wp Try.prog c4_t2 _ a3 x3
  unfold c4_t2
  refine wp_seq (r4_23 h3.ev.z (fun a4 x4 A4 o14 G4 => ?_))
  have h4 := h3.gr A4 (by decide) G4
  show Code.wp Try.prog (Code.seq _ _) _ a4 x4
  refine wp_seq (r4_24 h4.ev.z (fun a5 x5 A5 o15 G5 => ?_))
  have h5 := h4.gr A5 (by decide) G5
  show Code.wp Try.prog (Code.seq (Code.seq _ c4_lc) c4_t3) _ a5 x5
  refine wp_seq (wp_seq (r4_25 h5.ev.z (fun a6 x6 A6 o16 G6 => ?_)))
  have h6 := h5.gr A6 (by decide) G6
  show Code.wp Try.prog c4_lc _ a6 x6
  refine even_lc h6 ho (claimL_len o ms ho) (divTo_len _ _ 8 (Nat.le_refl _)) (A6.get (A5.get (A4.get k11 (by decide)) (by decide)) (by decide)) (hD3.below (G4.trans (G5.trans G6)) hD3.lt) (A6.get (A5.get o14 (by decide)) (by decide)) (A6.get o15 (by decide)) o16 (fun a7 x7 h7 m11 hD7 m14 m15 => ?_)
  exact even_t3 h7 hwb hm hl (divTo_len _ _ 8 (Nat.le_refl _)) m11 hD7 m14 m15 (even_ok ho hp)
set_option maxRecDepth 100000 in
/-- The law tells true. -/
theorem even_any (v1 v2 : Value) (o ms other : List Int) (w : World) (ho : o.length = 8) (hm : Ints w.heap.size w v1 ms) (hm2 : Ints w.heap.size w v2 other) (hl : ms.length ≤ 17592186043904) (hoth : ∀ y ∈ other, -9223372036854775808 ≤ y) :
    Calls Try.prog 4 #[.agg (intV o).toArray, v1, v2] w fun e z => e = .returned (.bool true) ∧ Below w.heap.size w z := by
  obtain ⟨b, hwb⟩ : ∃ b, w.heap.size = b := ⟨_, rfl⟩
  rw [hwb] at hm hm2
  have hcl := claimL_len o ms ho
  refine calls_by (c := c4) Try.func4 (by kernel_rfl) 120 (by rw [Try.ntmps4]; rfl) (fun ac z df hv => ?_)
  have e0 := hv 0 _ rfl
  have e1 := hv 1 _ rfl
  have e2 := hv 2 _ rfl
  clear hv
  show c4.wp Try.prog (evPost w) ac w
  unfold c4
  refine wp_seq (r4_0 z b hwb o e0 (fun a1 x1 A1 o3 N1 => ?_))
  have h1 : Ev w b v1 v2 o a1 x1 := ⟨A1.size.trans z, A1.defers.trans df, A1.get e1 (by decide), A1.get e2 (by decide), o3, N1.below, N1.holds⟩
  show Code.wp Try.prog (Code.seq _ _) _ a1 x1
  refine wp_seq (r4_1 h1.z (fun y => (awake_any y).mono fun e z ⟨p1, p2⟩ => ⟨p1, p2⟩) (fun a2 x2 A2 o7 G2 => ?_))
  have h2 := h1.gr A2 (by decide) G2
  have hI : ∀ {x y : World} {ac : Act}, Ev w b v1 v2 o ac x → Gr x y → Ints b y v1 ms ∧ b ≤ y.heap.size := fun h hy => ⟨hm.below (h.bl.trans (hy.mono (Nat.le_of_lt h.h3.lt))), by have := h.h3.lt; have := hy.size; omega⟩
  show Code.wp Try.prog (Code.seq _ _) _ a2 x2
  refine wp_seq (r4_2 h2.z b v1 o (claimL o ms) (by rw [intV_len, ho]) (by rw [intV_len, hcl]) h2.h3 (fun y hy => claim_any b o ho v1 ms y (hI h2 hy).1 (hI h2 hy).2 (by omega)) h2.e3 h2.e1 (fun a3 x3 M A3 o8 hM1 hM2 G3 H8 => ?_))
  have h3 := h2.gr A3 (by decide) G3
  have w3 : Ew w b (M + 1) v1 v2 o (claimL o ms) a3 x3 := ⟨h3, A3.get o7 (by decide), ⟨M, o8, H8, by omega⟩, by have := h2.h3.lt; omega, by omega⟩
  show Code.wp Try.prog (Code.seq c4_c3 _) _ a3 x3
  unfold c4_c3
  refine wp_seq (wp_seq (r4_3 h3.z M v1 (claimL o ms) (by rw [intV_len, hcl]) H8 (fun y hy => by have := balanced_any b _ hcl v1 ms y (hI h3 hy).1 (hI h3 hy).2 (by omega); rw [claim_bal' o ms ho] at this; exact this) (fun y hy => by have := claim_any b _ hcl v1 ms y (hI h3 hy).1 (hI h3 hy).2 (by omega); rw [claim_idem' o ms ho] at this; exact this) (neq8 _ hcl) (grd8 _ _ _) o8 h3.e1 (fun a4 x4 A4 o31 G4 => ?_)))
  have w4 := w3.gr A4 (by decide) G4
  show Code.wp Try.prog (Code.cond _ _ _) _ a4 x4
  refine wp_cond_split o31 (fun q => by cases q) (fun _ => wp_skip ?_)
  show Code.wp Try.prog (Code.seq _ c4_l1) _ a4 x4
  refine wp_seq (r4_5 w4.ev.z (fun a5 x5 A5 o9 G5 => ?_))
  have w5 := w4.gr A5 (by decide) G5
  show Code.wp Try.prog c4_l1 _ a5 x5
  unfold c4_l1
  refine wp_seq (wp_seq (r4_6 w5.ev.z (fun a6 x6 A6 o10 G6 => ?_)))
  have w6 := w5.gr A6 (by decide) G6
  show Code.wp Try.prog c4_la _ a6 x6
  refine even_la w6 hm hl (A6.get o9 (by decide)) o10 (fun a7 x7 v9 w7 k9 own => ?_)
  show Code.wp Try.prog (Code.seq c4_c11 c4_t1) _ a7 x7
  unfold c4_c11
  obtain ⟨a9, c9, hv9⟩ := row_slice own
  refine wp_seq (wp_seq (r4_11 w7.ev.z (posL ms).length c9 a9 (by rw [k9, hv9]) (fun a8 x8 A8 o52 G8 => ?_)))
  have w8 := w7.gr A8 (by decide) G8
  show Code.wp Try.prog (Code.cond _ _ _) _ a8 x8
  refine wp_cond_split o52 (fun q => ?_) (fun q => ?_)
  · have q : ((posL ms).length : Int) = 0 := of_decide_eq_true q
    obtain ⟨b8, e8, H8, _⟩ := w8.cl
    rw [claim_none (by omega)] at H8
    refine wp_seq (r4_12 w8.ev.z b8 H8 w8.e7 e8 (fun a9 x9 A9 o6 G9 => ?_))
    exact wp_ret (ev_ret (w8.ev.gr A9 (by decide) G9) hwb o6)
  · have q : ¬ ((posL ms).length : Int) = 0 := of_decide_eq_false q
    refine wp_skip ?_
    show Code.wp Try.prog c4_t1 _ a8 x8
    exact even_t1 w8 hwb ho hm hl hm2 hoth (A8.get k9 (by decide)) (owns_gr own G8) (by omega)
end Go.Proofs.Ytlliijodilnlgaa
