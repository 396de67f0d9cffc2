/- symMerge where both rows are longer than one (code by tools/gen_symw.py). -/
import Derived.Test.YtlliijodilnlgaaRgSymR
import Derived.Test.YtlliijodilnlgaaRgStP
namespace Go.Proofs.Ytlliijodilnlgaa
open Go.RowKit Go.Sort
def c55_round : Code := (((Code.region 33 q55_33 false).seq (Code.cond (Operand.tmp 151) Code.skip (Code.exit 8))).seq (Code.block 9 ((Code.region 34 q55_34 false).seq ((Code.region 35 q55_35 true).seq (Code.cond (Operand.tmp 171) (Code.region 36 q55_36 false) (Code.region 37 q55_37 false))))))
def c55_t1 : Code := ((Code.region 39 q55_39 false).seq (Code.cond (Operand.tmp 185) (Code.region 40 q55_40 false) Code.skip))
def c55_t2 : Code := ((Code.region 41 q55_41 false).seq (Code.cond (Operand.tmp 199) (Code.region 42 q55_42 false) Code.skip))
def c55_t3 : Code := ((Code.region 43 q55_43 false).seq (Code.cond (Operand.tmp 213) (Code.region 44 q55_44 false) Code.skip))
def c55_tail : Code := ((Code.region 38 q55_38 false).seq (c55_t1.seq (c55_t2.seq c55_t3)))
def c55_loop : Code := (Code.block 8 (c55_round.loop))
def c55_pick : Code := ((Code.region 27 q55_27 false).seq (Code.cond (Operand.tmp 140) ((Code.region 28 q55_28 false).seq (Code.region 29 q55_29 false)) ((Code.region 30 q55_30 false).seq (Code.region 31 q55_31 false))))
def c55_three : Code := ((Code.region 24 q55_24 false).seq ((Code.region 25 q55_25 false).seq ((Code.region 26 q55_26 false).seq (c55_pick.seq ((Code.region 32 q55_32 false).seq (c55_loop.seq c55_tail))))))
def c55 : Code := (((Code.region 0 q55_0 false).seq (Code.cond (Operand.tmp 28) ((Code.region 1 q55_1 false).seq ((Code.region 2 q55_2 false).seq ((Code.block 0 ((((Code.region 3 q55_3 false).seq (Code.cond (Operand.tmp 33) Code.skip (Code.exit 0))).seq (Code.block 1 ((Code.region 4 q55_4 false).seq ((Code.region 5 q55_5 true).seq (Code.cond (Operand.tmp 50) (Code.region 6 q55_6 false) (Code.region 7 q55_7 false)))))).loop)).seq (((Code.region 8 q55_8 false).seq (Code.block 2 ((((Code.region 9 q55_9 false).seq (Code.cond (Operand.tmp 58) Code.skip (Code.exit 2))).seq ((Code.block 3 (Code.region 11 q55_11 true)).seq (Code.region 10 q55_10 false))).loop))).seq Code.ret)))) Code.skip)).seq (((Code.region 12 q55_12 false).seq (Code.cond (Operand.tmp 80) ((Code.region 13 q55_13 false).seq ((Code.region 14 q55_14 false).seq ((Code.block 4 ((((Code.region 15 q55_15 false).seq (Code.cond (Operand.tmp 85) Code.skip (Code.exit 4))).seq (Code.block 5 ((Code.region 16 q55_16 false).seq ((Code.region 17 q55_17 true).seq (Code.cond (Operand.tmp 103) (Code.region 18 q55_18 false) (Code.region 19 q55_19 false)))))).loop)).seq (((Code.region 20 q55_20 false).seq (Code.block 6 ((((Code.region 21 q55_21 false).seq (Code.cond (Operand.tmp 110) Code.skip (Code.exit 6))).seq ((Code.block 7 (Code.region 23 q55_23 true)).seq (Code.region 22 q55_22 false))).loop))).seq Code.ret)))) Code.skip)).seq c55_three))
/-- What the arguments' slots hold. -/
structure S3 (bk N cap c a m b : Nat) (ac : Act) : Prop where
  z : ac.tmps.size = 220
  df : ac.defers = []
  e0 : ac.eval (.tmp 0) = .slice (some ⟨bk, 0, none⟩) N cap
  e1 : ac.eval (.tmp 1) = .int .i64 (a : Int)
  e2 : ac.eval (.tmp 2) = .int .i64 (m : Int)
  e3 : ac.eval (.tmp 3) = .int .i64 (b : Int)
  e4 : ac.eval (.tmp 4) = .func (.func 36) #[] #[.pointer (some ⟨c, 0, none⟩)]
theorem After.keep {D : List Nat} {a0 a : Act} (h : After D a0 a) {L : Nat} (hD : (D.all fun s => decide (L ≤ s)) = true) {s : Nat} (hs : s < L) {v : Value} (e : a0.eval (.tmp s) = v) : a.eval (.tmp s) = v :=
  (h.old s (fun q => by have := List.all_eq_true.1 hD s q; simp at this; omega)).trans e
theorem S3.next {bk N cap c a m b : Nat} {ac ad : Act} {D : List Nat} (h : S3 bk N cap c a m b ac) (hA : After D ac ad) (hD : (D.all fun s => decide (5 ≤ s)) = true) : S3 bk N cap c a m b ad :=
  ⟨hA.size.trans h.z, hA.defers.trans h.df, hA.keep hD (by omega) h.e0, hA.keep hD (by omega) h.e1, hA.keep hD (by omega) h.e2, hA.keep hD (by omega) h.e3, hA.keep hD (by omega) h.e4⟩
/-- Behind the search. -/
structure S4 (bk N cap c a m b mid s e : Nat) (ac : Act) : Prop where
  s3 : S3 bk N cap c a m b ac
  e18 : ac.eval (.tmp 18) = .int .i64 (mid : Int)
  e20 : ac.eval (.tmp 20) = .int .i64 (s : Int)
  e24 : ac.eval (.tmp 24) = .int .i64 (e : Int)
theorem S4.next {bk N cap c a m b mid s e : Nat} {ac ad : Act} {D : List Nat} (h : S4 bk N cap c a m b mid s e ac) (hA : After D ac ad) (hD : (D.all fun s => decide (25 ≤ s)) = true) : S4 bk N cap c a m b mid s e ad :=
  ⟨h.s3.next hA (List.all_eq_true.2 fun s hs => by have := List.all_eq_true.1 hD s hs; simp at this ⊢; omega), hA.keep hD (by omega) h.e18, hA.keep hD (by omega) h.e20, hA.keep hD (by omega) h.e24⟩
theorem sym_t1 {Q : Exit → Act → World → Prop} {Kn : Act → World → Prop} {bk N cap c a m b mid s e : Nat} {t : List Int} {f : Nat → Nat} {w x : World} {ac : Act} (h : S4 bk N cap c a m b mid s e ac) (HT : Tail t f (Sm.exch s m e f) a m b s e mid N) (hH : Holds x bk (rowN N f) 3) (hU : Upd bk w x) (heN : e ≤ N) (hN : N ≤ 17592186043904)
    (hK : ∀ ad y, S4 bk N cap c a m b mid s e ad → Holds y bk (rowN N (Sm.exch s m e f)) 3 → Upd bk w y → Kn ad y) : c55_t1.wp Try.prog (Exit.then Kn Q) ac x := by
  unfold c55_t1
  refine wp_seq (r55_39 h.s3.z e m s h.e20 h.s3.e2 h.e24 (fun a1 x1 A1 o1 G1 => ?_))
  have h1 := h.next A1 (by decide)
  have H1 : Holds x1 bk (rowN N f) 3 := hH.below G1 hH.lt
  have U1 := hU.trans (G1.upd (b := bk))
  show Code.wp Try.prog (Code.cond _ _ _) _ a1 x1
  refine wp_cond_split o1 (fun q => ?_) (fun q => ?_)
  · have q := of_decide_eq_true q
    refine r55_40 h1.s3.z bk N cap c s m e h1.s3.e0 h1.e20 h1.s3.e2 h1.e24 h1.s3.e4 (R := fun _ z => Holds z bk (rowN N (Sm.exch s m e f)) 3 ∧ Upd bk w z) (fun y G => (rotateN_any c bk N cap s m e f w y (H1.below G H1.lt) (U1.trans G.upd) q.1 q.2 heN hN).mono fun er z ⟨p1, p2, p3⟩ => ⟨_, p1, p2, p3⟩) (fun a2 x2 u A2 _ R2 => ?_)
    exact hK a2 x2 (h1.next A2 (by decide)) R2.1 R2.2
  · have q := of_decide_eq_false q
    refine wp_skip ?_
    exact hK a1 x1 h1 (by rw [HT.same q]; exact H1) U1
theorem sym_t2 {Q : Exit → Act → World → Prop} {Kn : Act → World → Prop} {bk N cap c g a m b mid s e : Nat} {t : List Int} {f : Nat → Nat} {w x : World} {ac : Act} (h : S4 bk N cap c a m b mid s e ac) (HT : Tail t f (Sm.exch s m e f) a m b s e mid N) (hH : Holds x bk (rowN N (Sm.exch s m e f)) 3) (hU : Upd bk w x) (hB : By c g N t w) (hc : c ≠ bk) (hg : g ≠ bk) (ih : MergeIH c g t bk N cap (b - a)) (has : a ≤ s) (hsm : s ≤ mid) (hmb : mid < b) (hbN : b ≤ N)
    (hK : ∀ ad y f2, S4 bk N cap c a m b mid s e ad → Holds y bk (rowN N f2) 3 → Upd bk w y → Sm.Sorted (ltT t) f2 a mid → Sm.PermOn a mid (Sm.exch s m e f) f2 → Kn ad y) : c55_t2.wp Try.prog (Exit.then Kn Q) ac x := by
  unfold c55_t2
  refine wp_seq (r55_41 h.s3.z a mid s h.s3.e1 h.e20 h.e18 (fun a1 x1 A1 o1 G1 => ?_))
  have h1 := h.next A1 (by decide)
  have H1 : Holds x1 bk (rowN N (Sm.exch s m e f)) 3 := hH.below G1 hH.lt
  have U1 := hU.trans (G1.upd (b := bk))
  show Code.wp Try.prog (Code.cond _ _ _) _ a1 x1
  refine wp_cond_split o1 (fun q => ?_) (fun q => ?_)
  · have q := of_decide_eq_true q
    refine r55_42 h1.s3.z bk N cap c a s mid h1.s3.e0 h1.s3.e1 h1.e20 h1.e18 h1.s3.e4 (R := fun _ z => ∃ f2, Holds z bk (rowN N f2) 3 ∧ Upd bk w z ∧ Sm.Sorted (ltT t) f2 a mid ∧ Sm.PermOn a mid (Sm.exch s m e f) f2) (fun y G => (Tail.c1 ih HT (show mid - a < b - a by omega) q.1 q.2 (by omega) (H1.below G H1.lt) hB (U1.trans G.upd) hc hg).mono fun er z ⟨p1, p2⟩ => ⟨_, p1, p2⟩) (fun a2 x2 u A2 _ ⟨f2, r1, r2, r3, r4⟩ => ?_)
    exact hK a2 x2 f2 (h1.next A2 (by decide)) r1 r2 r3 r4
  · have q := of_decide_eq_false q
    refine wp_skip ?_
    exact hK a1 x1 _ h1 H1 U1 (HT.first has hsm q) (Sm.PermOn.refl _ _ _)
theorem sym_t3 {Q : Exit → Act → World → Prop} {bk N cap c g a m b mid s e : Nat} {t : List Int} {f f2 : Nat → Nat} {w x : World} {ac : Act} (h : S4 bk N cap c a m b mid s e ac) (HT : Tail t f (Sm.exch s m e f) a m b s e mid N) (hH : Holds x bk (rowN N f2) 3) (hU : Upd bk w x) (hS : Sm.Sorted (ltT t) f2 a mid) (hP : Sm.PermOn a mid (Sm.exch s m e f) f2) (hB : By c g N t w) (hc : c ≠ bk) (hg : g ≠ bk) (ih : MergeIH c g t bk N cap (b - a)) (ham : a < mid) (hme : mid ≤ e) (heb : e ≤ b) (hmb : mid < b) (hbN : b ≤ N)
    (hend : ∀ ad y, ad.defers = [] → Merged t bk N a b f w y → Q .normal ad y) : c55_t3.wp Try.prog Q ac x := by
  unfold c55_t3
  refine wp_seq (r55_43 h.s3.z b e mid h.e18 h.e24 h.s3.e3 (fun a1 x1 A1 o1 G1 => ?_))
  have h1 := h.next A1 (by decide)
  have H1 : Holds x1 bk (rowN N f2) 3 := hH.below G1 hH.lt
  have U1 := hU.trans (G1.upd (b := bk))
  show Code.wp Try.prog (Code.cond _ _ _) _ a1 x1
  refine wp_cond_split o1 (fun q => ?_) (fun q => ?_)
  · have q := of_decide_eq_true q
    refine r55_44 h1.s3.z bk N cap c mid e b h1.s3.e0 h1.e18 h1.e24 h1.s3.e3 h1.s3.e4 (R := fun _ z => Merged t bk N a b f w z) (fun y G => (Tail.c2 ih HT (show b - mid < b - a by omega) q.1 q.2 hbN (by omega) hP hS (H1.below G H1.lt) hB (U1.trans G.upd) hc hg).mono fun er z ⟨p1, p2⟩ => ⟨_, p1, p2⟩) (fun a2 x2 u A2 _ R2 => ?_)
    exact hend a2 x2 (A2.defers.trans h1.s3.df) R2
  · have q := of_decide_eq_false q
    refine wp_skip ?_
    exact hend a1 x1 h1.s3.df (HT.fin (by omega) (by omega) hP hS (Sm.PermOn.refl _ _ _) (HT.second hP hme heb q) H1 U1)
theorem sym_tail {Q : Exit → Act → World → Prop} {bk N cap c g a m b mid s e n : Nat} {t : List Int} {f : Nat → Nat} {w x : World} {ac : Act} (h : S3 bk N cap c a m b ac) (e18 : ac.eval (.tmp 18) = .int .i64 (mid : Int)) (e19 : ac.eval (.tmp 19) = .int .i64 (n : Int)) (e20 : ac.eval (.tmp 20) = .int .i64 (s : Int)) (hn : s + e = n) (hnb : n ≤ 9223372036854775807)
    (HT : Tail t f (Sm.exch s m e f) a m b s e mid N) (hH : Holds x bk (rowN N f) 3) (hU : Upd bk w x) (hB : By c g N t w) (hc : c ≠ bk) (hg : g ≠ bk) (ih : MergeIH c g t bk N cap (b - a)) (has : a ≤ s) (hsm : s ≤ mid) (ham : a < mid) (hme : mid ≤ e) (heb : e ≤ b) (hmb : mid < b) (hbN : b ≤ N) (hN : N ≤ 17592186043904)
    (hend : ∀ ad y, ad.defers = [] → Merged t bk N a b f w y → Q .normal ad y) : c55_tail.wp Try.prog Q ac x := by
  unfold c55_tail
  refine wp_seq (r55_38 h.z n s e hn hnb e19 e20 (fun a1 x1 A1 o1 G1 => ?_))
  have h1 : S4 bk N cap c a m b mid s e a1 := ⟨h.next A1 (by decide), A1.get e18 (by decide), A1.get e20 (by decide), o1⟩
  show Code.wp Try.prog (Code.seq c55_t1 _) _ a1 x1
  refine wp_seq (sym_t1 h1 HT (hH.below G1 hH.lt) (hU.trans G1.upd) (by omega) hN (fun a2 x2 h2 H2 U2 => ?_))
  show Code.wp Try.prog (Code.seq c55_t2 _) _ a2 x2
  refine wp_seq (sym_t2 h2 HT H2 U2 hB hc hg ih has hsm hmb hbN (fun a3 x3 f3 h3 H3 U3 S3' P3 => ?_))
  exact sym_t3 h3 HT H3 U3 S3' P3 hB hc hg ih ham hme heb hmb hbN hend
/-- While it searches. -/
structure S5 (bk N cap c a m b mid n p s r : Nat) (ac : Act) : Prop where
  s3 : S3 bk N cap c a m b ac
  e18 : ac.eval (.tmp 18) = .int .i64 (mid : Int)
  e19 : ac.eval (.tmp 19) = .int .i64 (n : Int)
  e20 : ac.eval (.tmp 20) = .int .i64 (s : Int)
  e21 : ac.eval (.tmp 21) = .int .i64 (r : Int)
  e22 : ac.eval (.tmp 22) = .int .i64 (p : Int)
theorem S5.next {bk N cap c a m b mid n p s r : Nat} {ac ad : Act} {D : List Nat} (h : S5 bk N cap c a m b mid n p s r ac) (hA : After D ac ad) (hD : (D.all fun s => decide (23 ≤ s)) = true) : S5 bk N cap c a m b mid n p s r ad :=
  ⟨h.s3.next hA (List.all_eq_true.2 fun s hs => by have := List.all_eq_true.1 hD s hs; simp at this ⊢; omega), hA.keep hD (by omega) h.e18, hA.keep hD (by omega) h.e19, hA.keep hD (by omega) h.e20, hA.keep hD (by omega) h.e21, hA.keep hD (by omega) h.e22⟩
set_option maxHeartbeats 1000000 in
theorem sym_loop {Q : Exit → Act → World → Prop} {bk N cap c g a m b mid n p S E : Nat} {t : List Int} {f : Nat → Nat} {w x : World} {ac : Act} (h : S5 bk N cap c a m b mid n p S E ac) (hmid : (a + b) / 2 = mid) (hn : mid + m = n) (hp : p + 1 = n) (hS : S = Sm.start0 a m b) (hE : E = Sm.end0 a m b) (ham : a < m) (hmb : m < b) (hbN : b ≤ N) (hN : N ≤ 17592186043904)
    (hlr : LR f a m b) (hf : ∀ k, k < N → f k < N) (hH : Holds x bk (rowN N f) 3) (hU : Upd bk w x) (hB : By c g N t w) (hc : c ≠ bk) (hg : g ≠ bk)
    (hend : ∀ ad y s, S5 bk N cap c a m b mid n p s s ad → S ≤ s → s ≤ E → (S < s → ltT t (f (s - 1)) (f (mid + m - s))) → (s < E → ltT t (f (mid + m - 1 - s)) (f s)) → Holds y bk (rowN N f) 3 → Upd bk w y → Q .normal ad y) : c55_loop.wp Try.prog Q ac x := by
  obtain ⟨q1, q2, q3, q4⟩ := Sm.start0_ok ham hmb
  rw [← hS, hmid] at q4
  rw [← hE] at q4
  rw [← hS] at q1 q2
  rw [← hE] at q2 q3
  unfold c55_loop
  refine wp_block ?_
  refine wp_loop (fun ad y => ∃ s r, S5 bk N cap c a m b mid n p s r ad ∧ S ≤ s ∧ s ≤ r ∧ r ≤ E ∧ (S < s → ltT t (f (s - 1)) (f (mid + m - s))) ∧ (r < E → ltT t (f (mid + m - 1 - r)) (f r)) ∧ Holds y bk (rowN N f) 3 ∧ Upd bk w y) (fun ad _ => (intOf (ad.eval (.tmp 21))).toNat - (intOf (ad.eval (.tmp 20))).toNat)
    ⟨S, E, h, Nat.le_refl _, q2, Nat.le_refl _, fun q => absurd q (Nat.lt_irrefl _), fun q => absurd q (Nat.lt_irrefl _), hH, hU⟩ (fun a0 x0 ⟨s, r, h0, c1, c2, c3, hL, hR, H0, U0⟩ => ?_)
  unfold c55_round
  refine wp_seq (wp_seq (r55_33 h0.s3.z s r h0.e20 h0.e21 (fun a1 x1 A1 o1 G1 => ?_)))
  have h1 := h0.next A1 (by decide)
  have H1 : Holds x1 bk (rowN N f) 3 := H0.below G1 H0.lt
  have U1 := U0.trans (G1.upd (b := bk))
  show Code.wp Try.prog (Code.cond _ _ _) _ a1 x1
  refine wp_cond_split o1 (fun q => ?_) (fun q => ?_)
  · have q : (s : Int) < (r : Int) := of_decide_eq_true q
    refine wp_skip ?_
    show Code.wp Try.prog (Code.block 9 _) _ a1 x1
    refine wp_block ?_
    obtain ⟨hd, hhd⟩ : ∃ hd : Nat, (s + r) / 2 = hd := ⟨_, rfl⟩
    refine wp_seq (r55_34 h1.s3.z s r hd hhd (by omega) (by omega) h1.e20 h1.e21 (fun a2 x2 A2 o2 G2 => ?_))
    have h2 := h1.next A2 (by decide)
    have H2 : Holds x2 bk (rowN N f) 3 := H1.below G2 H1.lt
    have U2 := U1.trans (G2.upd (b := bk))
    have hq := q4 hd (by omega) (by omega)
    obtain ⟨pc, hpc⟩ : ∃ pc : Nat, mid + m - 1 - hd = pc := ⟨_, rfl⟩
    rw [hpc] at hq
    have hcl : ∀ y, Gr x2 y → ∀ k, k < N → y.cell? ⟨bk, k, none⟩ = some (.int .i64 ((fun k => (f k : Int)) k)) := fun y G k hk => (H2.below G H2.lt).at k _ (rowF_at N _ k hk)
    have hcm : ∀ y, Gr x2 y → Calls Try.prog 36 (#[.int .i64 ((fun k => (f k : Int)) pc), .int .i64 ((fun k => (f k : Int)) hd)] ++ #[.pointer (some ⟨c, 0, none⟩)]) y fun e z => e = .returned (.int .i64 (t.getD (f hd) 0 - t.getD (f pc) 0)) ∧ Gr y z := fun y G =>
      ((hB.upd (U2.trans G.upd) hc hg).cmp (f pc) (f hd) (hf _ (by omega)) (hf _ (by omega))).mono fun e z ⟨p1, k, p2⟩ => ⟨p1, by rw [p2]; exact below_drewN _ _ _⟩
    show Code.wp Try.prog (Code.seq _ _) _ a2 x2
    refine wp_seq (r55_35 h2.s3.z bk N cap c p hd pc (fun k => (f k : Int)) _ (by omega) (by omega) (by omega) hN hcl hcm h2.s3.e4 h2.s3.e0 h2.e22 o2 (fun a3 x3 A3 o3 G3 => ?_))
    have h3 := h2.next A3 (by decide)
    have H3 : Holds x3 bk (rowN N f) 3 := H2.below G3 H2.lt
    have U3 := U2.trans (G3.upd (b := bk))
    have o23 : a3.eval (.tmp 23) = .int .i64 (hd : Int) := A3.get o2 (by decide)
    have hlt : f hd < f pc := hlr hd pc (by omega) (by omega) (by omega) (by omega)
    show Code.wp Try.prog (Code.cond _ _ _) _ a3 x3
    refine wp_cond_split o3 (fun q' => ?_) (fun q' => ?_)
    · have hz : ¬ t.getD (f hd) 0 - t.getD (f pc) 0 < 0 := by simpa using q'
      refine r55_36 h3.s3.z hd (by omega) o23 (fun a4 x4 A4 o4 G4 => ?_)
      refine ⟨⟨hd + 1, r, ⟨h3.s3.next A4 (by decide), A4.get h3.e18 (by decide), A4.get h3.e19 (by decide), o4, A4.get h3.e21 (by decide), A4.get h3.e22 (by decide)⟩, by omega, by omega, c3, fun _ => ?_, hR, H3.below G4 H3.lt, U3.trans G4.upd⟩, ?_⟩
      · rw [show mid + m - (hd + 1) = pc by omega]
        exact ltT_no hz hlt
      · rw [o4, A4.get h3.e21 (by decide), h0.e20, h0.e21]
        simp only [intOf]
        omega
    · have hz : t.getD (f hd) 0 - t.getD (f pc) 0 < 0 := by simpa using q'
      refine r55_37 h3.s3.z hd o23 (fun a4 x4 A4 o4 G4 => ?_)
      refine ⟨⟨s, hd, ⟨h3.s3.next A4 (by decide), A4.get h3.e18 (by decide), A4.get h3.e19 (by decide), A4.get h3.e20 (by decide), o4, A4.get h3.e22 (by decide)⟩, by omega, by omega, by omega, hL, fun _ => ?_, H3.below G4 H3.lt, U3.trans G4.upd⟩, ?_⟩
      · rw [hpc]
        exact ltT_yes hz
      · rw [o4, A4.get h3.e20 (by decide), h0.e20, h0.e21]
        simp only [intOf]
        omega
  · have q : ¬ (s : Int) < (r : Int) := of_decide_eq_false q
    obtain rfl : s = r := by omega
    exact wp_exit (hend a1 x1 s h1 c1 c3 hL hR H1 U1)
set_option maxHeartbeats 1000000 in
theorem sym_three {Q : Exit → Act → World → Prop} {bk N cap c g a m b : Nat} {t : List Int} {f : Nat → Nat} {w x : World} {ac : Act} (h : S3 bk N cap c a m b ac) (ham : a < m) (hmb : m < b) (hab : a + 3 ≤ b) (hbN : b ≤ N) (hN : N ≤ 17592186043904) (hlr : LR f a m b) (hl : Sm.Sorted (ltT t) f a m) (hr : Sm.Sorted (ltT t) f m b) (hf : ∀ k, k < N → f k < N) (hH : Holds x bk (rowN N f) 3) (hU : Upd bk w x) (hB : By c g N t w) (hc : c ≠ bk) (hg : g ≠ bk) (ih : MergeIH c g t bk N cap (b - a))
    (hend : ∀ ad y, ad.defers = [] → Merged t bk N a b f w y → Q .normal ad y) : c55_three.wp Try.prog Q ac x := by
  obtain ⟨mid, hmid⟩ : ∃ mid : Nat, (a + b) / 2 = mid := ⟨_, rfl⟩
  obtain ⟨n, hn⟩ : ∃ n : Nat, mid + m = n := ⟨_, rfl⟩
  obtain ⟨p, hp⟩ : ∃ p : Nat, p + 1 = n := ⟨n - 1, by omega⟩
  unfold c55_three
  refine wp_seq (r55_24 h.z a b mid hmid (by omega) (by omega) h.e1 h.e3 (fun a1 x1 A1 o18 G1 => ?_))
  have h1 := h.next A1 (by decide)
  show Code.wp Try.prog (Code.seq _ _) _ a1 x1
  refine wp_seq (r55_25 h1.z mid m b n hn (by omega) hmb (by omega) o18 h1.e2 (fun a2 x2 A2 o19 G2 => ?_))
  have h2 := h1.next A2 (by decide)
  have e18 := A2.get o18 (by decide)
  show Code.wp Try.prog (Code.seq _ _) _ a2 x2
  refine wp_seq (r55_26 h2.z (fun a3 x3 A3 G3 => ?_))
  have h3 := h2.next A3 (by decide)
  have f18 := A3.get e18 (by decide)
  have f19 := A3.get o19 (by decide)
  have H3 : Holds x3 bk (rowN N f) 3 := hH.below (G1.trans (G2.trans G3)) hH.lt
  have U3 := hU.trans ((G1.trans (G2.trans G3)).upd (b := bk))
  have rest : ∀ ad y, S3 bk N cap c a m b ad → ad.eval (.tmp 18) = .int .i64 (mid : Int) → ad.eval (.tmp 19) = .int .i64 (n : Int) → ad.eval (.tmp 20) = .int .i64 (Sm.start0 a m b : Int) → ad.eval (.tmp 21) = .int .i64 (Sm.end0 a m b : Int) → Holds y bk (rowN N f) 3 → Upd bk w y → ((Code.region 32 q55_32 false).seq (c55_loop.seq c55_tail)).wp Try.prog Q ad y := fun ad y hs d18 d19 d20 d21 Hy Uy => by
    refine wp_seq (r55_32 hs.z n p hp (by omega) d19 (fun a4 x4 A4 o22 G4 => ?_))
    show Code.wp Try.prog (Code.seq c55_loop c55_tail) _ a4 x4
    refine wp_seq (sym_loop (S := Sm.start0 a m b) (E := Sm.end0 a m b) ⟨hs.next A4 (by decide), A4.get d18 (by decide), A4.get d19 (by decide), A4.get d20 (by decide), A4.get d21 (by decide), o22⟩ hmid hn hp rfl rfl ham hmb hbN hN hlr hf (Hy.below G4 Hy.lt) (Uy.trans G4.upd) hB hc hg (fun a5 x5 s h5 k1 k2 k3 k4 H5 U5 => ?_))
    have hcut := Sm.cut_of (lt := ltT t) (f := f) ham hmb k1 k2 (by rw [hmid]; exact k3) (by rw [hmid]; exact k4)
    rw [hmid] at hcut
    obtain ⟨e, he⟩ : ∃ e, mid + m - s = e := ⟨_, rfl⟩
    rw [he] at hcut
    obtain ⟨z1, z2, z3, z4⟩ : a ≤ s ∧ s ≤ m ∧ m ≤ e ∧ e ≤ b := ⟨hcut.as, hcut.sm, hcut.me, hcut.eb⟩
    have hT := tail_of hl hr hlr hf hbN hcut (show mid = s + (e - m) by omega)
    exact sym_tail h5.s3 h5.e18 h5.e19 h5.e20 (by omega) (by omega) hT H5 U5 hB hc hg ih z1 (by omega) (by omega) (by omega) z4 (by omega) hbN hN hend
  show Code.wp Try.prog (Code.seq c55_pick _) _ a3 x3
  unfold c55_pick
  refine wp_seq (wp_seq (r55_27 h3.z m mid h3.e2 f18 (fun a4 x4 A4 o140 G4 => ?_)))
  have h4 := h3.next A4 (by decide)
  have g18 := A4.get f18 (by decide)
  have g19 := A4.get f19 (by decide)
  have H4 : Holds x4 bk (rowN N f) 3 := H3.below G4 H3.lt
  have U4 := U3.trans (G4.upd (b := bk))
  show Code.wp Try.prog (Code.cond _ _ _) _ a4 x4
  refine wp_cond_split o140 (fun q => ?_) (fun q => ?_)
  · have q : (m : Int) > (mid : Int) := of_decide_eq_true q
    obtain ⟨S, hS⟩ : ∃ S : Nat, S + b = n := ⟨n - b, by omega⟩
    have e1 : Sm.start0 a m b = S := by unfold Sm.start0; rw [hmid, if_pos (by omega)]; omega
    have e2 : Sm.end0 a m b = mid := by unfold Sm.end0; rw [hmid, if_pos (by omega)]
    refine wp_seq (r55_28 h4.z n b S hS (by omega) (by omega) g19 h4.e3 (fun a5 x5 A5 o20 G5 => ?_))
    have h5 := h4.next A5 (by decide)
    show Code.wp Try.prog (Code.region 29 q55_29 false) _ a5 x5
    refine r55_29 h5.z mid (A5.get g18 (by decide)) (fun a6 x6 A6 o21 G6 => ?_)
    exact rest a6 x6 (h5.next A6 (by decide)) (A6.get (A5.get g18 (by decide)) (by decide)) (A6.get (A5.get g19 (by decide)) (by decide)) (by rw [e1]; exact A6.get o20 (by decide)) (by rw [e2]; exact o21) (H4.below (G5.trans G6) H4.lt) (U4.trans (G5.trans G6).upd)
  · have q : ¬ (m : Int) > (mid : Int) := of_decide_eq_false q
    have e1 : Sm.start0 a m b = a := by unfold Sm.start0; rw [hmid, if_neg (by omega)]
    have e2 : Sm.end0 a m b = m := by unfold Sm.end0; rw [hmid, if_neg (by omega)]
    refine wp_seq (r55_30 h4.z a h4.e1 (fun a5 x5 A5 o20 G5 => ?_))
    have h5 := h4.next A5 (by decide)
    show Code.wp Try.prog (Code.region 31 q55_31 false) _ a5 x5
    refine r55_31 h5.z m h5.e2 (fun a6 x6 A6 o21 G6 => ?_)
    exact rest a6 x6 (h5.next A6 (by decide)) (A6.get (A5.get g18 (by decide)) (by decide)) (A6.get (A5.get g19 (by decide)) (by decide)) (by rw [e1]; exact A6.get o20 (by decide)) (by rw [e2]; exact o21) (H4.below (G5.trans G6) H4.lt) (U4.trans (G5.trans G6).upd)
set_option maxRecDepth 100000 in
theorem sym_both (c g : Nat) (t : List Int) (bk N cap a m b : Nat) (f : Nat → Nat) (w : World) (h : Holds w bk (rowN N f) 3) (hB : By c g N t w) (hc : c ≠ bk) (hg : g ≠ bk) (hf : ∀ k, k < N → f k < N) (hlr : LR f a m b) (hl : Sm.Sorted (ltT t) f a m) (hr : Sm.Sorted (ltT t) f m b) (ham : a + 1 < m) (hmb : m + 1 < b) (hbN : b ≤ N) (hN : N ≤ 17592186043904) (ih : MergeIH c g t bk N cap (b - a)) :
    Calls Try.prog 55 #[.slice (some ⟨bk, 0, none⟩) N cap, .int .i64 (a : Int), .int .i64 (m : Int), .int .i64 (b : Int), .func (.func 36) #[] #[.pointer (some ⟨c, 0, none⟩)]] w fun e w' => e = .returned (.tuple #[]) ∧ Merged t bk N a b f w w' := by
  refine calls_by (c := c55) Try.func55 (by kernel_rfl) 220 (by rw [Try.ntmps55]; rfl) (fun ac z df hv => ?_)
  have h0 : S3 bk N cap c a m b ac := ⟨z, df, hv 0 _ rfl, hv 1 _ rfl, hv 2 _ rfl, hv 3 _ rfl, hv 4 _ rfl⟩
  clear hv
  unfold c55
  refine wp_seq (wp_seq (r55_0 h0.z a m b ham (by omega) (by omega) h0.e1 h0.e2 (fun a1 x1 A1 o28 G1 => ?_)))
  have h1 := h0.next A1 (by decide)
  show Code.wp Try.prog (Code.cond _ _ _) _ a1 x1
  refine wp_cond_split o28 (fun q => by cases q) (fun _ => wp_skip ?_)
  show Code.wp Try.prog (Code.seq _ c55_three) _ a1 x1
  refine wp_seq (wp_seq (r55_12 h1.z m b hmb (by omega) h1.e2 h1.e3 (fun a2 x2 A2 o80 G2 => ?_)))
  have h2 := h1.next A2 (by decide)
  show Code.wp Try.prog (Code.cond _ _ _) _ a2 x2
  refine wp_cond_split o80 (fun q => by cases q) (fun _ => wp_skip ?_)
  show c55_three.wp Try.prog _ a2 x2
  refine sym_three h2 (by omega) (by omega) (by omega) hbN hN hlr hl hr hf (h.below (G1.trans G2) h.lt) ((G1.trans G2).upd) hB hc hg ih (fun ad y hd hm => ?_)
  exact bodyPost_end (results_none rfl _ _ _) hd ⟨rfl, hm⟩
/-- The merge, whatever the rows. -/
theorem sym_any (c g : Nat) (t : List Int) (bk N cap : Nat) (hc : c ≠ bk) (hg : g ≠ bk) (hN : N ≤ 17592186043904) : ∀ d, MergeIH c g t bk N cap d := fun d => by
  induction d with
  | zero => exact fun a m b f w hd => absurd hd (Nat.not_lt_zero _)
  | succ d ih =>
    intro a m b f w hd ham hmb hbN h hB hf hlr hl hr
    by_cases e1 : m = a + 1
    · subst e1
      refine (sym_left c g t bk N cap a b f w h hB hc hg hf (fun j h1 h2 => hlr a j (Nat.le_refl _) (by omega) (by omega) h2) hmb hbN hN).mono fun e z ⟨p1, i, p2, p3, p4, p5, p6, p7⟩ => ⟨p1, ?_⟩
      obtain ⟨s1, s2⟩ := Sm.insL (ltT_ord t) hr p2 p3 p4 p5
      exact ⟨_, p6, p7, s1, s2⟩
    · by_cases e2 : b = m + 1
      · subst e2
        refine (sym_right c g t bk N cap a m f w h hB hc hg hf (fun j h1 h2 => hlr j m h1 h2 (Nat.le_refl _) (by omega)) (by omega) hbN hN).mono fun e z ⟨p1, i, p2, p3, p4, p5, p6, p7⟩ => ⟨p1, ?_⟩
        obtain ⟨s1, s2⟩ := Sm.insR (ltT_ord t) hl p2 p3 p4 p5
        exact ⟨_, p6, p7, s1, s2⟩
      · exact sym_both c g t bk N cap a m b f w h hB hc hg hf hlr hl hr (by omega) (by omega) hbN hN (fun a' m' b' f' w' hd' => ih a' m' b' f' w' (by omega))
end Go.Proofs.Ytlliijodilnlgaa
