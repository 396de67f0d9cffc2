/- The second law, walked: its rounds, its end, all of it. -/
import Derived.Test.YthmnjebmnocoiaaZGsRestR
namespace Go.Proofs.Ythmnjebmnocoiaa
open Go.RowKit

/-- How things stand behind i rounds. -/
structure St (w0 : World) (v0 : Value) (g : Nat) (a : Act) (w : World) (i : Nat) (l : List Rg) : Prop where
  z : a.tmps.size = 153
  df : a.defers = []
  e0 : a.eval (.tmp 0) = v0
  e3 : a.eval (.tmp 3) = .bool true
  e4 : a.eval (.tmp 4) = .pointer (some ⟨g, 0, none⟩)
  bx : Bx w g l
  gd : ∀ r ∈ l, Gd (i + 4) r
  lo : w0.heap.size ≤ g
  bl : Below w0.heap.size w0 w
theorem St.next {w0 : World} {v0 : Value} {g : Nat} {a a' : Act} {w x : World} {i : Nat} {l : List Rg} {D : List Nat} (h : St w0 v0 g a w i l) (hA : After D a a') (hD : (D.contains 0 || D.contains 3 || D.contains 4) = false) (hg : Gr w x) : St w0 v0 g a' x i l := by
  simp only [Bool.or_eq_false_iff] at hD
  have n0 : 0 ∉ D := fun q => by have := hD.1.1; simp [q] at this
  have n3 : 3 ∉ D := fun q => by have := hD.1.2; simp [q] at this
  have n4 : 4 ∉ D := fun q => by have := hD.2; simp [q] at this
  exact ⟨hA.size.trans h.z, hA.defers.trans h.df, (hA.old 0 n0).trans h.e0, (hA.old 3 n3).trans h.e3, (hA.old 4 n4).trans h.e4, h.bx.gr hg, h.gd, h.lo, h.bl.trans (Below.mono hg (by have := h.lo; have := h.bx.lt; omega))⟩
theorem St.stored {w0 : World} {v0 : Value} {g : Nat} {a a' : Act} {w x : World} {i k : Nat} {l : List Rg} {r : Rg} {D : List Nat} (h : St w0 v0 g a w i l) (hA : After D a a') (hD : (D.contains 0 || D.contains 3 || D.contains 4) = false) (hB : Bx x g (l.set k r)) (hb : ∀ B, B ≤ g → Below B w x) (hr : Gd (i + 5) r) : St w0 v0 g a' x (i + 1) (l.set k r) := by
  simp only [Bool.or_eq_false_iff] at hD
  have n0 : 0 ∉ D := fun q => by have := hD.1.1; simp [q] at this
  have n3 : 3 ∉ D := fun q => by have := hD.1.2; simp [q] at this
  have n4 : 4 ∉ D := fun q => by have := hD.2; simp [q] at this
  refine ⟨hA.size.trans h.z, hA.defers.trans h.df, (hA.old 0 n0).trans h.e0, (hA.old 3 n3).trans h.e3, (hA.old 4 n4).trans h.e4, hB, fun q hq => ?_, h.lo, h.bl.trans (hb _ h.lo)⟩
  rcases List.mem_or_eq_of_mem_set hq with e | e
  · exact (h.gd q e).mono (by omega)
  · subst e; exact hr.mono (by omega)
theorem St.ring {w0 : World} {v0 : Value} {g : Nat} {a : Act} {w : World} {i : Nat} {l : List Rg} (h : St w0 v0 g a w i l) (k : Nat) (hk : k < 3) : ∃ r, l[k]? = some r ∧ Gd (i + 4) r := by
  have hl := h.bx.len
  obtain ⟨r, hr⟩ : ∃ r, l[k]? = some r := ⟨_, List.getElem?_eq_getElem (by omega)⟩
  exact ⟨r, hr, h.gd r (List.mem_of_getElem? hr)⟩
def qSwitch : Code := (Code.region 14 q14 false).seq (Code.cond (Operand.tmp 61) ((Code.region 15 q15 false).seq (Code.cond (Operand.tmp 68) (Code.region 16 q16 false) (Code.region 17 q17 false))) ((Code.region 18 q18 false).seq (Code.cond (Operand.tmp 83) (Code.region 19 q19 false) (Code.region 13 q13 true))))
def qBody : Code := (Code.region 9 q9 false).seq ((Code.region 10 q10 false).seq ((Code.region 11 q11 false).seq ((Code.region 12 q12 false).seq (Code.block 2 qSwitch))))
def qRound : Code := ((Code.region 7 q7 false).seq (Code.cond (Operand.tmp 32) Code.skip (Code.exit 0))).seq ((Code.block 1 qBody).seq (Code.region 8 q8 false))
theorem switch_wp {Q : Exit → Act → World → Prop} {w0 : World} {v0 : Value} {g : Nat} {a : Act} {w : World} {i : Nat} {l : List Rg} (h : St w0 v0 g a w i l) (hi : i < 60) (c : Ac) (hc : AcFit c) (g6 : Nat) (e5 : a.eval (.tmp 5) = .int .i64 (i : Int)) (e6 : a.eval (.tmp 6) = .pointer (some ⟨g6, 0, none⟩)) (H6 : Holds w g6 (acV c) 42)
    (e7 : a.eval (.tmp 7) = .int .i64 ((pickN c.2.1 3 : Nat) : Int)) (e8 : a.eval (.tmp 8) = .int .i64 (1 + ((pickN c.2.2.2 7 : Nat) : Int))) (e48 : a.eval (.tmp 48) = .int .i64 ((pickN c.1 4 : Nat) : Int))
    (hend : ∀ a' x l', St w0 v0 g a' x (i + 1) l' → a'.eval (.tmp 5) = .int .i64 (i : Int) → Q .normal a' x) : qSwitch.wp Try.prog Q a w := by
  have hk : pickN c.2.1 3 < 3 := by have := (pickN_is hc.at_ (n := 3) (by decide)).2; omega
  have hf3 : pickN c.2.2.1 3 < 3 := by have := (pickN_is hc.src (n := 3) (by decide)).2; omega
  have hnd : I64 (1 + ((pickN c.2.2.2 7 : Nat) : Int)) := by have := (pickN_is hc.node (n := 7) (by decide)).2; unfold I64; omega
  obtain ⟨rr, hl, hg⟩ := h.ring _ hk
  have hfit : RFit rr := hg.fit (by omega)
  generalize 1 + ((pickN c.2.2.2 7 : Nat) : Int) = nd at *
  unfold qSwitch
  refine wp_seq (rq14 h.z _ e48 (fun a1 x1 A1 o61 G1 => ?_))
  show Code.wp Try.prog _ Q a1 x1
  have h1 := h.next A1 (by decide) G1
  refine wp_cond_split o61 (fun _ => ?_) (fun _ => ?_)
  · refine wp_seq (rq15 h1.z g _ hk h1.e4 ((A1.old 7 (by decide)).trans e7) l h1.bx rr hl nd hnd ((A1.old 8 (by decide)).trans e8) (fun a2 x2 A2 o68 G2 => ?_))
    show Code.wp Try.prog _ Q a2 x2
    have h2 := h1.next A2 (by decide) G2
    have f7 := (A2.old 7 (by decide)).trans ((A1.old 7 (by decide)).trans e7)
    have f8 := (A2.old 8 (by decide)).trans ((A1.old 8 (by decide)).trans e8)
    have f5 := (A2.old 5 (by decide)).trans ((A1.old 5 (by decide)).trans e5)
    refine wp_cond_split o68 (fun _ => ?_) (fun _ => ?_)
    · exact rq16 h2.z g _ hk h2.e4 f7 l h2.bx rr hl hfit nd hnd f8 (fun a3 x3 A3 B3 L3 => hend a3 x3 _ (h2.stored A3 (by decide) B3 L3 ⟨leave_normed _ _, vb_leave hg.vb _⟩) ((A3.old 5 (by decide)).trans f5))
    · exact rq17 h2.z g _ hk h2.e4 f7 l h2.bx rr hl hfit nd hnd f8 (fun a3 x3 A3 B3 L3 => hend a3 x3 _ (h2.stored A3 (by decide) B3 L3 ⟨join_normed _ _, vb_join hg.vb _⟩) ((A3.old 5 (by decide)).trans f5))
  · refine wp_seq (rq18 h1.z _ ((A1.old 48 (by decide)).trans e48) (fun a2 x2 A2 o83 G2 => ?_))
    show Code.wp Try.prog _ Q a2 x2
    have h2 := h1.next A2 (by decide) G2
    have f7 := (A2.old 7 (by decide)).trans ((A1.old 7 (by decide)).trans e7)
    have f6 := (A2.old 6 (by decide)).trans ((A1.old 6 (by decide)).trans e6)
    have f5 := (A2.old 5 (by decide)).trans ((A1.old 5 (by decide)).trans e5)
    have H6' : Holds x2 g6 (acV c) 42 := H6.below (G1.trans G2) H6.lt
    refine wp_cond_split o83 (fun _ => ?_) (fun _ => ?_)
    · exact rq19 h2.z g _ hk h2.e4 f7 l h2.bx rr hl hfit (fun a3 x3 A3 B3 L3 => hend a3 x3 _ (h2.stored A3 (by decide) B3 L3 ⟨plan_normed _, vb_plan hg.vb _⟩) ((A3.old 5 (by decide)).trans f5))
    · obtain ⟨rs, hl2, hg2⟩ := h.ring _ hf3
      exact rq13 h2.z g _ hk h2.e4 f7 l h2.bx rr hl g6 c f6 H6' hc.src rs hl2 (fun a3 x3 A3 B3 L3 => hend a3 x3 _ (h2.stored A3 (by decide) B3 L3 ⟨merge_normed _, (vb_merge (by intro q hq; simp at hq; rcases hq with rfl | rfl; exact hg.vb; exact hg2.vb)).mono (by omega)⟩) ((A3.old 5 (by decide)).trans f5))
theorem body_wp {Q : Exit → Act → World → Prop} {w0 : World} {g : Nat} {a : Act} {w : World} {i : Nat} {l : List Rg} (sg of n cap : Nat) (h : St w0 (.slice (some ⟨sg, of, none⟩) n cap) g a w i l) (hi : i < 60) (hin : i < n) (ls : List Ac) (hS : Script w0.heap.size w0 sg of n cap ls) (hfit : ∀ c ∈ ls, AcFit c) (e5 : a.eval (.tmp 5) = .int .i64 (i : Int))
    (hend : ∀ a' x l', St w0 (.slice (some ⟨sg, of, none⟩) n cap) g a' x (i + 1) l' → a'.eval (.tmp 5) = .int .i64 (i : Int) → Q .normal a' x) : qBody.wp Try.prog Q a w := by
  obtain ⟨c, hcl⟩ : ∃ c, ls[i]? = some c := ⟨_, List.getElem?_eq_getElem (by rw [hS.len]; exact hin)⟩
  have hc := hfit c (List.mem_of_getElem? hcl)
  unfold qBody
  refine wp_seq (rq9 h.z sg of n cap i w0.heap.size ls c hin h.e0 e5 (hS.below h.bl) h.bl.size hcl (fun a1 x1 g6 A1 e6 H6 G1 => ?_))
  show Code.wp Try.prog _ Q a1 x1
  have h1 := h.next A1 (by decide) G1
  have f5 := (A1.old 5 (by decide)).trans e5
  refine wp_seq (rq10 h1.z g6 c e6 H6 hc.at_ (fun a2 x2 A2 e7 G2 => ?_))
  show Code.wp Try.prog _ Q a2 x2
  have h2 := h1.next A2 (by decide) G2
  have H6b : Holds x2 g6 (acV c) 42 := H6.below G2 H6.lt
  have e6b := (A2.old 6 (by decide)).trans e6
  refine wp_seq (rq11 h2.z g6 c e6b H6b hc.node (fun a3 x3 A3 e8 G3 => ?_))
  show Code.wp Try.prog _ Q a3 x3
  have h3 := h2.next A3 (by decide) G3
  have H6c : Holds x3 g6 (acV c) 42 := H6b.below G3 H6b.lt
  have e6c := (A3.old 6 (by decide)).trans e6b
  refine wp_seq (rq12 h3.z g6 c e6c H6c hc.kind (fun a4 x4 A4 e48 G4 => ?_))
  show Code.wp Try.prog _ Q a4 x4
  have h4 := h3.next A4 (by decide) G4
  refine wp_block ?_
  refine switch_wp h4 hi c hc g6 ((A4.old 5 (by decide)).trans ((A3.old 5 (by decide)).trans ((A2.old 5 (by decide)).trans f5))) ((A4.old 6 (by decide)).trans e6c) (H6c.below G4 H6c.lt) ((A4.old 7 (by decide)).trans ((A3.old 7 (by decide)).trans e7)) ((A4.old 8 (by decide)).trans e8) e48 (fun a' x l' h' q5 => ?_)
  exact hend a' x l' h' q5
/-- The script, if there is one. -/
def ScriptOf (w0 : World) (b : Option Addr) (n cap : Nat) (ls : List Ac) : Prop := n = 0 ∨ ∃ sg of, b = some ⟨sg, of, none⟩ ∧ Script w0.heap.size w0 sg of n cap ls
theorem loop_wp {Qf : Exit → Act → World → Prop} {w0 : World} {b : Option Addr} {n cap g : Nat} {a : Act} {w : World} {l : List Rg} (h : St w0 (.slice b n cap) g a w 0 l) (ls : List Ac) (hS : ScriptOf w0 b n cap ls) (hfit : ∀ c ∈ ls, AcFit c) (K : Code)
    (hK : ∀ a' x i l', St w0 (.slice b n cap) g a' x i l' → i ≤ 60 → K.wp Try.prog Qf a' x) : (((Code.region 6 q6 false).seq (Code.block 0 qRound.loop)).seq K).wp Try.prog Qf a w := by
  refine wp_seq (wp_seq (rq6 h.z (fun a1 x1 A1 o5 G1 => ?_)))
  show Code.wp Try.prog (Code.block 0 qRound.loop) _ a1 x1
  have h1 := h.next A1 (by decide) G1
  refine wp_block ?_
  refine wp_loop (fun a w => ∃ i l, St w0 (.slice b n cap) g a w i l ∧ a.eval (.tmp 5) = .int .i64 ((i : Nat) : Int) ∧ i ≤ 60) (fun a _ => 60 - (intOf (a.eval (.tmp 5))).toNat) ⟨0, l, h1, o5, by decide⟩ (fun a2 w2 ⟨i, l2, h2, f5, hi⟩ => ?_)
  have ex : ∀ a' x', St w0 (.slice b n cap) g a' x' i l2 → Exit.then (fun a' w' => (∃ i l, St w0 (.slice b n cap) g a' w' i l ∧ a'.eval (.tmp 5) = .int .i64 ((i : Nat) : Int) ∧ i ≤ 60) ∧ 60 - (intOf (a'.eval (.tmp 5))).toNat < 60 - (intOf (a2.eval (.tmp 5))).toNat) (Exit.inBlock 0 (Exit.then (K.wp Try.prog Qf) Qf)) (.exit 0) a' x' := fun a' x' h' => hK a' x' i l2 h' hi
  unfold qRound
  by_cases hin : i < n
  · obtain ⟨sg, of, rfl, hSc⟩ := hS.resolve_left (by omega)
    refine wp_seq (wp_seq (rq7y h2.z i n cap (some ⟨sg, of, none⟩) f5 h2.e0 (by simpa using hin) (fun a3 x3 A3 o32 G3 => ?_)))
    show Code.wp Try.prog (Code.cond (Operand.tmp 32) Code.skip (Code.exit 0)) _ a3 x3
    have h3 := h2.next A3 (by decide) G3
    have f5b := (A3.old 5 (by decide)).trans f5
    refine wp_cond_split o32 (fun h60 => ?_) (fun _ => wp_exit (ex a3 x3 h3))
    have h60 : (i : Int) < 60 := of_decide_eq_true h60
    refine wp_skip ?_
    refine wp_seq (wp_block ?_)
    refine body_wp sg of n cap h3 (by omega) hin ls hSc hfit f5b (fun a4 x4 l4 h4 q5 => ?_)
    show Code.wp Try.prog (Code.region 8 q8 false) _ a4 x4
    refine rq8 h4.z i (by omega) q5 (fun a5 x5 A5 o5' G5 => ?_)
    have h5 := h4.next A5 (by decide) G5
    refine ⟨⟨i + 1, l4, h5, by rw [o5']; rfl, by omega⟩, ?_⟩
    show 60 - (intOf (a5.eval (.tmp 5))).toNat < 60 - (intOf (a2.eval (.tmp 5))).toNat
    rw [o5', f5]
    simp only [intOf]
    omega
  · refine wp_seq (wp_seq (rq7n h2.z i n cap b f5 h2.e0 (by simpa using hin) (fun a3 x3 A3 o32 G3 => ?_)))
    show Code.wp Try.prog (Code.cond (Operand.tmp 32) Code.skip (Code.exit 0)) _ a3 x3
    have h3 := h2.next A3 (by decide) G3
    exact wp_cond_false o32 (wp_exit (ex a3 x3 h3))
def qCheck : Code := ((Code.region 23 q23 false).seq (Code.cond (Operand.tmp 106) Code.skip (Code.exit 3))).seq ((Code.block 4 ((Code.region 25 q25 true).seq (Code.cond (Operand.tmp 117) ((Code.region 26 q26 false).seq Code.ret) Code.skip))).seq (Code.region 24 q24 false))
def qLast : Code := (Code.region 27 q27 false).seq (((Code.region 28 q28 false).seq (Code.cond (Operand.tmp 123) ((Code.region 29 q29 false).seq Code.ret) Code.skip)).seq ((Code.region 30 q30 true).seq ((Code.region 31 q31 false).seq Code.ret)))
def qTail : Code := (Code.region 20 q20 false).seq ((Code.region 21 q21 true).seq (((Code.region 22 q22 false).seq (Code.block 3 qCheck.loop)).seq qLast))
def qLaw : Code := (Code.region 0 q0 false).seq ((Code.region 1 q1 false).seq ((Code.region 2 q2 false).seq ((Code.region 3 q3 false).seq ((Code.region 4 q4 false).seq ((Code.region 5 q5 false).seq (((Code.region 6 q6 false).seq (Code.block 0 qRound.loop)).seq qTail))))))
def qPost (w0 : World) : Exit → Act → World → Prop := bodyPost Try.prog Try.f4 fun e z => e = .returned (.bool true) ∧ Gr w0 z
theorem ret_post {w0 : World} {v0 : Value} {g : Nat} {a : Act} {w : World} {i : Nat} {l : List Rg} (h : St w0 v0 g a w i l) (e2 : a.eval (.tmp 2) = .bool true) : qPost w0 .ret a w :=
  bodyPost_ret (results_tmp rfl _ _ _) h.df ⟨congrArg Ending.returned e2, h.bl⟩
theorem last_wp {w0 : World} {v0 : Value} {g : Nat} {a : Act} {w : World} {i : Nat} {l : List Rg} (h : St w0 v0 g a w i l) (m p : Rg) (gm gp : Nat) (e9 : a.eval (.tmp 9) = .pointer (some ⟨gm, 0, none⟩)) (B9 : BoxIn w gm m) (e10 : a.eval (.tmp 10) = .pointer (some ⟨gp, 0, none⟩)) (B10 : BoxIn w gp p) (hm : Normed m) (hpd : p = planL m (claimantL m)) (hpN : Normed p) (hpf : RFit p) : qLast.wp Try.prog (qPost w0) a w := by
  unfold qLast
  refine wp_seq (rq27 h.z gp p e10 B10 (fun a1 x1 A1 o12 G1 => ?_))
  show Code.wp Try.prog _ (qPost w0) a1 x1
  have h1 := h.next A1 (by decide) G1
  obtain ⟨b, cap, e12⟩ := o12.len
  have f9 := (A1.old 9 (by decide)).trans e9
  have f10 := (A1.old 10 (by decide)).trans e10
  refine wp_seq (wp_seq (rq28 h1.z b _ cap e12 (fun a2 x2 A2 o123 G2 => ?_)))
  show Code.wp Try.prog _ _ a2 x2
  have h2 := h1.next A2 (by decide) G2
  have g9 := (A2.old 9 (by decide)).trans f9
  have g10 := (A2.old 10 (by decide)).trans f10
  have g12 := A2.old 12 (by decide)
  refine wp_cond_split o123 (fun hn => ?_) (fun hn => ?_)
  · have hn0 : membersL p [1] = [] := by
      have : ((membersL p [1]).length : Int) = 0 := by simpa using hn
      exact List.length_eq_zero_iff.1 (by omega)
    have hpm : p = m := by
      by_cases h0 : claimantL m = 0
      · rw [hpd, plan_none hm h0]
      · have hP := plan_is hm h0
        rw [← hpd] at hP
        rw [hP.joined] at hn0
        have := claimant_some h0
        rw [hn0] at this
        simp at this
    refine wp_seq (rq29 h2.z gp gm p m h2.e3 g10 (B10.gr (G1.trans G2)) g9 (B9.gr (G1.trans G2)) (by rw [hpm]) (fun a3 x3 A3 o2 G3 => ?_))
    show Code.wp Try.prog Code.ret _ a3 x3
    exact wp_ret (ret_post (h2.next A3 (by decide) G3) o2)
  · refine wp_skip ?_
    show Code.wp Try.prog _ (qPost w0) a2 x2
    have hne : membersL p [1] ≠ [] := fun e => by rw [e] at hn; simp at hn
    have h0 : claimantL m ≠ 0 := fun e => by
      apply hne
      rw [hpd, plan_none hm e]
      exact claimant_none e
    have hP : Planned m p := by rw [hpd]; exact plan_is hm h0
    refine wp_seq (rq30 h2.z gp g10 p hpf (B10.gr (G1.trans G2)) (fun a3 x3 g13 A3 e13 B13 G3 => ?_))
    show Code.wp Try.prog _ (qPost w0) a3 x3
    have h3 := h2.next A3 (by decide) G3
    refine wp_seq (rq31 h3.z gp g13 p _ (a1.eval (.tmp 12)) (membersL p [1]) h3.e3 ((A3.old 10 (by decide)).trans g10) (B10.gr (G1.trans (G2.trans G3))) e13 B13 ((A3.old 12 (by decide)).trans g12) ((Ints.below o12 (G2.trans G3)).mono (G2.trans G3).size) (ownersL_len p) (members_len p [1]) (hP.bal hpN h0) hP.leaving (by rw [hP.again hpN h0]) (fun a4 x4 A4 o2 G4 => ?_))
    show Code.wp Try.prog Code.ret (qPost w0) a4 x4
    exact wp_ret (ret_post (h3.next A4 (by decide) G4) o2)
theorem tail_wp {w0 : World} {v0 : Value} {g : Nat} {a : Act} {w : World} {i : Nat} {l : List Rg} (h : St w0 v0 g a w i l) (hi : i ≤ 60) : qTail.wp Try.prog (qPost w0) a w := by
  have hlen := h.bx.len
  obtain ⟨r0, r1, r2, rfl⟩ : ∃ r0 r1 r2, l = [r0, r1, r2] := by
    match l, hlen with
    | [r0, r1, r2], _ => exact ⟨r0, r1, r2, rfl⟩
  have hmG : Gd (i + 4) (mergeL [r0, r1, r2]) := ⟨merge_normed _, vb_merge (fun q hq => (h.gd q hq).vb)⟩
  obtain ⟨m, hm⟩ : ∃ m, mergeL [r0, r1, r2] = m := ⟨_, rfl⟩
  obtain ⟨p, hp⟩ : ∃ p, planL m (claimantL m) = p := ⟨_, rfl⟩
  have hpN : Normed p := by rw [← hp]; exact plan_normed _
  have hpG : Gd (i + 5) p := ⟨hpN, by rw [← hp, ← hm]; exact vb_plan hmG.vb _⟩
  have hnew : mergeL [p, m] = p := by rw [← hp]; exact plan_newer (by rw [← hm]; exact hmG.small (by omega)) _
  unfold qTail
  refine wp_seq (rq20 h.z g h.e4 r0 r1 r2 h.bx (fun a1 x1 g9 A1 e9 B9 G1 => ?_))
  show Code.wp Try.prog _ (qPost w0) a1 x1
  have h1 := h.next A1 (by decide) G1
  rw [hm] at B9
  refine wp_seq (rq21 h1.z g9 e9 m (by rw [← hm]; exact hmG.fit (by omega)) B9 (fun a2 x2 g10 A2 e10 B10 G2 => ?_))
  show Code.wp Try.prog _ (qPost w0) a2 x2
  have h2 := h1.next A2 (by decide) G2
  rw [hp] at B10
  have e9b := (A2.old 9 (by decide)).trans e9
  have B9b := B9.gr G2
  refine wp_seq (wp_seq (rq22 h2.z (fun a3 x3 A3 o11 G3 => ?_)))
  show Code.wp Try.prog (Code.block 3 qCheck.loop) _ a3 x3
  have h3 := h2.next A3 (by decide) G3
  refine wp_block ?_
  refine wp_loop (fun a w => ∃ j : Nat, St w0 v0 g a w i [r0, r1, r2] ∧ a.eval (.tmp 11) = .int .i64 (j : Int) ∧ a.eval (.tmp 9) = .pointer (some ⟨g9, 0, none⟩) ∧ a.eval (.tmp 10) = .pointer (some ⟨g10, 0, none⟩) ∧ BoxIn w g9 m ∧ BoxIn w g10 p) (fun a _ => 3 - (intOf (a.eval (.tmp 11))).toNat) ⟨0, h3, o11, (A3.old 9 (by decide)).trans e9b, (A3.old 10 (by decide)).trans e10, B9b.gr G3, B10.gr G3⟩ (fun a4 w4 ⟨j, h4, f11, f9, f10, C9, C10⟩ => ?_)
  unfold qCheck
  refine wp_seq (wp_seq (rq23 h4.z j f11 (fun a5 x5 A5 o106 G5 => ?_)))
  show Code.wp Try.prog (Code.cond (Operand.tmp 106) Code.skip (Code.exit 3)) _ a5 x5
  have h5 := h4.next A5 (by decide) G5
  have k9 := (A5.old 9 (by decide)).trans f9
  have k10 := (A5.old 10 (by decide)).trans f10
  have k11 := (A5.old 11 (by decide)).trans f11
  refine wp_cond_split o106 (fun hj => ?_) (fun _ => wp_exit ?_)
  · have hj : (j : Int) < 3 := of_decide_eq_true hj
    have hj3 : j < 3 := by omega
    obtain ⟨rr, hl⟩ : ∃ rr, ([r0, r1, r2] : List Rg)[j]? = some rr := ⟨_, List.getElem?_eq_getElem (by simpa using hj3)⟩
    have hpart : mergeL [rr, p] = p := part_newer (List.mem_of_getElem? hl) (by rw [hm]; exact hnew)
    refine wp_skip ?_
    refine wp_seq (wp_block ?_)
    refine wp_seq (rq25 h5.z g j hj3 h5.e4 k11 _ h5.bx rr hl g10 p k10 (C10.gr G5) (by rw [hpart]) (fun a6 x6 A6 o117 G6 => ?_))
    show Code.wp Try.prog (Code.cond (Operand.tmp 117) ((Code.region 26 q26 false).seq Code.ret) Code.skip) _ a6 x6
    have h6 := h5.next A6 (by decide) G6
    refine wp_cond_false o117 (wp_skip ?_)
    show Code.wp Try.prog (Code.region 24 q24 false) _ a6 x6
    refine rq24 h6.z j hj3 ((A6.old 11 (by decide)).trans k11) (fun a7 x7 A7 o11' G7 => ?_)
    refine ⟨⟨j + 1, h6.next A7 (by decide) G7, by rw [o11']; rfl, (A7.old 9 (by decide)).trans ((A6.old 9 (by decide)).trans k9), (A7.old 10 (by decide)).trans ((A6.old 10 (by decide)).trans k10), C9.gr (G5.trans (G6.trans G7)), C10.gr (G5.trans (G6.trans G7))⟩, ?_⟩
    show 3 - (intOf (a7.eval (.tmp 11))).toNat < 3 - (intOf (a4.eval (.tmp 11))).toNat
    rw [o11', f11]
    simp only [intOf]
    omega
  · show Code.wp Try.prog qLast (qPost w0) a5 x5
    exact last_wp h5 m p g9 g10 k9 (C9.gr G5) k10 (C10.gr G5) (by rw [← hm]; exact merge_normed _) hp.symm hpN (hpG.fit (by omega))
theorem best_le {B : Nat} {l : List Mb} (h : ∀ m ∈ l, m.2.2 ≤ B) (n : Int) : (bestL l n).2.2 ≤ B := by
  have : ∀ (l : List Mb) (k : Kn), (∀ n, (k n).2.2 ≤ B) → (∀ m ∈ l, m.2.2 ≤ B) → ∀ n, (hearL k l n).2.2 ≤ B := by
    intro l
    induction l with
    | nil => intro k hk _ n; exact hk n
    | cons m l ih =>
      intro k hk hl n
      refine ih (hear1 k m) (fun n => ?_) (fun q hq => hl q (by simp [hq])) n
      unfold hear1
      split
      · unfold upd
        split
        · exact hl m (by simp)
        · exact hk n
      · exact hk n
  exact this l noK (fun n => Nat.zero_le _) h n
theorem gd_a : Gd 1 aR := ⟨by
  have e : mergeL [aR] = aR := by decide +kernel
  rw [← e]; exact merge_normed _, ⟨best_le (by decide), by decide⟩⟩
theorem act1_first (v : Value) (k : Nat) : (Act.mk (#[v] ++ Array.replicate k undef) []).eval (.tmp 0) = v := by
  show (#[v] ++ Array.replicate k undef).getD 0 undef = v
  rw [Array.getD_eq_getD_getElem?, Array.getElem?_append_left (by simp)]
  rfl
set_option maxRecDepth 100000 in
theorem rests_walk (b : Option Addr) (n cap : Nat) (ls : List Ac) (w : World) (hS : ScriptOf w b n cap ls) (hfit : ∀ c ∈ ls, AcFit c) : Calls Try.prog 4 #[.slice b n cap] w fun e z => e = .returned (.bool true) ∧ Gr w z := by
  refine calls_of_wp (c := qLaw) Try.func4 (by kernel_rfl) ?_
  show qLaw.wp Try.prog (qPost w) _ w
  generalize ha : (Act.mk (#[Value.slice b n cap] ++ Array.replicate (Try.f4.ntmps - (#[Value.slice b n cap] : Array Value).size) undef) []) = a
  have z : a.tmps.size = 153 := by rw [← ha]; simp [Try.ntmps4]
  have df : a.defers = [] := by rw [← ha]
  have e0 : a.eval (.tmp 0) = .slice b n cap := by rw [← ha]; exact act1_first _ _
  clear ha
  unfold qLaw
  refine wp_seq (rq0 z (fun a1 x1 A1 G1 => ?_))
  show Code.wp Try.prog _ (qPost w) a1 x1
  refine wp_seq (rq1 (A1.size.trans z) (fun a2 x2 A2 e3 G2 => ?_))
  show Code.wp Try.prog _ (qPost w) a2 x2
  refine wp_seq (rq2 (A2.size.trans (A1.size.trans z)) (fun a3 x3 g A3 e4 B3 hlo G3 => ?_))
  show Code.wp Try.prog _ (qPost w) a3 x3
  have z3 := A3.size.trans (A2.size.trans (A1.size.trans z))
  have d3 := A3.defers.trans (A2.defers.trans (A1.defers.trans df))
  have f0 := (A3.old 0 (by decide)).trans ((A2.old 0 (by decide)).trans ((A1.old 0 (by decide)).trans e0))
  have f3 := (A3.old 3 (by decide)).trans e3
  have hgw : Gr w x3 := G1.trans (G2.trans G3)
  have hlo' : w.heap.size ≤ g := Nat.le_trans (G1.trans G2).size hlo
  refine wp_seq (rq3 z3 g e4 _ B3 (fun a4 x4 A4 B4 L4 => ?_))
  show Code.wp Try.prog _ (qPost w) a4 x4
  have hb4 : Below w.heap.size w x4 := Below.trans hgw (L4 _ hlo')
  refine wp_seq (rq4 (A4.size.trans z3) g ((A4.old 4 (by decide)).trans e4) _ B4 aR rfl fit_a (fun a5 x5 A5 B5 L5 => ?_))
  show Code.wp Try.prog _ (qPost w) a5 x5
  have hb5 := hb4.trans (L5 _ hlo')
  refine wp_seq (rq5 (A5.size.trans (A4.size.trans z3)) g ((A5.old 4 (by decide)).trans ((A4.old 4 (by decide)).trans e4)) _ B5 (joinL aR 2) rfl (join_fit fit_a 2) (fun a6 x6 A6 B6 L6 => ?_))
  show Code.wp Try.prog _ (qPost w) a6 x6
  have hb6 := hb5.trans (L6 _ hlo')
  have gb : Gd 2 (joinL aR 2) := ⟨join_normed _ _, vb_join gd_a.vb 2⟩
  have gc : Gd 3 (joinL (joinL aR 2) 3) := ⟨join_normed _ _, vb_join gb.vb 3⟩
  refine loop_wp (l := [aR, joinL aR 2, joinL (joinL aR 2) 3]) (g := g) ⟨A6.size.trans (A5.size.trans (A4.size.trans z3)), A6.defers.trans (A5.defers.trans (A4.defers.trans d3)), (A6.old 0 (by decide)).trans ((A5.old 0 (by decide)).trans ((A4.old 0 (by decide)).trans f0)), (A6.old 3 (by decide)).trans ((A5.old 3 (by decide)).trans ((A4.old 3 (by decide)).trans f3)), (A6.old 4 (by decide)).trans ((A5.old 4 (by decide)).trans ((A4.old 4 (by decide)).trans e4)), B6, fun r hr => ?_, hlo', hb6⟩ ls hS hfit qTail (fun a' x i l' h' hi => tail_wp h' hi)
  simp at hr
  rcases hr with rfl | rfl | rfl
  · exact gd_a.mono (by decide)
  · exact gb.mono (by decide)
  · exact gc.mono (by decide)
end Go.Proofs.Ythmnjebmnocoiaa
