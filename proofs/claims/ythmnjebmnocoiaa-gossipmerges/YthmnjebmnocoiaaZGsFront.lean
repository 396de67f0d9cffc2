/- The law as a whole: three rings, whatever they are. -/
import Derived.Test.YthmnjebmnocoiaaZGsMid
namespace Go.Proofs.Ythmnjebmnocoiaa
open Go.RowKit
attribute [local go_sem ↓] rule28
theorem Holds.row28at {w : World} {b : Nat} {cs : List Value} {t : TypeId} (h : Holds w b cs t) (o : Nat) (ds : List Value) (hl : ds.length = 17) (hd : ∀ j v, ds[j]? = some v → cs[o + j]? = some v) : rowOf w (.pointer (some ⟨b, o, none⟩)) 17 = some ds := by
  have hr : w.rangeAt b o ds := h.range o ds hd
  rw [← hl]
  exact rowOf_range hr
structure Rows3 (w : World) (b : Nat) (ca cb cc : List Value) : Prop where
  p0 : rowOf w (.pointer (some ⟨b, 0, none⟩)) 17 = some ca
  p1 : rowOf w (.pointer (some ⟨b, 17, none⟩)) 17 = some cb
  p2 : rowOf w (.pointer (some ⟨b, 34, none⟩)) 17 = some cc
theorem rows3 {w : World} {b : Nat} {ca cb cc : List Value} {t : TypeId} (h : Holds w b (ca ++ (cb ++ cc)) t) (la : ca.length = 17) (lb : cb.length = 17) (lc : cc.length = 17) : Rows3 w b ca cb cc := by
  refine ⟨h.row28at 0 ca la (fun j v hv => ?_), h.row28at 17 cb lb (fun j v hv => ?_), h.row28at 34 cc lc (fun j v hv => ?_)⟩
  · rw [Nat.zero_add, List.getElem?_append_left (List.getElem?_eq_some_iff.1 hv).1]; exact hv
  · rw [List.getElem?_append_right (by omega), la, Nat.add_sub_cancel_left, List.getElem?_append_left (List.getElem?_eq_some_iff.1 hv).1]; exact hv
  · rw [List.getElem?_append_right (by omega), la, List.getElem?_append_right (by omega), lb, show 34 + j - 17 - 17 = j by omega]; exact hv
set_option maxRecDepth 100000 in
set_option maxHeartbeats 4000000 in
theorem merges_walk (n : Int) (hn : I64 n) (ra rb rc : Rg) (fa : RFit ra) (fb : RFit rb) (fc : RFit rc) (ua ub uc : Value) (w : World) (RA : RingAt w.heap.size w ua ra) (RB : RingAt w.heap.size w ub rb) (RC : RingAt w.heap.size w uc rc) :
    Calls Try.prog 3 #[.agg (ringC ua ra ++ (ringC ub rb ++ ringC uc rc)).toArray, .int .i64 n] w fun e z => e = .returned (.bool true) ∧ Gr w z := by
  obtain ⟨N, hN⟩ : ∃ N, w.heap.size = N := ⟨_, rfl⟩
  have HN : Hid (w.heap.size = N) := hN
  have FA : Hid (RFit ra) := fa
  have FB : Hid (RFit rb) := fb
  have FC : Hid (RFit rc) := fc
  have la : (ringC ua ra).length = 17 := ringC_len RA
  have lb : (ringC ub rb).length = 17 := ringC_len RB
  have lc : (ringC uc rc).length = 17 := ringC_len RC
  have oa := ringC_one RA
  have ob := ringC_one RB
  have oc := ringC_one RC
  have TA : Hid (∀ x, Gr w x → Tl x x (ringC ua ra) ra) := fun x hx => ⟨⟨ua, rfl, RA.gr hx⟩, Gr.refl _⟩
  have TB : Hid (∀ x, Gr w x → Tl x x (ringC ub rb) rb) := fun x hx => ⟨⟨ub, rfl, RB.gr hx⟩, Gr.refl _⟩
  have TC : Hid (∀ x, Gr w x → Tl x x (ringC uc rc) rc) := fun x hx => ⟨⟨uc, rfl, RC.gr hx⟩, Gr.refl _⟩
  generalize ringC ua ra = ca at *
  generalize ringC ub rb = cb at *
  generalize ringC uc rc = cc at *
  have HCs : Hid (∀ (W : World), Holds W N (ca ++ (cb ++ cc)) 29 → Rows3 W N ca cb cc) := fun W h => rows3 h la lb lc
  obtain ⟨cs, hcs⟩ : ∃ cs, ca ++ (cb ++ cc) = cs := ⟨_, rfl⟩
  rw [hcs] at HCs ⊢
  have HNI : Hid (I64 n) := hn
  clear RA RB RC fa fb fc hcs hn
  go_enter Try.func3, Try.ntmps3
  generalize hK : (Code.region 5 _ true).seq _ = K5
  have HK : Hid (_ = K5) := hK
  clear hK
  go_wp2_with (first
    | (refine wpList_store_all rfl 28 (.tmp 8) (.tmp 27) rfl g8 rfl cc rfl 28 _ k8.holds (siz28.trans (congrArg some lc.symm)) lc.symm oc ?_; intro w5 t8; obtain ⟨B8, G8⟩ := hbox (box_made (TC.out _ G4.out) hg8 k8 t8); clear k8 t8 hg8)
    | (refine wpList_alloc_new 8 rfl rfl 28 rfl g8 hg8 _ zero28 ?_; intro y8 k8)
    | (refine wpList_store_all rfl 28 (.tmp 7) (.tmp 25) rfl g7 rfl cb rfl 28 _ k7.holds (siz28.trans (congrArg some lb.symm)) lb.symm ob ?_; intro w4 t7; obtain ⟨B7, G7⟩ := hbox (box_made (TB.out _ G3.out) hg7 k7 t7); have G4 : Hid (Gr w w4) := G3.out.trans G7.out; have p2 := (HCs.out _ (HH3.out.below G7.out HH3.out.lt)).p2; obtain ⟨g8, hg8⟩ : ∃ g, w4.heap.size = g := ⟨_, rfl⟩; clear k7 t7 hg7 p1)
    | (refine wpList_alloc_new 7 rfl rfl 28 rfl g7 hg7 _ zero28 ?_; intro y7 k7)
    | (refine wpList_store_all rfl 28 (.tmp 6) (.tmp 23) rfl g6 rfl ca rfl 28 _ k6.holds (siz28.trans (congrArg some la.symm)) la.symm oa ?_; intro w3 t6; obtain ⟨B6, G6⟩ := hbox (box_made (TA.out _ G2.out) hg6 k6 t6); have G3 : Hid (Gr w w3) := G2.out.trans G6.out; have HH3 : Hid (Holds w3 N cs 29) := HH2.out.below G6.out HH2.out.lt; have p1 := (HCs.out _ HH3.out).p1; obtain ⟨g7, hg7⟩ : ∃ g, w3.heap.size = g := ⟨_, rfl⟩; clear k6 t6 hg6 p0)
    | (refine wpList_alloc_new 6 rfl rfl 28 rfl g6 hg6 _ zero28 ?_; intro y6 k6)
    | (go_at_call 5; refine (k_awake _).mono ?_; rintro e w2 ⟨rfl, b2⟩; have G2 : Hid (Gr w w2) := G1.out.trans b2; have HH2 : Hid (Holds w2 N cs 29) := HH1.out.below b2 HH1.out.lt; have p0 := (HCs.out _ HH2.out).p0; obtain ⟨g6, hg6⟩ : ∃ g, w2.heap.size = g := ⟨_, rfl⟩; clear b2)
    | (refine wpList_box_new 2 rfl rfl 29 _ rfl N hN cs rfl ?_; intro w1 h1; have HH1 : Hid (Holds w1 N cs 29) := h1.holds; have G1 : Hid (Gr w w1) := (by show Below w.heap.size w w1; rw [HN.out]; exact h1.below); clear h1 hN))
  have I6 : Hid (BoxIn w5 g6 ra) := ((B6.out.gr G7.out).gr G8.out).boxIn
  have I7 : Hid (BoxIn w5 g7 rb) := (B7.out.gr G8.out).boxIn
  have I8 : Hid (BoxIn w5 g8 rc) := B8.out.boxIn
  have A5 : Hid (Gr w w5) := G4.out.trans G8.out
  clear B6 B7 B8 G1 G2 G3 G4 G6 G7 G8 TA TB TC HCs HH1 HH2 HH3 oa ob oc la lb lc HN p2
  rw [← HK.out]
  clear HK
  generalize hM : ((Code.region 11 _ false).seq _).seq _ = KM
  have HM : Hid (_ = KM) := hM
  clear hM
  -- MARK5
  go_upto_region 5 with fail
  rename_i Kc hKc
  show Code.wp Try.prog _ _ ⟨#[(.agg cs.toArray), (.int .i64 n), (.pointer (some ⟨N, 0, none⟩)), undef, (.bool false), (.bool true), (.pointer (some ⟨g6, 0, none⟩)), (.pointer (some ⟨g7, 0, none⟩)), (.pointer (some ⟨g8, 0, none⟩)), undef, undef, undef, undef, undef, undef, undef, undef, undef, undef, undef, undef, (.bool true), (.pointer (some ⟨N, 0, none⟩)), (.agg ca.toArray), (.pointer (some ⟨N, 17, none⟩)), (.agg cb.toArray), (.pointer (some ⟨N, 34, none⟩)), (.agg cc.toArray), undef, undef, undef, undef, undef, undef, undef, undef, undef, undef, undef, undef, undef, undef, undef, undef, undef, undef, undef, undef, undef, undef, undef, undef, undef, undef, undef, undef, undef, undef, undef, undef, undef, undef, undef, undef, undef, undef, undef, undef, undef, undef, undef, undef, undef, undef, undef, undef, undef, undef, undef, undef, undef, undef, undef, undef, undef, undef, undef, undef, undef, undef, undef, undef, undef, undef, undef, undef, undef, undef, undef, undef, undef, undef, undef, undef, undef, undef, undef, undef, undef, undef, undef, undef, undef, undef, undef, undef, undef, undef, undef, undef, undef, undef, undef, undef, undef, undef, undef, undef, undef, undef, undef, undef, undef, undef, undef, undef, undef, undef, undef, undef, undef, undef, undef, undef, undef, undef, undef, undef, undef, undef], []⟩ w5
  refine law_r5 rfl g6 rfl I6.out g7 rfl I7.out (merge_fit (by intro r hr; simp at hr; rcases hr with rfl | rfl; exact FA.out; exact FB.out)) (merge_fit (by intro r hr; simp at hr; rcases hr with rfl | rfl; exact FB.out; exact FA.out)) (by rw [merge_comm]) (fun a x5 hA h9 G => ?_)
  refine hKc _ _ ?_
  clear hKc
  have ha : a = ⟨#[(.agg cs.toArray), (.int .i64 n), (.pointer (some ⟨N, 0, none⟩)), undef, (.bool false), (.bool true), (.pointer (some ⟨g6, 0, none⟩)), (.pointer (some ⟨g7, 0, none⟩)), (.pointer (some ⟨g8, 0, none⟩)), (a.eval (.tmp 9)), undef, undef, undef, undef, undef, undef, undef, undef, undef, undef, undef, (.bool true), (.pointer (some ⟨N, 0, none⟩)), (.agg ca.toArray), (.pointer (some ⟨N, 17, none⟩)), (.agg cb.toArray), (.pointer (some ⟨N, 34, none⟩)), (.agg cc.toArray), (a.eval (.tmp 28)), (a.eval (.tmp 29)), (a.eval (.tmp 30)), (a.eval (.tmp 31)), (a.eval (.tmp 32)), (a.eval (.tmp 33)), (a.eval (.tmp 34)), (a.eval (.tmp 35)), (a.eval (.tmp 36)), undef, undef, undef, undef, undef, undef, undef, undef, undef, undef, undef, undef, undef, undef, undef, undef, undef, undef, undef, undef, undef, undef, undef, undef, undef, undef, undef, undef, undef, undef, undef, undef, undef, undef, undef, undef, undef, undef, undef, undef, undef, undef, undef, undef, undef, undef, undef, undef, undef, undef, undef, undef, undef, undef, undef, undef, undef, undef, undef, undef, undef, undef, undef, undef, undef, undef, undef, undef, undef, undef, undef, undef, undef, undef, undef, undef, undef, undef, undef, undef, undef, undef, undef, undef, undef, undef, undef, undef, undef, undef, undef, undef, undef, undef, undef, undef, undef, undef, undef, undef, undef, undef, undef, undef, undef, undef, undef, undef, undef, undef, undef, undef, undef], []⟩ := hA.lit.trans rfl
  generalize a.eval (.tmp 28) = y28 at ha
  generalize a.eval (.tmp 29) = y29 at ha
  generalize a.eval (.tmp 30) = y30 at ha
  generalize a.eval (.tmp 31) = y31 at ha
  generalize a.eval (.tmp 32) = y32 at ha
  generalize a.eval (.tmp 33) = y33 at ha
  generalize a.eval (.tmp 34) = y34 at ha
  generalize a.eval (.tmp 35) = y35 at ha
  generalize a.eval (.tmp 36) = y36 at ha
  rw [h9] at ha
  clear hA
  subst ha
  replace I6 : Hid (BoxIn x5 g6 ra) := I6.out.gr G
  replace I7 : Hid (BoxIn x5 g7 rb) := I7.out.gr G
  replace I8 : Hid (BoxIn x5 g8 rc) := I8.out.gr G
  replace A5 : Hid (Gr w x5) := A5.out.trans G
  clear G
  go_upto_region 6 with fail
  rename_i Kc hKc
  show Code.wp Try.prog _ _ ⟨#[(.agg cs.toArray), (.int .i64 n), (.pointer (some ⟨N, 0, none⟩)), undef, (.bool false), (.bool true), (.pointer (some ⟨g6, 0, none⟩)), (.pointer (some ⟨g7, 0, none⟩)), (.pointer (some ⟨g8, 0, none⟩)), (.bool true), undef, undef, undef, undef, undef, undef, undef, undef, undef, undef, undef, (.bool true), (.pointer (some ⟨N, 0, none⟩)), (.agg ca.toArray), (.pointer (some ⟨N, 17, none⟩)), (.agg cb.toArray), (.pointer (some ⟨N, 34, none⟩)), (.agg cc.toArray), y28, y29, y30, y31, y32, y33, y34, y35, y36, undef, undef, undef, undef, undef, undef, undef, undef, undef, undef, undef, undef, undef, undef, undef, undef, undef, undef, undef, undef, undef, undef, undef, undef, undef, undef, undef, undef, undef, undef, undef, undef, undef, undef, undef, undef, undef, undef, undef, undef, undef, undef, undef, undef, undef, undef, undef, undef, undef, undef, undef, undef, undef, undef, undef, undef, undef, undef, undef, undef, undef, undef, undef, undef, undef, undef, undef, undef, undef, undef, undef, undef, undef, undef, undef, undef, undef, undef, undef, undef, undef, undef, undef, undef, undef, undef, undef, undef, undef, undef, undef, undef, undef, undef, undef, undef, undef, undef, undef, undef, undef, undef, undef, undef, undef, undef, undef, undef, undef, undef, undef, undef, undef], []⟩ x5
  refine law_r6 rfl g6 rfl I6.out g7 rfl I7.out g8 rfl I8.out (merge_fit (by intro r hr; simp at hr; rcases hr with rfl | rfl; exact (merge_fit (by intro r hr; simp at hr; rcases hr with rfl | rfl; exact FA.out; exact FB.out)); exact FC.out)) (merge_fit (by intro r hr; simp at hr; rcases hr with rfl | rfl; exact FA.out; exact (merge_fit (by intro r hr; simp at hr; rcases hr with rfl | rfl; exact FB.out; exact FC.out)))) (by rw [merge_assoc]) (fun a x6 hA h10 G => ?_)
  refine hKc _ _ ?_
  clear hKc
  have ha : a = ⟨#[(.agg cs.toArray), (.int .i64 n), (.pointer (some ⟨N, 0, none⟩)), undef, (.bool false), (.bool true), (.pointer (some ⟨g6, 0, none⟩)), (.pointer (some ⟨g7, 0, none⟩)), (.pointer (some ⟨g8, 0, none⟩)), (.bool true), (a.eval (.tmp 10)), undef, undef, undef, undef, undef, undef, undef, undef, undef, undef, (.bool true), (.pointer (some ⟨N, 0, none⟩)), (.agg ca.toArray), (.pointer (some ⟨N, 17, none⟩)), (.agg cb.toArray), (.pointer (some ⟨N, 34, none⟩)), (.agg cc.toArray), y28, y29, y30, y31, y32, y33, y34, y35, y36, (a.eval (.tmp 37)), (a.eval (.tmp 38)), (a.eval (.tmp 39)), (a.eval (.tmp 40)), (a.eval (.tmp 41)), (a.eval (.tmp 42)), (a.eval (.tmp 43)), (a.eval (.tmp 44)), (a.eval (.tmp 45)), (a.eval (.tmp 46)), (a.eval (.tmp 47)), (a.eval (.tmp 48)), (a.eval (.tmp 49)), (a.eval (.tmp 50)), (a.eval (.tmp 51)), undef, undef, undef, undef, undef, undef, undef, undef, undef, undef, undef, undef, undef, undef, undef, undef, undef, undef, undef, undef, undef, undef, undef, undef, undef, undef, undef, undef, undef, undef, undef, undef, undef, undef, undef, undef, undef, undef, undef, undef, undef, undef, undef, undef, undef, undef, undef, undef, undef, undef, undef, undef, undef, undef, undef, undef, undef, undef, undef, undef, undef, undef, undef, undef, undef, undef, undef, undef, undef, undef, undef, undef, undef, undef, undef, undef, undef, undef, undef, undef, undef, undef, undef, undef, undef, undef, undef, undef, undef, undef, undef, undef, undef, undef, undef, undef, undef, undef], []⟩ := hA.lit.trans rfl
  generalize a.eval (.tmp 37) = y37 at ha
  generalize a.eval (.tmp 38) = y38 at ha
  generalize a.eval (.tmp 39) = y39 at ha
  generalize a.eval (.tmp 40) = y40 at ha
  generalize a.eval (.tmp 41) = y41 at ha
  generalize a.eval (.tmp 42) = y42 at ha
  generalize a.eval (.tmp 43) = y43 at ha
  generalize a.eval (.tmp 44) = y44 at ha
  generalize a.eval (.tmp 45) = y45 at ha
  generalize a.eval (.tmp 46) = y46 at ha
  generalize a.eval (.tmp 47) = y47 at ha
  generalize a.eval (.tmp 48) = y48 at ha
  generalize a.eval (.tmp 49) = y49 at ha
  generalize a.eval (.tmp 50) = y50 at ha
  generalize a.eval (.tmp 51) = y51 at ha
  rw [h10] at ha
  clear hA
  subst ha
  replace I6 : Hid (BoxIn x6 g6 ra) := I6.out.gr G
  replace I7 : Hid (BoxIn x6 g7 rb) := I7.out.gr G
  replace I8 : Hid (BoxIn x6 g8 rc) := I8.out.gr G
  replace A5 : Hid (Gr w x6) := A5.out.trans G
  clear G
  go_upto_region 7 with fail
  rename_i Kc hKc
  show Code.wp Try.prog _ _ ⟨#[(.agg cs.toArray), (.int .i64 n), (.pointer (some ⟨N, 0, none⟩)), undef, (.bool false), (.bool true), (.pointer (some ⟨g6, 0, none⟩)), (.pointer (some ⟨g7, 0, none⟩)), (.pointer (some ⟨g8, 0, none⟩)), (.bool true), (.bool true), undef, undef, undef, undef, undef, undef, undef, undef, undef, undef, (.bool true), (.pointer (some ⟨N, 0, none⟩)), (.agg ca.toArray), (.pointer (some ⟨N, 17, none⟩)), (.agg cb.toArray), (.pointer (some ⟨N, 34, none⟩)), (.agg cc.toArray), y28, y29, y30, y31, y32, y33, y34, y35, y36, y37, y38, y39, y40, y41, y42, y43, y44, y45, y46, y47, y48, y49, y50, y51, undef, undef, undef, undef, undef, undef, undef, undef, undef, undef, undef, undef, undef, undef, undef, undef, undef, undef, undef, undef, undef, undef, undef, undef, undef, undef, undef, undef, undef, undef, undef, undef, undef, undef, undef, undef, undef, undef, undef, undef, undef, undef, undef, undef, undef, undef, undef, undef, undef, undef, undef, undef, undef, undef, undef, undef, undef, undef, undef, undef, undef, undef, undef, undef, undef, undef, undef, undef, undef, undef, undef, undef, undef, undef, undef, undef, undef, undef, undef, undef, undef, undef, undef, undef, undef, undef, undef, undef, undef, undef, undef, undef, undef, undef, undef, undef, undef, undef], []⟩ x6
  refine law_r7 rfl g6 rfl I6.out (merge_fit (by intro r hr; simp at hr; subst hr; exact FA.out)) (norm_fit FA.out) (by rw [merge_idem]) (fun a x7 hA h11 G => ?_)
  refine hKc _ _ ?_
  clear hKc
  have ha : a = ⟨#[(.agg cs.toArray), (.int .i64 n), (.pointer (some ⟨N, 0, none⟩)), undef, (.bool false), (.bool true), (.pointer (some ⟨g6, 0, none⟩)), (.pointer (some ⟨g7, 0, none⟩)), (.pointer (some ⟨g8, 0, none⟩)), (.bool true), (.bool true), (a.eval (.tmp 11)), undef, undef, undef, undef, undef, undef, undef, undef, undef, (.bool true), (.pointer (some ⟨N, 0, none⟩)), (.agg ca.toArray), (.pointer (some ⟨N, 17, none⟩)), (.agg cb.toArray), (.pointer (some ⟨N, 34, none⟩)), (.agg cc.toArray), y28, y29, y30, y31, y32, y33, y34, y35, y36, y37, y38, y39, y40, y41, y42, y43, y44, y45, y46, y47, y48, y49, y50, y51, (a.eval (.tmp 52)), (a.eval (.tmp 53)), (a.eval (.tmp 54)), (a.eval (.tmp 55)), (a.eval (.tmp 56)), (a.eval (.tmp 57)), (a.eval (.tmp 58)), undef, undef, undef, undef, undef, undef, undef, undef, undef, undef, undef, undef, undef, undef, undef, undef, undef, undef, undef, undef, undef, undef, undef, undef, undef, undef, undef, undef, undef, undef, undef, undef, undef, undef, undef, undef, undef, undef, undef, undef, undef, undef, undef, undef, undef, undef, undef, undef, undef, undef, undef, undef, undef, undef, undef, undef, undef, undef, undef, undef, undef, undef, undef, undef, undef, undef, undef, undef, undef, undef, undef, undef, undef, undef, undef, undef, undef, undef, undef, undef, undef, undef, undef, undef, undef, undef, undef, undef, undef, undef, undef], []⟩ := hA.lit.trans rfl
  generalize a.eval (.tmp 52) = y52 at ha
  generalize a.eval (.tmp 53) = y53 at ha
  generalize a.eval (.tmp 54) = y54 at ha
  generalize a.eval (.tmp 55) = y55 at ha
  generalize a.eval (.tmp 56) = y56 at ha
  generalize a.eval (.tmp 57) = y57 at ha
  generalize a.eval (.tmp 58) = y58 at ha
  rw [h11] at ha
  clear hA
  subst ha
  replace I6 : Hid (BoxIn x7 g6 ra) := I6.out.gr G
  replace I7 : Hid (BoxIn x7 g7 rb) := I7.out.gr G
  replace I8 : Hid (BoxIn x7 g8 rc) := I8.out.gr G
  replace A5 : Hid (Gr w x7) := A5.out.trans G
  clear G
  go_upto_region 8 with fail
  rename_i Kc hKc
  show Code.wp Try.prog _ _ ⟨#[(.agg cs.toArray), (.int .i64 n), (.pointer (some ⟨N, 0, none⟩)), undef, (.bool false), (.bool true), (.pointer (some ⟨g6, 0, none⟩)), (.pointer (some ⟨g7, 0, none⟩)), (.pointer (some ⟨g8, 0, none⟩)), (.bool true), (.bool true), (.bool true), undef, undef, undef, undef, undef, undef, undef, undef, undef, (.bool true), (.pointer (some ⟨N, 0, none⟩)), (.agg ca.toArray), (.pointer (some ⟨N, 17, none⟩)), (.agg cb.toArray), (.pointer (some ⟨N, 34, none⟩)), (.agg cc.toArray), y28, y29, y30, y31, y32, y33, y34, y35, y36, y37, y38, y39, y40, y41, y42, y43, y44, y45, y46, y47, y48, y49, y50, y51, y52, y53, y54, y55, y56, y57, y58, undef, undef, undef, undef, undef, undef, undef, undef, undef, undef, undef, undef, undef, undef, undef, undef, undef, undef, undef, undef, undef, undef, undef, undef, undef, undef, undef, undef, undef, undef, undef, undef, undef, undef, undef, undef, undef, undef, undef, undef, undef, undef, undef, undef, undef, undef, undef, undef, undef, undef, undef, undef, undef, undef, undef, undef, undef, undef, undef, undef, undef, undef, undef, undef, undef, undef, undef, undef, undef, undef, undef, undef, undef, undef, undef, undef, undef, undef, undef, undef, undef, undef, undef, undef, undef, undef, undef, undef, undef, undef, undef], []⟩ x7
  refine law_r8 rfl g6 rfl I6.out g7 rfl I7.out g8 rfl I8.out (merge_fit (by intro r hr; simp at hr; rcases hr with rfl | rfl | rfl; exact FA.out; exact FB.out; exact FC.out)) (merge_fit (by intro r hr; simp at hr; rcases hr with rfl | rfl | rfl; exact FC.out; exact FB.out; exact FA.out)) (by rw [merge_turn]) (fun a x8 hA h12 G => ?_)
  refine hKc _ _ ?_
  clear hKc
  have ha : a = ⟨#[(.agg cs.toArray), (.int .i64 n), (.pointer (some ⟨N, 0, none⟩)), undef, (.bool false), (.bool true), (.pointer (some ⟨g6, 0, none⟩)), (.pointer (some ⟨g7, 0, none⟩)), (.pointer (some ⟨g8, 0, none⟩)), (.bool true), (.bool true), (.bool true), (a.eval (.tmp 12)), undef, undef, undef, undef, undef, undef, undef, undef, (.bool true), (.pointer (some ⟨N, 0, none⟩)), (.agg ca.toArray), (.pointer (some ⟨N, 17, none⟩)), (.agg cb.toArray), (.pointer (some ⟨N, 34, none⟩)), (.agg cc.toArray), y28, y29, y30, y31, y32, y33, y34, y35, y36, y37, y38, y39, y40, y41, y42, y43, y44, y45, y46, y47, y48, y49, y50, y51, y52, y53, y54, y55, y56, y57, y58, (a.eval (.tmp 59)), (a.eval (.tmp 60)), (a.eval (.tmp 61)), (a.eval (.tmp 62)), (a.eval (.tmp 63)), (a.eval (.tmp 64)), (a.eval (.tmp 65)), (a.eval (.tmp 66)), (a.eval (.tmp 67)), (a.eval (.tmp 68)), (a.eval (.tmp 69)), undef, undef, undef, undef, undef, undef, undef, undef, undef, undef, undef, undef, undef, undef, undef, undef, undef, undef, undef, undef, undef, undef, undef, undef, undef, undef, undef, undef, undef, undef, undef, undef, undef, undef, undef, undef, undef, undef, undef, undef, undef, undef, undef, undef, undef, undef, undef, undef, undef, undef, undef, undef, undef, undef, undef, undef, undef, undef, undef, undef, undef, undef, undef, undef, undef, undef, undef, undef, undef, undef, undef, undef, undef, undef, undef, undef, undef, undef, undef, undef], []⟩ := hA.lit.trans rfl
  generalize a.eval (.tmp 59) = y59 at ha
  generalize a.eval (.tmp 60) = y60 at ha
  generalize a.eval (.tmp 61) = y61 at ha
  generalize a.eval (.tmp 62) = y62 at ha
  generalize a.eval (.tmp 63) = y63 at ha
  generalize a.eval (.tmp 64) = y64 at ha
  generalize a.eval (.tmp 65) = y65 at ha
  generalize a.eval (.tmp 66) = y66 at ha
  generalize a.eval (.tmp 67) = y67 at ha
  generalize a.eval (.tmp 68) = y68 at ha
  generalize a.eval (.tmp 69) = y69 at ha
  rw [h12] at ha
  clear hA
  subst ha
  replace I6 : Hid (BoxIn x8 g6 ra) := I6.out.gr G
  replace I7 : Hid (BoxIn x8 g7 rb) := I7.out.gr G
  replace I8 : Hid (BoxIn x8 g8 rc) := I8.out.gr G
  replace A5 : Hid (Gr w x8) := A5.out.trans G
  clear G
  -- MARK9
  go_wp2
  rw [← HM.out]
  exact law_mid n HNI.out ra FA.out g6 w x8 A5.out I6.out _ _ _ _ _ _ _ _ _ _ _ _ _ _ _ _ _ _ _ _ _ _ _ _ _ _ _ _ _ _ _ _ _ _ _ _ _ _ _ _ _ _ _ _ _ _ _ _ _ _ _ _ _ _ _ _ _ _ _ _ _ _ _ _ _ _ _ _ _ _ _ _ _ _ _ _ _ _ _ _ _ _ _ _ _ _ _ _ _ _ _ _ _ _ _ _ _ _ _ _ _ _ _ _ _ _ _ _ _ _ _ _ _ _ _ _ _ _ _ _ _ _ _ _ _ _ _ _ _ _ _ _ _ _ _ _ _ _ _ _ _ _ _ _ _ _ _
end Go.Proofs.Ythmnjebmnocoiaa
