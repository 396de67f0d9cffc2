/- GsTurn, GsRule, GsJoin, GsLeave. -/
import Derived.Test.YthmnjebmnocoiaaGreatYA5
import Derived.Test.YthmnjebmnocoiaaGreatYGsMem
/- What package gossip's turned tells. -/
namespace Go.Proofs.YthmnjebmnocoiaaGreat
open Go.RowKit

def KFit (k : Kn) : Prop := ∀ n, (k n).2.2 < 18446744073709551616
structure RFit (r : Rg) : Prop where
  mem : ∀ m ∈ r.1, m.2.2 < 18446744073709551616
  own : ∀ j, j < 8 → (r.2.getD j noO).2 < 18446744073709551616
theorem moreN_lt {v : Nat} (h : v < 18446744073709551616) : moreN v < 18446744073709551616 := by unfold moreN; split <;> omega
theorem hear1_fit {k : Kn} {m : Mb} (hk : KFit k) (hm : m.2.2 < 18446744073709551616) : KFit (hear1 k m) := fun n => by
  rw [hear1_at]
  split
  · unfold joM; split
    · exact hm
    · exact hk n
  · exact hk n
theorem hearL_fit : ∀ (l : List Mb) {k : Kn}, KFit k → (∀ m ∈ l, m.2.2 < 18446744073709551616) → KFit (hearL k l)
  | [], _, hk, _ => hk
  | m :: l, _, hk, hl => hearL_fit l (hear1_fit hk (hl m (by simp))) (fun q hq => hl q (by simp [hq]))
theorem noK_fit : KFit noK := fun _ => by show (0 : Nat) < _; omega
theorem bestL_fit {l : List Mb} (h : ∀ m ∈ l, m.2.2 < 18446744073709551616) : KFit (bestL l) := hearL_fit l noK_fit h
theorem upd_fit {k : Kn} {m : Mb} (hk : KFit k) (hm : m.2.2 < 18446744073709551616) : KFit (upd k m) := fun n => by
  unfold upd; split
  · exact hm
  · exact hk n
theorem upd_right {k : Kn} {m : Mb} (hk : Right k) (hm : okM m = true) : Right (upd k m) := fun n => by
  unfold upd
  by_cases e : n = m.1
  · rw [if_pos e]; exact Or.inr ⟨hm, e.symm⟩
  · rw [if_neg e]; exact hk n
theorem risL_fit {k : Kn} (hk : Right k) (hf : KFit k) : ∀ m ∈ risL k, m.2.2 < 18446744073709551616 := fun m hm => by
  have := (mem_risL k hk m).1 hm
  rw [← this.2]; exact hf _
def turn1 (s : Int) (k : Kn) (n : Int) : Kn := upd k (n, s, moreN (k n).2.2)
def turnK (k : Kn) (s : Int) (ns : List Int) : Kn := ns.foldl (turn1 s) k
def turnL (r : Rg) (s : Int) (ns : List Int) : Rg := (risL (turnK (bestL (normL r).1) s ns), (normL r).2)
theorem turn_ok {s n : Int} (hs : 1 ≤ s ∧ s ≤ 3) (hn : 1 ≤ n ∧ n ≤ 7) (v : Nat) : okM (n, s, v) = true := (okM_iff _).2 ⟨hn, hs⟩
theorem turnK_right {s : Int} (hs : 1 ≤ s ∧ s ≤ 3) : ∀ (ns : List Int) {k : Kn}, (∀ n ∈ ns, 1 ≤ n ∧ n ≤ 7) → Right k → Right (turnK k s ns)
  | [], _, _, hk => hk
  | n :: ns, _, hn, hk => turnK_right hs ns (fun q hq => hn q (by simp [hq])) (upd_right hk (turn_ok hs (hn n (by simp)) _))
theorem turnK_fit {s : Int} : ∀ (ns : List Int) {k : Kn}, KFit k → KFit (turnK k s ns)
  | [], _, hk => hk
  | n :: ns, _, hk => turnK_fit ns (upd_fit hk (moreN_lt (hk n)))
theorem foldK_fit : ∀ (l : List Rg) {k : Kn}, KFit k → (∀ r ∈ l, RFit r) → KFit (l.foldl (fun k r => hearL k r.1) k)
  | [], _, h, _ => h
  | r :: l, _, h, hl => foldK_fit l (hearL_fit r.1 h (hl r (by simp)).mem) (fun q hq => hl q (by simp [hq]))
theorem okO_v (o : Ow) : (okO o).2 = o.2 := by unfold okO; split <;> rfl
theorem foldO_fit : ∀ (l : List Rg) {a : List Ow}, (∀ j, j < 8 → (a.getD j noO).2 < 18446744073709551616) → (∀ r ∈ l, RFit r) → ∀ j, j < 8 → ((l.foldl (fun a r => newestL a r.2) a).getD j noO).2 < 18446744073709551616
  | [], _, h, _ => h
  | r :: l, a, h, hl => foldO_fit l (fun j hj => by
      rw [newestL_at _ _ j hj]
      unfold joO; split
      · rw [okO_v]; exact (hl r (by simp)).own j hj
      · exact h j hj) (fun q hq => hl q (by simp [hq]))
theorem merge_fit {l : List Rg} (h : ∀ r ∈ l, RFit r) : RFit (mergeL l) :=
  ⟨risL_fit (mergeK_right l) (foldK_fit l noK_fit h), foldO_fit l (fun j hj => by
    have : noOs.getD j noO = noO := by
      unfold noOs
      rw [List.getD_eq_getElem?_getD, List.getElem?_replicate, if_pos hj]; rfl
    rw [this]; decide) h⟩
theorem norm_fit {r : Rg} (h : RFit r) : RFit (normL r) := merge_fit (by simpa using h)
theorem turn_fit {r : Rg} (h : RFit r) {s : Int} (hs : 1 ≤ s ∧ s ≤ 3) {ns : List Int} (hn : ∀ n ∈ ns, 1 ≤ n ∧ n ≤ 7) : RFit (turnL r s ns) :=
  ⟨risL_fit (turnK_right hs ns hn (bestL_right _)) (turnK_fit ns (bestL_fit (norm_fit h).mem)), (norm_fit h).own⟩
set_option maxRecDepth 100000 in
set_option maxHeartbeats 4000000 in
theorem turned_any (v : Value) (r : Rg) (hF : RFit r) (s : Int) (hs : 1 ≤ s ∧ s ≤ 3) (B : Nat) (nv : Value) (ns : List Int) (hns : ∀ n ∈ ns, 1 ≤ n ∧ n ≤ 7) (hnl : ns.length ≤ 1000) (w : World) (hB : B ≤ w.heap.size) (hnv : Ints B w nv ns) (h : RingAt w.heap.size w v r) :
    Calls Tryz.prog 38 #[ringV v r, .int .i64 s, nv] w fun e w' => ∃ u, e = .returned (ringV u (turnL r s ns)) ∧ RingAt w'.heap.size w' u (turnL r s ns) ∧ Fresh w.heap.size u ∧ (∀ g, u.ownBlock = some g → ∃ cs fr, w'.heap[g]? = some (.cells cs 53 fr)) ∧ Below w.heap.size w w' := by
  obtain ⟨N, hN⟩ : ∃ N, w.heap.size = N := ⟨_, rfl⟩
  have HR : Hid (RingAt N w v r) := hN ▸ h
  have hl17 := ringC_len h
  rw [hN] at hB ⊢
  have HNorm : Hid (∀ W, RingAt W.heap.size W v r → Calls Tryz.prog 8 #[.agg (ringC v r).toArray] W fun e w' => ∃ ua uc ds, e = .returned (.agg ds.toArray) ∧ Hid (ds = ringC (.slice ua (normL r).1.length uc) (normL r) ∧ RingAt w'.heap.size w' (.slice ua (normL r).1.length uc) (normL r)) ∧ Fresh W.heap.size (.slice ua (normL r).1.length uc) ∧ Below W.heap.size W w') := fun W hr => (norm_any v r W hr).mono fun e w' ⟨u, h1, h2, h3, h4⟩ => by
    obtain ⟨ua, uc, rfl⟩ := h2.mem.len
    exact ⟨ua, uc, _, h1, ⟨rfl, h2⟩, h3, h4⟩
  have HFk : Hid (KFit (bestL (normL r).1)) := bestL_fit (norm_fit hF).mem
  have HRk : Hid (Right (bestL (normL r).1)) := bestL_right _
  have HHear : Hid (∀ B W mb va vc, Mems B W (.slice va (normL r).1.length vc) (normL r).1 → KnAt W mb noK → B ≤ mb → Calls Tryz.prog 34 #[.map (some mb), .slice va (normL r).1.length vc] W fun e w' => e = .returned (.tuple #[]) ∧ KnAt w' mb (bestL (normL r).1) ∧ Upd mb W w') := fun B W mb va vc h1 h2 h3 => hear_any B (normL r).1 _ noK mb W h1 h2 noK_right h3
  have HE : Hid (turnL r s ns = (risL (turnK (bestL (normL r).1) s ns), (normL r).2)) := rfl
  generalize hnr : normL r = nr at *
  generalize bestL nr.1 = k0 at *
  show Calls Tryz.prog 38 #[.agg (ringC v r).toArray, .int .i64 s, nv] w _
  generalize ringC v r = cs at *
  obtain ⟨na, nc, rfl⟩ := hnv.len
  have HI : Hid (Ints B w (.slice na ns.length nc) ns) := hnv
  obtain ⟨n, hln⟩ : ∃ n, ns.length = n := ⟨_, rfl⟩
  have HL : Hid (ns.length = n) := hln
  rw [hln] at hnl ⊢
  have hn' : (n : Int) ≤ 1000 := by omega
  clear h hnv hln hF hnl
  go_enter Tryz.func38, Tryz.ntmps38
  go_wp2_with (first
    | (refine wpList_box_new 3 rfl rfl 28 _ rfl N hN _ rfl ?_; intro w1 h1)
    | (refine wpList_alloc_new 6 rfl rfl 28 rfl (N + 1) h1.size _ zero28 ?_; intro w2 h2; have H2 := h1.holds.below h2.below (by omega); have hz2 := h2.size; have b2 : Below N w w2 := h1.below.trans (h2.below.mono (by omega)); have hz2' : N ≤ w2.heap.size := (by omega); have HR2 := (HR.out.below b2).mono hz2')
    | (refine wpList_load_row rfl 28 _ rfl N rfl 28 cs.toArray (0, 0) _ H2 Tryz.underlying28 rfl (siz28.trans (congrArg some hl17.symm)) ?_)
    | (go_at_call 8; refine (HNorm.out w2 HR2).mono ?_; rintro e w3 ⟨ua, uc, ds, rfl, hds, f3, b3⟩; have H3 := H2.below b3 (by omega); have hz3 := ringC_len hds.out.2; have ho3 := ringC_one hds.out.2; rw [← hds.out.1] at hz3 ho3; have hz3s := b3.size)
    | (refine wpList_store_all rfl 28 (.tmp 3) (.tmp 11) rfl N rfl ds rfl 28 _ H3 (siz28.trans (congrArg some hz3.symm)) (hl17.trans hz3.symm) ho3 ?_; intro w4 h4; have hmk := make55 w4; have c0 := (h4.holds.alloc (.map #[] 0)).at 0 (.slice ua nr.1.length uc) (by rw [hds.out.1]; rfl))
    | (go_at_call 34; refine (HHear.out w4.heap.size _ w4.heap.size ua uc (((hds.out.2.mem.outs (Outs.ofTurned (s := fun b => b = N) h4 rfl) (Nat.le_refl _) (fun g hg => by have := f3 g hg; omega)).mono (Nat.le_of_eq h4.size.symm)).below ((Below.refl _ _).alloc (Nat.le_refl _) _)) (kn_made w4) (Nat.le_refl _)).mono ?_; rintro e w5 ⟨rfl, K5, U5⟩))
  obtain ⟨M, hM⟩ : ∃ M, w4.heap.size = M := ⟨_, rfl⟩
  rw [hM] at K5 U5 ⊢
  have hMN : N + 2 ≤ M := by rw [← hM, h4.size]; omega
  have hmA : (w4.alloc (.map #[] 0)).heap.size = M + 1 := by rw [World.size_alloc, hM]
  have b4 : Below N w w4 := (b2.trans (b3.mono (by omega))).trans (h4.below (Nat.le_refl _))
  have b5 : Below N w w5 := (b4.alloc (by omega) _).trans (U5.below (by omega) (by omega))
  have H5 : Holds w5 N ds 28 := ((h4.holds.alloc (.map #[] 0))).upd U5 (by omega)
  have HN5 : Holds w5 (N + 1) (ringC (.slice none 0 0) ([], noOs)) 28 := by
    have q3 := h2.holds.below b3 (by omega)
    have q4 : Holds w4 (N + 1) (ringC (.slice none 0 0) ([], noOs)) 28 := by unfold Holds; rw [h4.others (N + 1) (by omega)]; exact q3
    exact (q4.alloc (.map #[] 0)).upd U5 (by omega)
  have hz5 : M + 1 ≤ w5.heap.size := by have := U5.size; omega
  have HK5 : Hid (KnAt w5 M k0) := K5
  have HB5 : Hid (Below N w w5) := b5
  have HH5 : Hid (Holds w5 N ds 28) := H5
  have HHN : Hid (Holds w5 (N + 1) (ringC (.slice none 0 0) ([], noOs)) 28) := HN5
  have HI5 : Hid (Ints B w5 (.slice na ns.length nc) ns) := HI.out.below (b5.mono hB)
  have HDS : Hid (∀ x : Value, ds.set 0 x = ringC x (risL (turnK k0 s ns), nr.2)) := fun x => by rw [hds.out.1]; rfl
  have HNO : Hid (nr.2.length = 8) := hds.out.2.own
  have hds0 : ∃ x, ds[0]? = some x := ⟨_, by rw [hds.out.1]; rfl⟩
  obtain ⟨x0, hx0⟩ := hds0
  clear K5 b5 H5 HN5 b4 h4 c0 hmk HHear HNorm HR HR2 H2 H3 h2 h1 b2 b3 f3 hds U5 hmA HI hz2 hz2' hz3s
  go_loopw [19] (fun c wr => ∃ i : Nat, i ≤ n ∧ c = .int .i64 (i : Int) ∧ Hid (KnAt wr M (turnK k0 s (ns.take i)) ∧ Upd M w5 wr)) (fun c _ => n - (intOf c).toNat)
  case atStart => exact ⟨0, Nat.zero_le _, rfl, HK5.out, Upd.refl _ _⟩
  case round =>
  obtain ⟨i, hi, rfl, hI⟩ := hrel
  by_cases hlt : i < n
  · have hlt' : (i : Int) < (n : Int) := by omega
    have hi0 : (0 : Int) ≤ (i : Int) := by omega
    obtain ⟨x, hx⟩ : ∃ x, ns[i]? = some x := ⟨_, List.getElem?_eq_getElem (by rw [HL.out]; exact hlt)⟩
    have hxr := hns x (List.mem_of_getElem? hx)
    obtain ⟨hK, hU⟩ := hI.out
    have hst : turnK k0 s (ns.take (i + 1)) = turn1 s (turnK k0 s (ns.take i)) x := foldl_take_succ2 _ _ _ _ _ hx
    have hIr : Ints B wr (.slice na ns.length nc) ns := HI5.out.below (hU.below (by omega) (by omega))
    obtain ⟨g, o, rfl, cx⟩ := hIr.cell i x hx
    have hRk : Right (turnK k0 s (ns.take i)) := turnK_right hs _ (fun q hq => hns q (List.mem_of_mem_take hq)) HRk.out
    have hFk : KFit (turnK k0 s (ns.take i)) := turnK_fit _ HFk.out
    generalize turnK k0 s (ns.take i) = kk at *
    have hlk := hK.look hRk x ⟨by omega, by omega⟩
    have hf := run_field35v wr (kk x)
    have hom := oneMore_any (kk x).2.2 (hFk x) wr
    obtain ⟨w6, hrun, K6, U6⟩ := hK.store hRk (x, s, moreN (kk x).2.2) (turn_ok hs hxr _)
    have hrun' : (Instr.mapUpdate 56 (.map (some M)) (.int .i64 x) (.agg #[.int .i64 x, .int .i64 s, .int .u64 (moreN (kk x).2.2 : Int)])).run Tryz.prog wr = .ok () w6 := hrun
    have hst' : turnK k0 s (ns.take (i + 1)) = upd kk (x, s, moreN (kk x).2.2) := hst
    have HFIN : Hid (KnAt w6 M (turnK k0 s (ns.take (i + 1))) ∧ Upd M w5 w6) := by rw [hst']; exact ⟨K6, hU.trans U6⟩
    generalize (mbV (kk x)).toArray = mv at hlk hf
    generalize (kk x).2.2 = vv at *
    generalize moreN vv = vw at *
    clear hrun hK hU hst hst' hIr hRk hFk K6 U6 hI
    go_wp2_with (go_at_call 43; refine hom.mono ?_; rintro e w7 ⟨rfl, rfl⟩)
    exact ⟨⟨i + 1, by omega, by go_num, HFIN⟩, by simp [intOf]; omega⟩
  · have e8 : ns.take i = ns := List.take_of_length_le (by rw [HL.out]; omega)
    rw [e8] at hI
    have i1 : ¬ (i : Int) < (n : Int) := by omega
    have hRk : Hid (Right (turnK k0 s ns)) := turnK_right hs _ hns HRk.out
    obtain ⟨hK, hU⟩ := hI.out
    generalize turnK k0 s ns = kk at *
    have HU : Hid (Upd M w5 wr) := hU
    have HRis : Hid (Calls Tryz.prog 36 #[.map (some M)] wr fun e w' => ∃ v, e = .returned v ∧ Mems w'.heap.size w' v (risL kk) ∧ (∀ g, v.ownBlock = some g → wr.heap.size ≤ g) ∧ (∀ g, v.ownBlock = some g → ∃ cs fr, w'.heap[g]? = some (.cells cs 53 fr)) ∧ Below wr.heap.size wr w') := rising_row M kk hRk.out wr hK
    have hzr : M + 1 ≤ wr.heap.size := by have := hU.size; omega
    have hl17' : Hid (∀ x : Value, (ringC x (risL kk, nr.2)).length = 17) := fun x => by show (x :: ownV nr.2).length = 17; rw [List.length_cons, ownV_len, HNO.out]
    have hone : Hid (∀ x : Value, x.oneCell' = true → ∀ u ∈ ringC x (risL kk, nr.2), u.oneCell' = true) := fun x hx u hu => by
      rcases List.mem_cons.1 hu with rfl | hu
      · exact hx
      · exact ownV_one _ u hu
    clear hI hK hU
    go_wp2_with (first
      | (go_at_call 36; refine HRis.out.mono ?_; rintro e w6 ⟨v, rfl, M6, f6, t6, b6⟩; have HO6 := (HH5.out.upd HU.out (by omega)).below b6 (by omega); have hv1 := mems_one M6; obtain ⟨va, vc, rfl⟩ := M6.len; have q0 := HO6.at 0 _ hx0; have qf := HO6.frozen 0; have H7 := HO6.set 0 (.slice va (risL kk).length vc); have hl18 := hl17'.out (.slice va (risL kk).length vc); have hon := hone.out _ hv1; rw [HDS.out] at H7; have HR6 := ((HHN.out.upd HU.out (by omega)).below b6 (by omega)).setOther N 0 (.slice va (risL kk).length vc) (by omega); obtain ⟨es, hes0⟩ : ∃ es, ringC (.slice va (risL kk).length vc) (risL kk, nr.2) = es := ⟨_, rfl⟩; have hes : Hid (ringC (.slice va (risL kk).length vc) (risL kk, nr.2) = es) := hes0; rw [hes0] at H7 hl18 hon; clear hes0)
      | (refine wpList_load_row rfl 28 _ rfl N rfl 28 es.toArray (0, 0) _ H7 Tryz.underlying28 rfl (siz28.trans (congrArg some hl18.symm)) ?_)
      | (refine wpList_store_all rfl 28 (.tmp 6) (.tmp 37) rfl (N + 1) rfl es rfl 28 _ HR6 (siz28.trans (congrArg some hl18.symm)) hl18.symm hon ?_; intro w8 h8))
    refine bodyPost_ret (results_cell_row (p := 6) (by kernel_rfl) _ w8 (N + 1) 28 es.toArray (0, 0) _ rfl h8.holds Tryz.underlying28 rfl (siz28.trans (congrArg some (show es.length = 17 from hl18).symm))) rfl ?_
    rw [HE.out, ← hes.out]
    have b68 : Outs (fun b => b = N ∨ b = N + 1) w6 w8 := (Outs.ofTurned (turned_set HO6 0 (.slice va (risL kk).length vc)) (Or.inl rfl)).trans (Outs.ofTurned h8 (Or.inr rfl))
    have b58 : Below N w5 w8 := ((HU.out.below (by omega) (by omega)).trans (b6.mono (by omega))).trans (b68.below (by omega) (by have := b6.size; omega))
    exact ⟨_, rfl, ⟨(M6.outs b68 (Nat.le_refl _) (fun g hg => by have := f6 g hg; omega)).mono b68.size, HNO.out⟩, fun g hg => Nat.le_trans (by omega) (f6 g hg), fun g hg => (by
      obtain ⟨cs', fr', q⟩ := t6 g hg
      have hlt := (Array.getElem?_eq_some_iff.1 q).1
      exact ⟨cs', fr', (b68.block g hlt (by have := f6 g hg; omega)).trans q⟩), HB5.out.trans b58⟩
end Go.Proofs.YthmnjebmnocoiaaGreat

/- Loads of whole rings, as rules for the walk. -/
namespace Go.Proofs.YthmnjebmnocoiaaGreat
open Go.RowKit

theorem wp_load_rule' {ty : TypeId} {n : Nat} {d : TypeDesc} (hu : Tryz.prog.underlying ty = some d) (hd : d.isRow = true) (hi : (Tryz.prog.info? ty).map (·.size) = some n)
    (dst : Option Tmp) (x : Operand) (t : TypeId) (pos : String) (af : Array Edge) (gd : Option (Nat × Bool)) (a : Act) (w : World) (K : Act → World → Prop) (Q : Exit → Act → World → Prop)
    (h : (rowOf w (a.eval x) n).isSome = true) :
    Oper.wp Tryz.prog { dst := dst, op := .load ty x, type := t, pos := pos, after := af, guard := gd } a w K Q = K (a.put dst (.agg ((rowOf w (a.eval x) n).getD []).toArray)) w := by
  obtain ⟨cs, hcs⟩ := Option.isSome_iff_exists.1 h
  rw [hcs]
  cases hp : a.eval x with
  | pointer q =>
    cases q with
    | none => rw [hp] at hcs; simp [rowOf] at hcs
    | some ad =>
      obtain ⟨b, o, s⟩ := ad
      cases s with
      | some s => rw [hp] at hcs; simp [rowOf] at hcs
      | none =>
        rw [hp] at hcs
        obtain ⟨hl, hr⟩ := rangeAt_rowOf hcs
        have hrun := run_loadVar_mid (P := Tryz.prog) w b o ty cs _ hr hu hd (by rw [hl]; exact hi)
        unfold Oper.wp execOp
        simp only [hp, Instr.loadAt, Instr.sureAddr, Sem.run_bind, Sem.run_pure, Result.andThen_ok, hrun, Oper.upon, Option.getD_some]
  | _ => rw [hp] at hcs; simp [rowOf] at hcs
theorem rule28 (dst : Option Tmp) (x : Operand) (t : TypeId) (pos : String) (af : Array Edge) (gd : Option (Nat × Bool)) (a : Act) (w : World) (K : Act → World → Prop) (Q : Exit → Act → World → Prop)
    (h : (rowOf w (a.eval x) 17).isSome = true) :
    Oper.wp Tryz.prog { dst := dst, op := .load 28 x, type := t, pos := pos, after := af, guard := gd } a w K Q = K (a.put dst (.agg ((rowOf w (a.eval x) 17).getD []).toArray)) w :=
  wp_load_rule' Tryz.underlying28 rfl siz28 dst x t pos af gd a w K Q h
theorem Holds.row28 {w : World} {b : Nat} {cs : List Value} {t : TypeId} (h : Holds w b cs t) (hl : cs.length = 17) : rowOf w (.pointer (some ⟨b, 0, none⟩)) 17 = some cs := by
  have hr : w.rangeAt b 0 cs := h.range 0 cs (fun j v hv => by rw [Nat.zero_add]; exact hv)
  rw [← hl]
  exact rowOf_range hr
end Go.Proofs.YthmnjebmnocoiaaGreat

/- What package gossip's Join and Leave tell. -/
namespace Go.Proofs.YthmnjebmnocoiaaGreat
open Go.RowKit
attribute [local go_sem ↓] rule28

def Told (R : Rg) (W : World) (ds : List Value) (w' : World) : Prop := ∃ u, ds = ringC u R ∧ RingAt w'.heap.size w' u R ∧ Fresh W.heap.size u ∧ Below W.heap.size W w'
theorem Told.len {R : Rg} {W w' : World} {ds : List Value} (h : Told R W ds w') : ds.length = 17 := by
  obtain ⟨u, rfl, h1, _⟩ := h; exact ringC_len h1
theorem Told.one {R : Rg} {W w' : World} {ds : List Value} (h : Told R W ds w') : ∀ u ∈ ds, u.oneCell' = true := by
  obtain ⟨u, rfl, h1, _⟩ := h; exact ringC_one h1
theorem Told.below {R : Rg} {W w' : World} {ds : List Value} (h : Told R W ds w') : Below W.heap.size W w' := by
  obtain ⟨u, rfl, _, _, h1⟩ := h; exact h1
theorem Told.done {R : Rg} {w W w4 w5 : World} {ds : List Value} {N X : Nat} {t : TypeId} (h : Told R W ds w4) (hb : Below N w W) (hN : N ≤ W.heap.size) (hX : N ≤ X) (hX2 : X < W.heap.size) (h5 : Turned X w4 w5 ds t) :
    ∃ u, Ending.returned (.agg ds.toArray) = .returned (ringV u R) ∧ RingAt w5.heap.size w5 u R ∧ Fresh N u ∧ Below N w w5 := by
  obtain ⟨u, rfl, h1, h2, h3⟩ := h
  have hU : Outs (fun b => b = X) w4 w5 := Outs.ofTurned h5 rfl
  exact ⟨u, rfl, (h1.outs h2 hU (Nat.le_refl _) (by omega)).mono hU.size, h2.mono hN, (hb.trans (h3.mono hN)).trans (h5.below hX)⟩
theorem norm_told (v : Value) (r : Rg) (w : World) (h : RingAt w.heap.size w v r) : Calls Tryz.prog 8 #[.agg (ringC v r).toArray] w fun e w' => ∃ ds, e = .returned (.agg ds.toArray) ∧ Hid (Told (normL r) w ds w') :=
  (norm_any v r w h).mono fun _ _ ⟨u, h1, h2, h3, h4⟩ => ⟨_, h1, u, rfl, h2, h3, h4⟩
theorem ints_one (w : World) (g : Nat) (x : Int) (h : Holds w g [.int .i64 x] 3) : Ints w.heap.size w (.slice (some ⟨g, 0, none⟩) 1 1) [x] :=
  ⟨_, _, rfl, Nat.le_refl _, Or.inr ⟨g, 0, rfl, h.lt, fun j hj => by
    have : j = 0 := by simpa using hj
    subst this
    exact h.at 0 _ rfl⟩⟩
theorem turned_told (v : Value) (r : Rg) (hF : RFit r) (s : Int) (hs : 1 ≤ s ∧ s ≤ 3) (x : Int) (hx : 1 ≤ x ∧ x ≤ 7) (g : Nat) (w : World) (hg : Holds w g [.int .i64 x] 3) (h : RingAt w.heap.size w v r) : Calls Tryz.prog 38 #[.agg (ringC v r).toArray, .int .i64 s, .slice (some ⟨g, 0, none⟩) 1 1] w fun e w' => ∃ ds, e = .returned (.agg ds.toArray) ∧ Hid (Told (turnL r s [x]) w ds w') :=
  (turned_any v r hF s hs w.heap.size _ [x] (by simpa using hx) (by simp) w (Nat.le_refl _) (ints_one w g x hg) h).mono fun e w' ⟨u, h1, h2, h3, _, h4⟩ => ⟨_, h1, u, rfl, h2, h3, h4⟩
def joinL (r : Rg) (n : Int) : Rg := if isN n = true ∧ stateL r n ≠ 1 then turnL r 1 [n] else normL r
def leaveL (r : Rg) (n : Int) : Rg := if stateL r n = 1 then turnL r 2 [n] else normL r
theorem joined_is {r : Rg} {n : Int} (h : stateL r n = 1) : 1 ≤ n ∧ n ≤ 7 := by
  have := (bestL_right r.1).seen (n := n) (by show stateL r n ≠ 0; rw [h]; decide)
  rw [okM_iff] at this
  obtain ⟨⟨h1, h2⟩, h3⟩ := this
  rw [h3] at h1
  exact h1
set_option maxRecDepth 100000 in
set_option maxHeartbeats 4000000 in
theorem join_any (v : Value) (r : Rg) (hF : RFit r) (n : Int) (hn : I64 n) (w : World) (h : RingAt w.heap.size w v r) :
    Calls Tryz.prog 12 #[ringV v r, .int .i64 n] w fun e w' => ∃ u, e = .returned (ringV u (joinL r n)) ∧ RingAt w'.heap.size w' u (joinL r n) ∧ Fresh w.heap.size u ∧ Below w.heap.size w w' := by
  obtain ⟨N, hN⟩ : ∃ N, w.heap.size = N := ⟨_, rfl⟩
  have HR : Hid (RingAt N w v r) := hN ▸ h
  have hl17 := ringC_len h
  rw [hN]
  have HNorm : Hid (∀ W, RingAt W.heap.size W v r → Calls Tryz.prog 8 #[.agg (ringC v r).toArray] W fun e w' => ∃ ds, e = .returned (.agg ds.toArray) ∧ Hid (Told (normL r) W ds w')) := fun W hr => norm_told v r W hr
  have HSt : Hid (∀ W, RingAt W.heap.size W v r → Calls Tryz.prog 26 #[.agg (ringC v r).toArray, .int .i64 n] W fun e w' => e = .returned (.int .i64 (stateL r n)) ∧ Below W.heap.size W w') := fun W hr => state_any v r n hn W hr
  have HTu : Hid (isN n = true → ∀ W g, Holds W g [.int .i64 n] 3 → RingAt W.heap.size W v r → Calls Tryz.prog 38 #[.agg (ringC v r).toArray, .int .i64 1, .slice (some ⟨g, 0, none⟩) 1 1] W fun e w' => ∃ ds, e = .returned (.agg ds.toArray) ∧ Hid (Told (turnL r 1 [n]) W ds w')) := fun hx W g hg hr => turned_told v r hF 1 (by decide) n ((isN_iff n).1 hx) g W hg hr
  have hI := fun W => isNode_any n W
  show Calls Tryz.prog 12 #[.agg (ringC v r).toArray, .int .i64 n] w _
  generalize ringC v r = cs at *
  have HJ : Hid (joinL r n = if isN n = true ∧ stateL r n ≠ 1 then turnL r 1 [n] else normL r) := rfl
  generalize joinL r n = JR at *
  generalize stateL r n = st at *
  clear h hF
  by_cases hi : isN n = true
  · rw [hi] at hI
    have HTu2 := HTu.out hi
    have HTU : Hid _ := HTu2
    clear HTu HTu2
    by_cases hst : st = 1
    · subst hst
      have hJ : Hid (JR = normL r) := HJ.out.trans (if_neg (by simp))
      go_enter Tryz.func12, Tryz.ntmps12
      go_wp2_with (first
        | (refine wpList_box_new 2 rfl rfl 28 _ rfl N hN _ rfl ?_; intro w1 h1)
        | (refine wpList_alloc_new 4 rfl rfl 28 rfl (N + 1) h1.size _ zero28 ?_; intro w2 h2; have H2 := h1.holds.below h2.below (by omega); have hz2 := h2.size; have b2 : Below N w w2 := h1.below.trans (h2.below.mono (by omega)); have hz2' : N ≤ w2.heap.size := (by omega); have HR2 := (HR.out.below b2).mono hz2'; have r2 := H2.row28 hl17)
        | (go_at_call 37; refine (hI _).mono ?_; rintro e w3 ⟨rfl, rfl⟩)
        | (go_at_call 26; refine (HSt.out _ HR2).mono ?_; rintro e w4 ⟨rfl, b4⟩; have H4 := H2.below b4 (by omega); have hz4 := b4.size; have HR4 := (HR2.below b4).mono hz4; have HN4 := h2.holds.below b4 (by omega); have r4 := H4.row28 hl17; have c4 := b2.trans (b4.mono hz2'))
        | (go_at_call 8; refine (HNorm.out _ HR4).mono ?_; rintro e w5 ⟨ds, rfl, T5⟩; have hz5 := T5.out.len; have ho5 := T5.out.one; have HN5 := HN4.below T5.out.below (by omega))
        | (refine wpList_store_all rfl 28 (.tmp 4) (.tmp 15) rfl (N + 1) rfl ds rfl 28 _ HN5 (siz28.trans (congrArg some hz5.symm)) hz5.symm ho5 ?_; intro w6 h6))
      refine bodyPost_ret (results_cell_row (p := 4) (by kernel_rfl) _ w6 (N + 1) 28 ds.toArray (0, 0) _ rfl h6.holds Tryz.underlying28 rfl (siz28.trans (congrArg some (show ds.length = 17 from hz5).symm))) rfl ?_
      rw [hJ.out]
      exact T5.out.done c4 (by omega) (by omega) (by omega) h6
    · have hst' : (st == 1) = false := by simpa using hst
      have hJ : Hid (JR = turnL r 1 [n]) := HJ.out.trans (if_pos ⟨hi, hst⟩)
      go_enter Tryz.func12, Tryz.ntmps12
      go_wp2_with (first
        | (refine wpList_box_new 2 rfl rfl 28 _ rfl N hN _ rfl ?_; intro w1 h1)
        | (refine wpList_alloc_new 4 rfl rfl 28 rfl (N + 1) h1.size _ zero28 ?_; intro w2 h2; have H2 := h1.holds.below h2.below (by omega); have hz2 := h2.size; have b2 : Below N w w2 := h1.below.trans (h2.below.mono (by omega)); have hz2' : N ≤ w2.heap.size := (by omega); have HR2 := (HR.out.below b2).mono hz2'; have r2 := H2.row28 hl17)
        | (go_at_call 37; refine (hI _).mono ?_; rintro e w3 ⟨rfl, rfl⟩)
        | (go_at_call 26; refine (HSt.out _ HR2).mono ?_; rintro e w4 ⟨rfl, b4⟩; have H4 := H2.below b4 (by omega); have hz4 := b4.size; have HR4 := (HR2.below b4).mono hz4; have HN4 := h2.holds.below b4 (by omega); have r4 := H4.row28 hl17; have c4 := b2.trans (b4.mono hz2'))
        | (go_at_call 38; refine (HTU.out _ _ (holds_new w4 [.int .i64 n] 3) ((HR4.below ((Below.refl _ w4).alloc (Nat.le_refl _) _)).mono (by simp))).mono ?_; rintro e w5 ⟨ds, rfl, T5⟩; have hz5 := T5.out.len; have ho5 := T5.out.one; have HN5 := (HN4.alloc (.cells #[.int .i64 n] 3)).below T5.out.below (by simp; omega))
        | (refine wpList_store_all rfl 28 (.tmp 4) (.tmp 19) rfl (N + 1) rfl ds rfl 28 _ HN5 (siz28.trans (congrArg some hz5.symm)) hz5.symm ho5 ?_; intro w6 h6))
      refine bodyPost_ret (results_cell_row (p := 4) (by kernel_rfl) _ w6 (N + 1) 28 ds.toArray (0, 0) _ rfl h6.holds Tryz.underlying28 rfl (siz28.trans (congrArg some (show ds.length = 17 from hz5).symm))) rfl ?_
      rw [hJ.out]
      exact T5.out.done (c4.alloc (by omega) _) (by simp; omega) (by omega) (by simp; omega) h6
  · have hi' : isN n = false := by simpa using hi
    rw [hi'] at hI
    have hJ : Hid (JR = normL r) := HJ.out.trans (if_neg (by simp [hi]))
    go_enter Tryz.func12, Tryz.ntmps12
    go_wp2_with (first
      | (refine wpList_box_new 2 rfl rfl 28 _ rfl N hN _ rfl ?_; intro w1 h1)
      | (refine wpList_alloc_new 4 rfl rfl 28 rfl (N + 1) h1.size _ zero28 ?_; intro w2 h2; have H2 := h1.holds.below h2.below (by omega); have hz2 := h2.size; have b2 : Below N w w2 := h1.below.trans (h2.below.mono (by omega)); have hz2' : N ≤ w2.heap.size := (by omega); have HR2 := (HR.out.below b2).mono hz2'; have r2 := H2.row28 hl17)
      | (go_at_call 37; refine (hI _).mono ?_; rintro e w3 ⟨rfl, rfl⟩)
      | (go_at_call 8; refine (HNorm.out _ HR2).mono ?_; rintro e w5 ⟨ds, rfl, T5⟩; have hz5 := T5.out.len; have ho5 := T5.out.one; have HN5 := h2.holds.below T5.out.below (by omega))
      | (refine wpList_store_all rfl 28 (.tmp 4) (.tmp 15) rfl (N + 1) rfl ds rfl 28 _ HN5 (siz28.trans (congrArg some hz5.symm)) hz5.symm ho5 ?_; intro w6 h6))
    refine bodyPost_ret (results_cell_row (p := 4) (by kernel_rfl) _ w6 (N + 1) 28 ds.toArray (0, 0) _ rfl h6.holds Tryz.underlying28 rfl (siz28.trans (congrArg some (show ds.length = 17 from hz5).symm))) rfl ?_
    rw [hJ.out]
    exact T5.out.done b2 hz2' (by omega) (by omega) h6
end Go.Proofs.YthmnjebmnocoiaaGreat

/- What package gossip's Leave tells. -/
namespace Go.Proofs.YthmnjebmnocoiaaGreat
open Go.RowKit
attribute [local go_sem ↓] rule28

set_option maxRecDepth 100000 in
set_option maxHeartbeats 4000000 in
theorem leave_any (v : Value) (r : Rg) (hF : RFit r) (n : Int) (hn : I64 n) (w : World) (h : RingAt w.heap.size w v r) :
    Calls Tryz.prog 14 #[ringV v r, .int .i64 n] w fun e w' => ∃ u, e = .returned (ringV u (leaveL r n)) ∧ RingAt w'.heap.size w' u (leaveL r n) ∧ Fresh w.heap.size u ∧ Below w.heap.size w w' := by
  obtain ⟨N, hN⟩ : ∃ N, w.heap.size = N := ⟨_, rfl⟩
  have HR : Hid (RingAt N w v r) := hN ▸ h
  have hl17 := ringC_len h
  rw [hN]
  have HNorm : Hid (∀ W, RingAt W.heap.size W v r → Calls Tryz.prog 8 #[.agg (ringC v r).toArray] W fun e w' => ∃ ds, e = .returned (.agg ds.toArray) ∧ Hid (Told (normL r) W ds w')) := fun W hr => norm_told v r W hr
  have HSt : Hid (∀ W, RingAt W.heap.size W v r → Calls Tryz.prog 26 #[.agg (ringC v r).toArray, .int .i64 n] W fun e w' => e = .returned (.int .i64 (stateL r n)) ∧ Below W.heap.size W w') := fun W hr => state_any v r n hn W hr
  have HTu : Hid (stateL r n = 1 → ∀ W g, Holds W g [.int .i64 n] 3 → RingAt W.heap.size W v r → Calls Tryz.prog 38 #[.agg (ringC v r).toArray, .int .i64 2, .slice (some ⟨g, 0, none⟩) 1 1] W fun e w' => ∃ ds, e = .returned (.agg ds.toArray) ∧ Hid (Told (turnL r 2 [n]) W ds w')) := fun hx W g hg hr => turned_told v r hF 2 (by decide) n (joined_is hx) g W hg hr
  show Calls Tryz.prog 14 #[.agg (ringC v r).toArray, .int .i64 n] w _
  generalize ringC v r = cs at *
  have HJ : Hid (leaveL r n = if stateL r n = 1 then turnL r 2 [n] else normL r) := rfl
  generalize leaveL r n = JR at *
  generalize stateL r n = st at *
  clear h hF
  by_cases hst : st = 1
  · subst hst
    have HTU : Hid _ := HTu.out rfl
    clear HTu
    have hJ : Hid (JR = turnL r 2 [n]) := HJ.out.trans (if_pos rfl)
    go_enter Tryz.func14, Tryz.ntmps14
    go_wp2_with (first
      | (refine wpList_box_new 2 rfl rfl 28 _ rfl N hN _ rfl ?_; intro w1 h1)
      | (refine wpList_alloc_new 4 rfl rfl 28 rfl (N + 1) h1.size _ zero28 ?_; intro w2 h2; have H2 := h1.holds.below h2.below (by omega); have hz2 := h2.size; have b2 : Below N w w2 := h1.below.trans (h2.below.mono (by omega)); have hz2' : N ≤ w2.heap.size := (by omega); have HR2 := (HR.out.below b2).mono hz2'; have r2 := H2.row28 hl17)
      | (go_at_call 26; refine (HSt.out _ HR2).mono ?_; rintro e w4 ⟨rfl, b4⟩; have H4 := H2.below b4 (by omega); have hz4 := b4.size; have HR4 := (HR2.below b4).mono hz4; have HN4 := h2.holds.below b4 (by omega); have r4 := H4.row28 hl17; have c4 := b2.trans (b4.mono hz2'))
      | (go_at_call 38; refine (HTU.out _ _ (holds_new w4 [.int .i64 n] 3) ((HR4.below ((Below.refl _ w4).alloc (Nat.le_refl _) _)).mono (by simp))).mono ?_; rintro e w5 ⟨ds, rfl, T5⟩; have hz5 := T5.out.len; have ho5 := T5.out.one; have HN5 := (HN4.alloc (.cells #[.int .i64 n] 3)).below T5.out.below (by simp; omega))
      | (refine wpList_store_all rfl 28 (.tmp 4) (.tmp 14) rfl (N + 1) rfl ds rfl 28 _ HN5 (siz28.trans (congrArg some hz5.symm)) hz5.symm ho5 ?_; intro w6 h6))
    refine bodyPost_ret (results_cell_row (p := 4) (by kernel_rfl) _ w6 (N + 1) 28 ds.toArray (0, 0) _ rfl h6.holds Tryz.underlying28 rfl (siz28.trans (congrArg some (show ds.length = 17 from hz5).symm))) rfl ?_
    rw [hJ.out]
    exact T5.out.done (c4.alloc (by omega) _) (by simp; omega) (by omega) (by simp; omega) h6
  · have hst' : (st == 1) = false := by simpa using hst
    have hJ : Hid (JR = normL r) := HJ.out.trans (if_neg hst)
    go_enter Tryz.func14, Tryz.ntmps14
    go_wp2_with (first
      | (refine wpList_box_new 2 rfl rfl 28 _ rfl N hN _ rfl ?_; intro w1 h1)
      | (refine wpList_alloc_new 4 rfl rfl 28 rfl (N + 1) h1.size _ zero28 ?_; intro w2 h2; have H2 := h1.holds.below h2.below (by omega); have hz2 := h2.size; have b2 : Below N w w2 := h1.below.trans (h2.below.mono (by omega)); have hz2' : N ≤ w2.heap.size := (by omega); have HR2 := (HR.out.below b2).mono hz2'; have r2 := H2.row28 hl17)
      | (go_at_call 26; refine (HSt.out _ HR2).mono ?_; rintro e w4 ⟨rfl, b4⟩; have H4 := H2.below b4 (by omega); have hz4 := b4.size; have HR4 := (HR2.below b4).mono hz4; have HN4 := h2.holds.below b4 (by omega); have r4 := H4.row28 hl17; have c4 := b2.trans (b4.mono hz2'))
      | (go_at_call 8; refine (HNorm.out _ HR4).mono ?_; rintro e w5 ⟨ds, rfl, T5⟩; have hz5 := T5.out.len; have ho5 := T5.out.one; have HN5 := HN4.below T5.out.below (by omega))
      | (refine wpList_store_all rfl 28 (.tmp 4) (.tmp 10) rfl (N + 1) rfl ds rfl 28 _ HN5 (siz28.trans (congrArg some hz5.symm)) hz5.symm ho5 ?_; intro w6 h6))
    refine bodyPost_ret (results_cell_row (p := 4) (by kernel_rfl) _ w6 (N + 1) 28 ds.toArray (0, 0) _ rfl h6.holds Tryz.underlying28 rfl (siz28.trans (congrArg some (show ds.length = 17 from hz5).symm))) rfl ?_
    rw [hJ.out]
    exact T5.out.done c4 (by omega) (by omega) (by omega) h6
end Go.Proofs.YthmnjebmnocoiaaGreat
