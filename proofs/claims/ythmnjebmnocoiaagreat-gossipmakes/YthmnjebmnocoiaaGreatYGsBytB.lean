/- gossip's Bytes (29): region by region, and whole. -/
import Derived.Test.YthmnjebmnocoiaaGreatYB2
namespace Go.Proofs.YthmnjebmnocoiaaGreat
open Go.RowKit
set_option maxRecDepth 100000
set_option maxHeartbeats 2000000
structure Bs (w0 : World) (N B : Nat) (ds : List Value) (u : Value) (nr : Rg) (bs : List UInt8) (a : Act) (x : World) : Prop where
  z : a.tmps.size = 50
  df : a.defers = []
  e1 : a.eval (.tmp 1) = .pointer (some ⟨N, 0, none⟩)
  e3 : a.eval (.tmp 3) = .pointer (some ⟨B, 0, none⟩)
  wt : Wt N B w0 ds u nr bs x
theorem Bs.next {w0 : World} {N B : Nat} {ds : List Value} {u : Value} {nr : Rg} {bs bs' : List UInt8} {a a' : Act} {x y : World} {D : List Nat} (h : Bs w0 N B ds u nr bs a x) (hA : After D a a') (h1 : 1 ∉ D) (h3 : 3 ∉ D) (hw : Wt N B w0 ds u nr bs' y) : Bs w0 N B ds u nr bs' a' y :=
  ⟨hA.size.trans h.z, hA.defers.trans h.df, (hA.old 1 h1).trans h.e1, (hA.old 3 h3).trans h.e3, hw⟩
theorem After.put {D : List Nat} {a0 a : Act} (h : After D a0 a) (d : Nat) (v : Value) : After (d :: D) a0 (a.put (some d) v) :=
  ⟨put_size.trans h.size, put_defers.trans h.defers, fun s hs => by
    by_cases hd : d < a.tmps.size
    · rw [ev_put hd, if_neg (fun e => hs (by simp [e]))]
      exact h.old s (fun q => hs (by simp [q]))
    · have : (a.put (some d) v) = a := by
        show Act.mk (a.tmps.setIfInBounds d v) a.defers = a
        rw [Array.setIfInBounds, dif_neg hd]
      rw [this]; exact h.old s (fun q => hs (by simp [q]))⟩
theorem After.self (a : Act) : After [] a a := ⟨rfl, rfl, fun _ _ => rfl⟩
theorem bfront {Q : Exit → Act → World → Prop} {a : Act} {w : World} (K : Code) (cs : List Value) (nr : Rg) (hz : a.tmps.size = 50) (hd : a.defers = []) (e0 : a.eval (.tmp 0) = .agg cs.toArray) (l0 : cs.length = 17)
    (HN : ∀ W, Gr w W → Calls Tryz.prog 8 #[.agg cs.toArray] W fun e z => ∃ u, e = .returned (.agg (ringC u nr).toArray) ∧ Gr W z ∧ RingAt z.heap.size z u nr ∧ Fresh W.heap.size u)
    (hK : ∀ B u a' x, Bs w w.heap.size B (ringC u nr) u nr [] a' x → K.wp Tryz.prog Q a' x) : ((Code.region 0 b0 false).seq ((Code.region 1 b1 false).seq ((Code.region 2 b2 false).seq K))).wp Tryz.prog Q a w := by
  obtain ⟨N, hN⟩ : ∃ N, w.heap.size = N := ⟨_, rfl⟩
  rw [hN] at hK
  refine wp_seq (wp_region_list ?_)
  refine wpList_box_new 1 rfl rfl 28 (.tmp 0) rfl N hN cs e0 (fun w1 h1 => ?_)
  refine wl_of rfl (op_move _ (.inr rfl) ?_)
  obtain ⟨a1, ha1⟩ : ∃ a1, (a.put (some 1) (.pointer (some ⟨N, 0, none⟩))).put (some 2) ((a.put (some 1) (.pointer (some ⟨N, 0, none⟩))).eval (.const (.string ⟨#[]⟩))) = a1 := ⟨_, rfl⟩
  have z1 : a1.tmps.size = 50 := by rw [← ha1]; simp [put_size, hz]
  have d1 : a1.defers = [] := by rw [← ha1]; simp [put_defers, hd]
  have f1 : a1.eval (.tmp 1) = .pointer (some ⟨N, 0, none⟩) := by rw [← ha1]; simp [ev_put, put_size, hz]
  show Code.wp Tryz.prog _ Q (Act.put (Act.put a (some 1) (.pointer (some ⟨N, 0, none⟩))) (some 2) ((a.put (some 1) (.pointer (some ⟨N, 0, none⟩))).eval (.const (.string ⟨#[]⟩)))) w1
  rw [ha1]
  clear ha1
  have G1 : Gr w w1 := by show Below w.heap.size w w1; rw [hN]; exact h1.below
  have s1 := h1.size
  -- region 1
  refine wp_seq (wp_region_list ?_)
  refine wl_of rfl (op_load28 (.tmp 1) rfl _ f1 cs 28 h1.holds l0 ?_)
  refine wl_of rfl (op_call 8 _ _ rfl #[.agg cs.toArray] (by simp [ev_put, z1]) (enters_of Tryz.func8 (by kernel_rfl) rfl) ((HN w1 G1).mono fun e w2 ⟨u, e1, G2, R2, F2⟩ => ⟨_, e1, ?_⟩))
  have l2 := ringC_len R2
  have s2 : w1.heap.size ≤ w2.heap.size := G2.size
  have H2 : Holds w2 N cs 28 := h1.holds.below G2 (by omega)
  refine wpList_store_all rfl 28 (.tmp 1) (.tmp 9) rfl N (by simp [ev_put, put_size, z1, f1]) (ringC u nr) (by simp [ev_put, put_size, z1]) 28 cs H2 (by rw [siz28, l2]) (by rw [l0, l2]) (ringC_one R2) (fun w3 k3 => ?_)
  obtain ⟨a2, ha2⟩ : ∃ a2, (a1.put (some 8) (.agg cs.toArray)).put (some 9) (.agg (ringC u nr).toArray) = a2 := ⟨_, rfl⟩
  have z2 : a2.tmps.size = 50 := by rw [← ha2]; simp [put_size, z1]
  have d2 : a2.defers = [] := by rw [← ha2]; simp [put_defers, d1]
  have f2 : a2.eval (.tmp 1) = .pointer (some ⟨N, 0, none⟩) := by rw [← ha2]; simp [ev_put, put_size, z1, f1]
  show Code.wp Tryz.prog _ Q (Act.put (Act.put a1 (some 8) (.agg cs.toArray)) (some 9) (.agg (ringC u nr).toArray)) w3
  rw [ha2]
  clear ha2
  have R3 : RingAt w3.heap.size w3 u nr := (R2.outs F2 (Outs.ofTurned (s := fun b => b = N) k3 rfl) (Nat.le_refl _) (fun g hg e => by omega)).mono (Nat.le_of_eq k3.size.symm)
  have L3 : Below N w w3 := (h1.below.trans (Below.mono G2 (by omega))).trans (k3.below (Nat.le_refl _))
  obtain ⟨B, hB⟩ : ∃ B, w3.heap.size = B := ⟨_, rfl⟩
  have hNB : N < B := by rw [← hB, k3.size]; omega
  -- region 2
  refine wp_seq (wp_region_list ?_)
  refine wl_val (.agg #[.slice none 0 0]) rfl (by
    unfold execOp
    simp [build72]) ?_
  refine wpList_alloc_new 3 rfl rfl 72 rfl B hB [.slice none 0 0] zero72 (fun w4 h4 => ?_)
  refine wpList_store_all rfl 72 (.tmp 3) (.tmp 10) rfl B (by simp [ev_put, put_size, z2]) [.slice none 0 0] (by simp [ev_put, put_size, z2]) 72 _ h4.holds siz72 rfl (by simp [Value.oneCell']) (fun w5 k5 => ?_)
  have hb5 : Below B w3 w5 := h4.below.trans (k5.below (Nat.le_refl _))
  have hsz5 : w5.heap.size = B + 1 := by rw [k5.size, h4.size]
  refine hK B u _ w5 ⟨by simp [put_size, z2], by simp [put_defers, d2], by simp [put_none, ev_put, put_size, z2, f2], by simp [put_none, ev_put, put_size, z2], ⟨L3.trans (hb5.mono (Nat.le_of_lt hNB)), k3.holds.below hb5 hNB, ⟨.slice none 0 0, k5.holds, World.ownsRow_nil _ _ _ _⟩, (hB ▸ R3.mem).below hb5, hNB⟩⟩
theorem mems_val {B : Nat} {w : World} {u : Value} {l : List Mb} (h : Mems B w u l) : ∃ ua uc, u = .slice ua l.length uc := h.len
theorem bq3 {Q : Exit → Act → World → Prop} {w0 : World} {N B : Nat} {u : Value} {nr : Rg} {a : Act} {x : World} (K : Code) (h : Bs w0 N B (ringC u nr) u nr [] a x) (hl : nr.1.length ≤ 7)
    (hK : ∀ a' y, Bs w0 N B (ringC u nr) u nr (Pk.numL nr.1.length) a' y → K.wp Tryz.prog Q a' y) : ((Code.region 3 b3 false).seq K).wp Tryz.prog Q a x := by
  obtain ⟨ua, uc, hu⟩ := mems_val h.wt.mem
  have hc : x.cell? ⟨N, 0, none⟩ = some (.slice ua nr.1.length uc) := by rw [h.wt.box.cell]; show some u = _; rw [hu]
  have hz := h.z
  have e1 := h.e1
  have e3 := h.e3
  refine wp_seq (wp_region_list ?_)
  refine wl_of rfl (op_fa 28 (.tmp 1) 0 N rfl e1 (brun28_0 N) ?_)
  refine wl_of rfl (op_loadc 22 (.tmp 11) rfl noagg22 N 0 (by simp [ev_put, hz]) _ hc ?_)
  refine wl_val (.int .i64 (nr.1.length : Int)) rfl (blen22 _ (.tmp 12) _ _ _ _ ua nr.1.length uc x (by simp [ev_put, put_size, hz])) ?_
  refine wl_of rfl (op_conv (.tmp 13) nr.1.length rfl (by simp [ev_put, put_size, hz]) hl ?_)
  refine wl_of rfl (op_nums1 (.tmp 14) (nr.1.length : Int) rfl (by simp [ev_put, put_size, hz]) ?_)
  refine wl_of rfl (op_call 48 _ _ rfl #[.pointer (some ⟨B, 0, none⟩), .slice (some ⟨x.heap.size, 0, none⟩) 1 1] (by simp [ev_put, put_size, hz, e3]) (enters_of Tryz.func48 (by kernel_rfl) rfl) ((num_one x B [] nr.1.length (by omega) (by simp) h.wt.wr).mono fun e y ⟨q1, q2, q3⟩ => ⟨_, q1, ?_⟩))
  have hA : After [16, 15, 14, 13, 12, 11] a ((((((a.put (some 11) (.pointer (some ⟨N, 0, none⟩))).put (some 12) (.slice ua nr.1.length uc)).put (some 13) (.int .i64 (nr.1.length : Int))).put (some 14) (.int .u64 (nr.1.length : Int))).put (some 15) (.slice (some ⟨x.heap.size, 0, none⟩) 1 1)).put (some 16) (.pointer (some ⟨B, 0, none⟩))) := ((((((After.self a).put 11 _).put 12 _).put 13 _).put 14 _).put 15 _).put 16 _
  exact hK _ y (h.next hA (by decide) (by decide) (h.wt.up q3 (by simpa using q2)))
structure Bm (w0 : World) (N B : Nat) (ua : Option Addr) (uc : Nat) (nr : Rg) (i : Nat) (a : Act) (x : World) : Prop where
  bs : Bs w0 N B (ringC (.slice ua nr.1.length uc) nr) (.slice ua nr.1.length uc) nr (Pk.numL nr.1.length ++ (nr.1.take i).flatMap memA) a x
  e18 : a.eval (.tmp 18) = .slice ua nr.1.length uc
  e19 : a.eval (.tmp 19) = .int .i64 (nr.1.length : Int)
  e20 : a.eval (.tmp 20) = .int .i64 (i : Int)
theorem bq4 {Q : Exit → Act → World → Prop} {w0 : World} {N B : Nat} {ua : Option Addr} {uc : Nat} {nr : Rg} {a : Act} {x : World} (K : Code) (h : Bs w0 N B (ringC (.slice ua nr.1.length uc) nr) (.slice ua nr.1.length uc) nr (Pk.numL nr.1.length) a x)
    (hK : ∀ a' y, Bm w0 N B ua uc nr 0 a' y → K.wp Tryz.prog Q a' y) : ((Code.region 4 b4 false).seq K).wp Tryz.prog Q a x := by
  have hc : x.cell? ⟨N, 0, none⟩ = some (.slice ua nr.1.length uc) := by rw [h.wt.box.cell]; rfl
  have hz := h.z
  have e1 := h.e1
  refine wp_seq (wp_region_list ?_)
  refine wl_of rfl (op_fa 28 (.tmp 1) 0 N rfl e1 (brun28_0 N) ?_)
  refine wl_of rfl (op_loadc 22 (.tmp 17) rfl noagg22 N 0 (by simp [ev_put, hz]) _ hc ?_)
  refine wl_val (.int .i64 (nr.1.length : Int)) rfl (blen22 _ (.tmp 18) _ _ _ _ ua nr.1.length uc x (by simp [ev_put, put_size, hz])) ?_
  refine wl_of rfl (op_move _ (.inl rfl) ?_)
  have hA : After [20, 19, 18, 17] a ((((a.put (some 17) (.pointer (some ⟨N, 0, none⟩))).put (some 18) (.slice ua nr.1.length uc)).put (some 19) (.int .i64 (nr.1.length : Int))).put (some 20) (.int .i64 0)) := ((((After.self a).put 17 _).put 18 _).put 19 _).put 20 _
  exact hK _ x ⟨h.next hA (by decide) (by decide) (by simpa using h.wt), by simp [ev_put, put_size, hz], by simp [ev_put, put_size, hz], by simp [ev_put, put_size, hz]; rfl⟩
theorem zero53 (w : World) : (zeroValue 53).run Tryz.prog w = .ok (.agg (mbV (0, 0, 0)).toArray) w := by kernel_rfl
theorem bsiz53 : (Tryz.prog.info? 53).map (·.size) = some 3 := by kernel_rfl
theorem bzero25 (w : World) : (zeroValue 25).run Tryz.prog w = .ok (.agg (owV (0, 0)).toArray) w := by kernel_rfl
theorem bsiz25 : (Tryz.prog.info? 25).map (·.size) = some 2 := by kernel_rfl
theorem bsiz26 : (Tryz.prog.info? 26).map (·.size) = some 16 := by kernel_rfl
theorem bmem {Q : Exit → Act → World → Prop} {w0 : World} {N B : Nat} {ua : Option Addr} {uc : Nat} {nr : Rg} {i : Nat} {a : Act} {x : World} (h : Bm w0 N B ua uc nr i a x) (hi : i < nr.1.length) (hl7 : nr.1.length ≤ 7) (hf : ∀ m ∈ nr.1, I64 m.1 ∧ I64 m.2.1 ∧ m.2.2 < 18446744073709551616)
    (hK : ∀ a' y, Bm w0 N B ua uc nr (i + 1) a' y → Q .normal a' y) : ((Code.block 1 ((Code.region 6 b6 false).seq (Code.region 7 b7 true))).seq (Code.region 8 b8 false)).wp Tryz.prog Q a x := by
  obtain ⟨m, hm⟩ : ∃ m, nr.1[i]? = some m := ⟨_, List.getElem?_eq_getElem hi⟩
  obtain ⟨g, o, rfl, hgB, c0, c1, c2⟩ := h.bs.wt.mem.cell i m hm
  have hz := h.bs.z
  have hr : x.rangeAt g (o + i * 3) (mbV m) := fun j v hv => by
    match j, hv with
    | 0, hv => cases hv; exact c0
    | 1, hv => cases hv; exact c1
    | 2, hv => cases hv; exact c2
    | j + 3, hv => simp [mbV] at hv
  have hfm := hf m (List.mem_of_getElem? hm)
  refine wp_seq (wp_block ?_)
  refine wp_seq (wp_region_list ?_)
  refine wl_of rfl (op_ix22 (.tmp 18) (.tmp 20) g o _ uc i hi rfl h.e18 h.e20 ?_)
  refine wl_of rfl (op_row 53 (.tmp 22) 3 _ (mbV m) rfl g (o + i * 3) (by simp [ev_put, hz]) Tryz.underlying53 rfl bsiz53 rfl hr ?_)
  refine wpList_alloc_new 5 rfl rfl 53 rfl x.heap.size rfl _ zero53 (fun x1 h1 => ?_)
  refine wpList_store_all rfl 53 (.tmp 5) (.tmp 23) rfl x.heap.size (by simp [ev_put, put_size, hz]) (mbV m) (by simp [ev_put, put_size, hz]) 53 _ h1.holds bsiz53 rfl (mbV_one m) (fun x2 k2 => ?_)
  have b2 : Below x.heap.size x x2 := h1.below.trans (k2.below (Nat.le_refl _))
  have hA : After [5, 23, 22] a (((a.put (some 22) (.pointer (some ⟨g, o + i * 3, none⟩))).put (some 23) (.agg (mbV m).toArray)).put (some 5) (.pointer (some ⟨x.heap.size, 0, none⟩))) := (((After.self a).put 22 _).put 23 _).put 5 _
  obtain ⟨a2, ha2⟩ : ∃ a2, (((a.put (some 22) (.pointer (some ⟨g, o + i * 3, none⟩))).put (some 23) (.agg (mbV m).toArray)).put (some 5) (.pointer (some ⟨x.heap.size, 0, none⟩))) = a2 := ⟨_, rfl⟩
  have f5 : a2.eval (.tmp 5) = .pointer (some ⟨x.heap.size, 0, none⟩) := by rw [← ha2]; simp [ev_put, put_size, hz]
  rw [ha2] at hA
  show Code.wp Tryz.prog (Code.region 7 b7 true) _ (((a.put (some 22) (.pointer (some ⟨g, o + i * 3, none⟩))).put (some 23) (.agg (mbV m).toArray)).put (some 5) (.pointer (some ⟨x.heap.size, 0, none⟩))) x2
  rw [ha2]
  clear ha2
  have W2 := h.bs.wt.grow b2
  have hlen : (Pk.numL nr.1.length ++ (nr.1.take i).flatMap memA).length ≤ 10 + 7 * 30 := by
    have q1 := Pk.numL_len10 nr.1.length (by omega)
    have q2 := flatA_len memA 30 (nr.1.take i) (fun y hy => memA_len (hf y (List.mem_of_mem_take hy)))
    rw [List.length_append]
    have : (nr.1.take i).length ≤ 7 := by rw [List.length_take]; omega
    have : (nr.1.take i).length * 30 ≤ 7 * 30 := Nat.mul_le_mul_right 30 this
    omega
  refine br7 (hA.size.trans hz) x.heap.size B m _ f5 ((hA.old 3 (by decide)).trans h.bs.e3) k2.holds (by have := h.bs.wt.wr.lt; omega) W2.wr hfm (by omega) (fun a3 y A3 W3 U3 => ?_)
  show Code.wp Tryz.prog (Code.region 8 b8 false) Q a3 y
  have z3 : a3.tmps.size = 50 := A3.size.trans (hA.size.trans hz)
  have g20 : a3.eval (.tmp 20) = .int .i64 (i : Int) := (A3.old 20 (by decide)).trans ((hA.old 20 (by decide)).trans h.e20)
  refine wp_region_list ?_
  refine wl_of rfl (op_inc (.tmp 20) _ (i : Int) rfl g20 (by omega) ?_)
  refine wl_of rfl (op_move _ (.inl rfl) ?_)
  have ee : (a3.put (some 34) (.int .i64 ((i : Int) + 1))).eval (.tmp 34) = .int .i64 ((i : Int) + 1) := by simp [ev_put, z3]
  show Q .normal ((a3.put (some 34) (.int .i64 ((i : Int) + 1))).put (some 20) ((a3.put (some 34) (.int .i64 ((i : Int) + 1))).eval (.tmp 34))) y
  rw [ee]
  have A4 : After [20, 34] a3 ((a3.put (some 34) (.int .i64 ((i : Int) + 1))).put (some 20) (.int .i64 ((i : Int) + 1))) := ((After.self a3).put 34 _).put 20 _
  have htk : (nr.1.take (i + 1)).flatMap memA = (nr.1.take i).flatMap memA ++ memA m := by rw [List.take_add_one, hm]; simp
  refine hK _ y ⟨?_, (A4.old 18 (by decide)).trans ((A3.old 18 (by decide)).trans ((hA.old 18 (by decide)).trans h.e18)), (A4.old 19 (by decide)).trans ((A3.old 19 (by decide)).trans ((hA.old 19 (by decide)).trans h.e19)), by simp [ev_put, put_size, z3]⟩
  have hb := ((h.bs.next hA (by decide) (by decide) W2).next A3 (by decide) (by decide) (W2.up U3 W3)).next A4 (by decide) (by decide) (W2.up U3 W3)
  have e : Pk.numL nr.1.length ++ (nr.1.take (i + 1)).flatMap memA = Pk.numL nr.1.length ++ (nr.1.take i).flatMap memA ++ (([m.1, m.2.1].flatMap fun x => Pk.numL (Pk.zig x)) ++ ([m.2.2].flatMap Pk.numL)) := by rw [htk, List.append_assoc]; rfl
  rw [e]
  exact hb
def bLoop1 : Code := (Code.region 5 b5 false).seq ((Code.cond (.tmp 21) Code.skip (Code.exit 0)).seq ((Code.block 1 ((Code.region 6 b6 false).seq (Code.region 7 b7 true))).seq (Code.region 8 b8 false)))
def bLoop2 : Code := (Code.region 10 b10 false).seq ((Code.cond (.tmp 38) Code.skip (Code.exit 2)).seq ((Code.block 3 ((Code.region 11 b11 false).seq (Code.region 12 b12 true))).seq (Code.region 13 b13 false)))
theorem bl1 {Q : Exit → Act → World → Prop} {w0 : World} {N B : Nat} {ua : Option Addr} {uc : Nat} {nr : Rg} {a : Act} {x : World} (h : Bm w0 N B ua uc nr 0 a x) (hl7 : nr.1.length ≤ 7) (hf : ∀ m ∈ nr.1, I64 m.1 ∧ I64 m.2.1 ∧ m.2.2 < 18446744073709551616)
    (hK : ∀ a' y, Bs w0 N B (ringC (.slice ua nr.1.length uc) nr) (.slice ua nr.1.length uc) nr (Pk.numL nr.1.length ++ nr.1.flatMap memA) a' y → Q .normal a' y) : (Code.block 0 bLoop1.loop).wp Tryz.prog Q a x := by
  refine wp_block ?_
  refine wp_loop (fun a x => ∃ i, i ≤ nr.1.length ∧ Bm w0 N B ua uc nr i a x) (fun a _ => 7 - (intOf (a.eval (.tmp 20))).toNat) ⟨0, Nat.zero_le _, h⟩ (fun a1 x1 ⟨i, hi, h1⟩ => ?_)
  unfold bLoop1
  refine wp_seq (wp_region_list (wl_of rfl (op_lss (.tmp 20) (.tmp 19) _ (i : Int) (nr.1.length : Int) rfl h1.e20 h1.e19 ?_)))
  have hA : After [21] a1 (a1.put (some 21) (.bool (decide ((i : Int) < (nr.1.length : Int))))) := (After.self a1).put 21 _
  have e21 : (a1.put (some 21) (.bool (decide ((i : Int) < (nr.1.length : Int))))).eval (.tmp 21) = .bool (decide ((i : Int) < (nr.1.length : Int))) := by simp [ev_put, h1.bs.z]
  obtain ⟨a2, ha2⟩ : ∃ a2, a1.put (some 21) (.bool (decide ((i : Int) < (nr.1.length : Int)))) = a2 := ⟨_, rfl⟩
  show Code.wp Tryz.prog _ _ (a1.put (some 21) (.bool (decide ((i : Int) < (nr.1.length : Int))))) x1
  rw [ha2] at hA e21 ⊢
  have h2 : Bm w0 N B ua uc nr i a2 x1 := ⟨h1.bs.next hA (by decide) (by decide) h1.bs.wt, (hA.old 18 (by decide)).trans h1.e18, (hA.old 19 (by decide)).trans h1.e19, (hA.old 20 (by decide)).trans h1.e20⟩
  refine wp_seq (wp_cond_split e21 (fun hlt => wp_skip ?_) (fun hge => wp_exit ?_))
  · have hlt : (i : Int) < (nr.1.length : Int) := of_decide_eq_true hlt
    refine bmem h2 (by omega) hl7 hf (fun a3 y h3 => ?_)
    refine ⟨⟨i + 1, by omega, h3⟩, ?_⟩
    show 7 - (intOf (a3.eval (.tmp 20))).toNat < 7 - (intOf (a1.eval (.tmp 20))).toNat
    rw [h3.e20, h1.e20]
    simp only [intOf]
    omega
  · have hge : ¬ (i : Int) < (nr.1.length : Int) := of_decide_eq_false hge
    obtain rfl : i = nr.1.length := by omega
    have hb := h2.bs
    rw [List.take_length] at hb
    exact hK a2 x1 hb
structure Bo (w0 : World) (N B : Nat) (u : Value) (nr : Rg) (i : Nat) (a : Act) (x : World) : Prop where
  bs : Bs w0 N B (ringC u nr) u nr ((Pk.numL nr.1.length ++ nr.1.flatMap memA) ++ (nr.2.take i).flatMap ownA) a x
  e36 : a.eval (.tmp 36) = .agg (ownV nr.2).toArray
  e37 : a.eval (.tmp 37) = .int .i64 (i : Int)
theorem bq9 {Q : Exit → Act → World → Prop} {w0 : World} {N B : Nat} {u : Value} {nr : Rg} {a : Act} {x : World} (K : Code) (h : Bs w0 N B (ringC u nr) u nr (Pk.numL nr.1.length ++ nr.1.flatMap memA) a x) (hl : nr.2.length = 8)
    (hK : ∀ a' y, Bo w0 N B u nr 0 a' y → K.wp Tryz.prog Q a' y) : ((Code.region 9 b9 false).seq K).wp Tryz.prog Q a x := by
  have hz := h.z
  have e1 := h.e1
  have hr : x.rangeAt N 1 (ownV nr.2) := fun j v hv => by
    rw [h.wt.box.cell, Nat.add_comm]
    exact hv
  refine wp_seq (wp_region_list ?_)
  refine wl_of rfl (op_fa 28 (.tmp 1) 1 N rfl e1 (brun28_1 N) ?_)
  refine wl_of rfl (op_row 26 (.tmp 35) 16 _ (ownV nr.2) rfl N 1 (by simp [ev_put, hz]) und26 rfl bsiz26 (by rw [ownV_len, hl]) hr ?_)
  refine wl_of rfl (op_move _ (.inl rfl) ?_)
  have hA : After [37, 36, 35] a (((a.put (some 35) (.pointer (some ⟨N, 1, none⟩))).put (some 36) (.agg (ownV nr.2).toArray)).put (some 37) (.int .i64 0)) := (((After.self a).put 35 _).put 36 _).put 37 _
  exact hK _ x ⟨h.next hA (by decide) (by decide) (by simpa using h.wt), by simp [ev_put, put_size, hz], by simp [ev_put, put_size, hz]; rfl⟩
theorem bown {Q : Exit → Act → World → Prop} {w0 : World} {N B : Nat} {u : Value} {nr : Rg} {i : Nat} {a : Act} {x : World} (h : Bo w0 N B u nr i a x) (hi : i < 8) (hl7 : nr.1.length ≤ 7) (hl8 : nr.2.length = 8) (hf : ∀ m ∈ nr.1, I64 m.1 ∧ I64 m.2.1 ∧ m.2.2 < 18446744073709551616) (hfo : ∀ k, k < 8 → I64 (nr.2.getD k noO).1 ∧ (nr.2.getD k noO).2 < 18446744073709551616)
    (hK : ∀ a' y, Bo w0 N B u nr (i + 1) a' y → Q .normal a' y) : ((Code.block 3 ((Code.region 11 b11 false).seq (Code.region 12 b12 true))).seq (Code.region 13 b13 false)).wp Tryz.prog Q a x := by
  obtain ⟨m, hm⟩ : ∃ m, nr.2.getD i noO = m := ⟨_, rfl⟩
  have hmi : nr.2[i]? = some m := by rw [← hm]; exact getD_some (by omega)
  have hz := h.bs.z
  have hfm := hfo i hi
  rw [hm] at hfm
  refine wp_seq (wp_block ?_)
  refine wp_seq (wp_region_list ?_)
  refine wl_of rfl (op_ix26 (.tmp 36) (.tmp 37) nr.2 hl8 i hi rfl h.e36 h.e37 ?_)
  rw [hm]
  refine wpList_alloc_new 7 rfl rfl 25 rfl x.heap.size rfl _ bzero25 (fun x1 h1 => ?_)
  refine wpList_store_all rfl 25 (.tmp 7) (.tmp 39) rfl x.heap.size (by simp [ev_put, put_size, hz]) (owV m) (by simp [ev_put, put_size, hz]) 25 _ h1.holds bsiz25 rfl (owV_one m) (fun x2 k2 => ?_)
  have b2 : Below x.heap.size x x2 := h1.below.trans (k2.below (Nat.le_refl _))
  have hA : After [7, 39] a ((a.put (some 39) (.agg (owV m).toArray)).put (some 7) (.pointer (some ⟨x.heap.size, 0, none⟩))) := ((After.self a).put 39 _).put 7 _
  obtain ⟨a2, ha2⟩ : ∃ a2, ((a.put (some 39) (.agg (owV m).toArray)).put (some 7) (.pointer (some ⟨x.heap.size, 0, none⟩))) = a2 := ⟨_, rfl⟩
  have f7 : a2.eval (.tmp 7) = .pointer (some ⟨x.heap.size, 0, none⟩) := by rw [← ha2]; simp [ev_put, put_size, hz]
  rw [ha2] at hA
  show Code.wp Tryz.prog (Code.region 12 b12 true) _ ((a.put (some 39) (.agg (owV m).toArray)).put (some 7) (.pointer (some ⟨x.heap.size, 0, none⟩))) x2
  rw [ha2]
  clear ha2
  have W2 := h.bs.wt.grow b2
  have hlen : ((Pk.numL nr.1.length ++ nr.1.flatMap memA) ++ (nr.2.take i).flatMap ownA).length ≤ 10 + 7 * 30 + 8 * 20 := by
    have q1 := Pk.numL_len10 nr.1.length (by omega)
    have q2 := flatA_len memA 30 nr.1 (fun y hy => memA_len (hf y hy))
    have q3 := flatA_len ownA 20 (nr.2.take i) (fun y hy => by
      obtain ⟨k, hk, e⟩ := List.getElem_of_mem (List.mem_of_mem_take hy)
      have := hfo k (by omega)
      rw [List.getD_eq_getElem?_getD, List.getElem?_eq_getElem hk, Option.getD_some, e] at this
      exact ownA_len this)
    rw [List.length_append, List.length_append]
    have t1 : nr.1.length * 30 ≤ 7 * 30 := Nat.mul_le_mul_right 30 hl7
    have t2 : (nr.2.take i).length * 20 ≤ 8 * 20 := Nat.mul_le_mul_right 20 (by rw [List.length_take]; omega)
    omega
  refine br12 (hA.size.trans hz) x.heap.size B m _ f7 ((hA.old 3 (by decide)).trans h.bs.e3) k2.holds (by have := h.bs.wt.wr.lt; omega) W2.wr hfm (by omega) (fun a3 y A3 W3 U3 => ?_)
  show Code.wp Tryz.prog (Code.region 13 b13 false) Q a3 y
  have z3 : a3.tmps.size = 50 := A3.size.trans (hA.size.trans hz)
  have g37 : a3.eval (.tmp 37) = .int .i64 (i : Int) := (A3.old 37 (by decide)).trans ((hA.old 37 (by decide)).trans h.e37)
  refine wp_region_list ?_
  refine wl_of rfl (op_inc (.tmp 37) _ (i : Int) rfl g37 (by omega) ?_)
  refine wl_of rfl (op_move _ (.inl rfl) ?_)
  have ee : (a3.put (some 48) (.int .i64 ((i : Int) + 1))).eval (.tmp 48) = .int .i64 ((i : Int) + 1) := by simp [ev_put, z3]
  show Q .normal ((a3.put (some 48) (.int .i64 ((i : Int) + 1))).put (some 37) ((a3.put (some 48) (.int .i64 ((i : Int) + 1))).eval (.tmp 48))) y
  rw [ee]
  have A4 : After [37, 48] a3 ((a3.put (some 48) (.int .i64 ((i : Int) + 1))).put (some 37) (.int .i64 ((i : Int) + 1))) := ((After.self a3).put 48 _).put 37 _
  have htk : (nr.2.take (i + 1)).flatMap ownA = (nr.2.take i).flatMap ownA ++ ownA m := by rw [List.take_add_one, hmi]; simp
  refine hK _ y ⟨?_, (A4.old 36 (by decide)).trans ((A3.old 36 (by decide)).trans ((hA.old 36 (by decide)).trans h.e36)), by simp [ev_put, put_size, z3]⟩
  have hb := ((h.bs.next hA (by decide) (by decide) W2).next A3 (by decide) (by decide) (W2.up U3 W3)).next A4 (by decide) (by decide) (W2.up U3 W3)
  have e : (Pk.numL nr.1.length ++ nr.1.flatMap memA) ++ (nr.2.take (i + 1)).flatMap ownA = (Pk.numL nr.1.length ++ nr.1.flatMap memA) ++ (nr.2.take i).flatMap ownA ++ (([m.1].flatMap fun x => Pk.numL (Pk.zig x)) ++ ([m.2].flatMap Pk.numL)) := by rw [htk]; exact (List.append_assoc (Pk.numL nr.1.length ++ nr.1.flatMap memA) _ _).symm
  rw [e]
  exact hb
theorem bl2 {Q : Exit → Act → World → Prop} {w0 : World} {N B : Nat} {u : Value} {nr : Rg} {a : Act} {x : World} (h : Bo w0 N B u nr 0 a x) (hl7 : nr.1.length ≤ 7) (hl8 : nr.2.length = 8) (hf : ∀ m ∈ nr.1, I64 m.1 ∧ I64 m.2.1 ∧ m.2.2 < 18446744073709551616) (hfo : ∀ k, k < 8 → I64 (nr.2.getD k noO).1 ∧ (nr.2.getD k noO).2 < 18446744073709551616)
    (hK : ∀ a' y, Bs w0 N B (ringC u nr) u nr (bytesG nr) a' y → Q .normal a' y) : (Code.block 2 bLoop2.loop).wp Tryz.prog Q a x := by
  refine wp_block ?_
  refine wp_loop (fun a x => ∃ i, i ≤ 8 ∧ Bo w0 N B u nr i a x) (fun a _ => 8 - (intOf (a.eval (.tmp 37))).toNat) ⟨0, Nat.zero_le _, h⟩ (fun a1 x1 ⟨i, hi, h1⟩ => ?_)
  unfold bLoop2
  refine wp_seq (wp_region_list (wl_of rfl (op_lss (.tmp 37) (.const (.int .i64 8)) _ (i : Int) 8 rfl h1.e37 rfl ?_)))
  have hA : After [38] a1 (a1.put (some 38) (.bool (decide ((i : Int) < 8)))) := (After.self a1).put 38 _
  have e38 : (a1.put (some 38) (.bool (decide ((i : Int) < 8)))).eval (.tmp 38) = .bool (decide ((i : Int) < 8)) := by simp [ev_put, h1.bs.z]
  obtain ⟨a2, ha2⟩ : ∃ a2, a1.put (some 38) (.bool (decide ((i : Int) < 8))) = a2 := ⟨_, rfl⟩
  show Code.wp Tryz.prog _ _ (a1.put (some 38) (.bool (decide ((i : Int) < 8)))) x1
  rw [ha2] at hA e38 ⊢
  have h2 : Bo w0 N B u nr i a2 x1 := ⟨h1.bs.next hA (by decide) (by decide) h1.bs.wt, (hA.old 36 (by decide)).trans h1.e36, (hA.old 37 (by decide)).trans h1.e37⟩
  refine wp_seq (wp_cond_split e38 (fun hlt => wp_skip ?_) (fun hge => wp_exit ?_))
  · have hlt : (i : Int) < 8 := of_decide_eq_true hlt
    refine bown h2 (by omega) hl7 hl8 hf hfo (fun a3 y h3 => ?_)
    refine ⟨⟨i + 1, by omega, h3⟩, ?_⟩
    show 8 - (intOf (a3.eval (.tmp 37))).toNat < 8 - (intOf (a1.eval (.tmp 37))).toNat
    rw [h3.e37, h1.e37]
    simp only [intOf]
    omega
  · have hge : ¬ (i : Int) < 8 := of_decide_eq_false hge
    obtain rfl : i = 8 := by omega
    have hb := h2.bs
    rw [List.take_of_length_le (Nat.le_of_eq hl8)] at hb
    exact hK a2 x1 hb
def bBody : Code := (Code.region 0 b0 false).seq ((Code.region 1 b1 false).seq ((Code.region 2 b2 false).seq ((Code.region 3 b3 false).seq (((Code.region 4 b4 false).seq (Code.block 0 bLoop1.loop)).seq (((Code.region 9 b9 false).seq (Code.block 2 bLoop2.loop)).seq ((Code.region 14 b14 false).seq Code.ret))))))
theorem bact_first (v : Value) (k : Nat) : (Act.mk (#[v] ++ Array.replicate k undef) []).eval (.tmp 0) = v := by
  show (#[v] ++ Array.replicate k undef).getD 0 undef = v
  rw [Array.getD_eq_getD_getElem?, Array.getElem?_append_left (by simp)]
  rfl
theorem gbytes_any (v0 : Value) (r : Rg) (hF : RFit r) (w : World) (h : RingAt w.heap.size w v0 r) :
    Calls Tryz.prog 29 #[ringV v0 r] w fun e z => e = .returned (.string (Pk.strL (bytesG (normL r)))) ∧ Below w.heap.size w z := by
  have hm : ∀ m ∈ (normL r).1, I64 m.1 ∧ I64 m.2.1 ∧ m.2.2 < 18446744073709551616 := fun m hm => by
    have h1 := (norm_fit hF).mem m hm
    have h2 := (mem_risL _ (mergeK_right [r]) m).1 hm
    have h3 := (mergeK_right [r]).seen (n := m.1) (by rw [h2.2]; exact h2.1)
    rw [h2.2, okM_iff] at h3
    obtain ⟨⟨⟨a1, a2⟩, a3, a4⟩, _⟩ := h3
    exact ⟨⟨by omega, by omega⟩, ⟨by omega, by omega⟩, h1⟩
  have ho : ∀ k, k < 8 → I64 ((normL r).2.getD k noO).1 ∧ ((normL r).2.getD k noO).2 < 18446744073709551616 := fun k hk => by
    have h1 := (norm_fit hF).own k hk
    have h2 : So ((normL r).2.getD k noO) := by rw [own_norm r k hk]; exact okO_so _
    exact ⟨⟨by have := h2.1; omega, by have := h2.2; omega⟩, h1⟩
  have h7 : (normL r).1.length ≤ 7 := risL_len _
  have h8 : (normL r).2.length = 8 := mergeO_len _
  refine calls_of_wp (c := bBody) Tryz.func29 (by kernel_rfl) ?_
  generalize ha : (Act.mk (#[ringV v0 r] ++ Array.replicate (Tryz.f29.ntmps - (#[ringV v0 r] : Array Value).size) undef) []) = a
  have z : a.tmps.size = 50 := by rw [← ha]; simp [Tryz.ntmps29]
  have df : a.defers = [] := by rw [← ha]
  have e0 : a.eval (.tmp 0) = ringV v0 r := by rw [← ha]; exact bact_first _ _
  clear ha
  unfold bBody
  refine bfront _ (ringC v0 r) (normL r) z df e0 (ringC_len h) (fun W hW => ?_) (fun B u a1 x1 h1 => ?_)
  · exact (norm_any v0 r W (h.gr hW)).mono fun e z ⟨u, q1, q2, q3, q4⟩ => ⟨u, q1, q4, q2, q3⟩
  generalize normL r = nr at *
  refine bq3 _ h1 h7 (fun a2 x2 h2 => ?_)
  obtain ⟨ua, uc, rfl⟩ := mems_val h2.wt.mem
  refine wp_seq (bq4 _ h2 (fun a3 x3 h3 => ?_))
  refine bl1 h3 h7 hm (fun a4 x4 h4 => ?_)
  refine wp_seq (bq9 _ h4 h8 (fun a5 x5 h5 => ?_))
  refine bl2 h5 h7 h8 hm ho (fun a6 x6 h6 => ?_)
  refine wp_seq (wp_region_list ?_)
  refine wl_of rfl (op_call 50 _ _ rfl #[.pointer (some ⟨B, 0, none⟩)] (by simp [h6.e3]) (enters_of Tryz.func50 (by kernel_rfl) rfl) ((Pk.bytes_some B (bytesG nr) x6 h6.wt.wr).mono fun e y ⟨q1, q2⟩ => ⟨_, q1, ?_⟩))
  refine wl_of rfl (op_move _ (.inr rfl) ?_)
  refine wp_ret (bodyPost_ret (results_tmp rfl _ _ _) (by simp [put_defers, h6.df]) ⟨?_, by rw [q2]; exact h6.wt.low⟩)
  have ee : (a6.put (some 49) (.string (Pk.strL (bytesG nr)))).eval (.tmp 49) = .string (Pk.strL (bytesG nr)) := by simp [ev_put, h6.z]
  have e2 : ((a6.put (some 49) (.string (Pk.strL (bytesG nr)))).put (some 2) ((a6.put (some 49) (.string (Pk.strL (bytesG nr)))).eval (.tmp 49))).eval (.tmp 2) = .string (Pk.strL (bytesG nr)) := by rw [ee]; simp [ev_put, put_size, h6.z]
  exact congrArg Ending.returned e2
end Go.Proofs.YthmnjebmnocoiaaGreat
