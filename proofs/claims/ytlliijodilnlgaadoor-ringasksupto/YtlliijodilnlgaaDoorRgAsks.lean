/- The law RingAsks. -/
import Derived.Test.YtlliijodilnlgaaDoorRgPart
import Derived.Deep.RegionHeld3
namespace Go.Proofs.YtlliijodilnlgaaDoor
open Go.RowKit

theorem list8 {o : List Int} (h : o.length = 8) : ∃ a0 a1 a2 a3 a4 a5 a6 a7, o = [a0, a1, a2, a3, a4, a5, a6, a7] := by
  match o, h with
  | [a0, a1, a2, a3, a4, a5, a6, a7], _ => exact ⟨a0, a1, a2, a3, a4, a5, a6, a7, rfl⟩
theorem cells10 {W : World} {M : Nat} {a0 a1 a2 a3 a4 a5 a6 a7 p n : Int} {u : Value} (h : Holds W M (intV [a0, a1, a2, a3, a4, a5, a6, a7]) 23) (q : Holds W (M + 1) [.int .i64 p, .int .i64 n, u] 26) : W.cell? ⟨M, 0, none⟩ = some (.int .i64 a0) ∧ W.cell? ⟨M, 1, none⟩ = some (.int .i64 a1) ∧ W.cell? ⟨M, 2, none⟩ = some (.int .i64 a2) ∧ W.cell? ⟨M, 3, none⟩ = some (.int .i64 a3) ∧ W.cell? ⟨M, 4, none⟩ = some (.int .i64 a4) ∧ W.cell? ⟨M, 5, none⟩ = some (.int .i64 a5) ∧ W.cell? ⟨M, 6, none⟩ = some (.int .i64 a6) ∧ W.cell? ⟨M, 7, none⟩ = some (.int .i64 a7) ∧ W.cell? ⟨M + 1, 0, none⟩ = some (.int .i64 p) ∧ W.cell? ⟨M + 1, 1, none⟩ = some (.int .i64 n) :=
  ⟨h.at 0 _ rfl, h.at 1 _ rfl, h.at 2 _ rfl, h.at 3 _ rfl, h.at 4 _ rfl, h.at 5 _ rfl, h.at 6 _ rfl, h.at 7 _ rfl, q.at 0 _ rfl, q.at 1 _ rfl⟩
theorem asks_w2 {w w0 w2 : World} {M : Nat} {o : List Int} {x y z : Value} (h0 : Anew M w w0 (intV o) 23) (b2 : Below (w0.alloc (.cells #[x, y, z] 26)).heap.size (w0.alloc (.cells #[x, y, z] 26)) w2) :
    Below M w w2 ∧ Holds w2 M (intV o) 23 ∧ Holds w2 (M + 1) [x, y, z] 26 ∧ M + 2 ≤ w2.heap.size := by
  have hz0 := h0.size
  have hz1 : (w0.alloc (.cells #[x, y, z] 26)).heap.size = M + 2 := by simp [hz0]
  have Q1 : Holds (w0.alloc (.cells #[x, y, z] 26)) (M + 1) [x, y, z] 26 := by
    rw [← hz0]; exact holds_new w0 _ _
  rw [hz1] at b2
  refine ⟨(h0.below.trans ((Below.refl _ _).alloc (by omega) _)).trans (b2.mono (by omega)), (h0.holds.alloc _).below b2 (by omega), Q1.below b2 (by omega), ?_⟩
  have := b2.size
  omega
/-- what is told of a world behind the calls: both blocks are as they were. -/
structure Kept (w : World) (M : Nat) (o : List Int) (z : List Value) (W : World) : Prop where
  bel : Below M w W
  own : Holds W M (intV o) 23
  ask : Holds W (M + 1) z 26
  two : M + 2 ≤ W.heap.size
theorem Kept.next {w W W' : World} {M B : Nat} {o : List Int} {z : List Value} (h : Kept w M o z W) (hb : Below B W W') (hB : M + 2 ≤ B) : Kept w M o z W' :=
  ⟨h.bel.trans (hb.mono (by omega)), h.own.below hb (by omega), h.ask.below hb (by omega), Nat.le_trans h.two hb.size⟩
theorem Kept.drew {w W : World} {M : Nat} {o : List Int} {z : List Value} (h : Kept w M o z W) : Kept w M o z W.drew := ⟨h.bel.drew, h.own.drew, h.ask.drew, h.two⟩
theorem Kept.drewN {w W : World} {M : Nat} {o : List Int} {z : List Value} (h : Kept w M o z W) (q : Nat) : Kept w M o z (W.drewN q) := h.next (below_drewN W.heap.size W q) h.two
set_option maxHeartbeats 1500000 in
set_option maxRecDepth 100000 in
theorem asks_any (B : Nat) (o : List Int) (ho : o.length = 8) (p n : Int) (u : Value) (up : List Int) (s : ByteArray) (w : World) (hu : Ints B w u up) (hB : B ≤ w.heap.size) (hul : up.length ≤ 9223372036854775807) (hs : s.size < 1099511627776) (hL : Laid w) :
    Calls Tryd.prog 3 #[.agg (intV o).toArray, .agg #[.int .i64 p, .int .i64 n, u], .string s] w fun e w' => e = .returned (.bool true) ∧ Below w.heap.size w w' := by
  have hL2 := hL.two
  obtain ⟨M, hM⟩ : ∃ M, w.heap.size = M := ⟨_, rfl⟩
  rw [hM] at hB hL2 ⊢
  have HO : Hid (o.length = 8) := ho
  have HSl : Hid (∀ W, Below M w W → Calls Tryd.prog 10 #[.agg (intV o).toArray, .int .i64 p, .int .i64 n, u] W fun e w' => ∃ v, e = .returned v ∧ w'.ownsRow W.heap.size 35 2 v (sloppyL o p n up).length (tgtV (sloppyL o p n up)) ∧ Below W.heap.size W w') := fun W hW => sloppy_any B o ho p n u up W (hu.below (hW.mono hB)) (by have := hW.size; omega) hul
  have HRs : Hid (∀ W, Below M w W → Calls Tryd.prog 11 #[.agg (intV o).toArray, .int .i64 p, .int .i64 n, u] W fun e w' => ∃ v, e = .returned v ∧ w'.ownsRow W.heap.size 35 2 v (sloppyL o p n up).length (tgtV (sloppyL o p n up)) ∧ Below W.heap.size W w') := fun W hW => rsloppy_any B o ho p n u up W (hu.below (hW.mono hB)) (by have := hW.size; omega) hul
  have hfl : (primL o p n).length ≤ 8 := by rw [primL_len]; have := cutN_le n (walkL o p); have := walkL_len o p; omega
  have hsl8 : (sloppyL o p n up).length ≤ 8 := by rw [(sloppy_facts o p n up).1]; omega
  have HP1 : Hid (∀ W, Calls Tryd.prog 6 #[.agg (intV o).toArray, .int .i64 p, .int .i64 n] W fun e w' => ∃ v, e = .returned v ∧ Ints w'.heap.size w' v (primL o p n) ∧ Below W.heap.size W w') := fun W => primaries_any o ho p n W
  have HP2 : Hid (∀ W, Calls Tryd.prog 7 #[.agg (intV o).toArray, .int .i64 p, .int .i64 n] W fun e w' => ∃ v, e = .returned v ∧ Ints w'.heap.size w' v (primL o p n) ∧ Below W.heap.size W w') := fun W => rprimaries_any o ho p n W
  have HO1 : Hid (∀ W, Calls Tryd.prog 8 #[.agg (intV o).toArray, .int .i64 n] W fun e w' => ∃ v, e = .returned v ∧ Ints w'.heap.size w' v (ownedL o n) ∧ Below W.heap.size W w') := fun W => (owned_any o ho n W).mono fun e w' ⟨v, h1, h2, h3⟩ => ⟨v, h1, ints_of_row h2, h3⟩
  have HO2 : Hid (∀ W, Calls Tryd.prog 9 #[.agg (intV o).toArray, .int .i64 n] W fun e w' => ∃ v, e = .returned v ∧ Ints w'.heap.size w' v (ownedL o n) ∧ Below W.heap.size W w') := fun W => (rowned_any o ho n W).mono fun e w' ⟨v, h1, h2, h3⟩ => ⟨v, h1, ints_of_row h2, h3⟩
  have HS1 : Hid (∀ W va vb, Ints W.heap.size W va (primL o p n) → Ints W.heap.size W vb (primL o p n) → Calls Tryd.prog 5 #[va, vb] W fun e w' => e = .returned (.bool true) ∧ ∃ q, w' = W.drewN q) := fun W va vb h1 h2 => same_any _ va vb _ W h1 h2 hfl
  have HS2 : Hid (∀ W va vb, Ints W.heap.size W va (ownedL o n) → Ints W.heap.size W vb (ownedL o n) → Calls Tryd.prog 5 #[va, vb] W fun e w' => e = .returned (.bool true) ∧ ∃ q, w' = W.drewN q) := fun W va vb h1 h2 => same_any _ va vb _ W h1 h2 (ownedL_len o n)
  have HK1 : Hid (∀ W, Below M w W → Calls Tryd.prog 12 #[.string s] W fun e w' => e = .returned (.int .i64 (partL s.data.toList : Int)) ∧ Below W.heap.size W w') := fun W hW => partition_any s (by omega) W (hL.below hW hL2)
  have HK2 : Hid (∀ W, Calls Tryd.prog 13 #[.string s] W fun e w' => e = .returned (.int .i64 (partL s.data.toList : Int)) ∧ Below W.heap.size W w') := fun W => rpartition_any s hs W
  generalize sloppyL o p n up = L at HSl HRs hsl8
  generalize primL o p n = F at HP1 HP2 HS1
  generalize ownedL o n = OW at HO1 HO2 HS2
  generalize partL s.data.toList = PT at HK1 HK2
  obtain ⟨ua, uc, rfl⟩ := hu.len
  generalize up.length = ul at HSl HRs ⊢
  obtain ⟨a0, a1, a2, a3, a4, a5, a6, a7, rfl⟩ := list8 ho
  clear hu ho hul hs hL hfl
  go_enter Tryd.func3, Tryd.ntmps3
  go_wp2_with (first
    | (refine wpList_box_new 3 rfl rfl 23 _ rfl M hM _ rfl ?_; intro w0 h0; have hz0 : w0.heap.size = M + 1 := h0.size)
    | (go_at_call 4; refine (awake_any _).mono ?_; rintro e w2 ⟨rfl, b2⟩; obtain ⟨b02, H2, Q2, hz2⟩ := asks_w2 h0 b2; clear h0 hz0 b2; have K2 : Kept w M [a0, a1, a2, a3, a4, a5, a6, a7] [.int .i64 p, .int .i64 n, .slice ua ul uc] w2 := ⟨b02, H2, Q2, hz2⟩; clear b02 H2 Q2 hz2))
  have KK2 : Hid (Kept w M [a0, a1, a2, a3, a4, a5, a6, a7] [.int .i64 p, .int .i64 n, .slice ua ul uc] w2) := K2
  obtain ⟨c0, c1, c2, c3, c4, c5, c6, c7, c8, c9⟩ := cells10 K2.drew.own K2.drew.ask
  clear K2
  go_region_held3 (fun W => W.cell? ⟨M, 0, none⟩ = some (.int .i64 a0) ∧ W.cell? ⟨M, 1, none⟩ = some (.int .i64 a1) ∧ W.cell? ⟨M, 2, none⟩ = some (.int .i64 a2) ∧ W.cell? ⟨M, 3, none⟩ = some (.int .i64 a3) ∧ W.cell? ⟨M, 4, none⟩ = some (.int .i64 a4) ∧ W.cell? ⟨M, 5, none⟩ = some (.int .i64 a5) ∧ W.cell? ⟨M, 6, none⟩ = some (.int .i64 a6) ∧ W.cell? ⟨M, 7, none⟩ = some (.int .i64 a7) ∧ W.cell? ⟨M + 1, 0, none⟩ = some (.int .i64 p) ∧ W.cell? ⟨M + 1, 1, none⟩ = some (.int .i64 n))
    (first
      | exact ⟨c0, c1, c2, c3, c4, c5, c6, c7, c8, c9⟩
      | exact cells10 K5.own K5.ask
      | exact cells10 K4.own K4.ask
      | exact cells10 K3.own K3.ask)
    (first
      | (go_at_call 6; refine (HP1.out _).mono ?_; rintro e w3 ⟨v3, rfl, I3, b3⟩; have K3 := KK2.out.drew.next b3 KK2.out.two)
      | (go_at_call 7; refine (HP2.out _).mono ?_; rintro e w4 ⟨v4, rfl, I4, b4⟩; have K4 := K3.next b4 K3.two; have I3' := (I3.below b4).mono b4.size)
      | (go_at_call 5; refine (HS1.out _ _ _ I3' I4).mono ?_; rintro e w5 ⟨rfl, q5, rfl⟩; have K5 := K4.drewN q5))
  have KK5 : Hid (Kept w M [a0, a1, a2, a3, a4, a5, a6, a7] [.int .i64 p, .int .i64 n, .slice ua ul uc] (w4.drewN q5)) := K5
  clear K5 K4 K3 I3 I4 I3' b3 b4 c0 c1 c2 c3 c4 c5 c6 c7 c8 c9 KK2
  rename_i hHeldA
  clear hHeldA
  generalize w4.drewN q5 = w5 at KK5 ⊢
  go_wp2_with fail
  obtain ⟨c0, c1, c2, c3, c4, c5, c6, c7, c8, c9⟩ := cells10 KK5.out.drew.own KK5.out.drew.ask
  go_region_held3 (fun W => W.cell? ⟨M, 0, none⟩ = some (.int .i64 a0) ∧ W.cell? ⟨M, 1, none⟩ = some (.int .i64 a1) ∧ W.cell? ⟨M, 2, none⟩ = some (.int .i64 a2) ∧ W.cell? ⟨M, 3, none⟩ = some (.int .i64 a3) ∧ W.cell? ⟨M, 4, none⟩ = some (.int .i64 a4) ∧ W.cell? ⟨M, 5, none⟩ = some (.int .i64 a5) ∧ W.cell? ⟨M, 6, none⟩ = some (.int .i64 a6) ∧ W.cell? ⟨M, 7, none⟩ = some (.int .i64 a7) ∧ W.cell? ⟨M + 1, 0, none⟩ = some (.int .i64 p) ∧ W.cell? ⟨M + 1, 1, none⟩ = some (.int .i64 n))
    (first
      | exact ⟨c0, c1, c2, c3, c4, c5, c6, c7, c8, c9⟩
      | exact cells10 K8.own K8.ask
      | exact cells10 K7.own K7.ask
      | exact cells10 K6.own K6.ask)
    (first
      | (go_at_call 8; refine (HO1.out _).mono ?_; rintro e w6 ⟨v6, rfl, I6, b6⟩; have K6 := KK5.out.drew.next b6 KK5.out.two)
      | (go_at_call 9; refine (HO2.out _).mono ?_; rintro e w7 ⟨v7, rfl, I7, b7⟩; have K7 := K6.next b7 K6.two; have I6' := (I6.below b7).mono b7.size)
      | (go_at_call 5; refine (HS2.out _ _ _ I6' I7).mono ?_; rintro e w8 ⟨rfl, q8, rfl⟩; have K8 := K7.drewN q8))
  have KK8 : Hid (Kept w M [a0, a1, a2, a3, a4, a5, a6, a7] [.int .i64 p, .int .i64 n, .slice ua ul uc] (w7.drewN q8)) := K8
  clear K8 K7 K6 I6 I7 I6' b6 b7 c0 c1 c2 c3 c4 c5 c6 c7 c8 c9 KK5
  rename_i hHeldB
  clear hHeldB
  generalize w7.drewN q8 = w8 at KK8 ⊢
  have H8 := KK8.out.own
  have p0 := KK8.out.ask.at 0 _ rfl
  have p1 := KK8.out.ask.at 1 _ rfl
  have p2 := KK8.out.ask.at 2 _ rfl
  obtain ⟨ll, hll⟩ : ∃ ll, L.length = ll := ⟨_, rfl⟩
  have HLL : Hid (L.length = ll) := hll
  rw [hll] at HSl HRs hsl8
  clear hll
  go_wp2_with (first
    | (refine wpList_load_all rfl 23 _ rfl _ rfl 23 (intV [a0, a1, a2, a3, a4, a5, a6, a7]) 8 3 H8 und23 (by rw [siz23]; rfl) ?_)
    | (go_at_call 10; refine (HSl.out w8 KK8.out.bel).mono ?_; rintro e w9 ⟨v9, rfl, O9, b9⟩; have K9 := KK8.out.next b9 KK8.out.two; have H9 := K9.own; have r0 := K9.ask.at 0 _ rfl; have r1 := K9.ask.at 1 _ rfl; have r2 := K9.ask.at 2 _ rfl; obtain ⟨a9, c9, rfl⟩ := row_slice O9; clear H8 p0 p1 p2)
    | (refine wpList_load_all rfl 23 _ rfl _ rfl 23 (intV [a0, a1, a2, a3, a4, a5, a6, a7]) 8 3 H9 und23 (by rw [siz23]; rfl) ?_)
    | (go_at_call 11; refine (HRs.out w9 K9.bel).mono ?_; rintro e w10 ⟨v10, rfl, O10, b10⟩; have K10 := K9.next b10 K9.two; obtain ⟨a10, c10, rfl⟩ := row_slice O10))
  have HR : Hid (∀ (k : Nat) (e : Int × Int), L[k]? = some e → ∃ g1 g2, a9 = some ⟨g1, 0, none⟩ ∧ a10 = some ⟨g2, 0, none⟩ ∧ w10.cell? ⟨g1, k * 2, none⟩ = some (.int .i64 e.1) ∧ w10.cell? ⟨g1, k * 2 + 1, none⟩ = some (.int .i64 e.2) ∧ w10.cell? ⟨g2, k * 2, none⟩ = some (.int .i64 e.1) ∧ w10.cell? ⟨g2, k * 2 + 1, none⟩ = some (.int .i64 e.2)) := fun k e he => by
    have hk : k < L.length := (List.getElem?_eq_some_iff.1 he).1
    rw [HLL.out] at hk
    obtain ⟨g1, d1, e1, _, hg1, hc1⟩ := row_cells O9 (by omega)
    obtain ⟨g2, d2, e2, _, hg2, hc2⟩ := row_cells O10 (by omega)
    obtain ⟨x1, -, -⟩ := Value.slice.inj e1
    obtain ⟨x2, -, -⟩ := Value.slice.inj e2
    obtain ⟨t1, t2⟩ := tgtV_at L k e he
    refine ⟨g1, g2, x1, x2, ?_, ?_, ?_, ?_⟩
    · rw [World.cell?_of_block (w := w9) (b10.block g1 hg1), hc1 (k * 2) (by omega)]; exact t1
    · rw [World.cell?_of_block (w := w9) (b10.block g1 hg1), hc1 (k * 2 + 1) (by omega)]; exact t2
    · rw [hc2 (k * 2) (by omega)]; exact t1
    · rw [hc2 (k * 2 + 1) (by omega)]; exact t2
  have HB10 : Hid (Below M w w10) := K10.bel
  have hz10 : Hid (M ≤ w10.heap.size) := by have := K10.two; unfold Hid; omega
  clear O9 O10 b9 b10 K9 K10 H9 r0 r1 r2 KK8 HSl HRs
  go_loopw [12] (fun c wr => ∃ k q : Nat, k ≤ ll ∧ c = .int .i64 (k : Int) ∧ wr = w10.drewN q) (fun c _ => ll - (intOf c).toNat)
  case atStart => exact ⟨0, 0, by omega, rfl, rfl⟩
  case round =>
  obtain ⟨k, q, hk, rfl, rfl⟩ := hrel
  by_cases hlt : k < ll
  · obtain ⟨e, he⟩ : ∃ e, L[k]? = some e := ⟨_, List.getElem?_eq_getElem (by rw [HLL.out]; exact hlt)⟩
    obtain ⟨g1, g2, rfl, rfl, e1, e2, e3, e4⟩ := HR.out k e he
    obtain ⟨x, y⟩ := e
    have f1 : (w10.drewN q).cell? ⟨g1, k * 2, none⟩ = some (.int .i64 x) := by rw [World.cell?_of_block (w := w10) (by simp)]; exact e1
    have f2 : (w10.drewN q).cell? ⟨g1, k * 2 + 1, none⟩ = some (.int .i64 y) := by rw [World.cell?_of_block (w := w10) (by simp)]; exact e2
    have f3 : (w10.drewN q).cell? ⟨g2, k * 2, none⟩ = some (.int .i64 x) := by rw [World.cell?_of_block (w := w10) (by simp)]; exact e3
    have f4 : (w10.drewN q).cell? ⟨g2, k * 2 + 1, none⟩ = some (.int .i64 y) := by rw [World.cell?_of_block (w := w10) (by simp)]; exact e4
    have i0 : (0 : Int) ≤ (k : Int) := by omega
    have i1 : (k : Int) < (ll : Int) := by omega
    have HD : Hid (∀ m, (w10.drewN q).drewN m = w10.drewN (q + m)) := fun m => World.drewN_drewN ..
    clear he e1 e2 e3 e4
    generalize w10.drewN q = W at HD f1 f2 f3 f4 ⊢
    go_wp2_with fail
    go_quiet (fail)
    rw [HD.out]
    go_wp2
    exact ⟨⟨k + 1, _, by omega, by go_num, rfl⟩, by simp [intOf]; omega⟩
  · have i1 : ¬ (k : Int) < (ll : Int) := by omega
    have bq : Hid (Below M w (w10.drewN q)) := HB10.out.trans (below_drewN M w10 q)
    have hzq : Hid (M ≤ (w10.drewN q).heap.size) := by have := hz10.out; unfold Hid; simpa using this
    generalize w10.drewN q = W at bq hzq ⊢
    go_wp2_with (first
      | (go_at_call 12; refine (HK1.out W bq.out).mono ?_; rintro e w11 ⟨rfl, b11⟩)
      | (go_at_call 13; refine (HK2.out w11).mono ?_; rintro e w12 ⟨rfl, b12⟩))
    go_ret
    exact ⟨by simp, (bq.out.trans (b11.mono hzq.out)).trans (b12.mono (Nat.le_trans hzq.out b11.size))⟩
end Go.Proofs.YtlliijodilnlgaaDoor
