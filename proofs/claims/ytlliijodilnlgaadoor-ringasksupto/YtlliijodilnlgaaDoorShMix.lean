/- What package sha's mix answers: the state behind a block, for whatever state and block; the tables read as they are laid; nothing that was there is turned. -/
import Derived.Test.YtlliijodilnlgaaDoorShExpand
import Derived.BigQuiet
namespace Go.Proofs.YtlliijodilnlgaaDoor
open Go.RowKit
attribute [local go_sem ↓] Go.wp_at_zero Go.wp_at_succ

/-- The two tables read as the program lays them. -/
structure Laid (w : World) : Prop where
  rounds : w.rangeAt 1 0 (Ks.map wordV)
  start : w.rangeAt 0 0 (Hs.map wordV)
theorem rangeAt_lt {w : World} {b o : Nat} {c : Value} {cs : List Value} (h : w.rangeAt b o (c :: cs)) : b < w.heap.size := by
  have := h 0 c rfl
  exact World.block_lt_of_cell? w _ this
theorem rangeAt_below {w w' : World} {B b o : Nat} {cs : List Value} (h : w.rangeAt b o cs) (hb : Below B w w') (hB : b < B) : w'.rangeAt b o cs := fun j v hv => by
  rw [hb.cell (p := ⟨b, o + j, none⟩) hB]; exact h j v hv
theorem Laid.two {w : World} (h : Laid w) : 1 < w.heap.size := by
  have := h.rounds
  exact rangeAt_lt (c := wordV 0x428a2f98) (cs := Ks.tail.map wordV) this
theorem Laid.below {w w' : World} {B : Nat} (h : Laid w) (hb : Below B w w') (hB : 2 ≤ B) : Laid w' :=
  ⟨rangeAt_below h.rounds hb (by omega), rangeAt_below h.start hb (by omega)⟩
theorem Laid.round {w : World} (h : Laid w) (i : Nat) (hi : i < 64) : w.cell? ⟨1, i, none⟩ = some (.int .u32 (Ks.getD i 0).toNat) := by
  have := h.rounds i (wordV (Ks.getD i 0)) (by
    have : i < Ks.length := hi
    simp [this])
  rw [Nat.zero_add] at this
  exact this

theorem info63 : (Tryd.prog.info? 63).map (fun i => (i.zero, i.size)) = some (some (.agg ((List.replicate 8 (0 : BitVec 32)).map wordV).toArray), 8) := by kernel_rfl
theorem und63 : Tryd.prog.underlying 63 = some (.array 8 62) := by kernel_rfl

theorem und62 : Tryd.prog.underlying 62 = some (.int .u32) := by kernel_rfl
theorem siz62 : (Tryd.prog.info? 62).map (·.size) = some 1 := by kernel_rfl
/-- The state, i of its words being added to. -/
def addN (st v : List (BitVec 32)) : Nat → List (BitVec 32)
  | 0 => st
  | i + 1 => (addN st v i).set i ((addN st v i).getD i 0 + v.getD i 0)
theorem addN_length (st v : List (BitVec 32)) : ∀ i, (addN st v i).length = st.length
  | 0 => rfl
  | i + 1 => by simp [addN, addN_length st v i]
theorem t1_nat (h e f g y x : BitVec 32) (a b c d : BitVec 32) : ((h.toNat : Int) + (Sig1 e).toNat + (ch e f g).toNat + y.toNat + x.toNat) % (4294967296 : Int) = ((t1 ⟨a, b, c, d, e, f, g, h⟩ y x).toNat : Int) := by
  simp only [t1, BitVec.toNat_add]; omega

/-- Only draws lie between the two worlds. -/
structure Still (w w' : World) : Prop where
  heap : w'.heap = w.heap
  os : w'.os = w.os
  tape : w'.tape = w.tape
  output : w'.output = w.output
theorem Still.refl (w : World) : Still w w := ⟨rfl, rfl, rfl, rfl⟩
theorem Still.drewN (w : World) (k : Nat) : Still w (w.drewN k) := ⟨rfl, rfl, rfl, rfl⟩
theorem Still.trans {a b c : World} (h : Still a b) (k : Still b c) : Still a c := ⟨k.heap.trans h.heap, k.os.trans h.os, k.tape.trans h.tape, k.output.trans h.output⟩
theorem Still.below {w w' : World} (h : Still w w') (B : Nat) : Below B w w' := ⟨h.os, h.tape, h.output, by rw [h.heap]; exact Nat.le_refl _, fun k _ => by rw [h.heap]⟩
theorem Still.holds {w w' : World} (h : Still w w') {b : Nat} {cs : List Value} {t : TypeId} (k : Holds w b cs t) : Holds w' b cs t := by unfold Holds; rw [h.heap]; exact k

set_option maxHeartbeats 400000 in
set_option maxRecDepth 100000 in
theorem mix_any (st : List (BitVec 32)) (hst : st.length = 8) (blk : List UInt8) (hl : blk.length = 64) (w : World) (hL : Laid w) :
    Calls Tryd.prog 69 #[.agg (st.map wordV).toArray, .agg (blk.map byteV).toArray] w fun e w' => e = .returned (.agg ((mixL st blk).map wordV).toArray) ∧ Below w.heap.size w w' := by
  have hn2 := hL.two
  obtain ⟨n, hn⟩ : ∃ n, w.heap.size = n := ⟨_, rfl⟩
  rw [hn] at hn2 ⊢
  match st, hst with
  | [s0, s1, s2, s3, s4, s5, s6, s7], _ =>
  go_enter Tryd.func69, Tryd.ntmps69
  go_wp2_with (first
    | (refine wpList_box_new 2 rfl rfl 63 _ rfl n hn _ rfl ?_; intro w1 h1)
    | (refine wpList_box_new 3 rfl rfl 76 _ rfl (n + 1) h1.size _ rfl ?_; intro w2 h2)
    | (refine wpList_alloc_new 4 rfl rfl 63 rfl (n + 2) h2.size _ (zero_of_info info63).1 ?_; intro w3 h3)
    | (refine wpList_load_all rfl 76 _ rfl _ rfl 76 (blk.map byteV) 64 5 (h2.holds.below h3.below (by omega)) und76 (by rw [(zero_of_info info76).2]; simp [hl]) ?_)
    | (go_at_call 76; refine (expand_any blk hl _).mono ?_; rintro e w4 ⟨rfl, h4⟩)
    | (obtain ⟨m, hm⟩ : ∃ m, w4.heap.size = m := ⟨_, rfl⟩; refine wpList_alloc_new 5 rfl rfl 64 rfl m hm _ (zero_of_info info64).1 ?_; intro w5 h5)
    | (refine wpList_store_all rfl 64 _ _ rfl _ rfl _ rfl 64 _ h5.holds (by rw [(zero_of_info info64).2]; simp [words_length]) (by simp [words_length]) (wordV_one _) ?_; intro w6 h6))
  simp only [Act.put, List.setIfInBounds_toArray, List.set_cons_succ, List.set_cons_zero]
  have h16 : Below (n + 1) w1 w6 := (((h2.below.trans (h3.below.mono (by omega))).trans (h4.mono (by rw [h3.size]; omega))).trans (h5.below.mono (by rw [← hm]; have := h4.size; rw [h3.size] at this; omega))).trans (h6.below (by rw [← hm]; have := h4.size; rw [h3.size] at this; omega))
  have hm3 : n + 3 ≤ m := by rw [← hm]; have := h4.size; rw [h3.size] at this; omega
  have hS := h1.holds.below h16 (by omega)
  have hL6 : Laid w6 := (hL.below h1.below (by omega)).below h16 (by omega)
  have z6 : w6.heap.size = m + 1 := by rw [h6.size, h5.size]
  have hR : Holds w6 (n + 2) ((List.replicate 8 (0 : BitVec 32)).map wordV) 63 := ((h3.holds.below (h4.mono (by rw [h3.size]; exact Nat.le_refl _)) (by omega)).below h5.below (by omega)).below (h6.below (B := m) (Nat.le_refl _)) (by omega)
  have hW := h6.holds
  have b6 : Below n w w6 := h1.below.trans (h16.mono (by omega))
  clear h1 h2 h3 h4 h5 h6 h16 hm
  have k0 : w6.cell? ⟨n, 0, none⟩ = some (.int .u32 s0.toNat) := hS.at 0 _ rfl
  have k1 : w6.cell? ⟨n, 1, none⟩ = some (.int .u32 s1.toNat) := hS.at 1 _ rfl
  have k2 : w6.cell? ⟨n, 2, none⟩ = some (.int .u32 s2.toNat) := hS.at 2 _ rfl
  have k3 : w6.cell? ⟨n, 3, none⟩ = some (.int .u32 s3.toNat) := hS.at 3 _ rfl
  have k4 : w6.cell? ⟨n, 4, none⟩ = some (.int .u32 s4.toNat) := hS.at 4 _ rfl
  have k5 : w6.cell? ⟨n, 5, none⟩ = some (.int .u32 s5.toNat) := hS.at 5 _ rfl
  have k6 : w6.cell? ⟨n, 6, none⟩ = some (.int .u32 s6.toNat) := hS.at 6 _ rfl
  have k7 : w6.cell? ⟨n, 7, none⟩ = some (.int .u32 s7.toNat) := hS.at 7 _ rfl
  go_quiet (fail)
  go_wp2_with fail
  go_loopw [6, 7, 8, 9, 10, 11, 12, 13, 37] (fun a b c d e f g h i wr => ∃ (k : Nat) (s : Eight), k ≤ 64 ∧ i = .int .i64 (k : Int) ∧ Still w6 wr ∧ s = runs (words blk) ⟨s0, s1, s2, s3, s4, s5, s6, s7⟩ k ∧ a = .int .u32 s.a.toNat ∧ b = .int .u32 s.b.toNat ∧ c = .int .u32 s.c.toNat ∧ d = .int .u32 s.d.toNat ∧ e = .int .u32 s.e.toNat ∧ f = .int .u32 s.f.toNat ∧ g = .int .u32 s.g.toNat ∧ h = .int .u32 s.h.toNat) (fun _ _ _ _ _ _ _ _ i _ => 64 - (intOf i).toNat)
  case atStart => exact ⟨0, _, by omega, rfl, Still.drewN _ _, rfl, rfl, rfl, rfl, rfl, rfl, rfl, rfl, rfl⟩
  case round =>
    obtain ⟨k, ⟨a, b, c, d, e, f, g, h⟩, hk, rfl, hst, hs, rfl, rfl, rfl, rfl, rfl, rfl, rfl, rfl⟩ := hrel
    dsimp only
    clear k0 k1 k2 k3 k4 k5 k6 k7
    by_cases hlt : k < 64
    · have HS : Hid (Eight.mk a b c d e f g h = runs (words blk) ⟨s0, s1, s2, s3, s4, s5, s6, s7⟩ k) := hs
      clear hs
      obtain ⟨x, X⟩ : ∃ x, Hid ((words blk).getD k 0 = x) := ⟨_, rfl⟩
      obtain ⟨y, Y⟩ : ∃ y, Hid (Ks.getD k 0 = y) := ⟨_, rfl⟩
      have c1 : wr.cell? ⟨m, k, none⟩ = some (.int .u32 x.toNat) := X.out ▸ (hst.holds hW).word k _ rfl (by rw [words_length]; omega)
      have c2 : wr.cell? ⟨1, k, none⟩ = some (.int .u32 y.toNat) := Y.out ▸ (hL6.below (hst.below 2) (by omega)).round k hlt
      have i0 : (0 : Int) ≤ (k : Int) := by omega
      have i1 : (k : Int) < 64 := by omega
      go_wp2_with fail
      go_quiet ((first | (go_at_call 77; exact Calls.quiet_of_same (bigSigma1_any _ _)) | (go_at_call 78; exact Calls.quiet_of_same (choose_any _ _ _ _))))
      go_wp2_with (first | (go_at_call 79; refine (bigSigma0_any _ _).mono ?_; rintro e w' ⟨rfl, rfl⟩) | (go_at_call 80; refine (majority_any _ _ _ _).mono ?_; rintro e w' ⟨rfl, rfl⟩))
      refine ⟨⟨k + 1, step ⟨a, b, c, d, e, f, g, h⟩ y x, by omega, by go_num, hst.trans (Still.drewN _ _), ?_, ?_, rfl, rfl, rfl, ?_, rfl, rfl, rfl⟩, by simp [intOf]; omega⟩
      · rw [runs, ← HS.out, X.out, Y.out]
      · rw [t1_nat h e f g y x a b c d, u_addm, u_addm]; rfl
      · rw [t1_nat h e f g y x a b c d, u_addm]; rfl
    · have hh : Eight.mk a b c d e f g h = runs (words blk) ⟨s0, s1, s2, s3, s4, s5, s6, s7⟩ 64 := (show k = 64 by omega) ▸ hs
      have HH : Hid (Eight.mk a b c d e f g h = runs (words blk) ⟨s0, s1, s2, s3, s4, s5, s6, s7⟩ 64) := hh
      clear hs hh
      go_wp2_with fail
      go_loopw [86] (fun i wr' => ∃ q : Nat, q ≤ 8 ∧ i = .int .i64 (q : Int) ∧ wr'.heap.size = m + 1 ∧ Below n wr wr' ∧ Holds wr' (n + 2) ((List.replicate 8 (0 : BitVec 32)).map wordV) 63 ∧ Holds wr' n ((addN [s0, s1, s2, s3, s4, s5, s6, s7] [a, b, c, d, e, f, g, h] q).map wordV) 63) (fun i _ => 8 - (intOf i).toNat)
      case atStart => exact ⟨0, by omega, rfl, by rw [hst.heap, z6], Below.refl _ _, hst.holds hR, hst.holds hS⟩
      case round =>
        obtain ⟨q, hq, rfl, hz, hb, hr, hh⟩ := hrel
        by_cases hlq : q < 8
        · obtain ⟨x, X⟩ : ∃ x, Hid ((addN [s0, s1, s2, s3, s4, s5, s6, s7] [a, b, c, d, e, f, g, h] q).getD q 0 = x) := ⟨_, rfl⟩
          obtain ⟨y, Y⟩ : ∃ y, Hid ([a, b, c, d, e, f, g, h].getD q 0 = y) := ⟨_, rfl⟩
          have c1 : wr.cell? ⟨n, q, none⟩ = some (.int .u32 x.toNat) := X.out ▸ hh.word q _ rfl (by rw [addN_length]; exact hlq)
          have hfr : wr.frozen? ⟨n, q, none⟩ = false := hh.frozen _
          have i0 : (0 : Int) ≤ (q : Int) := by omega
          have i1 : (q : Int) < 8 := by omega
          have hix : (Instr.index 63 (.agg #[.int .u32 a.toNat, .int .u32 b.toNat, .int .u32 c.toNat, .int .u32 d.toNat, .int .u32 e.toNat, .int .u32 f.toNat, .int .u32 g.toNat, .int .u32 h.toNat]) (.int .i64 (q : Int))).run Tryd.prog wr = .ok (.int .u32 y.toNat) wr :=
            run_index_array (P := Tryd.prog) wr 63 62 8 .u32 und63 und62 siz62 ([a, b, c, d, e, f, g, h].map wordV) q hlq (wordV y) (by
              have hl8 : q < [a, b, c, d, e, f, g, h].length := hlq
              rw [List.getElem?_map, List.getElem?_eq_getElem hl8, ← Y.out, List.getD_eq_getElem?_getD, List.getElem?_eq_getElem hl8]; rfl)
          go_wp2
          refine ⟨⟨q + 1, by omega, by go_num, by simpa using hz, hb.setCell (by simp) _, hr.setOther _ _ _ (by omega), ?_⟩, by simp [intOf]; omega⟩
          have := hh.set q (wordV (x + y))
          rw [← List.map_set] at this
          rw [u_addm, addN, X.out, Y.out]
          exact this
        · have hh : Holds wr n ((addN [s0, s1, s2, s3, s4, s5, s6, s7] [a, b, c, d, e, f, g, h] 8).map wordV) 63 := (show q = 8 by omega) ▸ hh
          have hbw : Below n w wr := (b6.trans (hst.below n)).trans hb
          go_wp2_with (first
            | (refine wpList_load_all rfl 63 _ rfl _ rfl 63 _ 8 62 hh und63 (by rw [(zero_of_info info63).2]; rfl) ?_)
            | (refine wpList_store_all rfl 63 _ _ rfl _ rfl _ rfl 63 _ hr (by rw [(zero_of_info info63).2]; rfl) (by rfl) (wordV_one _) ?_; intro w8 h8))
          exact bodyPost_ret (results_cell_row (p := 4) (by kernel_rfl) _ w8 (n + 2) 63 _ (0, 0) _ rfl h8.holds und63 rfl (by rw [(zero_of_info info63).2]; rfl)) rfl ⟨by rw [mixL, show Eight.of [s0, s1, s2, s3, s4, s5, s6, s7] = ⟨s0, s1, s2, s3, s4, s5, s6, s7⟩ from rfl, ← HH.out]; rfl, hbw.trans (h8.below (by omega))⟩
end Go.Proofs.YtlliijodilnlgaaDoor
