/- The document's Bytes (20). -/
import Derived.Deep.RegionHeld3
import Derived.Test.YthmnjebmnocoiaaGreatYGsRefN
import Derived.Test.YthmnjebmnocoiaaGreatYA9
namespace Go.Proofs.YthmnjebmnocoiaaGreat
open Go.RowKit
attribute [local go_sem ↓] rule28

def memB (m : Mb) : List UInt8 := numL (intN m.1) ++ numL (intN m.2.1) ++ numL m.2.2
def ownB (o : Ow) : List UInt8 := numL (intN o.1) ++ numL o.2
def bytesR (r : Rg) : List UInt8 := numL r.1.length ++ r.1.flatMap memB ++ r.2.flatMap ownB
theorem strL_two (a b : List UInt8) : strL a ++ strL b = strL (a ++ b) := by
  apply ByteArray.ext
  simp [strL]
theorem flat_len {α : Type} (f : α → List UInt8) (c : Nat) : ∀ (l : List α), (∀ x ∈ l, (f x).length ≤ c) → (l.flatMap f).length ≤ c * l.length
  | [], _ => by simp
  | x :: l, h => by
    have h1 := flat_len f c l fun y hy => h y (List.mem_cons_of_mem _ hy)
    have h2 := h x (by simp)
    rw [List.flatMap_cons, List.length_append, List.length_cons, Nat.mul_add]
    omega
theorem memB_len {m : Mb} (h1 : I64 m.1) (h2 : I64 m.2.1) (h3 : m.2.2 < 18446744073709551616) : (memB m).length ≤ 30 := by
  have a := numL_len10 _ (intN_lt h1)
  have b := numL_len10 _ (intN_lt h2)
  have c := numL_len10 _ h3
  unfold memB
  rw [List.length_append, List.length_append]
  omega
theorem ownB_len {o : Ow} (h1 : I64 o.1) (h3 : o.2 < 18446744073709551616) : (ownB o).length ≤ 20 := by
  have a := numL_len10 _ (intN_lt h1)
  have c := numL_len10 _ h3
  unfold ownB
  rw [List.length_append]
  omega
theorem strL_len (a : List UInt8) : (strL a).size = a.length := rfl
def KM (M : Nat) (m1 m2 : Int) (m3 : Nat) (W : World) : Prop := W.cell? ⟨M, 0, none⟩ = some (.int .i64 m1) ∧ W.cell? ⟨M, 1, none⟩ = some (.int .i64 m2) ∧ W.cell? ⟨M, 2, none⟩ = some (.int .u64 (m3 : Int))
theorem KM.below {M : Nat} {m1 m2 : Int} {m3 : Nat} {W W' : World} (h : KM M m1 m2 m3 W) (hb : Below W.heap.size W W') : KM M m1 m2 m3 W' := by
  have hl : M < W.heap.size := World.block_lt_of_cell? W _ h.1
  exact ⟨(World.cell?_of_block (w := W) (hb.block M hl)).trans h.1, (World.cell?_of_block (w := W) (hb.block M hl)).trans h.2.1, (World.cell?_of_block (w := W) (hb.block M hl)).trans h.2.2⟩
def KO (N i : Nat) (o1 : Int) (o2 : Nat) (W : World) : Prop := W.cell? ⟨N, i, none⟩ = some (.int .i64 o1) ∧ W.cell? ⟨N, i + 1, none⟩ = some (.int .u64 (o2 : Int))
theorem KO.below {N i : Nat} {o1 : Int} {o2 : Nat} {W W' : World} (h : KO N i o1 o2 W) (hb : Below W.heap.size W W') : KO N i o1 o2 W' := by
  have hl : N < W.heap.size := World.block_lt_of_cell? W _ h.1
  exact ⟨(World.cell?_of_block (w := W) (hb.block N hl)).trans h.1, (World.cell?_of_block (w := W) (hb.block N hl)).trans h.2⟩
structure Bt (N : Nat) (ds : List Value) (u : Value) (nr : Rg) (w W : World) : Prop where
  hold : Holds W N ds 28
  ring : RingAt W.heap.size W u nr
  low : Below N w W
theorem Bt.below {N : Nat} {ds : List Value} {u : Value} {nr : Rg} {w W W' : World} (h : Bt N ds u nr w W) (hb : Below W.heap.size W W') : Bt N ds u nr w W' :=
  ⟨h.hold.below hb h.hold.lt, (h.ring.below hb).mono hb.size, h.low.trans (hb.mono (by have := h.hold.lt; omega))⟩
set_option maxRecDepth 100000 in
set_option maxHeartbeats 8000000 in
theorem refBytes_any (v0 : Value) (r : Rg) (hfit : RFit r) (w : World) (h : RingAt w.heap.size w v0 r) :
    Calls Tryz.prog 30 #[ringV v0 r] w fun e w' => e = .returned (.string (strL (bytesR (normL r)))) ∧ Below w.heap.size w w' := by
  obtain ⟨N, hN⟩ : ∃ N, w.heap.size = N := ⟨_, rfl⟩
  have HR : Hid (RingAt N w v0 r) := hN ▸ h
  have hl17 := ringC_len h
  rw [hN]
  have HNO : Hid (∀ W, RingAt W.heap.size W v0 r → Calls Tryz.prog 9 #[.agg (ringC v0 r).toArray] W fun e w' => ∃ u ds, e = .returned (.agg ds.toArray) ∧ Hid (ds = ringC u (normL r)) ∧ Hid (RingAt w'.heap.size w' u (normL r) ∧ Fresh W.heap.size u ∧ Below W.heap.size W w')) := fun W hr => (refNorm_any v0 r W hr).mono fun e w' ⟨u, h1, h2, h3, h4⟩ => ⟨u, _, h1, rfl, h2, h3, h4⟩
  have hnf : Hid (RFit (normL r)) := norm_fit hfit
  have hnm : Hid (∀ m ∈ (normL r).1, I64 m.1 ∧ I64 m.2.1) := fun m hm => by
    have hm' : m ∈ risL (mergeK [r]) := hm
    obtain ⟨q1, q2⟩ := (mem_risL _ (mergeK_right _) m).1 hm'
    have hs := (mergeK_right [r]).seen (n := m.1) (by rw [q2]; exact q1)
    rw [q2, okM_iff] at hs
    have := hs.1
    exact ⟨⟨by omega, by omega⟩, ⟨by omega, by omega⟩⟩
  have hno : Hid (∀ (j : Nat) (o : Ow), (normL r).2[j]? = some o → I64 o.1) := fun j o ho => by
    have hj : j < 8 := by have := (List.getElem?_eq_some_iff.1 ho).1; rw [show (normL r).2.length = 8 from mergeO_len _] at this; exact this
    have hso := okO_so (r.2.getD j noO)
    rw [← own_norm r j hj, List.getD_eq_getElem?_getD, ho] at hso
    have := hso
    unfold So at this
    simp only [Option.getD_some] at this
    exact ⟨by omega, by omega⟩
  have h7 : Hid ((normL r).1.length ≤ 7) := risL_len _
  have hol : Hid ((normL r).2.length = 8) := mergeO_len _
  show Calls Tryz.prog 30 #[.agg (ringC v0 r).toArray] w _
  generalize ringC v0 r = cs at *
  generalize normL r = nr at *
  clear h hfit
  go_enter Tryz.func30, Tryz.ntmps30
  go_upto_region 1 with (refine wpList_box_new 1 rfl rfl 28 _ rfl N hN _ rfl ?_; intro w1 h1)
  have r1 := h1.holds.row28 hl17
  have HR1 : RingAt w1.heap.size w1 v0 r := (HR.out.below h1.below).mono (by rw [h1.size]; omega)
  have hz1 := h1.size
  have hMX : Hid (∀ u : Value, (ringC u nr)[0]? = some u) := fun u => rfl
  obtain ⟨ln, hln⟩ : ∃ ln, nr.1.length = ln := ⟨_, rfl⟩
  have HLN : Hid (nr.1.length = ln) := hln
  have hl7 : ln ≤ 7 := by rw [← hln]; exact h7.out
  have HNU : Hid (∀ W, Calls Tryz.prog 51 #[.int .u64 (ln : Int)] W fun e w' => e = .returned (.string (strL (numL ln))) ∧ Below W.heap.size W w') := fun W => refNum_any ln (by omega) W
  have m1 : (ln : Int) % 18446744073709551616 = ln := by omega
  have x1 : IntKind.u64.wrap (ln : Int) = ln := by rw [wrap_u64]; omega
  clear hln
  go_upto_region 4 with (first
    | (go_at_call 9; refine (HNO.out w1 HR1).mono ?_; rintro e w2 ⟨u, ds, rfl, hds, R2⟩; have HN2 := h1.holds.below R2.out.2.2 (by omega); have hz2 := ringC_len R2.out.1; have ho2 := ringC_one R2.out.1; rw [← hds.out] at hz2 ho2)
    | (refine wpList_store_all rfl 28 (.tmp 1) (.tmp 8) rfl N rfl ds rfl 28 _ HN2 (siz28.trans (congrArg some hz2.symm)) (hl17.trans hz2.symm) ho2 ?_; intro w3 h3; have hU3 : Outs (fun b => b = N) w2 w3 := Outs.ofTurned h3 rfl; have hs2 := R2.out.2.2.size; have R3 := (R2.out.1.outs R2.out.2.1 hU3 (Nat.le_refl _) (by omega)).mono hU3.size; have HB3 : Hid (Bt N ds u nr w w3) := ⟨h3.holds, R3, (h1.below.trans (R2.out.2.2.mono (by omega))).trans (hU3.below (by omega) (by omega))⟩; obtain ⟨ua, uc, rfl⟩ := R3.mem.len; rw [HLN.out] at hds; have c0 : w3.cell? ⟨N, 0, none⟩ = some (.slice ua ln uc) := h3.holds.at 0 _ (by rw [hds.out]; exact hMX.out _))
    | (go_at_call 51; refine (HNU.out _).mono ?_; rintro e w4 ⟨rfl, b4⟩; have HB4 : Hid (Bt N ds (.slice ua nr.1.length uc) nr w w4) := HB3.out.below b4))
  clear h1 h3 R2 R3 HB3 b4 HR1 r1 hz1 hz2 ho2 HN2 hU3 hs2 c0 HNO HNU
  have HDS : Hid (ds[0]? = some (.slice ua ln uc)) := by show ds[0]? = _; rw [hds.out]; exact hMX.out _
  have HDC : Hid (∀ (i : Nat) (o : Ow), nr.2[i]? = some o → ∀ j, j < 2 → ds[1 + i * 2 + j]? = (owV o)[j]?) := fun i o ho j hj => by rw [hds.out]; exact ring_cell _ nr.1 nr.2 i o ho j hj
  go_loopw [3, 4] (fun sv c wr => ∃ i : Nat, c = .int .i64 (i : Int) ∧ i ≤ ln ∧ sv = .string (strL (numL ln ++ (nr.1.take i).flatMap memB)) ∧ Hid (Bt N ds (.slice ua nr.1.length uc) nr w wr)) (fun _ c _ => ln - (intOf c).toNat)
  case atStart => exact ⟨0, rfl, Nat.zero_le _, by simp, HB4⟩
  case round =>
    clear HB4
    obtain ⟨i, rfl, hi, rfl, hB⟩ := hrel
    have c0 : wr.cell? ⟨N, 0, none⟩ = some (.slice ua ln uc) := hB.out.hold.at 0 _ HDS.out
    by_cases hlt : i < ln
    · have i1 : (i : Int) < (ln : Int) := by omega
      have i0 : (0 : Int) ≤ (i : Int) := by omega
      obtain ⟨⟨m1, m2, m3⟩, hm⟩ : ∃ m, nr.1[i]? = some m := ⟨_, List.getElem?_eq_getElem (by rw [HLN.out]; exact hlt)⟩
      obtain ⟨g, o, rfl, hgB, p0, p1, p2⟩ := hB.out.ring.mem.cell i _ hm
      have hmm := List.mem_of_getElem? hm
      have H1 : Hid (∀ W, Calls Tryz.prog 52 #[.int .i64 m1] W fun e w' => e = .returned (.string (strL (numL (intN m1)))) ∧ Below W.heap.size W w') := fun W => refInt_any m1 (hnm.out _ hmm).1 W
      have H2 : Hid (∀ W, Calls Tryz.prog 52 #[.int .i64 m2] W fun e w' => e = .returned (.string (strL (numL (intN m2)))) ∧ Below W.heap.size W w') := fun W => refInt_any m2 (hnm.out _ hmm).2 W
      have H3 : Hid (∀ W, Calls Tryz.prog 51 #[.int .u64 (m3 : Int)] W fun e w' => e = .returned (.string (strL (numL m3))) ∧ Below W.heap.size W w') := fun W => refNum_any m3 (hnf.out.mem _ hmm) W
      have HS : Hid (numL ln ++ (nr.1.take (i + 1)).flatMap memB = ((numL ln ++ (nr.1.take i).flatMap memB ++ numL (intN m1)) ++ numL (intN m2)) ++ numL m3) := by
        show _ = _
        rw [List.take_add_one, hm]
        simp [memB]
      obtain ⟨M, hM⟩ : ∃ M, wr.heap.size = M := ⟨_, rfl⟩
      have hK : KM M m1 m2 m3 (wr.alloc (.cells #[.int .i64 m1, .int .i64 m2, .int .u64 (m3 : Int)] 53)) := by
        have hh := holds_new wr [.int .i64 m1, .int .i64 m2, .int .u64 (m3 : Int)] 53
        rw [hM] at hh
        exact ⟨hh.at 0 _ rfl, hh.at 1 _ rfl, hh.at 2 _ rfl⟩
      have HBA : Hid (Bt N ds (.slice (some ⟨g, o, none⟩) nr.1.length uc) nr w (wr.alloc (.cells #[.int .i64 m1, .int .i64 m2, .int .u64 (m3 : Int)] 53))) := hB.out.below ((Below.refl _ _).alloc (Nat.le_refl _) _)
      have hs0 : (numL ln ++ (nr.1.take i).flatMap memB).length ≤ 300 := by
        have e1 := numL_len10 ln (by omega)
        have e2 := flat_len memB 30 (nr.1.take i) fun x hx => memB_len (hnm.out x (List.mem_of_mem_take hx)).1 (hnm.out x (List.mem_of_mem_take hx)).2 (hnf.out.mem x (List.mem_of_mem_take hx))
        have e3 : (nr.1.take i).length ≤ 7 := by rw [List.length_take]; omega
        rw [List.length_append]
        omega
      have l1 := numL_len10 _ (intN_lt (hnm.out _ hmm).1)
      have l2 := numL_len10 _ (intN_lt (hnm.out _ hmm).2)
      have l3 := numL_len10 _ (hnf.out.mem _ hmm)
      simp only at l1 l2 l3
      clear hm hmm hB
      go_upto_region 7 with fail
      generalize wr.alloc (.cells #[.int .i64 m1, .int .i64 m2, .int .u64 (m3 : Int)] 53) = wA at hK HBA ⊢
      have hKd : KM M m1 m2 m3 wA.drew := hK
      generalize numL ln ++ (nr.1.take i).flatMap memB = s0 at HS hs0 ⊢
      have HFS : Hid (strL (numL ln ++ (nr.1.take (i + 1)).flatMap memB) = strL s0 ++ strL (numL (intN m1)) ++ strL (numL (intN m2)) ++ strL (numL m3)) := by
        show strL _ = _
        rw [HS.out, strL_two, strL_two, strL_two]
      rw [← strL_len] at hs0 l1 l2 l3
      generalize strL s0 = A0 at *
      generalize strL (numL (intN m1)) = A1 at *
      generalize strL (numL (intN m2)) = A2 at *
      generalize strL (numL m3) = A3 at *
      have z1 : ¬ 9223372036854775807 < A0.size + A1.size := by omega
      have z2 : ¬ 9223372036854775807 < A0.size + A1.size + A2.size := by omega
      have z2' : ¬ 9223372036854775807 < (A0 ++ A1).size + A2.size := by rw [ByteArray.size_append]; omega
      have z3 : ¬ 9223372036854775807 < A0.size + A1.size + A2.size + A3.size := by omega
      have z3' : ¬ 9223372036854775807 < (A0 ++ A1 ++ A2).size + A3.size := by rw [ByteArray.size_append, ByteArray.size_append]; omega
      clear l1 l2 l3 hs0
      go_region_held3 (fun W => W.cell? ⟨M, 0, none⟩ = some (.int .i64 m1) ∧ W.cell? ⟨M, 1, none⟩ = some (.int .i64 m2) ∧ W.cell? ⟨M, 2, none⟩ = some (.int .u64 (m3 : Int)))
        (first
          | exact hKd
          | exact K5
          | exact K6
          | exact K7)
        (first
          | (go_at_call_of 52 (Value.int IntKind.i64 m1); refine (H1.out _).mono ?_; rintro e w5 ⟨rfl, b5⟩; have K5 := hKd.below b5)
          | (go_at_call_of 52 (Value.int IntKind.i64 m2); refine (H2.out _).mono ?_; rintro e w6 ⟨rfl, b6⟩; have K6 := K5.below b6)
          | (go_at_call 51; refine (H3.out _).mono ?_; rintro e w7 ⟨rfl, b7⟩; have K7 := K6.below b7))
      have HBE : Hid (Bt N ds (.slice (some ⟨g, o, none⟩) nr.1.length uc) nr w w7) := (((HBA.out.below (W' := wA.drew) (Below.drew (Below.refl _ _))).below b5).below b6).below b7
      go_wp2
      go_roundw
      case rel => exact ⟨i + 1, by go_num, by omega, by rw [HFS.out], HBE⟩
      case measure => simp [intOf]; omega
    · obtain rfl : i = ln := by omega
      have i1 : ¬ (i : Int) < (i : Int) := by omega
      have ht : nr.1.take i = nr.1 := List.take_of_length_le (by rw [HLN.out]; exact Nat.le_refl _)
      rw [ht]
      have hs1 : (numL i ++ nr.1.flatMap memB).length ≤ 300 := by
        have e1 := numL_len10 i (by omega)
        have e2 := flat_len memB 30 nr.1 fun x hx => memB_len (hnm.out x hx).1 (hnm.out x hx).2 (hnf.out.mem x hx)
        have e3 := h7.out
        rw [List.length_append]
        omega
      have HFIN : Hid (bytesR nr = (numL i ++ nr.1.flatMap memB) ++ nr.2.flatMap ownB) := by
        show bytesR nr = _
        unfold bytesR
        rw [HLN.out]
      have HBY : Hid (strL (numL i ++ nr.1.flatMap memB) = strL ((numL i ++ nr.1.flatMap memB) ++ (nr.2.take 0).flatMap ownB)) := by show strL _ = _; simp
      generalize numL i ++ nr.1.flatMap memB = S1 at *
      go_upto_region 9 with fail
      go_loopw [3, 6] (fun sv c wr => ∃ j : Nat, c = .int .i64 (j : Int) ∧ j ≤ 8 ∧ sv = .string (strL (S1 ++ (nr.2.take j).flatMap ownB)) ∧ Hid (Bt N ds (.slice ua nr.1.length uc) nr w wr)) (fun _ c _ => 8 - (intOf c).toNat)
      case atStart => exact ⟨0, rfl, Nat.zero_le _, by rw [← HBY.out], hB⟩
      case round =>
        clear hB HBY c0
        obtain ⟨j, rfl, hj, rfl, hB⟩ := hrel
        by_cases hlt : j < 8
        · have j1 : (j : Int) < 8 := by omega
          have j0 : (0 : Int) ≤ (j : Int) := by omega
          obtain ⟨⟨o1, o2⟩, ho⟩ : ∃ o, nr.2[j]? = some o := ⟨_, List.getElem?_eq_getElem (by rw [hol.out]; exact hlt)⟩
          have d0 : wr.drew.cell? ⟨N, 1 + j * 2, none⟩ = some (.int .i64 o1) := hB.out.hold.at _ _ (HDC.out j _ ho 0 (by omega))
          have d1 : wr.drew.cell? ⟨N, 1 + j * 2 + 1, none⟩ = some (.int .u64 (o2 : Int)) := hB.out.hold.at _ _ (HDC.out j _ ho 1 (by omega))
          have hI := hno.out j _ ho
          have hV : o2 < 18446744073709551616 := by
            have := hnf.out.own j hlt
            rw [List.getD_eq_getElem?_getD, ho] at this
            exact this
          simp only at hI
          have H1 : Hid (∀ W, Calls Tryz.prog 52 #[.int .i64 o1] W fun e w' => e = .returned (.string (strL (numL (intN o1)))) ∧ Below W.heap.size W w') := fun W => refInt_any o1 hI W
          have H2 : Hid (∀ W, Calls Tryz.prog 51 #[.int .u64 (o2 : Int)] W fun e w' => e = .returned (.string (strL (numL o2))) ∧ Below W.heap.size W w') := fun W => refNum_any o2 hV W
          have hs0 : (S1 ++ (nr.2.take j).flatMap ownB).length ≤ 500 := by
            have e2 := flat_len ownB 20 (nr.2.take j) fun x hx => by
              have hx' := List.mem_of_mem_take hx
              obtain ⟨q, hq, eq⟩ := List.getElem_of_mem hx'
              have hq8 : q < 8 := by rw [hol.out] at hq; exact hq
              have hxq : nr.2[q]? = some x := by rw [List.getElem?_eq_getElem hq, eq]
              have hv := hnf.out.own q hq8
              rw [List.getD_eq_getElem?_getD, hxq] at hv
              exact ownB_len (hno.out q x hxq) hv
            have e3 : (nr.2.take j).length ≤ 8 := by rw [List.length_take]; omega
            rw [List.length_append]
            omega
          have l1 := numL_len10 _ (intN_lt hI)
          have l2 := numL_len10 _ hV
          have HS : Hid (S1 ++ (nr.2.take (j + 1)).flatMap ownB = ((S1 ++ (nr.2.take j).flatMap ownB) ++ numL (intN o1)) ++ numL o2) := by
            show _ = _
            rw [List.take_add_one, ho]
            simp [ownB]
          have hKO : KO N (1 + j * 2) o1 o2 wr.drew := ⟨d0, d1⟩
          have HBt := hB
          clear ho hB
          generalize S1 ++ (nr.2.take j).flatMap ownB = s0 at HS hs0 ⊢
          have HFS : Hid (strL (S1 ++ (nr.2.take (j + 1)).flatMap ownB) = strL s0 ++ strL (numL (intN o1)) ++ strL (numL o2)) := by
            show strL _ = _
            rw [HS.out, strL_two, strL_two]
          rw [← strL_len] at hs0 l1 l2
          generalize strL s0 = A0 at *
          generalize strL (numL (intN o1)) = A1 at *
          generalize strL (numL o2) = A2 at *
          have z1 : ¬ 9223372036854775807 < A0.size + A1.size := by omega
          have z2 : ¬ 9223372036854775807 < A0.size + A1.size + A2.size := by omega
          have z2' : ¬ 9223372036854775807 < (A0 ++ A1).size + A2.size := by rw [ByteArray.size_append]; omega
          clear l1 l2 hs0 hI hV
          go_upto_region 11 with fail
          go_region_held3 (fun W => W.cell? ⟨N, 1 + j * 2, none⟩ = some (.int .i64 o1) ∧ W.cell? ⟨N, 1 + j * 2 + 1, none⟩ = some (.int .u64 (o2 : Int)))
            (first
              | exact hKO
              | exact K5
              | exact K6)
            (first
              | (go_at_call 52; refine (H1.out _).mono ?_; rintro e w5 ⟨rfl, b5⟩; have K5 := hKO.below b5)
              | (go_at_call 51; refine (H2.out _).mono ?_; rintro e w6 ⟨rfl, b6⟩; have K6 := K5.below b6))
          have HBE : Hid (Bt N ds (.slice ua nr.1.length uc) nr w w6) := ((HBt.out.below (W' := wr.drew) (Below.drew (Below.refl _ _))).below b5).below b6
          go_wp2
          go_roundw
          case rel => exact ⟨j + 1, by go_num, by omega, by rw [HFS.out], HBE⟩
          case measure => simp [intOf]; omega
        · obtain rfl : j = 8 := by omega
          have j1 : ¬ ((8 : Nat) : Int) < 8 := by decide
          have ht2 : nr.2.take 8 = nr.2 := List.take_of_length_le (by rw [hol.out]; exact Nat.le_refl _)
          rw [ht2]
          go_wp2
          go_ret
          rw [HFIN.out]
          exact ⟨rfl, hB.out.low⟩
end Go.Proofs.YthmnjebmnocoiaaGreat
