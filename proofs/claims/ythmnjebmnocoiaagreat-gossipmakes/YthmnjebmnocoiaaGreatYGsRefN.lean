/- The document's Norm (53). -/
import Derived.Deep.Cut
import Derived.Test.YthmnjebmnocoiaaGreatYGsRefP
import Derived.Test.YthmnjebmnocoiaaGreatYA9
import Derived.Test.YthmnjebmnocoiaaGreatYGsPlan
namespace Go.Proofs.YthmnjebmnocoiaaGreat
open Go.RowKit
attribute [local go_sem ↓] rule28

structure Rn (N : Nat) (cs : List Value) (w : World) (v : Value) (ms : List Mb) (os : List Ow) (W : World) : Prop where
  par : Holds W N cs 28
  res : Holds W (N + 1) (ringC (.slice none 0 0) ([], noOs)) 28
  out : Holds W (N + 2) (ringC v (ms, os)) 28
  row : W.ownsRow (N + 3) 53 3 v ms.length (cellsP ms)
  below : Below N w W
theorem Rn.size {N : Nat} {cs : List Value} {w : World} {v : Value} {ms : List Mb} {os : List Ow} {W : World} (h : Rn N cs w v ms os W) : N + 3 ≤ W.heap.size := by
  have := h.out.lt
  omega
theorem rn_row {w w' : World} {m : Nat} {e : TypeId} {size : Nat} {v : Value} {n : Nat} {xs : List Value} (h : w.ownsRow m e size v n xs) (hs : ∀ i : Nat, m ≤ i → i < w.heap.size → w'.heap[i]? = w.heap[i]?) : w'.ownsRow m e size v n xs := by
  refine ⟨h.1, ?_⟩
  rcases h.2 with h | ⟨g, cap, cur, e1, hb, hg, r⟩
  · exact .inl h
  · exact .inr ⟨g, cap, cur, e1, hb, (hs g hb (Array.getElem?_eq_some_iff.1 hg).1).trans hg, r⟩
theorem Rn.upd {N : Nat} {cs : List Value} {w : World} {v : Value} {ms : List Mb} {os : List Ow} {W W' : World} (h : Rn N cs w v ms os W) (hu : Below W.heap.size W W') : Rn N cs w v ms os W' :=
  ⟨h.par.below hu h.par.lt, h.res.below hu h.res.lt, h.out.below hu h.out.lt, rn_row h.row fun i _ hi => hu.block i hi, h.below.trans (hu.mono (by have := h.size; omega))⟩
theorem ownV_set0 (x : Int) : ∀ (os : List Ow) (i : Nat) (o : Ow), os[i]? = some o → (ownV os).set (i * 2) (.int .i64 x) = ownV (os.set i (x, o.2))
  | [], i, o, h => by simp at h
  | q :: l, 0, o, h => by
    simp at h
    subst h
    simp [ownV, owV]
  | q :: l, i + 1, o, h => by
    have ih := ownV_set0 x l i o (by simpa using h)
    have e : ∀ l' : List Ow, ownV (q :: l') = .int .i64 q.1 :: .int .u64 (q.2 : Int) :: ownV l' := fun l' => by simp [ownV, owV]
    rw [e, List.set_cons_succ, e, show (i + 1) * 2 = i * 2 + 1 + 1 by omega, List.set_cons_succ, List.set_cons_succ, ih]
theorem ring_set0 (u : Value) (m : List Mb) (os : List Ow) (i : Nat) (o : Ow) (x : Int) (h : os[i]? = some o) : (ringC u (m, os)).set (1 + i * 2) (.int .i64 x) = ringC u (m, os.set i (x, o.2)) := by
  unfold ringC
  rw [Nat.add_comm 1 (i * 2), List.set_cons_succ, ownV_set0 x os i o h]
set_option maxRecDepth 100000 in
set_option maxHeartbeats 8000000 in
theorem refNorm_any (v0 : Value) (r : Rg) (w : World) (h : RingAt w.heap.size w v0 r) :
    Calls Tryz.prog 9 #[ringV v0 r] w fun e w' => ∃ u, e = .returned (ringV u (normL r)) ∧ RingAt w'.heap.size w' u (normL r) ∧ Fresh w.heap.size u ∧ Below w.heap.size w w' := by
  obtain ⟨i35, F35', hz35, hs35, hb35⟩ := info_parts info35
  have F35 : Hid (Tryz.prog.info? 53 = some i35) := F35'
  clear F35'
  obtain ⟨N, hN⟩ : ∃ N, w.heap.size = N := ⟨_, rfl⟩
  have HR : Hid (RingAt N w v0 r) := hN ▸ h
  have hl17 := ringC_len h
  rw [hN]
  obtain ⟨va, vc, rfl⟩ := h.mem.len
  have hll := h.mem.le
  obtain ⟨ln, hln⟩ : ∃ ln, r.1.length = ln := ⟨_, rfl⟩
  have HLN : Hid (r.1.length = ln) := hln
  have hll' : (ln : Int) ≤ 9223372036854775807 := by unfold maxLen at hll; omega
  show Calls Tryz.prog 9 #[.agg (ringC (.slice va r.1.length vc) r).toArray] w _
  have hcs0 : (ringC (.slice va r.1.length vc) r)[0]? = some (.slice va ln vc) := by rw [← hln]; rfl
  have HOC : Hid (∀ i o, r.2[i]? = some o → ∀ j, j < 2 → (ringC (.slice va r.1.length vc) r)[1 + i * 2 + j]? = (owV o)[j]?) := fun i o ho j hj => ring_cell _ r.1 r.2 i o ho j hj
  generalize ringC (.slice va r.1.length vc) r = cs at *
  clear h hll hln
  go_enter Tryz.func9, Tryz.ntmps9
  go_upto_region 3 with (first
    | (refine wpList_box_new 1 rfl rfl 28 _ rfl N hN _ rfl ?_; intro w1 h1)
    | (refine wpList_alloc_new 2 rfl rfl 28 rfl (N + 1) h1.size _ zero28 ?_; intro w2 h2)
    | (refine wpList_alloc_new 3 rfl rfl 28 rfl (N + 2) h2.size _ zero28 ?_; intro w3 h3))
  have HRN0 : Hid (Rn N cs w (.slice none 0 0) (risTo (bestL r.1) 0) noOs w3) :=
    ⟨(h1.holds.below h2.below (by omega)).below h3.below (by omega), h2.holds.below h3.below (by omega), h3.holds, World.ownsRow_nil _ _ _ _, (h1.below.trans (h2.below.mono (by omega))).trans (h3.below.mono (by omega))⟩
  clear h1 h2 h3
  go_loopw [4] (fun c wr => ∃ (k : Nat) (v : Value), c = .int .i64 ((k : Int) + 1) ∧ k ≤ 7 ∧ Hid (Rn N cs w v (risTo (bestL r.1) k) noOs wr)) (fun c _ => 8 - (intOf c).toNat)
  case atStart => exact ⟨0, _, rfl, Nat.zero_le _, HRN0⟩
  case round =>
    clear HRN0
    obtain ⟨k, v, rfl, hk, hR⟩ := hrel
    by_cases hk7 : k < 7
    · have k1 : (k : Int) + 1 ≤ 7 := by omega
      obtain ⟨M, hM⟩ : ∃ M, wr.heap.size = M := ⟨_, rfl⟩
      have hMN : N + 3 ≤ M := by rw [← hM]; exact hR.out.size
      go_upto_region 7 with (refine wpList_alloc_new 5 rfl rfl 53 rfl M hM _ zero35 ?_; intro w4 h4)
      have H0 : Hid (Holds w4 M (mbV (bstL ((k : Int) + 1) (r.1.take 0))) 53 ∧ Upd M w4 w4) := ⟨h4.holds, Upd.refl _ _⟩
      have HB4 : Hid (Below M wr w4) := h4.below
      have HZ4 : Hid (w4.heap.size = M + 1) := h4.size
      have HR4 : Hid (Rn N cs w v (risTo (bestL r.1) k) noOs w4) := hR.out.upd (by rw [hM]; exact HB4.out)
      have HBM : Hid (∀ W, Upd M w4 W → Rn N cs w v (risTo (bestL r.1) k) noOs W) := fun W hU => hR.out.upd (by
        rw [hM]
        exact HB4.out.trans ⟨hU.os, hU.tape, hU.output, hU.size, fun j hj => hU.block j (by rw [HZ4.out]; omega) (by omega)⟩)
      clear h4
      go_loopw [6] (fun c wx => ∃ i : Nat, c = .int .i64 (i : Int) ∧ i ≤ ln ∧ Hid (Holds wx M (mbV (bstL ((k : Int) + 1) (r.1.take i))) 53 ∧ Upd M w4 wx)) (fun c _ => ln - (intOf c).toNat)
      case atStart => exact ⟨0, rfl, Nat.zero_le _, H0.out⟩
      case round =>
        obtain ⟨i, rfl, hi, hI⟩ := hrel
        have hBN : Below N w wr := HR4.out.below.trans ⟨hI.out.2.os, hI.out.2.tape, hI.out.2.output, hI.out.2.size, fun j hj => hI.out.2.block j (by rw [HZ4.out]; omega) (by omega)⟩
        have c0 : wr.cell? ⟨N, 0, none⟩ = some (.slice va ln vc) := (HR4.out.par.upd hI.out.2 (by omega)).at 0 _ hcs0
        by_cases hlt : i < ln
        · have i1 : (i : Int) < (ln : Int) := by omega
          have i0 : (0 : Int) ≤ (i : Int) := by omega
          obtain ⟨⟨m1, m2, m3⟩, hm⟩ : ∃ m, r.1[i]? = some m := ⟨_, List.getElem?_eq_getElem (by rw [HLN.out]; exact hlt)⟩
          obtain ⟨g, o, ea, hgB, p0, p1, p2⟩ := (HR.out.mem.below hBN).cell i _ hm
          rw [ea] at c0
          obtain ⟨⟨b1, b2, b3⟩, hb⟩ : ∃ b, bstL ((k : Int) + 1) (r.1.take i) = b := ⟨_, rfl⟩
          have hHM0 := hI.out.1
          rw [hb] at hHM0
          have q0 := hHM0.at 0 _ rfl
          have q1 := hHM0.at 1 _ rfl
          have q2 := hHM0.at 2 _ rfl
          have HST : Hid (bstL ((k : Int) + 1) (r.1.take (i + 1)) = bst ((k : Int) + 1) (b1, b2, b3) (m1, m2, m3)) := by
            show bstL _ _ = _
            rw [bstL_step _ _ i _ hm, hb]
          have HTK : Hid ((m1 = (k : Int) + 1 ∧ 1 ≤ m2 ∧ m2 ≤ 3 ∧ (b2 = 0 ∨ newM (m1, m2, m3) (b1, b2, b3) = true)) → bst ((k : Int) + 1) (b1, b2, b3) (m1, m2, m3) = (m1, m2, m3)) := fun q => if_pos q
          have HSK : Hid (¬ (m1 = (k : Int) + 1 ∧ 1 ≤ m2 ∧ m2 ≤ 3 ∧ (b2 = 0 ∨ newM (m1, m2, m3) (b1, b2, b3) = true)) → bst ((k : Int) + 1) (b1, b2, b3) (m1, m2, m3) = (b1, b2, b3)) := fun q => if_neg q
          have HKP : Hid (∀ W, Below wr.heap.size wr W → Holds W M (mbV (b1, b2, b3)) 53 ∧ Upd M w4 W) := fun W hW => ⟨hHM0.below hW hHM0.lt, hI.out.2.trans ⟨hW.os, hW.tape, hW.output, hW.size, fun j hj _ => hW.block j hj⟩⟩
          have hA : Below wr.heap.size wr (wr.alloc (.cells #[.int .i64 m1, .int .i64 m2, .int .u64 (m3 : Int)] 53)) := (Below.refl _ _).alloc (Nat.le_refl _) _
          have HHM := (HKP.out _ hA).1
          have HUU := (HKP.out _ hA).2
          have HNW : Hid (∀ W, Calls Tryz.prog 33 #[.agg #[.int .i64 m1, .int .i64 m2, .int .u64 (m3 : Int)], .agg #[.int .i64 b1, .int .i64 b2, .int .u64 (b3 : Int)]] W fun e w' => e = .returned (.bool (newM (m1, m2, m3) (b1, b2, b3))) ∧ Below W.heap.size W w') := fun W => refNewer_any (m1, m2, m3) (b1, b2, b3) W
          have hMl : M < wr.heap.size := hHM0.lt
          clear hI hm hb hHM0 hBN
          by_cases e1 : m1 = (k : Int) + 1
          · subst e1
            by_cases e2 : 1 ≤ m2
            · by_cases e3 : m2 ≤ 3
              · by_cases e4 : b2 = 0
                · subst e4
                  clear HNW HSK
                  go_wp2_with (first
                    | (refine wpList_store_all rfl 53 (.tmp 5) (.tmp 49) rfl M rfl (mbV ((k : Int) + 1, m2, m3)) rfl 53 _ HHM siz35 rfl (mbV_one _) ?_; intro w8 h8))
                  exact ⟨⟨i + 1, by go_num, by omega, by rw [HST.out, HTK.out ⟨rfl, e2, e3, .inl rfl⟩]; exact ⟨h8.holds, HUU.trans ⟨h8.os, h8.tape, h8.output, Nat.le_of_eq h8.size.symm, fun j _ hne => h8.others j hne⟩⟩⟩, by simp [intOf]; omega⟩
                · have z4 : (b2 == 0) = false := by simpa using e4
                  obtain ⟨nb, hnb⟩ : ∃ nb, newM ((k : Int) + 1, m2, m3) (b1, b2, b3) = nb := ⟨_, rfl⟩
                  have HNB : Hid (newM ((k : Int) + 1, m2, m3) (b1, b2, b3) = nb) := hnb
                  rw [hnb] at HNW
                  clear hnb
                  cases nb with
                  | true =>
                    have HTK2 : Hid (bst ((k : Int) + 1) (b1, b2, b3) ((k : Int) + 1, m2, m3) = ((k : Int) + 1, m2, m3)) := HTK.out ⟨rfl, e2, e3, .inr HNB.out⟩
                    clear HSK HTK
                    go_wp2_with (first
                      | (go_at_call 33; refine (HNW.out _).mono ?_; rintro e w7 ⟨rfl, b7⟩; clear HNW; have HH7 := HHM.below b7 HHM.lt; have hN7 := (holds_new wr [.int .i64 ((k : Int) + 1), .int .i64 m2, .int .u64 (m3 : Int)] 53).below b7 (by simp); have n0 := hN7.at 0 _ rfl; have n1 := hN7.at 1 _ rfl; have n2 := hN7.at 2 _ rfl)
                      | (refine wpList_store_all rfl 53 (.tmp 5) (.tmp 49) rfl M rfl (mbV ((k : Int) + 1, m2, m3)) rfl 53 _ HH7 siz35 rfl (mbV_one _) ?_; intro w8 h8))
                    exact ⟨⟨i + 1, by go_num, by omega, by rw [HST.out, HTK2.out]; exact ⟨h8.holds, (HUU.trans ⟨b7.os, b7.tape, b7.output, b7.size, fun j hj _ => b7.block j hj⟩).trans ⟨h8.os, h8.tape, h8.output, Nat.le_of_eq h8.size.symm, fun j _ hne => h8.others j hne⟩⟩⟩, by simp [intOf]; omega⟩
                  | false =>
                    clear HTK
                    go_wp2_with (go_at_call 33; refine (HNW.out _).mono ?_; rintro e w7 ⟨rfl, b7⟩; clear HNW)
                    exact ⟨⟨i + 1, by go_num, by omega, by rw [HST.out, HSK.out (fun q => by rcases q.2.2.2 with q | q; exact e4 q; rw [HNB.out] at q; cases q)]; exact ⟨HHM.below b7 HHM.lt, HUU.trans ⟨b7.os, b7.tape, b7.output, b7.size, fun j hj _ => b7.block j hj⟩⟩⟩, by simp [intOf]; omega⟩
              · have z3 : decide (m2 ≤ 3) = false := decide_eq_false e3
                clear HNW HTK
                go_wp2
                exact ⟨⟨i + 1, by go_num, by omega, by rw [HST.out, HSK.out (fun q => e3 q.2.2.1)]; exact ⟨HHM, HUU⟩⟩, by simp [intOf]; omega⟩
            · have z2 : decide (1 ≤ m2) = false := decide_eq_false e2
              clear HNW HTK
              go_wp2
              exact ⟨⟨i + 1, by go_num, by omega, by rw [HST.out, HSK.out (fun q => e2 q.2.1)]; exact ⟨HHM, HUU⟩⟩, by simp [intOf]; omega⟩
          · have z1 : (m1 == (k : Int) + 1) = false := by simpa using e1
            clear HNW HTK
            go_wp2
            exact ⟨⟨i + 1, by go_num, by omega, by rw [HST.out, HSK.out (fun q => e1 q.1)]; exact ⟨HHM, HUU⟩⟩, by simp [intOf]; omega⟩
        · obtain rfl : i = ln := by omega
          have i1 : ¬ (i : Int) < (i : Int) := by omega
          have hb0 : bstL ((k : Int) + 1) (r.1.take i) = bestL r.1 ((k : Int) + 1) := by
            rw [List.take_of_length_le (by rw [HLN.out]; exact Nat.le_refl _)]
            exact bstL_eq ⟨by omega, by omega⟩ r.1
          have RW := HBM.out wr hI.out.2
          have hHM := hI.out.1
          rw [hb0] at hHM
          have HSU := risTo_succ (bestL r.1) k hk7
          have hrl := risTo_len (bestL r.1) k
          obtain ⟨⟨b1, b2, b3⟩, hb⟩ : ∃ b, bestL r.1 ((k : Int) + 1) = b := ⟨_, rfl⟩
          rw [hb] at hHM HSU
          have q0 := hHM.at 0 _ rfl
          have q1 := hHM.at 1 _ rfl
          have q2 := hHM.at 2 _ rfl
          have HRW : Hid (Rn N cs w v (risTo (bestL r.1) k) noOs wr) := RW
          have HSUh : Hid (risTo (bestL r.1) (k + 1) = if b2 ≠ 0 then risTo (bestL r.1) k ++ [(b1, b2, b3)] else risTo (bestL r.1) k) := HSU
          have hzw := RW.size
          obtain ⟨oa, oc, rfl⟩ := row_slice RW.row
          have o0 : wr.cell? ⟨N + 2, 0, none⟩ = some (.slice oa (risTo (bestL r.1) k).length oc) := RW.out.at 0 _ rfl
          clear HSU hb0 hI hHM hb RW
          by_cases hz : b2 = 0
          · subst hz
            go_wp2
            go_roundw
            case rel => exact ⟨k + 1, _, by go_num, by omega, by rw [HSUh.out, if_neg (by simp)]; exact HRW.out⟩
            case measure => simp [intOf]; omega
          · have z2 : (b2 == 0) = false := by simpa using hz
            have z3 : ¬ b2 = 0 := hz
            have HOW : Hid (wr.ownsRow (N + 3) 53 3 (.slice oa (risTo (bestL r.1) k).length oc) (risTo (bestL r.1) k).length (cellsP (risTo (bestL r.1) k))) := HRW.out.row
            have HNC : Hid (∀ (j : Nat) (u : Value), [Value.int .i64 b1, .int .i64 b2, .int .u64 (b3 : Int)][j]? = some u → (wr.alloc (.cells #[.int .i64 b1, .int .i64 b2, .int .u64 (b3 : Int)] 53)).cell? (Addr.add ⟨wr.heap.size, 0, none⟩ j) = some u) := fun j u hu => World.news_of_block (heap_alloc_new wr _) j u hu
            have HLO : Hid (∀ w3 : World, (wr.alloc (.cells #[.int .i64 b1, .int .i64 b2, .int .u64 (b3 : Int)] 53)).grownBy w3 (Value.slice oa (risTo (bestL r.1) k).length oc).ownBlock → Below (N + 3) wr w3) := fun w3 gr => ((Below.refl _ wr).alloc (by omega) _).trans ⟨gr.os, gr.tape, gr.output, gr.size, fun j hj => gr.block j (by simp; omega) (fun q => by have := (HOW.out.lt j q.symm).1; omega)⟩
            obtain ⟨rl, hrl2⟩ : ∃ rl, (risTo (bestL r.1) k).length = rl := ⟨_, rfl⟩
            have HRL : Hid ((risTo (bestL r.1) k).length = rl) := hrl2
            rw [hrl2] at HOW HLO o0 hrl
            clear hrl2
            go_wp2_with (first
              | (at_builtin; refine wpList_append_src rfl (.tmp 54) (.tmp 56) 22 rfl (N + 3) 53 i35 _ 3 24 Tryz.underlying22 F35.out hz35 hs35 hb35 (by rfl) (by omega) _ _ _ (HOW.out.alloc _) rfl [.int .i64 b1, .int .i64 b2, .int .u64 (b3 : Int)] _ 1 1 rfl (by rfl) (fun _ => ⟨_, rfl, fun j u hu => HNC.out j u hu⟩) (fun u hu => by simp at hu; rcases hu with rfl | rfl | rfl <;> rfl) (by unfold maxLen; omega) (by omega) (by simp; omega) ?_; intro v3 w3 own3 gr3 _; have hlo := HLO.out w3 gr3; have d0 := (HRW.out.out.below hlo (by omega)).at 0 _ rfl; have f0 := (HRW.out.out.below hlo (by omega)).frozen 0; obtain ⟨qa, qc, rfl⟩ := row_slice own3)
              | go_in)
            go_roundw
            case rel =>
              refine ⟨k + 1, .slice qa (rl + 1) qc, by go_num, by omega, ?_⟩
              rw [HSUh.out, if_pos z3]
              have hout := (HRW.out.out.below hlo (by omega)).set 0 (.slice qa (rl + 1) qc)
              refine ⟨(HRW.out.par.below hlo (by omega)).setOther _ _ _ (by omega), (HRW.out.res.below hlo (by omega)).setOther _ _ _ (by omega), hout, ?_, ?_⟩
              · rw [List.length_append, HRL.out, cellsP_append]
                exact rn_row own3 fun j hj _ => heap_setCell_other w3 ⟨N + 2, 0, none⟩ j _ (by show j ≠ N + 2; omega)
              · have hu := (Upd.refl (N + 2) w3).setCell 0 (.slice qa (rl + 1) qc)
                have hs3 := hlo.size
                exact (HRW.out.below.trans (hlo.mono (by omega))).trans ⟨hu.os, hu.tape, hu.output, hu.size, fun j hj => hu.block j (by omega) (by omega)⟩
            case measure => simp [intOf]; omega
    · obtain rfl : k = 7 := by omega
      have k1 : ¬ ((7 : Nat) : Int) + 1 ≤ 7 := by decide
      have HR0 : Hid (Rn N cs w v (risL (bestL r.1)) (ownTo r.2 0) wr) := by
        rw [ownTo_zero]
        exact hR.out
      clear hR
      go_upto_region 15 with fail
      go_loopw [8] (fun c wx => ∃ i : Nat, c = .int .i64 (i : Int) ∧ i ≤ 8 ∧ Hid (Rn N cs w v (risL (bestL r.1)) (ownTo r.2 i) wx)) (fun c _ => 8 - (intOf c).toNat)
      case atStart => exact ⟨0, rfl, Nat.zero_le _, HR0⟩
      case round =>
        clear HR0
        obtain ⟨i, rfl, hi, hI⟩ := hrel
        by_cases hlt : i < 8
        · have i1 : (i : Int) < 8 := by omega
          have i0 : (0 : Int) ≤ (i : Int) := by omega
          obtain ⟨⟨o1, o2⟩, ho⟩ : ∃ o, r.2[i]? = some o := ⟨_, List.getElem?_eq_getElem (by rw [HR.out.own]; exact hlt)⟩
          have c0 : wr.cell? ⟨N, 1 + i * 2, none⟩ = some (.int .i64 o1) := hI.out.par.at _ _ (HOC.out i _ ho 0 (by omega))
          have c1 : wr.cell? ⟨N, 1 + i * 2 + 1, none⟩ = some (.int .u64 (o2 : Int)) := hI.out.par.at _ _ (HOC.out i _ ho 1 (by omega))
          have hgd : r.2.getD i noO = (o1, o2) := by rw [List.getD_eq_getElem?_getD, ho]; rfl
          have HSU := ownTo_succ r.2 i
          rw [hgd] at HSU
          have hol := ownTo_len r.2 i
          have HRI : Hid (Rn N cs w v (risL (bestL r.1)) (ownTo r.2 i) wr) := hI.out
          have hOut := hI.out.out
          have hzw := hI.out.size
          have hset : Hid (overV (ringC v (risL (bestL r.1), ownTo r.2 i)) (1 + i * 2) (owV (o1, o2)) = ringC v (risL (bestL r.1), (ownTo r.2 i).set i (o1, o2))) := ring_set v _ _ i (o1, o2) (by rw [hol]; exact hlt)
          have hrl : (ringC v (risL (bestL r.1), ownTo r.2 i)).length = 17 := by show (v :: ownV _).length = 17; rw [List.length_cons, ownV_len, hol]
          have HNX : Hid (∀ os' W, Holds W (N + 2) (ringC v (risL (bestL r.1), os')) 28 → Outs (fun b => b = N + 2) wr W → Rn N cs w v (risL (bestL r.1)) os' W) := fun os' W hH hU => ⟨HRI.out.par.outs hU (by omega), HRI.out.res.outs hU (by omega), hH, rn_row HRI.out.row fun j hj hjl => hU.block j hjl (by omega), HRI.out.below.trans (hU.below (by omega) (by omega))⟩
          have HSUh : Hid (ownTo r.2 (i + 1) = (ownTo r.2 i).set i (okO (o1, o2))) := HSU
          have hset0 : Hid ((ringC v (risL (bestL r.1), (ownTo r.2 i).set i (o1, o2))).set (1 + i * 2) (.int .i64 0) = ringC v (risL (bestL r.1), (ownTo r.2 i).set i (0, o2))) := by
            have := ring_set0 v (risL (bestL r.1)) ((ownTo r.2 i).set i (o1, o2)) i (o1, o2) 0 (by rw [List.getElem?_set_self (by rw [hol]; exact hlt)])
            rw [List.set_set] at this
            exact this
          clear HSU hgd ho hI
          by_cases hbad : o1 < 0 ∨ 7 < o1
          · have hok : okO (o1, o2) = (0, o2) := by
              unfold okO
              rw [if_neg]
              intro q
              have := (isN_iff o1).1 q
              omega
            rcases hbad with hb | hb
            · go_wp2_with (refine wpList_store_part rfl 25 (.tmp 69) (.tmp 67) rfl (N + 2) (1 + i * 2) rfl (owV (o1, o2)) rfl 28 _ hOut siz25 (by rw [hrl]; simp [owV]; omega) (owV_one _) ?_; intro w5 h5; have c0' : w5.cell? ⟨N, 1 + i * 2, none⟩ = some (.int .i64 o1) := (World.cell?_of_block (w := wr) (h5.others N (by omega))).trans c0; have hH5 := h5.holds; rw [hset.out] at hH5; have d0 := hH5.at (1 + i * 2) (.int .i64 o1) (ring_cell v _ _ i (o1, o2) (by rw [List.getElem?_set_self (by rw [hol]; exact hlt)]) 0 (by omega)); have f0 := hH5.frozen (1 + i * 2))
              have hH6 := hH5.set (1 + i * 2) (.int .i64 0)
              rw [hset0.out] at hH6
              have U6 : Outs (fun b => b = N + 2) wr (w5.setCell ⟨N + 2, 1 + i * 2, none⟩ (.int .i64 0)) := (show Outs (fun b => b = N + 2) wr w5 from Outs.ofTurned h5 rfl).trans (show Outs (fun b => b = N + 2) w5 _ from Outs.ofUpd ((Upd.refl (N + 2) w5).setCell (1 + i * 2) _) rfl)
              exact ⟨⟨i + 1, by go_num, by omega, by rw [HSUh.out, hok]; exact HNX.out _ _ hH6 U6⟩, by simp [intOf]; omega⟩
            · have hb1 : ¬ o1 < 0 := by omega
              have hb1' : decide (o1 < 0) = false := decide_eq_false hb1
              go_wp2_with (refine wpList_store_part rfl 25 (.tmp 69) (.tmp 67) rfl (N + 2) (1 + i * 2) rfl (owV (o1, o2)) rfl 28 _ hOut siz25 (by rw [hrl]; simp [owV]; omega) (owV_one _) ?_; intro w5 h5; have c0' : w5.cell? ⟨N, 1 + i * 2, none⟩ = some (.int .i64 o1) := (World.cell?_of_block (w := wr) (h5.others N (by omega))).trans c0; have hH5 := h5.holds; rw [hset.out] at hH5; have d0 := hH5.at (1 + i * 2) (.int .i64 o1) (ring_cell v _ _ i (o1, o2) (by rw [List.getElem?_set_self (by rw [hol]; exact hlt)]) 0 (by omega)); have f0 := hH5.frozen (1 + i * 2))
              have hH6 := hH5.set (1 + i * 2) (.int .i64 0)
              rw [hset0.out] at hH6
              have U6 : Outs (fun b => b = N + 2) wr (w5.setCell ⟨N + 2, 1 + i * 2, none⟩ (.int .i64 0)) := (show Outs (fun b => b = N + 2) wr w5 from Outs.ofTurned h5 rfl).trans (show Outs (fun b => b = N + 2) w5 _ from Outs.ofUpd ((Upd.refl (N + 2) w5).setCell (1 + i * 2) _) rfl)
              exact ⟨⟨i + 1, by go_num, by omega, by rw [HSUh.out, hok]; exact HNX.out _ _ hH6 U6⟩, by simp [intOf]; omega⟩
          · have hok : okO (o1, o2) = (o1, o2) := okO_id ⟨by show 0 ≤ o1; omega, by show o1 ≤ 7; omega⟩
            have hb1 : ¬ o1 < 0 := by omega
            have hb1' : decide (o1 < 0) = false := decide_eq_false hb1
            have hb2 : ¬ 7 < o1 := by omega
            go_wp2_with (refine wpList_store_part rfl 25 (.tmp 69) (.tmp 67) rfl (N + 2) (1 + i * 2) rfl (owV (o1, o2)) rfl 28 _ hOut siz25 (by rw [hrl]; simp [owV]; omega) (owV_one _) ?_; intro w5 h5; have c0' : w5.cell? ⟨N, 1 + i * 2, none⟩ = some (.int .i64 o1) := (World.cell?_of_block (w := wr) (h5.others N (by omega))).trans c0)
            have hH5 := h5.holds
            rw [hset.out] at hH5
            exact ⟨⟨i + 1, by go_num, by omega, by rw [HSUh.out, hok]; exact HNX.out _ _ hH5 (Outs.ofTurned h5 rfl)⟩, by simp [intOf]; omega⟩
        · obtain rfl : i = 8 := by omega
          have i1 : ¬ ((8 : Nat) : Int) < 8 := by decide
          have hH8 := hI.out.out
          have hzw := hI.out.size
          have hres := hI.out.res
          have hol : (ownTo r.2 8).length = 8 := ownTo_len _ _
          have hvo : v.oneCell' = true := by
            obtain ⟨qa, qc, e⟩ := row_slice hI.out.row
            rw [e]; rfl
          have hrl : (ringC v (risL (bestL r.1), ownTo r.2 8)).length = 17 := by show (v :: ownV _).length = 17; rw [List.length_cons, ownV_len, hol]
          have hone : ∀ u ∈ ringC v (risL (bestL r.1), ownTo r.2 8), u.oneCell' = true := fun u hu => by
            rcases List.mem_cons.1 hu with rfl | hu
            · exact hvo
            · exact ownV_one _ u hu
          have HI : Hid (Rn N cs w v (risL (bestL r.1)) (ownTo r.2 8) wr) := hI.out
          have HQ : Hid ((risL (bestL r.1), ownTo r.2 8) = normL r) := refnorm_eq r
          obtain ⟨es, hes0⟩ : ∃ es, ringC v (risL (bestL r.1), ownTo r.2 8) = es := ⟨_, rfl⟩
          have hes : Hid (ringC v (risL (bestL r.1), ownTo r.2 8) = es) := hes0
          rw [hes0] at hH8 hrl hone
          have rr := hH8.row28 hrl
          clear hes0 hI
          go_wp2_with (refine wpList_store_all rfl 28 (.tmp 2) (.tmp 88) rfl (N + 1) rfl es rfl 28 _ hres (siz28.trans (congrArg some hrl.symm)) hrl.symm hone ?_; intro w12 h12)
          refine bodyPost_ret (results_cell_row (p := 2) (by kernel_rfl) _ w12 (N + 1) 28 es.toArray (0, 0) _ rfl h12.holds Tryz.underlying28 rfl (siz28.trans (congrArg some (show es.length = 17 from hrl).symm))) rfl ?_
          rw [← hes.out, HQ.out]
          have U12 : Outs (fun b => b = N + 1) wr w12 := Outs.ofTurned h12 rfl
          have hrow : w12.ownsRow (N + 3) 53 3 v (risL (bestL r.1)).length (cellsP (risL (bestL r.1))) := rn_row HI.out.row fun j hj hjl => U12.block j hjl (by omega)
          have hm := mems_of_row hrow
          have e1 : (normL r).1 = risL (bestL r.1) := by rw [← HQ.out]
          refine ⟨v, rfl, ⟨by rw [e1]; exact hm, mergeO_len _⟩, fun g hg => by have := own3_base hrow g hg; omega, HI.out.below.trans (U12.below (by omega) (by omega))⟩
end Go.Proofs.YthmnjebmnocoiaaGreat
