/- The law WheelPlays (3). -/
import Derived.Test.YtklkonmdllgeeaaPlM
import Derived.Test.YtklkonmdllgeeaaWhOpen
import Derived.Deep.Cut
import Derived.Deep.RegionHeld3
import Derived.Deep.QuietTactic
namespace Go.Proofs.Ytklkonmdllgeeaa
open Go.RowKit

/-- What is held at the head of the law's loop. -/
structure Ph (B : Nat) (w : World) (cls : List Cl) (i : Nat) (W : World) : Prop where
  ex : ∃ l t, WheelAt B W B l t ∧ RefAt B W (B + 1) l ∧ Below B w W ∧ t ≤ ((cls.take i).map fun c => c.names.length).sum
theorem ph_start (W : World) (cls : List Cl) : Ph W.heap.size W cls 0 ((W.alloc (.cells #[.map none, .int .u64 0] 50)).alloc (.cells #[.slice none 0 0] 29)) := by
  have h0 := wheel_new W.heap.size W (Nat.le_refl _)
  have hb : Below W.heap.size W (W.alloc (.cells #[.map none, .int .u64 0] 50)) := (Below.refl _ _).alloc (Nat.le_refl _) _
  refine ⟨[], 0, h0.same ((Below.refl _ _).alloc (Nat.le_refl _) _), ⟨by omega, _, ?_, World.ownsRow_nil _ _ _ _⟩, hb.alloc (by simp) _, Nat.zero_le _⟩
  have := holds_new (W.alloc (.cells #[.map none, .int .u64 0] 50)) [.slice none 0 0] 29
  rw [World.size_alloc] at this
  exact this
theorem Cls.cell {w : World} {a : Option Addr} {n c : Nat} {l : List Cl} (h : Cls w (.slice a n c) l) {i : Nat} {x : Cl} (hi : l[i]? = some x) : I63 x.kind ∧ I63 x.at_ ∧ (∀ k ∈ x.names, k.length ≤ maxLen) ∧ ∃ g o na q, a = some ⟨g, o, none⟩ ∧ (∀ W, Below w.heap.size w W → W.cell? ⟨g, o + i * 3, none⟩ = some (.int .i64 x.kind) ∧ W.cell? ⟨g, o + i * 3 + 1, none⟩ = some (.int .i64 x.at_) ∧ W.cell? ⟨g, o + i * 3 + 2, none⟩ = some (.slice na x.names.length q)) ∧ ∀ b W, w.heap.size ≤ b → Below w.heap.size w W → Strs b W (.slice na x.names.length q) x.names := by
  obtain ⟨a', cap, e, h0 | ⟨g, o, e2, hg, hc⟩⟩ := h
  · have := (List.getElem?_eq_some_iff.1 hi).1; omega
  · obtain ⟨rfl, _, _⟩ := Value.slice.inj e
    obtain ⟨h1, h2, h3, c0, c1, na, q, c2, hs⟩ := hc i x hi
    refine ⟨h1, h2, h3, g, o, na, q, e2, fun W hW => ⟨(World.cell?_of_block (w := w) (hW.block g hg)).trans c0, (World.cell?_of_block (w := w) (hW.block g hg)).trans c1, (World.cell?_of_block (w := w) (hW.block g hg)).trans c2⟩, fun b W hb hW => ⟨na, q, rfl, ?_⟩⟩
    rcases hs with h0 | ⟨g', o', cs, t, fr, e', hg', hh, hcs⟩
    · exact .inl h0
    · exact .inr ⟨g', o', cs, t, fr, e', by omega, (hW.block g' hg').trans hh, fun i k hk => (World.cell?_of_block (w := w) (hW.block g' hg')).trans (hcs i k hk)⟩
theorem row_holds {w : World} {m n c : Nat} {a : Option Addr} {ks : List (List UInt8)} (h : w.ownsRow m 9 1 (.slice a n c) n (namesV ks)) : n = 0 ∨ ∃ g cs, a = some ⟨g, 0, none⟩ ∧ m ≤ g ∧ n ≤ cs.length ∧ Holds w g cs 9 := by
  rcases h.2 with ⟨_, h0⟩ | ⟨g, cap, cur, e, hm, hg, hc, _, hs, _⟩
  · exact .inl h0
  · obtain ⟨rfl, _, _⟩ := Value.slice.inj e
    exact .inr ⟨g, cur.toList, rfl, hm, by rw [Array.length_toList]; omega, by unfold Holds; rw [Array.toArray_toList]; exact hg⟩
theorem due_small {l : Ts} {t : Nat} (hf : Fine l t) (now : Int) : (dueT now l).length ≤ t := by
  have := due_left now l
  have := hf.len
  omega
set_option maxHeartbeats 40000000 in
set_option maxRecDepth 100000 in
theorem wheelPlays_walk (hsort : SortOk) (cls : List Cl) (hsum : (cls.map fun c => c.names.length).sum ≤ 1048576) (hcl : cls.length ≤ maxLen) (va : Value) (w : World) (hC : Cls w va cls) :
    Calls Try.prog 3 #[va] w fun e w' => e = .returned (.bool true) ∧ Below w.heap.size w w' := by
  obtain ⟨a, ca, rfl, hC'⟩ := id hC
  clear hC'
  have HC : Hid (Cls w (.slice a cls.length ca) cls) := hC
  obtain ⟨lc, hlc⟩ : ∃ lc, cls.length = lc := ⟨_, rfl⟩
  have HLC : Hid (cls.length = lc) := hlc
  rw [hlc] at hcl ⊢
  obtain ⟨M, hM⟩ : ∃ M, w.heap.size = M := ⟨_, rfl⟩
  have HM : Hid (w.heap.size = M) := hM
  rw [hM]
  have hcl' : (lc : Int) ≤ 9223372036854775807 := by unfold maxLen at hcl; omega
  have haw : Hid (Calls Try.prog 6 #[] w fun e w' => e = .returned (.bool true) ∧ Hid (Below w.heap.size w w')) := awake_any hsort w
  have hnew : Hid (∀ W, Calls Try.prog 7 #[] W fun e w' => e = .returned (.pointer (some ⟨W.heap.size, 0, none⟩)) ∧ w' = W.alloc (.cells #[.map none, .int .u64 0] 50)) := fun W => new_any W
  have HSUM : Hid ((cls.map fun c => c.names.length).sum ≤ 1048576) := hsum
  have HSo : Hid SortOk := hsort
  clear hC hlc hcl hM hsum hsort
  go_enter Try.func3, Try.ntmps3
  go_upto_region 7 with (first
    | (go_at_call 6; refine haw.out.mono ?_; rintro e w1 ⟨rfl, hb1⟩; clear haw; have HP0 : Hid (Ph w1.heap.size w1 cls 0 ((w1.alloc (.cells #[.map none, .int .u64 0] 50)).alloc (.cells #[.slice none 0 0] 29))) := ph_start w1 cls)
    | (go_at_call 7; refine (hnew.out _).mono ?_; rintro e w2 ⟨rfl, e2⟩; rw [e2]; clear e2 hnew))
  obtain ⟨B, hB⟩ : ∃ B, w1.heap.size = B := ⟨_, rfl⟩
  rw [hB] at HP0 ⊢
  generalize (w1.alloc (.cells #[.map none, .int .u64 0] 50)).alloc (.cells #[.slice none 0 0] 29) = w5 at HP0 ⊢
  have hMB : M ≤ B := by have := hb1.out.size; rw [HM.out, hB] at this; exact this
  have HB1 : Hid (Below M w w1) := by have := hb1.out; rw [HM.out] at this; exact this
  clear hB hb1
  go_loopw [6] (fun c wr => ∃ i : Nat, c = .int .i64 (i : Int) ∧ i ≤ 100 ∧ Hid (Ph B w1 cls i wr)) (fun c _ => 100 - (intOf c).toNat)
  case atStart => exact ⟨0, rfl, by omega, HP0⟩
  case round =>
    clear HP0
    obtain ⟨i, rfl, hi, hR⟩ := hrel
    by_cases hgo : i < lc ∧ i < 100
    · obtain ⟨hg1, hg2⟩ := hgo
      obtain ⟨l, t, hWl, hRf, hLow, hti⟩ := hR.out.ex
      obtain ⟨⟨kind, at_, names⟩, ho⟩ : ∃ o, cls[i]? = some o := ⟨_, List.getElem?_eq_getElem (by rw [HLC.out]; exact hg1)⟩
      obtain ⟨hI1, hI2, hnl, ga, oa, na, ncp, rfl, hcA, hcS⟩ := HC.out.cell ho
      rw [HM.out] at hcA hcS
      have hbW : Below M w wr := HB1.out.trans (hLow.mono hMB)
      obtain ⟨c0, c1, c2⟩ := hcA wr hbW
      have g1 : (i : Int) < (lc : Int) := by omega
      have g2 : (i : Int) < 100 := by omega
      obtain ⟨n, hn⟩ : ∃ n, names.length = n := ⟨_, rfl⟩
      have HN : Hid (names.length = n) := hn
      have hsm : ((cls.take (i + 1)).map fun c => c.names.length).sum ≤ 1048576 := by
        have h1 := HSUM.out
        rw [← List.take_append_drop (i + 1) cls, List.map_append, List.sum_append] at h1
        omega
      have hst : ((cls.take (i + 1)).map fun c => c.names.length).sum = ((cls.take i).map fun c => c.names.length).sum + n := by
        rw [List.take_add_one, ho, List.map_append, List.sum_append, ← hn]
        simp
      have htn : t + n ≤ 1048576 := by omega
      have HTN : Hid (t + n ≤ ((cls.take (i + 1)).map fun c => c.names.length).sum) := by show _ ≤ _; omega
      have HNL : Hid (∀ k ∈ names, k.length ≤ maxLen) := hnl
      have HS : Hid (∀ W, Below B w1 W → Strs B W (.slice na n ncp) names) := fun W hW => by
        have := hcS B W hMB (HB1.out.trans (hW.mono hMB))
        rw [← hn]
        exact this
      dsimp only at c0 c1 c2
      rw [hn] at c2
      have HPL : Hid (Pl B wr.heap.size w1 [.int .i64 kind, .int .i64 at_, .slice na n ncp] l t l (wr.alloc (.cells #[.int .i64 kind, .int .i64 at_, .slice na n ncp] 32))) := by
        have hb : Below wr.heap.size wr (wr.alloc (.cells #[.int .i64 kind, .int .i64 at_, .slice na n ncp] 32)) := (Below.refl _ _).alloc (Nat.le_refl _) _
        exact ⟨hWl.same hb, hRf.below hb, holds_new wr [.int .i64 kind, .int .i64 at_, .slice na n ncp] 32, hLow.trans (hb.mono (by have := hWl.lt; omega))⟩
      have HFI : Hid (Fine l t) := hWl.fine
      clear hR hWl hRf hLow hti ho hI1 hI2 hnl hcA hcS hbW hn hsm hst
      go_upto_region 10 with fail
      clear c0 c1 c2
      obtain ⟨go, hgo⟩ : ∃ go, wr.heap.size = go := ⟨_, rfl⟩
      rw [hgo] at HPL ⊢
      generalize wr.alloc (.cells #[.int .i64 kind, .int .i64 at_, .slice na n ncp] 32) = w6 at HPL ⊢
      clear hgo
      have o0 := HPL.out.ops.at 0 _ rfl
      have o1 := HPL.out.ops.at 1 _ rfl
      have o2 := HPL.out.ops.at 2 _ rfl
      obtain ⟨k0, hk0⟩ : ∃ k0, kind.tmod 4 = k0 := ⟨_, rfl⟩
      by_cases hv2 : k0 = 2
      · subst hv2
        as_aux_lemma =>
          go_upto_region 20 with fail
          clear o0 o1 o2
          go_loopw [8, 9] (fun nv kc wx => ∃ k : Nat, kc = .int .i64 (k : Int) ∧ k ≤ n ∧ nv = .int .i64 ((l.length : Int) - ((dropAll (names.take k) l).length : Int)) ∧ Hid (Pl B go w1 [.int .i64 kind, .int .i64 at_, .slice na n ncp] l t (dropAll (names.take k) l) wx)) (fun _ kc _ => n - (intOf kc).toNat)
          case atStart => exact ⟨0, rfl, Nat.zero_le _, by simp [dropAll], HPL⟩
          case round =>
            clear HPL
            obtain ⟨k, rfl, hk, rfl, hP⟩ := hrel
            have o2 := hP.out.ops.at 2 _ rfl
            have hll : l.length ≤ 1048576 := by have := HFI.out.len; omega
            have hdl := (dropAll_sub (names.take k) l).length_le
            by_cases hkn : k < n
            · have k1 : (k : Int) < (n : Int) := by omega
              have k2 : (0 : Int) ≤ (k : Int) := by omega
              obtain ⟨nk, hnk⟩ : ∃ nk, names[k]? = some nk := ⟨_, List.getElem?_eq_getElem (by rw [HN.out]; exact hkn)⟩
              obtain ⟨gs, os, rfl, hc⟩ := (HS.out wr hP.out.low).cell k nk hnk
              have hdr : dropAll (names.take (k + 1)) l = dropT nk (dropAll (names.take k) l) := by
                rw [List.take_add_one, hnk]
                exact dropAll_snoc _ _ _
              have hd2 := (dropT_sub nk (dropAll (names.take k) l)).length_le
              have HRC : Hid (Calls Try.prog 8 #[.pointer (some ⟨B + 1, 0, none⟩), .string (strL nk)] wr fun e w' => e = .returned (.int .i64 (((dropAll (names.take k) l).length : Int) - ((dropT nk (dropAll (names.take k) l)).length : Int))) ∧ Hid (Pl B go w1 [.int .i64 kind, .int .i64 at_, .slice (some ⟨gs, os, none⟩) n ncp] l t (dropAll (names.take (k + 1)) l) w')) := by
                rw [hdr]
                exact pl_rcancel hP.out (by omega) nk
              have HDL : Hid ((dropAll (names.take (k + 1)) l).length = (dropT nk (dropAll (names.take k) l)).length) := by show List.length _ = _; rw [hdr]
              clear hnk hP hdr
              generalize (dropT nk (dropAll (names.take k) l)).length = A2 at *
              generalize (dropAll (names.take k) l).length = A1 at *
              obtain ⟨La, hLa⟩ : ∃ La, l.length = La := ⟨_, rfl⟩
              have HLA : Hid (l.length = La) := hLa
              rw [hLa] at hll hdl ⊢
              clear hLa
              go_wp2_with (go_at_call 8; refine HRC.out.mono ?_; rintro e w8 ⟨rfl, P8⟩; clear HRC)
              go_roundw
              case rel => exact ⟨k + 1, by go_num, by omega, by rw [HDL.out]; congr 1; omega, P8⟩
              case measure => simp [intOf]; omega
            · have hke : n = k := by omega
              subst hke
              have k1 : ¬ (n : Int) < (n : Int) := by omega
              have ht : names.take n = names := List.take_of_length_le (by rw [HN.out]; exact Nat.le_refl _)
              rw [ht] at hP hdl ⊢
              have HCA : Hid (Calls Try.prog 9 #[.pointer (some ⟨B, 0, none⟩), .slice na n ncp] wr fun e w' => e = .returned (.int .i64 ((l.length : Int) - ((dropAll names l).length : Int))) ∧ Hid (Pl B go w1 [.int .i64 kind, .int .i64 at_, .slice na n ncp] (dropAll names l) t (dropAll names l) w')) := pl_cancel hP.out _ names HNL.out (by rw [HN.out]; unfold maxLen; omega) (by omega) (HS.out wr hP.out.low)
              clear hP ht
              obtain ⟨zc, hzc⟩ : ∃ zc, (l.length : Int) - ((dropAll names l).length : Int) = zc := ⟨_, rfl⟩
              rw [hzc] at HCA ⊢
              clear hzc hdl
              go_upto_region 35 with (go_at_call 9; refine HCA.out.mono ?_; rintro e w7 ⟨rfl, HPT⟩; clear HCA)
              clear o2
              have HTT : Hid (t ≤ ((cls.take (i + 1)).map fun c => c.names.length).sum) := Nat.le_trans (Nat.le_add_right t n) HTN.out
              generalize dropAll names l = LT at HPT
              have hT : t ≤ 1048576 := by omega
              generalize t = TT at HPT hT HTT
              have hln : LT.length ≤ 1048576 := by have := HPT.out.whl.fine.len; omega
              have HNX : Hid (∀ W, Hid (Pl B go w1 [.int .i64 kind, .int .i64 at_, .slice na n ncp] LT TT LT W) → Calls Try.prog 15 #[.pointer (some ⟨B, 0, none⟩)] W fun e w' => e = .returned (.tuple #[.int .i64 (minT LT), .bool (someB LT)]) ∧ Hid (Pl B go w1 [.int .i64 kind, .int .i64 at_, .slice na n ncp] LT TT LT w')) := fun W h => pl_next h.out
              have HRX : Hid (∀ W, Hid (Pl B go w1 [.int .i64 kind, .int .i64 at_, .slice na n ncp] LT TT LT W) → Calls Try.prog 16 #[.pointer (some ⟨B + 1, 0, none⟩)] W fun e w' => e = .returned (.tuple #[.int .i64 (minT LT), .bool (someB LT)]) ∧ Hid (Pl B go w1 [.int .i64 kind, .int .i64 at_, .slice na n ncp] LT TT LT w')) := fun W h => pl_rnext h.out (by omega)
              have HLE : Hid (∀ W, Hid (Pl B go w1 [.int .i64 kind, .int .i64 at_, .slice na n ncp] LT TT LT W) → Calls Try.prog 17 #[.pointer (some ⟨B, 0, none⟩)] W fun e w' => e = .returned (.int .i64 (LT.length : Int)) ∧ w' = W) := fun W h => pl_len h.out
              have HAT : Hid (∀ W k, k ∈ names → Hid (Pl B go w1 [.int .i64 kind, .int .i64 at_, .slice na n ncp] LT TT LT W) → Calls Try.prog 18 #[.pointer (some ⟨B, 0, none⟩), .string (strL k)] W fun e w' => e = .returned (.tuple #[.int .i64 (atI (findT LT k)), .bool (findT LT k).isSome]) ∧ Hid (Pl B go w1 [.int .i64 kind, .int .i64 at_, .slice na n ncp] LT TT LT w')) := fun W k hk h => pl_at h.out k (HNL.out k hk)
              have HRA : Hid (∀ W k, Hid (Pl B go w1 [.int .i64 kind, .int .i64 at_, .slice na n ncp] LT TT LT W) → Calls Try.prog 19 #[.pointer (some ⟨B + 1, 0, none⟩), .string (strL k)] W fun e w' => e = .returned (.tuple #[.int .i64 (atI (findT LT k)), .bool (findT LT k).isSome]) ∧ w' = W) := fun W k h => pl_rat h.out (by omega) k
              obtain ⟨mn, hmn⟩ : ∃ mn, minT LT = mn := ⟨_, rfl⟩
              obtain ⟨sb, hsb⟩ : ∃ sb, someB LT = sb := ⟨_, rfl⟩
              rw [hmn, hsb] at HNX HRX
              clear hmn hsb
              go_upto_region 37 with (first
                | (go_at_call 15; refine (HNX.out _ HPT).mono ?_; rintro e w8 ⟨rfl, P8⟩; clear HNX HPT)
                | (go_at_call 16; refine (HRX.out _ P8).mono ?_; rintro e w9 ⟨rfl, P9⟩; clear HRX P8))
              have HRS : Hid (∃ a c, w9.cell? ⟨B + 1, 0, none⟩ = some (.slice a LT.length c)) := P9.out.refSlice
              obtain ⟨ra, rc, rs⟩ := HRS.out
              have HLQ : Hid (∀ q, Calls Try.prog 17 #[.pointer (some ⟨B, 0, none⟩)] (w9.drewN q) fun e w' => e = .returned (.int .i64 (LT.length : Int)) ∧ w' = w9.drewN q) := fun q => HLE.out _ (P9.out.below (belowD _ _ _))
              have HPQ : Hid (∀ q, Pl B go w1 [.int .i64 kind, .int .i64 at_, .slice na n ncp] LT TT LT (w9.drewN q)) := fun q => P9.out.below (belowD _ _ _)
              obtain ⟨ln, hlnn⟩ : ∃ ln, LT.length = ln := ⟨_, rfl⟩
              rw [hlnn] at rs HLQ hln
              clear hlnn HRS HLE P9
              cases sb
              all_goals
                go_quiet ((go_at_call 17; exact Calls.quiet_of_same (HLQ.out _)))
                go_upto_region 40 with fail
                go_loopw [18] (fun kc wx => ∃ k : Nat, kc = .int .i64 (k : Int) ∧ k ≤ n ∧ Hid (Pl B go w1 [.int .i64 kind, .int .i64 at_, .slice na n ncp] LT TT LT wx)) (fun kc _ => n - (intOf kc).toNat)
                case atStart => exact ⟨0, rfl, Nat.zero_le _, HPQ.out _⟩
                case round =>
                  clear HLQ HPQ rs
                  obtain ⟨k, rfl, hk, hP⟩ := hrel
                  have o2 := hP.out.ops.at 2 _ rfl
                  by_cases hkn : k < n
                  · have k1 : (k : Int) < (n : Int) := by omega
                    have k2 : (0 : Int) ≤ (k : Int) := by omega
                    obtain ⟨nk, hnk⟩ : ∃ nk, names[k]? = some nk := ⟨_, List.getElem?_eq_getElem (by rw [HN.out]; exact hkn)⟩
                    have HNK : Hid (names[k]? = some nk) := hnk
                    obtain ⟨gs, os, ena, hc⟩ := (HS.out wr hP.out.low).cell k nk hnk
                    have HENA : Hid (na = some ⟨gs, os, none⟩) := ena
                    have HA1 := HAT.out wr nk (List.mem_of_getElem? hnk) hP
                    have HR1 : Hid (∀ W, Hid (Pl B go w1 [.int .i64 kind, .int .i64 at_, .slice na n ncp] LT TT LT W) → Calls Try.prog 19 #[.pointer (some ⟨B + 1, 0, none⟩), .string (strL nk)] W fun e w' => e = .returned (.tuple #[.int .i64 (atI (findT LT nk)), .bool (findT LT nk).isSome]) ∧ w' = W) := fun W h => HRA.out W nk h
                    have HA2 : Hid (Calls Try.prog 18 #[.pointer (some ⟨B, 0, none⟩), .string (strL nk)] wr fun e w' => e = .returned (.tuple #[.int .i64 (atI (findT LT nk)), .bool (findT LT nk).isSome]) ∧ Hid (Pl B go w1 [.int .i64 kind, .int .i64 at_, .slice na n ncp] LT TT LT w')) := HA1
                    obtain ⟨fa, hfa⟩ : ∃ fa, atI (findT LT nk) = fa := ⟨_, rfl⟩
                    obtain ⟨fb, hfb⟩ : ∃ fb, (findT LT nk).isSome = fb := ⟨_, rfl⟩
                    rw [hfa, hfb] at HR1 HA2
                    rw [ena] at o2
                    clear hfa hfb hnk HA1 ena hP
                    cases fb
                    all_goals
                      go_wp2_with (first
                        | (go_at_call 18; refine HA2.out.mono ?_; rintro e w10 ⟨rfl, P10⟩; clear HA2; have p2 := P10.out.ops.at 2 _ rfl; rw [HENA.out] at p2; have p3 : w10.cell? ⟨gs, os + k, none⟩ = some (.string (strL nk)) := by obtain ⟨gs', os', e', h'⟩ := (HS.out w10 P10.out.low).cell k nk HNK.out; rw [HENA.out] at e'; cases e'; exact h')
                        | (go_at_call 19; refine (HR1.out _ P10).mono ?_; rintro e w11 ⟨rfl, e11⟩; rw [e11]; clear e11 HR1))
                      go_roundw
                      case rel => exact ⟨k + 1, by go_num, by omega, P10⟩
                      case measure => simp [intOf]; omega
                  · have k1 : ¬ (k : Int) < (n : Int) := by omega
                    go_wp2
                    go_roundw
                    case rel => exact ⟨i + 1, by go_num, by omega, ⟨LT, TT, hP.out.whl, hP.out.ref, hP.out.low, HTT.out⟩⟩
                    case measure => simp [intOf]; omega
      · skip
        by_cases hvm2 : k0 = -2
        · subst hvm2
          as_aux_lemma =>
            go_upto_region 20 with fail
            clear o0 o1 o2
            go_loopw [8, 9] (fun nv kc wx => ∃ k : Nat, kc = .int .i64 (k : Int) ∧ k ≤ n ∧ nv = .int .i64 ((l.length : Int) - ((dropAll (names.take k) l).length : Int)) ∧ Hid (Pl B go w1 [.int .i64 kind, .int .i64 at_, .slice na n ncp] l t (dropAll (names.take k) l) wx)) (fun _ kc _ => n - (intOf kc).toNat)
            case atStart => exact ⟨0, rfl, Nat.zero_le _, by simp [dropAll], HPL⟩
            case round =>
              clear HPL
              obtain ⟨k, rfl, hk, rfl, hP⟩ := hrel
              have o2 := hP.out.ops.at 2 _ rfl
              have hll : l.length ≤ 1048576 := by have := HFI.out.len; omega
              have hdl := (dropAll_sub (names.take k) l).length_le
              by_cases hkn : k < n
              · have k1 : (k : Int) < (n : Int) := by omega
                have k2 : (0 : Int) ≤ (k : Int) := by omega
                obtain ⟨nk, hnk⟩ : ∃ nk, names[k]? = some nk := ⟨_, List.getElem?_eq_getElem (by rw [HN.out]; exact hkn)⟩
                obtain ⟨gs, os, rfl, hc⟩ := (HS.out wr hP.out.low).cell k nk hnk
                have hdr : dropAll (names.take (k + 1)) l = dropT nk (dropAll (names.take k) l) := by
                  rw [List.take_add_one, hnk]
                  exact dropAll_snoc _ _ _
                have hd2 := (dropT_sub nk (dropAll (names.take k) l)).length_le
                have HRC : Hid (Calls Try.prog 8 #[.pointer (some ⟨B + 1, 0, none⟩), .string (strL nk)] wr fun e w' => e = .returned (.int .i64 (((dropAll (names.take k) l).length : Int) - ((dropT nk (dropAll (names.take k) l)).length : Int))) ∧ Hid (Pl B go w1 [.int .i64 kind, .int .i64 at_, .slice (some ⟨gs, os, none⟩) n ncp] l t (dropAll (names.take (k + 1)) l) w')) := by
                  rw [hdr]
                  exact pl_rcancel hP.out (by omega) nk
                have HDL : Hid ((dropAll (names.take (k + 1)) l).length = (dropT nk (dropAll (names.take k) l)).length) := by show List.length _ = _; rw [hdr]
                clear hnk hP hdr
                generalize (dropT nk (dropAll (names.take k) l)).length = A2 at *
                generalize (dropAll (names.take k) l).length = A1 at *
                obtain ⟨La, hLa⟩ : ∃ La, l.length = La := ⟨_, rfl⟩
                have HLA : Hid (l.length = La) := hLa
                rw [hLa] at hll hdl ⊢
                clear hLa
                go_wp2_with (go_at_call 8; refine HRC.out.mono ?_; rintro e w8 ⟨rfl, P8⟩; clear HRC)
                go_roundw
                case rel => exact ⟨k + 1, by go_num, by omega, by rw [HDL.out]; congr 1; omega, P8⟩
                case measure => simp [intOf]; omega
              · have hke : n = k := by omega
                subst hke
                have k1 : ¬ (n : Int) < (n : Int) := by omega
                have ht : names.take n = names := List.take_of_length_le (by rw [HN.out]; exact Nat.le_refl _)
                rw [ht] at hP hdl ⊢
                have HCA : Hid (Calls Try.prog 9 #[.pointer (some ⟨B, 0, none⟩), .slice na n ncp] wr fun e w' => e = .returned (.int .i64 ((l.length : Int) - ((dropAll names l).length : Int))) ∧ Hid (Pl B go w1 [.int .i64 kind, .int .i64 at_, .slice na n ncp] (dropAll names l) t (dropAll names l) w')) := pl_cancel hP.out _ names HNL.out (by rw [HN.out]; unfold maxLen; omega) (by omega) (HS.out wr hP.out.low)
                clear hP ht
                obtain ⟨zc, hzc⟩ : ∃ zc, (l.length : Int) - ((dropAll names l).length : Int) = zc := ⟨_, rfl⟩
                rw [hzc] at HCA ⊢
                clear hzc hdl
                go_upto_region 35 with (go_at_call 9; refine HCA.out.mono ?_; rintro e w7 ⟨rfl, HPT⟩; clear HCA)
                clear o2
                have HTT : Hid (t ≤ ((cls.take (i + 1)).map fun c => c.names.length).sum) := Nat.le_trans (Nat.le_add_right t n) HTN.out
                generalize dropAll names l = LT at HPT
                have hT : t ≤ 1048576 := by omega
                generalize t = TT at HPT hT HTT
                have hln : LT.length ≤ 1048576 := by have := HPT.out.whl.fine.len; omega
                have HNX : Hid (∀ W, Hid (Pl B go w1 [.int .i64 kind, .int .i64 at_, .slice na n ncp] LT TT LT W) → Calls Try.prog 15 #[.pointer (some ⟨B, 0, none⟩)] W fun e w' => e = .returned (.tuple #[.int .i64 (minT LT), .bool (someB LT)]) ∧ Hid (Pl B go w1 [.int .i64 kind, .int .i64 at_, .slice na n ncp] LT TT LT w')) := fun W h => pl_next h.out
                have HRX : Hid (∀ W, Hid (Pl B go w1 [.int .i64 kind, .int .i64 at_, .slice na n ncp] LT TT LT W) → Calls Try.prog 16 #[.pointer (some ⟨B + 1, 0, none⟩)] W fun e w' => e = .returned (.tuple #[.int .i64 (minT LT), .bool (someB LT)]) ∧ Hid (Pl B go w1 [.int .i64 kind, .int .i64 at_, .slice na n ncp] LT TT LT w')) := fun W h => pl_rnext h.out (by omega)
                have HLE : Hid (∀ W, Hid (Pl B go w1 [.int .i64 kind, .int .i64 at_, .slice na n ncp] LT TT LT W) → Calls Try.prog 17 #[.pointer (some ⟨B, 0, none⟩)] W fun e w' => e = .returned (.int .i64 (LT.length : Int)) ∧ w' = W) := fun W h => pl_len h.out
                have HAT : Hid (∀ W k, k ∈ names → Hid (Pl B go w1 [.int .i64 kind, .int .i64 at_, .slice na n ncp] LT TT LT W) → Calls Try.prog 18 #[.pointer (some ⟨B, 0, none⟩), .string (strL k)] W fun e w' => e = .returned (.tuple #[.int .i64 (atI (findT LT k)), .bool (findT LT k).isSome]) ∧ Hid (Pl B go w1 [.int .i64 kind, .int .i64 at_, .slice na n ncp] LT TT LT w')) := fun W k hk h => pl_at h.out k (HNL.out k hk)
                have HRA : Hid (∀ W k, Hid (Pl B go w1 [.int .i64 kind, .int .i64 at_, .slice na n ncp] LT TT LT W) → Calls Try.prog 19 #[.pointer (some ⟨B + 1, 0, none⟩), .string (strL k)] W fun e w' => e = .returned (.tuple #[.int .i64 (atI (findT LT k)), .bool (findT LT k).isSome]) ∧ w' = W) := fun W k h => pl_rat h.out (by omega) k
                obtain ⟨mn, hmn⟩ : ∃ mn, minT LT = mn := ⟨_, rfl⟩
                obtain ⟨sb, hsb⟩ : ∃ sb, someB LT = sb := ⟨_, rfl⟩
                rw [hmn, hsb] at HNX HRX
                clear hmn hsb
                go_upto_region 37 with (first
                  | (go_at_call 15; refine (HNX.out _ HPT).mono ?_; rintro e w8 ⟨rfl, P8⟩; clear HNX HPT)
                  | (go_at_call 16; refine (HRX.out _ P8).mono ?_; rintro e w9 ⟨rfl, P9⟩; clear HRX P8))
                have HRS : Hid (∃ a c, w9.cell? ⟨B + 1, 0, none⟩ = some (.slice a LT.length c)) := P9.out.refSlice
                obtain ⟨ra, rc, rs⟩ := HRS.out
                have HLQ : Hid (∀ q, Calls Try.prog 17 #[.pointer (some ⟨B, 0, none⟩)] (w9.drewN q) fun e w' => e = .returned (.int .i64 (LT.length : Int)) ∧ w' = w9.drewN q) := fun q => HLE.out _ (P9.out.below (belowD _ _ _))
                have HPQ : Hid (∀ q, Pl B go w1 [.int .i64 kind, .int .i64 at_, .slice na n ncp] LT TT LT (w9.drewN q)) := fun q => P9.out.below (belowD _ _ _)
                obtain ⟨ln, hlnn⟩ : ∃ ln, LT.length = ln := ⟨_, rfl⟩
                rw [hlnn] at rs HLQ hln
                clear hlnn HRS HLE P9
                cases sb
                all_goals
                  go_quiet ((go_at_call 17; exact Calls.quiet_of_same (HLQ.out _)))
                  go_upto_region 40 with fail
                  go_loopw [18] (fun kc wx => ∃ k : Nat, kc = .int .i64 (k : Int) ∧ k ≤ n ∧ Hid (Pl B go w1 [.int .i64 kind, .int .i64 at_, .slice na n ncp] LT TT LT wx)) (fun kc _ => n - (intOf kc).toNat)
                  case atStart => exact ⟨0, rfl, Nat.zero_le _, HPQ.out _⟩
                  case round =>
                    clear HLQ HPQ rs
                    obtain ⟨k, rfl, hk, hP⟩ := hrel
                    have o2 := hP.out.ops.at 2 _ rfl
                    by_cases hkn : k < n
                    · have k1 : (k : Int) < (n : Int) := by omega
                      have k2 : (0 : Int) ≤ (k : Int) := by omega
                      obtain ⟨nk, hnk⟩ : ∃ nk, names[k]? = some nk := ⟨_, List.getElem?_eq_getElem (by rw [HN.out]; exact hkn)⟩
                      have HNK : Hid (names[k]? = some nk) := hnk
                      obtain ⟨gs, os, ena, hc⟩ := (HS.out wr hP.out.low).cell k nk hnk
                      have HENA : Hid (na = some ⟨gs, os, none⟩) := ena
                      have HA1 := HAT.out wr nk (List.mem_of_getElem? hnk) hP
                      have HR1 : Hid (∀ W, Hid (Pl B go w1 [.int .i64 kind, .int .i64 at_, .slice na n ncp] LT TT LT W) → Calls Try.prog 19 #[.pointer (some ⟨B + 1, 0, none⟩), .string (strL nk)] W fun e w' => e = .returned (.tuple #[.int .i64 (atI (findT LT nk)), .bool (findT LT nk).isSome]) ∧ w' = W) := fun W h => HRA.out W nk h
                      have HA2 : Hid (Calls Try.prog 18 #[.pointer (some ⟨B, 0, none⟩), .string (strL nk)] wr fun e w' => e = .returned (.tuple #[.int .i64 (atI (findT LT nk)), .bool (findT LT nk).isSome]) ∧ Hid (Pl B go w1 [.int .i64 kind, .int .i64 at_, .slice na n ncp] LT TT LT w')) := HA1
                      obtain ⟨fa, hfa⟩ : ∃ fa, atI (findT LT nk) = fa := ⟨_, rfl⟩
                      obtain ⟨fb, hfb⟩ : ∃ fb, (findT LT nk).isSome = fb := ⟨_, rfl⟩
                      rw [hfa, hfb] at HR1 HA2
                      rw [ena] at o2
                      clear hfa hfb hnk HA1 ena hP
                      cases fb
                      all_goals
                        go_wp2_with (first
                          | (go_at_call 18; refine HA2.out.mono ?_; rintro e w10 ⟨rfl, P10⟩; clear HA2; have p2 := P10.out.ops.at 2 _ rfl; rw [HENA.out] at p2; have p3 : w10.cell? ⟨gs, os + k, none⟩ = some (.string (strL nk)) := by obtain ⟨gs', os', e', h'⟩ := (HS.out w10 P10.out.low).cell k nk HNK.out; rw [HENA.out] at e'; cases e'; exact h')
                          | (go_at_call 19; refine (HR1.out _ P10).mono ?_; rintro e w11 ⟨rfl, e11⟩; rw [e11]; clear e11 HR1))
                        go_roundw
                        case rel => exact ⟨k + 1, by go_num, by omega, P10⟩
                        case measure => simp [intOf]; omega
                    · have k1 : ¬ (k : Int) < (n : Int) := by omega
                      go_wp2
                      go_roundw
                      case rel => exact ⟨i + 1, by go_num, by omega, ⟨LT, TT, hP.out.whl, hP.out.ref, hP.out.low, HTT.out⟩⟩
                      case measure => simp [intOf]; omega
        · skip
          by_cases hv3 : k0 = 3
          · subst hv3
            as_aux_lemma =>
              obtain ⟨nd, hnd⟩ : ∃ nd, (dueT at_ l).length = nd := ⟨_, rfl⟩
              obtain ⟨ks, hks⟩ : ∃ ks, (dueT at_ l).map (·.1) = ks := ⟨_, rfl⟩
              have HKS : Hid ((dueT at_ l).map (·.1) = ks) := hks
              have HKN : Hid (ks.length = nd) := by show ks.length = nd; rw [← hks, List.length_map, hnd]
              have hnd5 : nd ≤ 1048576 := by have := due_small HFI.out at_; omega
              have HDU : Hid (Calls Try.prog 10 #[.pointer (some ⟨B, 0, none⟩), .int .i64 at_] w6 fun e w' => ∃ a c, e = .returned (.slice a nd c) ∧ Hid (Pl B go w1 [.int .i64 kind, .int .i64 at_, .slice na n ncp] (leftT at_ l) t l w' ∧ w'.ownsRow (B + 2) 9 1 (.slice a nd c) nd (namesV ks))) := (pl_due HSo.out HPL.out at_ (by omega) nd hnd).mono fun e w' ⟨a, c, e1, e2⟩ => ⟨a, c, e1, e2.out.1, by have := e2.out.2; rw [HKS.out, HKN.out] at this; exact this⟩
              have HRD : Hid (∀ W a0 c0, Hid (Pl B go w1 [.int .i64 kind, .int .i64 at_, .slice na n ncp] (leftT at_ l) t l W ∧ W.ownsRow (B + 2) 9 1 (.slice a0 nd c0) nd (namesV ks)) → Calls Try.prog 12 #[.pointer (some ⟨B + 1, 0, none⟩), .int .i64 at_] W fun e w' => ∃ a c, e = .returned (.slice a nd c) ∧ Hid (Pl B go w1 [.int .i64 kind, .int .i64 at_, .slice na n ncp] (leftT at_ l) t (leftT at_ l) w' ∧ w'.ownsRow (B + 2) 9 1 (.slice a0 nd c0) nd (namesV ks) ∧ Strs B w' (.slice a0 nd c0) ks ∧ Strs B w' (.slice a nd c) ks)) := fun W a0 c0 h => pl_rdue h.out.1 at_ t HFI.out (by omega) nd ks HKS.out HKN.out a0 c0 h.out.2
              have HSA : Hid (∀ W a0 c0 a c, Hid (Pl B go w1 [.int .i64 kind, .int .i64 at_, .slice na n ncp] (leftT at_ l) t (leftT at_ l) W ∧ W.ownsRow (B + 2) 9 1 (.slice a0 nd c0) nd (namesV ks) ∧ Strs B W (.slice a0 nd c0) ks ∧ Strs B W (.slice a nd c) ks) → Calls Try.prog 11 #[.slice a0 nd c0, .slice a nd c] W fun e w' => e = .returned (.bool true) ∧ Hid (Pl B go w1 [.int .i64 kind, .int .i64 at_, .slice na n ncp] (leftT at_ l) t (leftT at_ l) w' ∧ (nd = 0 ∨ ∃ gd cs, a0 = some ⟨gd, 0, none⟩ ∧ B + 2 ≤ gd ∧ nd ≤ cs.length ∧ Holds w' gd cs 9))) := fun W a0 c0 a c h => (same_any B B _ _ ks (by rw [HKN.out]; omega) W h.out.2.2.1 h.out.2.2.2).mono fun e w' ⟨e1, e2⟩ => ⟨e1, h.out.1.below e2.out, by
                rcases row_holds h.out.2.1 with h0 | ⟨gd, cs, q1, q2, q3, q4⟩
                · exact .inl h0
                · exact .inr ⟨gd, cs, q1, q2, q3, q4.below e2.out q4.lt⟩⟩
              clear hnd hks
              go_upto_region 30 with (first
                | (go_at_call 10; refine HDU.out.mono ?_; rintro e w7 ⟨da, dc, rfl, P7⟩; clear HDU; have p1 := P7.out.1.ops.at 1 _ rfl)
                | (go_at_call 12; refine (HRD.out _ _ _ P7).mono ?_; rintro e w8 ⟨ea, ec, rfl, P8⟩; clear HRD)
                | (go_at_call 11; refine (HSA.out _ _ _ _ _ P8).mono ?_; rintro e w9 ⟨rfl, P9⟩; clear HSA))
              clear o0 o1 o2 p1 P7 P8 HPL
              go_loopw [12] (fun kc wx => ∃ k : Nat, kc = .int .i64 (k : Int) ∧ k ≤ nd ∧ Hid (Pl B go w1 [.int .i64 kind, .int .i64 at_, .slice na n ncp] (leftT at_ l) t (leftT at_ l) wx ∧ (nd = 0 ∨ ∃ gd cs, da = some ⟨gd, 0, none⟩ ∧ B + 2 ≤ gd ∧ nd ≤ cs.length ∧ Holds wx gd cs 9))) (fun kc _ => nd - (intOf kc).toNat)
              case atStart => exact ⟨0, rfl, Nat.zero_le _, P9⟩
              case round =>
                clear P9
                obtain ⟨k, rfl, hk, hP⟩ := hrel
                by_cases hkn : k < nd
                · have k1 : (k : Int) < (nd : Int) := by omega
                  have k2 : (0 : Int) ≤ (k : Int) := by omega
                  obtain ⟨gd, cs, rfl, hgd, hcs, hH⟩ : ∃ gd cs, da = some ⟨gd, 0, none⟩ ∧ B + 2 ≤ gd ∧ nd ≤ cs.length ∧ Holds wr gd cs 9 := by
                    rcases hP.out.2 with h0 | h
                    · omega
                    · exact h
                  have x0 := hH.at k cs[k] (List.getElem?_eq_getElem (by omega))
                  have x1 := hH.frozen k
                  have HE : Hid (Pl B go w1 [.int .i64 kind, .int .i64 at_, .slice na n ncp] (leftT at_ l) t (leftT at_ l) (wr.setCell ⟨gd, k, none⟩ (.string ⟨#[109, 105, 110, 101]⟩)) ∧ (nd = 0 ∨ ∃ g' cs', some (⟨gd, 0, none⟩ : Addr) = some ⟨g', 0, none⟩ ∧ B + 2 ≤ g' ∧ nd ≤ cs'.length ∧ Holds (wr.setCell ⟨gd, k, none⟩ (.string ⟨#[109, 105, 110, 101]⟩)) g' cs' 9)) :=
                    ⟨hP.out.1.mine gd k _ cs hH (by omega), .inr ⟨gd, _, rfl, hgd, by rw [List.length_set]; exact hcs, hH.set k _⟩⟩
                  generalize cs[k] = cv at x0
                  clear hP hH hcs
                  go_wp2
                  go_roundw
                  case rel => exact ⟨k + 1, by go_num, by omega, HE⟩
                  case measure => simp [intOf]; omega
                · have k1 : ¬ (k : Int) < (nd : Int) := by omega
                  have HPT : Hid (Pl B go w1 [.int .i64 kind, .int .i64 at_, .slice na n ncp] (leftT at_ l) t (leftT at_ l) wr) := hP.out.1
                  clear hP
                  go_upto_region 35 with fail
                  have HTT : Hid (t ≤ ((cls.take (i + 1)).map fun c => c.names.length).sum) := Nat.le_trans (Nat.le_add_right t n) HTN.out
                  generalize leftT at_ l = LT at HPT
                  have hT : t ≤ 1048576 := by omega
                  generalize t = TT at HPT hT HTT
                  have hln : LT.length ≤ 1048576 := by have := HPT.out.whl.fine.len; omega
                  have HNX : Hid (∀ W, Hid (Pl B go w1 [.int .i64 kind, .int .i64 at_, .slice na n ncp] LT TT LT W) → Calls Try.prog 15 #[.pointer (some ⟨B, 0, none⟩)] W fun e w' => e = .returned (.tuple #[.int .i64 (minT LT), .bool (someB LT)]) ∧ Hid (Pl B go w1 [.int .i64 kind, .int .i64 at_, .slice na n ncp] LT TT LT w')) := fun W h => pl_next h.out
                  have HRX : Hid (∀ W, Hid (Pl B go w1 [.int .i64 kind, .int .i64 at_, .slice na n ncp] LT TT LT W) → Calls Try.prog 16 #[.pointer (some ⟨B + 1, 0, none⟩)] W fun e w' => e = .returned (.tuple #[.int .i64 (minT LT), .bool (someB LT)]) ∧ Hid (Pl B go w1 [.int .i64 kind, .int .i64 at_, .slice na n ncp] LT TT LT w')) := fun W h => pl_rnext h.out (by omega)
                  have HLE : Hid (∀ W, Hid (Pl B go w1 [.int .i64 kind, .int .i64 at_, .slice na n ncp] LT TT LT W) → Calls Try.prog 17 #[.pointer (some ⟨B, 0, none⟩)] W fun e w' => e = .returned (.int .i64 (LT.length : Int)) ∧ w' = W) := fun W h => pl_len h.out
                  have HAT : Hid (∀ W k, k ∈ names → Hid (Pl B go w1 [.int .i64 kind, .int .i64 at_, .slice na n ncp] LT TT LT W) → Calls Try.prog 18 #[.pointer (some ⟨B, 0, none⟩), .string (strL k)] W fun e w' => e = .returned (.tuple #[.int .i64 (atI (findT LT k)), .bool (findT LT k).isSome]) ∧ Hid (Pl B go w1 [.int .i64 kind, .int .i64 at_, .slice na n ncp] LT TT LT w')) := fun W k hk h => pl_at h.out k (HNL.out k hk)
                  have HRA : Hid (∀ W k, Hid (Pl B go w1 [.int .i64 kind, .int .i64 at_, .slice na n ncp] LT TT LT W) → Calls Try.prog 19 #[.pointer (some ⟨B + 1, 0, none⟩), .string (strL k)] W fun e w' => e = .returned (.tuple #[.int .i64 (atI (findT LT k)), .bool (findT LT k).isSome]) ∧ w' = W) := fun W k h => pl_rat h.out (by omega) k
                  obtain ⟨mn, hmn⟩ : ∃ mn, minT LT = mn := ⟨_, rfl⟩
                  obtain ⟨sb, hsb⟩ : ∃ sb, someB LT = sb := ⟨_, rfl⟩
                  rw [hmn, hsb] at HNX HRX
                  clear hmn hsb
                  go_upto_region 37 with (first
                    | (go_at_call 15; refine (HNX.out _ HPT).mono ?_; rintro e w8 ⟨rfl, P8⟩; clear HNX HPT)
                    | (go_at_call 16; refine (HRX.out _ P8).mono ?_; rintro e w9 ⟨rfl, P9⟩; clear HRX P8))
                  have HRS : Hid (∃ a c, w9.cell? ⟨B + 1, 0, none⟩ = some (.slice a LT.length c)) := P9.out.refSlice
                  obtain ⟨ra, rc, rs⟩ := HRS.out
                  have HLQ : Hid (∀ q, Calls Try.prog 17 #[.pointer (some ⟨B, 0, none⟩)] (w9.drewN q) fun e w' => e = .returned (.int .i64 (LT.length : Int)) ∧ w' = w9.drewN q) := fun q => HLE.out _ (P9.out.below (belowD _ _ _))
                  have HPQ : Hid (∀ q, Pl B go w1 [.int .i64 kind, .int .i64 at_, .slice na n ncp] LT TT LT (w9.drewN q)) := fun q => P9.out.below (belowD _ _ _)
                  obtain ⟨ln, hlnn⟩ : ∃ ln, LT.length = ln := ⟨_, rfl⟩
                  rw [hlnn] at rs HLQ hln
                  clear hlnn HRS HLE P9
                  cases sb
                  all_goals
                    go_quiet ((go_at_call 17; exact Calls.quiet_of_same (HLQ.out _)))
                    go_upto_region 40 with fail
                    go_loopw [18] (fun kc wx => ∃ k : Nat, kc = .int .i64 (k : Int) ∧ k ≤ n ∧ Hid (Pl B go w1 [.int .i64 kind, .int .i64 at_, .slice na n ncp] LT TT LT wx)) (fun kc _ => n - (intOf kc).toNat)
                    case atStart => exact ⟨0, rfl, Nat.zero_le _, HPQ.out _⟩
                    case round =>
                      clear HLQ HPQ rs
                      obtain ⟨k, rfl, hk, hP⟩ := hrel
                      have o2 := hP.out.ops.at 2 _ rfl
                      by_cases hkn : k < n
                      · have k1 : (k : Int) < (n : Int) := by omega
                        have k2 : (0 : Int) ≤ (k : Int) := by omega
                        obtain ⟨nk, hnk⟩ : ∃ nk, names[k]? = some nk := ⟨_, List.getElem?_eq_getElem (by rw [HN.out]; exact hkn)⟩
                        have HNK : Hid (names[k]? = some nk) := hnk
                        obtain ⟨gs, os, ena, hc⟩ := (HS.out wr hP.out.low).cell k nk hnk
                        have HENA : Hid (na = some ⟨gs, os, none⟩) := ena
                        have HA1 := HAT.out wr nk (List.mem_of_getElem? hnk) hP
                        have HR1 : Hid (∀ W, Hid (Pl B go w1 [.int .i64 kind, .int .i64 at_, .slice na n ncp] LT TT LT W) → Calls Try.prog 19 #[.pointer (some ⟨B + 1, 0, none⟩), .string (strL nk)] W fun e w' => e = .returned (.tuple #[.int .i64 (atI (findT LT nk)), .bool (findT LT nk).isSome]) ∧ w' = W) := fun W h => HRA.out W nk h
                        have HA2 : Hid (Calls Try.prog 18 #[.pointer (some ⟨B, 0, none⟩), .string (strL nk)] wr fun e w' => e = .returned (.tuple #[.int .i64 (atI (findT LT nk)), .bool (findT LT nk).isSome]) ∧ Hid (Pl B go w1 [.int .i64 kind, .int .i64 at_, .slice na n ncp] LT TT LT w')) := HA1
                        obtain ⟨fa, hfa⟩ : ∃ fa, atI (findT LT nk) = fa := ⟨_, rfl⟩
                        obtain ⟨fb, hfb⟩ : ∃ fb, (findT LT nk).isSome = fb := ⟨_, rfl⟩
                        rw [hfa, hfb] at HR1 HA2
                        rw [ena] at o2
                        clear hfa hfb hnk HA1 ena hP
                        cases fb
                        all_goals
                          go_wp2_with (first
                            | (go_at_call 18; refine HA2.out.mono ?_; rintro e w10 ⟨rfl, P10⟩; clear HA2; have p2 := P10.out.ops.at 2 _ rfl; rw [HENA.out] at p2; have p3 : w10.cell? ⟨gs, os + k, none⟩ = some (.string (strL nk)) := by obtain ⟨gs', os', e', h'⟩ := (HS.out w10 P10.out.low).cell k nk HNK.out; rw [HENA.out] at e'; cases e'; exact h')
                            | (go_at_call 19; refine (HR1.out _ P10).mono ?_; rintro e w11 ⟨rfl, e11⟩; rw [e11]; clear e11 HR1))
                          go_roundw
                          case rel => exact ⟨k + 1, by go_num, by omega, P10⟩
                          case measure => simp [intOf]; omega
                      · have k1 : ¬ (k : Int) < (n : Int) := by omega
                        go_wp2
                        go_roundw
                        case rel => exact ⟨i + 1, by go_num, by omega, ⟨LT, TT, hP.out.whl, hP.out.ref, hP.out.low, HTT.out⟩⟩
                        case measure => simp [intOf]; omega
          · skip
            by_cases hvm3 : k0 = -3
            · subst hvm3
              as_aux_lemma =>
                obtain ⟨nd, hnd⟩ : ∃ nd, (dueT at_ l).length = nd := ⟨_, rfl⟩
                obtain ⟨ks, hks⟩ : ∃ ks, (dueT at_ l).map (·.1) = ks := ⟨_, rfl⟩
                have HKS : Hid ((dueT at_ l).map (·.1) = ks) := hks
                have HKN : Hid (ks.length = nd) := by show ks.length = nd; rw [← hks, List.length_map, hnd]
                have hnd5 : nd ≤ 1048576 := by have := due_small HFI.out at_; omega
                have HDU : Hid (Calls Try.prog 10 #[.pointer (some ⟨B, 0, none⟩), .int .i64 at_] w6 fun e w' => ∃ a c, e = .returned (.slice a nd c) ∧ Hid (Pl B go w1 [.int .i64 kind, .int .i64 at_, .slice na n ncp] (leftT at_ l) t l w' ∧ w'.ownsRow (B + 2) 9 1 (.slice a nd c) nd (namesV ks))) := (pl_due HSo.out HPL.out at_ (by omega) nd hnd).mono fun e w' ⟨a, c, e1, e2⟩ => ⟨a, c, e1, e2.out.1, by have := e2.out.2; rw [HKS.out, HKN.out] at this; exact this⟩
                have HRD : Hid (∀ W a0 c0, Hid (Pl B go w1 [.int .i64 kind, .int .i64 at_, .slice na n ncp] (leftT at_ l) t l W ∧ W.ownsRow (B + 2) 9 1 (.slice a0 nd c0) nd (namesV ks)) → Calls Try.prog 12 #[.pointer (some ⟨B + 1, 0, none⟩), .int .i64 at_] W fun e w' => ∃ a c, e = .returned (.slice a nd c) ∧ Hid (Pl B go w1 [.int .i64 kind, .int .i64 at_, .slice na n ncp] (leftT at_ l) t (leftT at_ l) w' ∧ w'.ownsRow (B + 2) 9 1 (.slice a0 nd c0) nd (namesV ks) ∧ Strs B w' (.slice a0 nd c0) ks ∧ Strs B w' (.slice a nd c) ks)) := fun W a0 c0 h => pl_rdue h.out.1 at_ t HFI.out (by omega) nd ks HKS.out HKN.out a0 c0 h.out.2
                have HSA : Hid (∀ W a0 c0 a c, Hid (Pl B go w1 [.int .i64 kind, .int .i64 at_, .slice na n ncp] (leftT at_ l) t (leftT at_ l) W ∧ W.ownsRow (B + 2) 9 1 (.slice a0 nd c0) nd (namesV ks) ∧ Strs B W (.slice a0 nd c0) ks ∧ Strs B W (.slice a nd c) ks) → Calls Try.prog 11 #[.slice a0 nd c0, .slice a nd c] W fun e w' => e = .returned (.bool true) ∧ Hid (Pl B go w1 [.int .i64 kind, .int .i64 at_, .slice na n ncp] (leftT at_ l) t (leftT at_ l) w' ∧ (nd = 0 ∨ ∃ gd cs, a0 = some ⟨gd, 0, none⟩ ∧ B + 2 ≤ gd ∧ nd ≤ cs.length ∧ Holds w' gd cs 9))) := fun W a0 c0 a c h => (same_any B B _ _ ks (by rw [HKN.out]; omega) W h.out.2.2.1 h.out.2.2.2).mono fun e w' ⟨e1, e2⟩ => ⟨e1, h.out.1.below e2.out, by
                  rcases row_holds h.out.2.1 with h0 | ⟨gd, cs, q1, q2, q3, q4⟩
                  · exact .inl h0
                  · exact .inr ⟨gd, cs, q1, q2, q3, q4.below e2.out q4.lt⟩⟩
                clear hnd hks
                go_upto_region 30 with (first
                  | (go_at_call 10; refine HDU.out.mono ?_; rintro e w7 ⟨da, dc, rfl, P7⟩; clear HDU; have p1 := P7.out.1.ops.at 1 _ rfl)
                  | (go_at_call 12; refine (HRD.out _ _ _ P7).mono ?_; rintro e w8 ⟨ea, ec, rfl, P8⟩; clear HRD)
                  | (go_at_call 11; refine (HSA.out _ _ _ _ _ P8).mono ?_; rintro e w9 ⟨rfl, P9⟩; clear HSA))
                clear o0 o1 o2 p1 P7 P8 HPL
                go_loopw [12] (fun kc wx => ∃ k : Nat, kc = .int .i64 (k : Int) ∧ k ≤ nd ∧ Hid (Pl B go w1 [.int .i64 kind, .int .i64 at_, .slice na n ncp] (leftT at_ l) t (leftT at_ l) wx ∧ (nd = 0 ∨ ∃ gd cs, da = some ⟨gd, 0, none⟩ ∧ B + 2 ≤ gd ∧ nd ≤ cs.length ∧ Holds wx gd cs 9))) (fun kc _ => nd - (intOf kc).toNat)
                case atStart => exact ⟨0, rfl, Nat.zero_le _, P9⟩
                case round =>
                  clear P9
                  obtain ⟨k, rfl, hk, hP⟩ := hrel
                  by_cases hkn : k < nd
                  · have k1 : (k : Int) < (nd : Int) := by omega
                    have k2 : (0 : Int) ≤ (k : Int) := by omega
                    obtain ⟨gd, cs, rfl, hgd, hcs, hH⟩ : ∃ gd cs, da = some ⟨gd, 0, none⟩ ∧ B + 2 ≤ gd ∧ nd ≤ cs.length ∧ Holds wr gd cs 9 := by
                      rcases hP.out.2 with h0 | h
                      · omega
                      · exact h
                    have x0 := hH.at k cs[k] (List.getElem?_eq_getElem (by omega))
                    have x1 := hH.frozen k
                    have HE : Hid (Pl B go w1 [.int .i64 kind, .int .i64 at_, .slice na n ncp] (leftT at_ l) t (leftT at_ l) (wr.setCell ⟨gd, k, none⟩ (.string ⟨#[109, 105, 110, 101]⟩)) ∧ (nd = 0 ∨ ∃ g' cs', some (⟨gd, 0, none⟩ : Addr) = some ⟨g', 0, none⟩ ∧ B + 2 ≤ g' ∧ nd ≤ cs'.length ∧ Holds (wr.setCell ⟨gd, k, none⟩ (.string ⟨#[109, 105, 110, 101]⟩)) g' cs' 9)) :=
                      ⟨hP.out.1.mine gd k _ cs hH (by omega), .inr ⟨gd, _, rfl, hgd, by rw [List.length_set]; exact hcs, hH.set k _⟩⟩
                    generalize cs[k] = cv at x0
                    clear hP hH hcs
                    go_wp2
                    go_roundw
                    case rel => exact ⟨k + 1, by go_num, by omega, HE⟩
                    case measure => simp [intOf]; omega
                  · have k1 : ¬ (k : Int) < (nd : Int) := by omega
                    have HPT : Hid (Pl B go w1 [.int .i64 kind, .int .i64 at_, .slice na n ncp] (leftT at_ l) t (leftT at_ l) wr) := hP.out.1
                    clear hP
                    go_upto_region 35 with fail
                    have HTT : Hid (t ≤ ((cls.take (i + 1)).map fun c => c.names.length).sum) := Nat.le_trans (Nat.le_add_right t n) HTN.out
                    generalize leftT at_ l = LT at HPT
                    have hT : t ≤ 1048576 := by omega
                    generalize t = TT at HPT hT HTT
                    have hln : LT.length ≤ 1048576 := by have := HPT.out.whl.fine.len; omega
                    have HNX : Hid (∀ W, Hid (Pl B go w1 [.int .i64 kind, .int .i64 at_, .slice na n ncp] LT TT LT W) → Calls Try.prog 15 #[.pointer (some ⟨B, 0, none⟩)] W fun e w' => e = .returned (.tuple #[.int .i64 (minT LT), .bool (someB LT)]) ∧ Hid (Pl B go w1 [.int .i64 kind, .int .i64 at_, .slice na n ncp] LT TT LT w')) := fun W h => pl_next h.out
                    have HRX : Hid (∀ W, Hid (Pl B go w1 [.int .i64 kind, .int .i64 at_, .slice na n ncp] LT TT LT W) → Calls Try.prog 16 #[.pointer (some ⟨B + 1, 0, none⟩)] W fun e w' => e = .returned (.tuple #[.int .i64 (minT LT), .bool (someB LT)]) ∧ Hid (Pl B go w1 [.int .i64 kind, .int .i64 at_, .slice na n ncp] LT TT LT w')) := fun W h => pl_rnext h.out (by omega)
                    have HLE : Hid (∀ W, Hid (Pl B go w1 [.int .i64 kind, .int .i64 at_, .slice na n ncp] LT TT LT W) → Calls Try.prog 17 #[.pointer (some ⟨B, 0, none⟩)] W fun e w' => e = .returned (.int .i64 (LT.length : Int)) ∧ w' = W) := fun W h => pl_len h.out
                    have HAT : Hid (∀ W k, k ∈ names → Hid (Pl B go w1 [.int .i64 kind, .int .i64 at_, .slice na n ncp] LT TT LT W) → Calls Try.prog 18 #[.pointer (some ⟨B, 0, none⟩), .string (strL k)] W fun e w' => e = .returned (.tuple #[.int .i64 (atI (findT LT k)), .bool (findT LT k).isSome]) ∧ Hid (Pl B go w1 [.int .i64 kind, .int .i64 at_, .slice na n ncp] LT TT LT w')) := fun W k hk h => pl_at h.out k (HNL.out k hk)
                    have HRA : Hid (∀ W k, Hid (Pl B go w1 [.int .i64 kind, .int .i64 at_, .slice na n ncp] LT TT LT W) → Calls Try.prog 19 #[.pointer (some ⟨B + 1, 0, none⟩), .string (strL k)] W fun e w' => e = .returned (.tuple #[.int .i64 (atI (findT LT k)), .bool (findT LT k).isSome]) ∧ w' = W) := fun W k h => pl_rat h.out (by omega) k
                    obtain ⟨mn, hmn⟩ : ∃ mn, minT LT = mn := ⟨_, rfl⟩
                    obtain ⟨sb, hsb⟩ : ∃ sb, someB LT = sb := ⟨_, rfl⟩
                    rw [hmn, hsb] at HNX HRX
                    clear hmn hsb
                    go_upto_region 37 with (first
                      | (go_at_call 15; refine (HNX.out _ HPT).mono ?_; rintro e w8 ⟨rfl, P8⟩; clear HNX HPT)
                      | (go_at_call 16; refine (HRX.out _ P8).mono ?_; rintro e w9 ⟨rfl, P9⟩; clear HRX P8))
                    have HRS : Hid (∃ a c, w9.cell? ⟨B + 1, 0, none⟩ = some (.slice a LT.length c)) := P9.out.refSlice
                    obtain ⟨ra, rc, rs⟩ := HRS.out
                    have HLQ : Hid (∀ q, Calls Try.prog 17 #[.pointer (some ⟨B, 0, none⟩)] (w9.drewN q) fun e w' => e = .returned (.int .i64 (LT.length : Int)) ∧ w' = w9.drewN q) := fun q => HLE.out _ (P9.out.below (belowD _ _ _))
                    have HPQ : Hid (∀ q, Pl B go w1 [.int .i64 kind, .int .i64 at_, .slice na n ncp] LT TT LT (w9.drewN q)) := fun q => P9.out.below (belowD _ _ _)
                    obtain ⟨ln, hlnn⟩ : ∃ ln, LT.length = ln := ⟨_, rfl⟩
                    rw [hlnn] at rs HLQ hln
                    clear hlnn HRS HLE P9
                    cases sb
                    all_goals
                      go_quiet ((go_at_call 17; exact Calls.quiet_of_same (HLQ.out _)))
                      go_upto_region 40 with fail
                      go_loopw [18] (fun kc wx => ∃ k : Nat, kc = .int .i64 (k : Int) ∧ k ≤ n ∧ Hid (Pl B go w1 [.int .i64 kind, .int .i64 at_, .slice na n ncp] LT TT LT wx)) (fun kc _ => n - (intOf kc).toNat)
                      case atStart => exact ⟨0, rfl, Nat.zero_le _, HPQ.out _⟩
                      case round =>
                        clear HLQ HPQ rs
                        obtain ⟨k, rfl, hk, hP⟩ := hrel
                        have o2 := hP.out.ops.at 2 _ rfl
                        by_cases hkn : k < n
                        · have k1 : (k : Int) < (n : Int) := by omega
                          have k2 : (0 : Int) ≤ (k : Int) := by omega
                          obtain ⟨nk, hnk⟩ : ∃ nk, names[k]? = some nk := ⟨_, List.getElem?_eq_getElem (by rw [HN.out]; exact hkn)⟩
                          have HNK : Hid (names[k]? = some nk) := hnk
                          obtain ⟨gs, os, ena, hc⟩ := (HS.out wr hP.out.low).cell k nk hnk
                          have HENA : Hid (na = some ⟨gs, os, none⟩) := ena
                          have HA1 := HAT.out wr nk (List.mem_of_getElem? hnk) hP
                          have HR1 : Hid (∀ W, Hid (Pl B go w1 [.int .i64 kind, .int .i64 at_, .slice na n ncp] LT TT LT W) → Calls Try.prog 19 #[.pointer (some ⟨B + 1, 0, none⟩), .string (strL nk)] W fun e w' => e = .returned (.tuple #[.int .i64 (atI (findT LT nk)), .bool (findT LT nk).isSome]) ∧ w' = W) := fun W h => HRA.out W nk h
                          have HA2 : Hid (Calls Try.prog 18 #[.pointer (some ⟨B, 0, none⟩), .string (strL nk)] wr fun e w' => e = .returned (.tuple #[.int .i64 (atI (findT LT nk)), .bool (findT LT nk).isSome]) ∧ Hid (Pl B go w1 [.int .i64 kind, .int .i64 at_, .slice na n ncp] LT TT LT w')) := HA1
                          obtain ⟨fa, hfa⟩ : ∃ fa, atI (findT LT nk) = fa := ⟨_, rfl⟩
                          obtain ⟨fb, hfb⟩ : ∃ fb, (findT LT nk).isSome = fb := ⟨_, rfl⟩
                          rw [hfa, hfb] at HR1 HA2
                          rw [ena] at o2
                          clear hfa hfb hnk HA1 ena hP
                          cases fb
                          all_goals
                            go_wp2_with (first
                              | (go_at_call 18; refine HA2.out.mono ?_; rintro e w10 ⟨rfl, P10⟩; clear HA2; have p2 := P10.out.ops.at 2 _ rfl; rw [HENA.out] at p2; have p3 : w10.cell? ⟨gs, os + k, none⟩ = some (.string (strL nk)) := by obtain ⟨gs', os', e', h'⟩ := (HS.out w10 P10.out.low).cell k nk HNK.out; rw [HENA.out] at e'; cases e'; exact h')
                              | (go_at_call 19; refine (HR1.out _ P10).mono ?_; rintro e w11 ⟨rfl, e11⟩; rw [e11]; clear e11 HR1))
                            go_roundw
                            case rel => exact ⟨k + 1, by go_num, by omega, P10⟩
                            case measure => simp [intOf]; omega
                        · have k1 : ¬ (k : Int) < (n : Int) := by omega
                          go_wp2
                          go_roundw
                          case rel => exact ⟨i + 1, by go_num, by omega, ⟨LT, TT, hP.out.whl, hP.out.ref, hP.out.low, HTT.out⟩⟩
                          case measure => simp [intOf]; omega
            · skip
              as_aux_lemma =>
                have HSET : Hid (Calls Try.prog 13 #[.pointer (some ⟨B, 0, none⟩), .int .i64 at_, .slice na n ncp] w6 fun e w' => e = .returned (.tuple #[]) ∧ Hid (Pl B go w1 [.int .i64 kind, .int .i64 at_, .slice na n ncp] (setAll at_ names l t) (t + n) l w')) := by
                  have := pl_set HPL.out at_ _ names HNL.out (by have := HN.out; omega) (HS.out w6 HPL.out.low)
                  rw [HN.out] at this
                  exact this
                go_upto_region 13 with (go_at_call 13; refine HSET.out.mono ?_; rintro e w7 ⟨rfl, P7⟩; clear HSET)
                clear o0 o1 o2 HPL
                go_loopw [13] (fun kc wx => ∃ k : Nat, kc = .int .i64 (k : Int) ∧ k ≤ n ∧ Hid (Pl B go w1 [.int .i64 kind, .int .i64 at_, .slice na n ncp] (setAll at_ names l t) (t + n) (setAll at_ (names.take k) l t) wx)) (fun kc _ => n - (intOf kc).toNat)
                case atStart => exact ⟨0, rfl, Nat.zero_le _, P7⟩
                case round =>
                  clear P7
                  obtain ⟨k, rfl, hk, hP⟩ := hrel
                  have o1 := hP.out.ops.at 1 _ rfl
                  have o2 := hP.out.ops.at 2 _ rfl
                  by_cases hkn : k < n
                  · have k1 : (k : Int) < (n : Int) := by omega
                    have k2 : (0 : Int) ≤ (k : Int) := by omega
                    obtain ⟨nk, hnk⟩ : ∃ nk, names[k]? = some nk := ⟨_, List.getElem?_eq_getElem (by rw [HN.out]; exact hkn)⟩
                    have HNK : Hid (names[k]? = some nk) := hnk
                    obtain ⟨gs, os, rfl, hc⟩ := (HS.out wr hP.out.low).cell k nk hnk
                    have hml : (setAll at_ (names.take k) l t).length < 1073741824 := by
                      have h1 := (HFI.out.setAll at_ (names.take k)).len
                      rw [List.length_take] at h1
                      have := HN.out
                      omega
                    have HST : Hid (Calls Try.prog 14 #[.pointer (some ⟨B + 1, 0, none⟩), .int .i64 at_, .string (strL nk)] wr.drew fun e w' => e = .returned (.tuple #[]) ∧ Hid (Pl B go w1 [.int .i64 kind, .int .i64 at_, .slice (some ⟨gs, os, none⟩) n ncp] (setAll at_ names l t) (t + n) (setAll at_ (names.take (k + 1)) l t) w')) := by
                      have e : setAll at_ (names.take (k + 1)) l t = setT nk at_ (t + k + 1) (setAll at_ (names.take k) l t) := by
                        rw [List.take_add_one, hnk]
                        show setAll at_ (names.take k ++ [nk]) l t = _
                        rw [setAll_snoc, List.length_take, Nat.min_eq_left (by have := HN.out; omega)]
                      rw [e]
                      exact pl_rset (hP.out.below (W' := wr.drew) (Below.drew (Below.refl _ _))) hml nk at_ (t + k + 1)
                    clear hnk hP
                    go_upto_region 15 with fail
                    go_region_held3 (fun W => W.cell? ⟨go, 1, none⟩ = some (.int .i64 at_) ∧ W.cell? ⟨go, 2, none⟩ = some (.slice (some ⟨gs, os, none⟩) n ncp) ∧ W.cell? ⟨gs, os + k, none⟩ = some (.string (strL nk)))
                      (first
                        | exact ⟨o1, o2, hc⟩
                        | exact ⟨p1, p2, p3⟩)
                      (first
                        | (go_at_call 14; refine HST.out.mono ?_; rintro e w8 ⟨rfl, P8⟩; have p1 := P8.out.ops.at 1 _ rfl; have p2 := P8.out.ops.at 2 _ rfl; have p3 : w8.cell? ⟨gs, os + k, none⟩ = some (.string (strL nk)) := by obtain ⟨gs', os', e', h'⟩ := (HS.out w8 P8.out.low).cell k nk HNK.out; cases e'; exact h'))
                    rename_i hHeld
                    clear hHeld o1 o2 hc p1 p2 p3 HST
                    go_wp2
                    go_roundw
                    case rel => exact ⟨k + 1, by go_num, by omega, P8⟩
                    case measure => simp [intOf]; omega
                  · have hke : n = k := by omega
                    subst hke
                    have k1 : ¬ (n : Int) < (n : Int) := by omega
                    have HPT : Hid (Pl B go w1 [.int .i64 kind, .int .i64 at_, .slice na n ncp] (setAll at_ names l t) (t + n) (setAll at_ names l t) wr) := by
                      have := hP.out
                      rw [List.take_of_length_le (by rw [HN.out]; exact Nat.le_refl _)] at this
                      exact this
                    clear hP
                    go_upto_region 35 with fail
                    clear o2 o1
                    have HTT := HTN
                    generalize setAll at_ names l t = LT at HPT
                    have hT : t + n ≤ 1048576 := htn
                    generalize t + n = TT at HPT hT HTT
                    have hln : LT.length ≤ 1048576 := by have := HPT.out.whl.fine.len; omega
                    have HNX : Hid (∀ W, Hid (Pl B go w1 [.int .i64 kind, .int .i64 at_, .slice na n ncp] LT TT LT W) → Calls Try.prog 15 #[.pointer (some ⟨B, 0, none⟩)] W fun e w' => e = .returned (.tuple #[.int .i64 (minT LT), .bool (someB LT)]) ∧ Hid (Pl B go w1 [.int .i64 kind, .int .i64 at_, .slice na n ncp] LT TT LT w')) := fun W h => pl_next h.out
                    have HRX : Hid (∀ W, Hid (Pl B go w1 [.int .i64 kind, .int .i64 at_, .slice na n ncp] LT TT LT W) → Calls Try.prog 16 #[.pointer (some ⟨B + 1, 0, none⟩)] W fun e w' => e = .returned (.tuple #[.int .i64 (minT LT), .bool (someB LT)]) ∧ Hid (Pl B go w1 [.int .i64 kind, .int .i64 at_, .slice na n ncp] LT TT LT w')) := fun W h => pl_rnext h.out (by omega)
                    have HLE : Hid (∀ W, Hid (Pl B go w1 [.int .i64 kind, .int .i64 at_, .slice na n ncp] LT TT LT W) → Calls Try.prog 17 #[.pointer (some ⟨B, 0, none⟩)] W fun e w' => e = .returned (.int .i64 (LT.length : Int)) ∧ w' = W) := fun W h => pl_len h.out
                    have HAT : Hid (∀ W k, k ∈ names → Hid (Pl B go w1 [.int .i64 kind, .int .i64 at_, .slice na n ncp] LT TT LT W) → Calls Try.prog 18 #[.pointer (some ⟨B, 0, none⟩), .string (strL k)] W fun e w' => e = .returned (.tuple #[.int .i64 (atI (findT LT k)), .bool (findT LT k).isSome]) ∧ Hid (Pl B go w1 [.int .i64 kind, .int .i64 at_, .slice na n ncp] LT TT LT w')) := fun W k hk h => pl_at h.out k (HNL.out k hk)
                    have HRA : Hid (∀ W k, Hid (Pl B go w1 [.int .i64 kind, .int .i64 at_, .slice na n ncp] LT TT LT W) → Calls Try.prog 19 #[.pointer (some ⟨B + 1, 0, none⟩), .string (strL k)] W fun e w' => e = .returned (.tuple #[.int .i64 (atI (findT LT k)), .bool (findT LT k).isSome]) ∧ w' = W) := fun W k h => pl_rat h.out (by omega) k
                    obtain ⟨mn, hmn⟩ : ∃ mn, minT LT = mn := ⟨_, rfl⟩
                    obtain ⟨sb, hsb⟩ : ∃ sb, someB LT = sb := ⟨_, rfl⟩
                    rw [hmn, hsb] at HNX HRX
                    clear hmn hsb
                    go_upto_region 37 with (first
                      | (go_at_call 15; refine (HNX.out _ HPT).mono ?_; rintro e w8 ⟨rfl, P8⟩; clear HNX HPT)
                      | (go_at_call 16; refine (HRX.out _ P8).mono ?_; rintro e w9 ⟨rfl, P9⟩; clear HRX P8))
                    have HRS : Hid (∃ a c, w9.cell? ⟨B + 1, 0, none⟩ = some (.slice a LT.length c)) := P9.out.refSlice
                    obtain ⟨ra, rc, rs⟩ := HRS.out
                    have HLQ : Hid (∀ q, Calls Try.prog 17 #[.pointer (some ⟨B, 0, none⟩)] (w9.drewN q) fun e w' => e = .returned (.int .i64 (LT.length : Int)) ∧ w' = w9.drewN q) := fun q => HLE.out _ (P9.out.below (belowD _ _ _))
                    have HPQ : Hid (∀ q, Pl B go w1 [.int .i64 kind, .int .i64 at_, .slice na n ncp] LT TT LT (w9.drewN q)) := fun q => P9.out.below (belowD _ _ _)
                    obtain ⟨ln, hlnn⟩ : ∃ ln, LT.length = ln := ⟨_, rfl⟩
                    rw [hlnn] at rs HLQ hln
                    clear hlnn HRS HLE P9
                    cases sb
                    all_goals
                      go_quiet ((go_at_call 17; exact Calls.quiet_of_same (HLQ.out _)))
                      go_upto_region 40 with fail
                      go_loopw [18] (fun kc wx => ∃ k : Nat, kc = .int .i64 (k : Int) ∧ k ≤ n ∧ Hid (Pl B go w1 [.int .i64 kind, .int .i64 at_, .slice na n ncp] LT TT LT wx)) (fun kc _ => n - (intOf kc).toNat)
                      case atStart => exact ⟨0, rfl, Nat.zero_le _, HPQ.out _⟩
                      case round =>
                        clear HLQ HPQ rs
                        obtain ⟨k, rfl, hk, hP⟩ := hrel
                        have o2 := hP.out.ops.at 2 _ rfl
                        by_cases hkn : k < n
                        · have k1 : (k : Int) < (n : Int) := by omega
                          have k2 : (0 : Int) ≤ (k : Int) := by omega
                          obtain ⟨nk, hnk⟩ : ∃ nk, names[k]? = some nk := ⟨_, List.getElem?_eq_getElem (by rw [HN.out]; exact hkn)⟩
                          have HNK : Hid (names[k]? = some nk) := hnk
                          obtain ⟨gs, os, ena, hc⟩ := (HS.out wr hP.out.low).cell k nk hnk
                          have HENA : Hid (na = some ⟨gs, os, none⟩) := ena
                          have HA1 := HAT.out wr nk (List.mem_of_getElem? hnk) hP
                          have HR1 : Hid (∀ W, Hid (Pl B go w1 [.int .i64 kind, .int .i64 at_, .slice na n ncp] LT TT LT W) → Calls Try.prog 19 #[.pointer (some ⟨B + 1, 0, none⟩), .string (strL nk)] W fun e w' => e = .returned (.tuple #[.int .i64 (atI (findT LT nk)), .bool (findT LT nk).isSome]) ∧ w' = W) := fun W h => HRA.out W nk h
                          have HA2 : Hid (Calls Try.prog 18 #[.pointer (some ⟨B, 0, none⟩), .string (strL nk)] wr fun e w' => e = .returned (.tuple #[.int .i64 (atI (findT LT nk)), .bool (findT LT nk).isSome]) ∧ Hid (Pl B go w1 [.int .i64 kind, .int .i64 at_, .slice na n ncp] LT TT LT w')) := HA1
                          obtain ⟨fa, hfa⟩ : ∃ fa, atI (findT LT nk) = fa := ⟨_, rfl⟩
                          obtain ⟨fb, hfb⟩ : ∃ fb, (findT LT nk).isSome = fb := ⟨_, rfl⟩
                          rw [hfa, hfb] at HR1 HA2
                          rw [ena] at o2
                          clear hfa hfb hnk HA1 ena hP
                          cases fb
                          all_goals
                            go_wp2_with (first
                              | (go_at_call 18; refine HA2.out.mono ?_; rintro e w10 ⟨rfl, P10⟩; clear HA2; have p2 := P10.out.ops.at 2 _ rfl; rw [HENA.out] at p2; have p3 : w10.cell? ⟨gs, os + k, none⟩ = some (.string (strL nk)) := by obtain ⟨gs', os', e', h'⟩ := (HS.out w10 P10.out.low).cell k nk HNK.out; rw [HENA.out] at e'; cases e'; exact h')
                              | (go_at_call 19; refine (HR1.out _ P10).mono ?_; rintro e w11 ⟨rfl, e11⟩; rw [e11]; clear e11 HR1))
                            go_roundw
                            case rel => exact ⟨k + 1, by go_num, by omega, P10⟩
                            case measure => simp [intOf]; omega
                        · have k1 : ¬ (k : Int) < (n : Int) := by omega
                          go_wp2
                          go_roundw
                          case rel => exact ⟨i + 1, by go_num, by omega, ⟨LT, TT, hP.out.whl, hP.out.ref, hP.out.low, HTT.out⟩⟩
                          case measure => simp [intOf]; omega
    · obtain ⟨l, t, _, _, hLow, _⟩ := hR.out.ex
      have HE : Hid (Below M w wr) := HB1.out.trans (hLow.mono hMB)
      clear hLow
      by_cases hl : i < lc
      · have g1 : (i : Int) < (lc : Int) := by omega
        have g2 : ¬ (i : Int) < 100 := by omega
        have g2' : decide ((i : Int) < 100) = false := decide_eq_false g2
        go_wp2
        go_ret
        exact ⟨rfl, HE.out⟩
      · have g1 : ¬ (i : Int) < (lc : Int) := by omega
        have g1' : decide ((i : Int) < (lc : Int)) = false := decide_eq_false g1
        go_wp2
        go_ret
        exact ⟨rfl, HE.out⟩
end Go.Proofs.Ytklkonmdllgeeaa
