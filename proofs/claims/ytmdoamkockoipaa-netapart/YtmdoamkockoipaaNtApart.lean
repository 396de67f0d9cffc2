/- The law NetApart (6). -/
import Derived.Test.YtmdoamkockoipaaNtApP
namespace Go.Proofs.Ytmdoamkockoipaa
open Go.RowKit Go.Maps

/-- Pairs in memory. -/
def PairsAt (N : Nat) (w : World) (v : Value) (l : List (Int × Int)) : Prop :=
  ∃ a cap, v = .slice a l.length cap ∧ (l.length = 0 ∨ ∃ g o, a = some ⟨g, o, none⟩ ∧ g < N ∧ ∀ i p, l[i]? = some p → w.cell? ⟨g, o + i * 2, none⟩ = some (.int .i64 p.1) ∧ w.cell? ⟨g, o + i * 2 + 1, none⟩ = some (.int .i64 p.2))
theorem PairsAt.below {N : Nat} {w w' : World} {v : Value} {l : List (Int × Int)} (h : PairsAt N w v l) (hb : Below N w w') : PairsAt N w' v l := by
  obtain ⟨a, cap, rfl, h0 | ⟨g, o, rfl, hg, hc⟩⟩ := h
  · exact ⟨a, cap, rfl, .inl h0⟩
  · exact ⟨_, cap, rfl, .inr ⟨g, o, rfl, hg, fun i x hi => by exact ⟨(World.cell?_of_block (w := w) (hb.block g hg)).trans (hc i x hi).1, (World.cell?_of_block (w := w) (hb.block g hg)).trans (hc i x hi).2⟩⟩⟩
theorem PairsAt.len {N : Nat} {w : World} {v : Value} {l : List (Int × Int)} (h : PairsAt N w v l) : ∃ a cap, v = .slice a l.length cap := by
  obtain ⟨a, cap, rfl, _⟩ := h
  exact ⟨a, cap, rfl⟩
theorem PairsAt.cell {N : Nat} {w : World} {a : Option Addr} {n c : Nat} {l : List (Int × Int)} (h : PairsAt N w (.slice a n c) l) (i : Nat) (p : Int × Int) (hi : l[i]? = some p) : ∃ g o, a = some ⟨g, o, none⟩ ∧ w.cell? ⟨g, o + i * 2, none⟩ = some (.int .i64 p.1) ∧ w.cell? ⟨g, o + i * 2 + 1, none⟩ = some (.int .i64 p.2) := by
  obtain ⟨a', cap, e, h0 | ⟨g, o, e2, hg, hc⟩⟩ := h
  · have := (List.getElem?_eq_some_iff.1 hi).1; omega
  · obtain ⟨rfl, _, _⟩ := Value.slice.inj e
    exact ⟨g, o, e2, hc i p hi⟩
/-- The first so many, put right. -/
def firstP (k : Nat) (l : List (Int × Int)) : List (Int × Int) := (l.take k).map loP
theorem firstP_ok (k : Nat) (l : List (Int × Int)) : ∀ p ∈ firstP k l, okP p := fun p hp => by
  obtain ⟨q, _, rfl⟩ := List.mem_map.1 hp
  exact ⟨loI_ok _, loI_ok _⟩
theorem firstP_snoc (l : List (Int × Int)) (i : Nat) (p : Int × Int) (h : l[i]? = some p) : firstP (i + 1) l = firstP i l ++ [loP p] := by
  have hi := (List.getElem?_eq_some_iff.1 h).1
  unfold firstP
  rw [take_snoc l i hi, (List.getElem?_eq_some_iff.1 h).2, List.map_append]; rfl
theorem firstP_len (k : Nat) (l : List (Int × Int)) : (firstP k l).length = min k l.length := by simp [firstP]
/-- The law's walk, four times. -/
theorem apart_cuts_len (k : Nat) (cs : List (Int × Int)) (h : k ≤ 10) : (cutsL (firstP k cs)).length < 4611686018427387904 := by
  have h1 := cutsL_len (firstP k cs)
  have h2 := firstP_len k cs
  omega
theorem apart_sent (C : List (Int × Int)) (l : List (Int × Int)) (k : Nat) (hk : k < 40) : fitN (sendAll C (firstP k l)) [bX] = 1 ∧ ∀ a b, sendN (sendAll C (firstP k l)) a b ([bX].take (fitN (sendAll C (firstP k l)) [bX])) = addN (sendAll C (firstP k l)) a b bX := by
  have h := sent_ok C (firstP k l) (firstP_ok k l)
  have h2 := firstP_len k l
  have e : fitN (sendAll C (firstP k l)) [bX] = 1 := by
    unfold fitN
    rw [h.len]
    exact Nat.min_eq_left (by simp; omega)
  refine ⟨e, fun a b => ?_⟩
  rw [e]; rfl
set_option maxHeartbeats 6400000 in
set_option maxRecDepth 100000 in
theorem netApart_lele (ps cs : List (Int × Int)) (hcv : cs.length ≤ 10) (hpv : ps.length ≤ 40) (vp vc : Value) (w : World) (hp : PairsAt w.heap.size w vp ps) (hc : PairsAt w.heap.size w vc cs) : Calls Try.prog 6 #[vp, vc] w fun e w' => e = .returned (.bool true) ∧ Below w.heap.size w w' := by
  have hM : maxLen = 9223372036854775807 := rfl
  obtain ⟨ap, cp, rfl⟩ := hp.len
  obtain ⟨ac, cc, rfl⟩ := hc.len
  obtain ⟨N, hN⟩ : ∃ N, w.heap.size = N := ⟨_, rfl⟩
  rw [hN] at hp hc ⊢
  have HP : Hid (PairsAt N w (.slice ap ps.length cp) ps) := hp
  have HC : Hid (PairsAt N w (.slice ac cs.length cc) cs) := hc
  have aw : Hid (Calls Try.prog 7 #[] w fun e w' => e = .returned (.bool true) ∧ Hid (Below N w w')) := hN ▸ awake_any w
  have HN : Hid (w.heap.size = N) := hN
  clear hN hp hc
  have hnew : Hid (∀ W, Hid (Below N w W) → Calls Try.prog 8 #[] W fun e w' => ∃ b, e = .returned (.pointer (some ⟨b, 0, none⟩)) ∧ Hid (NIn (fun k => k < N) N w b ⟨[], 0, cutsL (firstP 0 cs)⟩ w')) := fun W hW => (in_new W.heap.size W rfl).mono fun _ _ ⟨e1, e2, _⟩ => ⟨_, e1, by
    have hs : N ≤ W.heap.size := HN.out ▸ hW.out.size
    have h2 := e2.out
    exact ⟨h2.net.less fun k hk => Nat.lt_of_lt_of_le hk hs, hW.out.trans (h2.below.mono hs), fun k hk => hk⟩⟩
  generalize hnp : ps.length = np at *
  generalize hnc : cs.length = nc at *
  have HNP : Hid (ps.length = np) := hnp
  have HNC : Hid (cs.length = nc) := hnc
  clear hnp hnc
  have hkc10 : nc ≤ 10 := hcv
  have hkp40 : np ≤ 40 := hpv
  go_enter Try.func6, Try.ntmps6
  go_wp2_with (first
    | (go_at_call 7; refine aw.out.mono ?_; rintro e w1 ⟨rfl, h1⟩; clear aw)
    | (go_at_call 8; refine (hnew.out w1 h1).mono ?_; rintro e w2 ⟨b, rfl, h2⟩; clear hnew h1))
  go_loopw [7] (fun c wr => ∃ i : Nat, c = .int .i64 (i : Int) ∧ i ≤ nc ∧ Hid (NIn (fun k => k < N) N w b ⟨[], 0, cutsL (firstP i cs)⟩ wr)) (fun c _ => nc - (intOf c).toNat)
  case atStart => exact ⟨0, rfl, Nat.zero_le _, h2⟩
  case round =>
    obtain ⟨i, rfl, hi, hE⟩ := hrel
    clear h2
    by_cases hlt : i < nc
    · obtain ⟨⟨x, y⟩, hxy⟩ : ∃ p, cs[i]? = some p := ⟨_, List.getElem?_eq_getElem (by rw [HNC.out]; omega)⟩
      obtain ⟨g, o, rfl, k0, k1⟩ := (HC.out.below hE.out.below).cell i _ hxy
      have hcell : Hid (∀ W, Below N w W → W.cell? ⟨g, o + i * 2, none⟩ = some (.int .i64 x) ∧ W.cell? ⟨g, o + i * 2 + 1, none⟩ = some (.int .i64 y)) := fun W hW => by
        obtain ⟨g', o', e', z0, z1⟩ := (HC.out.below hW).cell i _ hxy
        cases e'
        exact ⟨z0, z1⟩
      have hst : cutsL (firstP (i + 1) cs) = cutL (cutsL (firstP i cs)) (loI x) (loI y) := by
        rw [firstP_snoc cs i _ hxy]
        exact cutsL_snoc _ _ _
      have hC2 : Hid (Calls Try.prog 10 #[.pointer (some ⟨b, 0, none⟩), .int .i64 (loI x), .int .i64 (loI y)] wr.drew fun e w' => e = .returned (.tuple #[]) ∧ Hid (NIn (fun k => k < N) N w b ⟨[], 0, cutsL (firstP (i + 1) cs)⟩ w')) := by
        have hE' : NIn (fun k => k < N) N w b ⟨[], 0, cutsL (firstP i cs)⟩ wr.drew := ⟨hE.out.net.drew, hE.out.below.drew, hE.out.low⟩
        refine (in_cut hE' (loI x) (loI y) (loI_ok x) (loI_ok y) (apart_cuts_len i cs (by omega))).mono ?_
        rintro e w' ⟨e1, e2⟩
        exact ⟨e1, hst ▸ e2.out.1⟩
      have bx : bits .and .i64 x 3 = loI x := rfl
      have bY : bits .and .i64 y 3 = loI y := rfl
      have q1 : (i : Int) < (nc : Int) := by omega
      have q2 : (i : Int) < 10 := by omega
      clear hE hst hxy HC
      generalize loI x = lx at *
      generalize loI y = ly at *
      go_upto_region 8 with fail
      go_region_held3 (fun W => W.cell? ⟨g, o + i * 2, none⟩ = some (.int .i64 x) ∧ W.cell? ⟨g, o + i * 2 + 1, none⟩ = some (.int .i64 y)) (go_keep) (first | (go_at_call 10; refine hC2.out.mono ?_; rintro e w3 ⟨rfl, h3⟩; clear hC2; obtain ⟨z0, z1⟩ := hcell.out w3 h3.out.below))
      go_wp2
      go_roundw
      case rel => exact ⟨i + 1, by simp, by omega, h3⟩
      case measure => simp [intOf]; omega
    · have HI : Hid (i = nc) := by
        show i = nc
        omega
      have q1 : ¬ (i : Int) < (nc : Int) := by have := HI.out; omega
      rw [HI.out] at hE
      obtain ⟨C, hCd⟩ : ∃ C, cutsL (firstP nc cs) = C := ⟨_, rfl⟩
      rw [hCd] at hE
      have hCl : Hid (C.length < 4611686018427387904) := by
        show C.length < _
        rw [← hCd]
        exact apart_cuts_len _ cs (by omega)
      have hCj : Hid (∀ a b, cutB a b (firstP nc cs) = !joinedB C a b) := fun a b => by rw [← hCd, joined_cuts]; simp
      clear hCd hlt
      go_wp2
      go_loopw [8, 9, 10] (fun al my c wr => ∃ j : Nat, al = .int .i64 (j : Int) ∧ my = .int .i64 (mayN C (firstP j ps) : Int) ∧ c = .int .i64 (j : Int) ∧ j ≤ np ∧ Hid (NIn (fun k => k < N) N w b (sendAll C (firstP j ps)) wr)) (fun _ _ c _ => np - (intOf c).toNat)
      case atStart => exact ⟨0, rfl, rfl, rfl, Nat.zero_le _, hE⟩
      case round =>
        obtain ⟨j, rfl, rfl, rfl, hj, hS⟩ := hrel
        clear hE
        by_cases hlt : j < np
        · obtain ⟨⟨x, y⟩, hxy⟩ : ∃ p, ps[j]? = some p := ⟨_, List.getElem?_eq_getElem (by rw [HNP.out]; omega)⟩
          obtain ⟨g, o, rfl, k0, k1⟩ := (HP.out.below hS.out.below).cell j _ hxy
          have hsn := apart_sent C ps j (by omega)
          have hst : sendAll C (firstP (j + 1) ps) = addN (sendAll C (firstP j ps)) (loI x) (loI y) bX := by
            rw [firstP_snoc ps j _ hxy, sendAll_snoc]; rfl
          have hmy : mayN C (firstP (j + 1) ps) = mayN C (firstP j ps) + if joinedB C (loI x) (loI y) then 1 else 0 := by
            rw [firstP_snoc ps j _ hxy, mayN_snoc]; rfl
          have hsl := (sent_ok C (firstP j ps) (firstP_ok j ps)).last
          have hfl := firstP_len j ps
          have hm0 : mayN C (firstP j ps) ≤ 40 := Nat.le_trans (List.length_filter_le _ _) (by rw [firstP_len]; omega)
          have hC2 : Hid (Calls Try.prog 9 #[.pointer (some ⟨b, 0, none⟩), .int .i64 (loI x), .int .i64 (loI y), .slice (some ⟨wr.heap.size, 0, none⟩) 1 1] (wr.alloc (.cells #[.string ⟨#[120]⟩] 9)) fun e w' => e = .returned (.int .i64 1) ∧ Hid (NIn (fun k => k < N) N w b (sendAll C (firstP (j + 1) ps)) w')) := by
            refine (in_send hS.out (loI x) (loI y) [bX] (by simp) (by rw [hsl]; omega)).mono ?_
            rintro e w' ⟨e1, e2⟩
            rw [hsn.1] at e1
            have e3 := e2.out.1
            rw [hsn.2, ← hst] at e3
            exact ⟨e1, e3⟩
          have bx : bits .and .i64 x 3 = loI x := rfl
          have bY : bits .and .i64 y 3 = loI y := rfl
          have hCa := hCj.out (loI x) (loI y)
          have HCa : Hid (cutB (loI x) (loI y) (firstP nc cs) = !joinedB C (loI x) (loI y)) := hCa
          have HMY : Hid (mayN C (firstP (j + 1) ps) = mayN C (firstP j ps) + if joinedB C (loI x) (loI y) then 1 else 0) := hmy
          have q1 : (j : Int) < (np : Int) := by omega
          have q2 : (j : Int) < 40 := by omega
          clear hS hst hxy HP hsn hmy hsl hfl hCa
          generalize loI x = lx at *
          generalize loI y = ly at *
          generalize mayN C (firstP j ps) = mj at *
          go_wp2_with (go_at_call 9; refine hC2.out.mono ?_; rintro e w3 ⟨rfl, h3⟩; clear hC2)
          go_loopw [13, 14] (fun ct c wr => ∃ k : Nat, ct = .bool (cutB lx ly (firstP k cs)) ∧ c = .int .i64 (k : Int) ∧ k ≤ nc ∧ wr = w3) (fun _ c _ => nc - (intOf c).toNat)
          case atStart => exact ⟨0, rfl, rfl, Nat.zero_le _, rfl⟩
          case round =>
            obtain ⟨k, rfl, rfl, hk, rfl⟩ := hrel
            clear q1 q2
            by_cases hlt2 : k < nc
            · obtain ⟨⟨x2, y2⟩, hxy2⟩ : ∃ p, cs[k]? = some p := ⟨_, List.getElem?_eq_getElem (by rw [HNC.out]; omega)⟩
              obtain ⟨g2, o2, rfl, z0, z1⟩ := (HC.out.below h3.out.below).cell k _ hxy2
              have hcb : cutB lx ly (firstP (k + 1) cs) = (cutB lx ly (firstP k cs) || (loI x2 != loI y2 && ((lx == loI x2 && ly == loI y2) || (lx == loI y2 && ly == loI x2)))) := by
                rw [firstP_snoc cs k _ hxy2]
                exact cutB_snoc _ _ _ _ _
              have HCB : Hid (cutB lx ly (firstP (k + 1) cs) = (cutB lx ly (firstP k cs) || (loI x2 != loI y2 && ((lx == loI x2 && ly == loI y2) || (lx == loI y2 && ly == loI x2))))) := hcb
              have bx2 : bits .and .i64 x2 3 = loI x2 := rfl
              have bY2 : bits .and .i64 y2 3 = loI y2 := rfl
              have q1 : (k : Int) < (nc : Int) := by omega
              have q2 : (k : Int) < 10 := by omega
              clear hcb hxy2
              generalize loI x2 = cx at *
              generalize loI y2 = cy at *
              generalize cutB lx ly (firstP k cs) = c0 at *
              have HMS : Hid (nc - (k + 1) < nc - k) := by
                show nc - (k + 1) < nc - k
                omega
              clear hM
              cases c0 with
              | true =>
                go_wp2
                go_roundw
                case rel => exact ⟨k + 1, by rw [HCB.out]; rfl, by simp, by omega, (by first | rfl | trivial)⟩
                case measure => simpa [intOf] using HMS.out
              | false =>
                by_cases e1 : cx = cy
                · subst e1
                  go_wp2
                  go_roundw
                  case rel => exact ⟨k + 1, by rw [HCB.out]; simp, by simp, by omega, (by first | rfl | trivial)⟩
                  case measure => simpa [intOf] using HMS.out
                · have f1 : (cx == cy) = false := beq_eq_false_iff_ne.2 e1
                  have f1' : (cx != cy) = true := by simp [bne, f1]
                  by_cases e2 : lx = cx
                  · have f2 : (lx == cx) = true := beq_iff_eq.2 e2
                    by_cases e3 : ly = cy
                    · have f3 : (ly == cy) = true := beq_iff_eq.2 e3
                      have HB : Hid (cutB lx ly (firstP (k + 1) cs) = true) := by
                        show _ = true
                        rw [HCB.out, f1', f2, f3]; rfl
                      clear HCB e1 e2 e3
                      go_wp2
                      go_roundw
                      case rel => exact ⟨k + 1, by rw [HB.out], by simp, by omega, (by first | rfl | trivial)⟩
                      case measure => simpa [intOf] using HMS.out
                    · have f3 : (ly == cy) = false := beq_eq_false_iff_ne.2 e3
                      have f4 : (lx == cy) = false := beq_eq_false_iff_ne.2 (fun q => e1 (e2.symm.trans q))
                      have HB : Hid (cutB lx ly (firstP (k + 1) cs) = false) := by
                        show _ = false
                        rw [HCB.out, f1', f2, f3, f4]; rfl
                      clear HCB e1 e2 e3
                      go_wp2
                      go_roundw
                      case rel => exact ⟨k + 1, by rw [HB.out], by simp, by omega, (by first | rfl | trivial)⟩
                      case measure => simpa [intOf] using HMS.out
                  · have f2 : (lx == cx) = false := beq_eq_false_iff_ne.2 e2
                    by_cases e3 : lx = cy
                    · have f3 : (lx == cy) = true := beq_iff_eq.2 e3
                      by_cases e4 : ly = cx
                      · have f4 : (ly == cx) = true := beq_iff_eq.2 e4
                        have HB : Hid (cutB lx ly (firstP (k + 1) cs) = true) := by
                          show _ = true
                          rw [HCB.out, f1', f2, f3, f4]; simp
                        clear HCB e1 e2 e3 e4
                        go_wp2
                        go_roundw
                        case rel => exact ⟨k + 1, by rw [HB.out], by simp, by omega, (by first | rfl | trivial)⟩
                        case measure => simpa [intOf] using HMS.out
                      · have f4 : (ly == cx) = false := beq_eq_false_iff_ne.2 e4
                        have HB : Hid (cutB lx ly (firstP (k + 1) cs) = false) := by
                          show _ = false
                          rw [HCB.out, f1', f2, f3, f4]; simp
                        clear HCB e1 e2 e3 e4
                        go_wp2
                        go_roundw
                        case rel => exact ⟨k + 1, by rw [HB.out], by simp, by omega, (by first | rfl | trivial)⟩
                        case measure => simpa [intOf] using HMS.out
                    · have f3 : (lx == cy) = false := beq_eq_false_iff_ne.2 e3
                      have HB : Hid (cutB lx ly (firstP (k + 1) cs) = false) := by
                        show _ = false
                        rw [HCB.out, f1', f2, f3]; simp
                      clear HCB e1 e2 e3
                      go_wp2
                      go_roundw
                      case rel => exact ⟨k + 1, by rw [HB.out], by simp, by omega, (by first | rfl | trivial)⟩
                      case measure => simpa [intOf] using HMS.out
            · have HK : Hid (k = nc) := by
                show k = nc
                omega
              have q1 : ¬ (k : Int) < (nc : Int) := by have := HK.out; omega
              have e0 : cutB lx ly (firstP k cs) = !joinedB C lx ly := by rw [HK.out]; exact HCa.out
              rw [e0]
              clear e0 hlt2
              cases hjb : joinedB C lx ly with
              | true =>
                have HMZ : Hid (mayN C (firstP (j + 1) ps) = mj + 1) := by
                  show _ = mj + 1
                  rw [HMY.out, hjb]; rfl
                clear hjb HCa HMY
                go_wp2
                go_roundw
                case rel => exact ⟨j + 1, by simp, by rw [HMZ.out]; simp, by simp, by omega, h3⟩
                case measure => simp [intOf]; omega
              | false =>
                have HMZ : Hid (mayN C (firstP (j + 1) ps) = mj) := by
                  show _ = mj
                  rw [HMY.out, hjb]; rfl
                clear hjb HCa HMY
                go_wp2
                go_roundw
                case rel => exact ⟨j + 1, by simp, by rw [HMZ.out], by simp, by omega, h3⟩
                case measure => simp [intOf]; omega
        · have HJ : Hid (j = np) := by
            show j = np
            omega
          have q1 : ¬ (j : Int) < (np : Int) := by have := HJ.out; omega
          have hso := sent_ok C (firstP j ps) (firstP_ok j ps)
          have hj40 : j ≤ 40 := by omega
          have hfl : (firstP j ps).length = j := by rw [firstP_len, HNP.out]; omega
          have hT0 : Hid (TakeR C j (mayN C (firstP j ps)) 0 0 (sendAll C (firstP j ps))) := ⟨hso.cuts, hso.ok, by rw [hso.len, hfl]; rfl, hso.may, .inl rfl⟩
          have hmj : mayN C (firstP j ps) ≤ j := Nat.le_trans (List.length_filter_le _ _) (by rw [hfl]; exact Nat.le_refl _)
          have hS1 : Hid (∃ s, NIn (fun k => k < N) N w b s wr ∧ TakeR C j (mayN C (firstP j ps)) 0 0 s) := ⟨_, hS.out, hT0.out⟩
          clear hS hso hfl hT0 hlt
          generalize mayN C (firstP j ps) = mj at *
          go_wp2
          go_loopw [17, 18] (fun gt c wr => ∃ i got : Nat, gt = .int .i64 (got : Int) ∧ c = .int .i64 (i : Int) ∧ i ≤ j + 1 ∧ Hid (∃ s, NIn (fun k => k < N) N w b s wr ∧ TakeR C j mj i got s)) (fun _ c _ => j + 1 - (intOf c).toNat)
          case atStart => exact ⟨0, 0, rfl, rfl, Nat.zero_le _, hS1⟩
          case round =>
            obtain ⟨i2, got, rfl, rfl, hi2, hR⟩ := hrel
            clear hS1
            obtain ⟨s, hs1, hs2⟩ := hR.out
            have hgj : got ≤ j := by have := hs2.len; omega
            have HS1 : Hid (NIn (fun k => k < N) N w b s wr) := hs1
            have HS2 : Hid (TakeR C j mj i2 got s) := hs2
            clear hs1 hs2 hR
            by_cases hlt3 : i2 ≤ j
            · have hq : (i2 : Int) ≤ (j : Int) := by omega
              cases hpk : pickO s (i2 : Int) with
              | none =>
                have hT : Hid (Calls Try.prog 11 #[.pointer (some ⟨b, 0, none⟩), .int .i64 (i2 : Int)] wr fun e w' => e = .returned (.tuple #[.agg #[.int .i64 0, .int .i64 0, .int .i64 0, .string ⟨#[]⟩], .bool false]) ∧ Hid (NIn (fun k => k < N) N w b s w')) := (in_take_none HS1.out HS2.out.ok _ hpk).mono fun _ _ ⟨e1, e2⟩ => ⟨e1, e2.out.1⟩
                have hR2 : Hid (TakeR C j mj (i2 + 1) got s) := HS2.out.none hpk
                clear HS1 HS2 hpk
                go_wp2_with (go_at_call 11; refine hT.out.mono ?_; rintro e w4 ⟨rfl, h4⟩; clear hT)
                go_roundw
                case rel => exact ⟨i2 + 1, got, by simp, by simp, by omega, ⟨s, h4.out.alloc _, hR2.out⟩⟩
                case measure => simp [intOf]; omega
              | some im =>
                obtain ⟨jj, m1, m2, m3, m4⟩ := im
                have hT : Hid (Calls Try.prog 11 #[.pointer (some ⟨b, 0, none⟩), .int .i64 (i2 : Int)] wr fun e w' => e = .returned (.tuple #[.agg #[.int .i64 m1, .int .i64 m2, .int .i64 m3, .string m4], .bool true]) ∧ Hid (NIn (fun k => k < N) N w b (dropN s jj) w')) := (in_take_some HS1.out HS2.out.ok _ ((okI_iff _).2 (by omega)) jj _ hpk).mono fun _ _ ⟨e1, e2⟩ => ⟨e1, e2.out.1⟩
                have hR2 : Hid (TakeR C j mj (i2 + 1) (got + 1) (dropN s jj)) := HS2.out.some hpk
                clear HS1 HS2 hpk
                go_wp2_with (go_at_call 11; refine hT.out.mono ?_; rintro e w4 ⟨rfl, h4⟩; clear hT)
                go_roundw
                case rel => exact ⟨i2 + 1, got + 1, by simp, by simp, by omega, ⟨_, h4.out.alloc _, hR2.out⟩⟩
                case measure => simp [intOf]; omega
            · obtain rfl : i2 = j + 1 := by omega
              have hq : ¬ ((j : Int) + 1 ≤ (j : Int)) := by omega
              obtain ⟨d1, d2, d3, d4⟩ := HS2.out.done
              subst d1
              have hH : Hid (Calls Try.prog 13 #[.pointer (some ⟨b, 0, none⟩), .slice none 0 0] wr fun e w' => ∃ k, e = .returned (.int .i64 k) ∧ Hid (NIn (fun k => k < N) N w b (healN s []) w')) := (in_heal HS1.out (by rw [HS2.out.cuts]; exact hCl.out)).mono fun _ _ ⟨e1, e2⟩ => ⟨_, e1, e2.out.1⟩
              have hW : Hid (∀ W, Hid (NIn (fun k => k < N) N w b (healN s []) W) → Calls Try.prog 14 #[.pointer (some ⟨b, 0, none⟩), .slice none 0 0] W fun e w' => ∃ a c, e = .returned (.slice a (j - got) c) ∧ Hid (Below N w w')) := fun W h => (in_waits h.out d3).mono fun _ _ ⟨a, c, e1, e2⟩ => ⟨a, c, d2 ▸ e1, e2.out.1.below⟩
              have hsub : ((j - got : Nat) : Int) = (j : Int) - (got : Int) := by omega
              clear HS1 HS2 d2 d3
              go_wp2_with (first
                | (go_at_call 13; refine hH.out.mono ?_; rintro e w5 ⟨k5, rfl, h5⟩; clear hH)
                | (go_at_call 14; refine (hW.out w5 h5).mono ?_; rintro e w6 ⟨a6, c6, rfl, h6⟩; clear hW h5))
              go_ret
              exact ⟨rfl, h6.out⟩
set_option maxHeartbeats 6400000 in
set_option maxRecDepth 100000 in
theorem netApart_legt (ps cs : List (Int × Int)) (hcv : cs.length ≤ 10) (hpv : 40 < ps.length) (hpl : ps.length ≤ maxLen) (vp vc : Value) (w : World) (hp : PairsAt w.heap.size w vp ps) (hc : PairsAt w.heap.size w vc cs) : Calls Try.prog 6 #[vp, vc] w fun e w' => e = .returned (.bool true) ∧ Below w.heap.size w w' := by
  have hM : maxLen = 9223372036854775807 := rfl
  obtain ⟨ap, cp, rfl⟩ := hp.len
  obtain ⟨ac, cc, rfl⟩ := hc.len
  obtain ⟨N, hN⟩ : ∃ N, w.heap.size = N := ⟨_, rfl⟩
  rw [hN] at hp hc ⊢
  have HP : Hid (PairsAt N w (.slice ap ps.length cp) ps) := hp
  have HC : Hid (PairsAt N w (.slice ac cs.length cc) cs) := hc
  have aw : Hid (Calls Try.prog 7 #[] w fun e w' => e = .returned (.bool true) ∧ Hid (Below N w w')) := hN ▸ awake_any w
  have HN : Hid (w.heap.size = N) := hN
  clear hN hp hc
  have hnew : Hid (∀ W, Hid (Below N w W) → Calls Try.prog 8 #[] W fun e w' => ∃ b, e = .returned (.pointer (some ⟨b, 0, none⟩)) ∧ Hid (NIn (fun k => k < N) N w b ⟨[], 0, cutsL (firstP 0 cs)⟩ w')) := fun W hW => (in_new W.heap.size W rfl).mono fun _ _ ⟨e1, e2, _⟩ => ⟨_, e1, by
    have hs : N ≤ W.heap.size := HN.out ▸ hW.out.size
    have h2 := e2.out
    exact ⟨h2.net.less fun k hk => Nat.lt_of_lt_of_le hk hs, hW.out.trans (h2.below.mono hs), fun k hk => hk⟩⟩
  generalize hnp : ps.length = np at *
  generalize hnc : cs.length = nc at *
  have HNP : Hid (ps.length = np) := hnp
  have HNC : Hid (cs.length = nc) := hnc
  clear hnp hnc
  have hkc10 : nc ≤ 10 := hcv
  obtain ⟨kp, hkp⟩ : ∃ kp, kp = 40 := ⟨_, rfl⟩
  have KP : Hid (kp = 40) := hkp
  have hkp40 : kp ≤ 40 := by omega
  have hkpn : kp < np := by omega
  clear hkp
  go_enter Try.func6, Try.ntmps6
  go_wp2_with (first
    | (go_at_call 7; refine aw.out.mono ?_; rintro e w1 ⟨rfl, h1⟩; clear aw)
    | (go_at_call 8; refine (hnew.out w1 h1).mono ?_; rintro e w2 ⟨b, rfl, h2⟩; clear hnew h1))
  go_loopw [7] (fun c wr => ∃ i : Nat, c = .int .i64 (i : Int) ∧ i ≤ nc ∧ Hid (NIn (fun k => k < N) N w b ⟨[], 0, cutsL (firstP i cs)⟩ wr)) (fun c _ => nc - (intOf c).toNat)
  case atStart => exact ⟨0, rfl, Nat.zero_le _, h2⟩
  case round =>
    obtain ⟨i, rfl, hi, hE⟩ := hrel
    clear h2
    by_cases hlt : i < nc
    · obtain ⟨⟨x, y⟩, hxy⟩ : ∃ p, cs[i]? = some p := ⟨_, List.getElem?_eq_getElem (by rw [HNC.out]; omega)⟩
      obtain ⟨g, o, rfl, k0, k1⟩ := (HC.out.below hE.out.below).cell i _ hxy
      have hcell : Hid (∀ W, Below N w W → W.cell? ⟨g, o + i * 2, none⟩ = some (.int .i64 x) ∧ W.cell? ⟨g, o + i * 2 + 1, none⟩ = some (.int .i64 y)) := fun W hW => by
        obtain ⟨g', o', e', z0, z1⟩ := (HC.out.below hW).cell i _ hxy
        cases e'
        exact ⟨z0, z1⟩
      have hst : cutsL (firstP (i + 1) cs) = cutL (cutsL (firstP i cs)) (loI x) (loI y) := by
        rw [firstP_snoc cs i _ hxy]
        exact cutsL_snoc _ _ _
      have hC2 : Hid (Calls Try.prog 10 #[.pointer (some ⟨b, 0, none⟩), .int .i64 (loI x), .int .i64 (loI y)] wr.drew fun e w' => e = .returned (.tuple #[]) ∧ Hid (NIn (fun k => k < N) N w b ⟨[], 0, cutsL (firstP (i + 1) cs)⟩ w')) := by
        have hE' : NIn (fun k => k < N) N w b ⟨[], 0, cutsL (firstP i cs)⟩ wr.drew := ⟨hE.out.net.drew, hE.out.below.drew, hE.out.low⟩
        refine (in_cut hE' (loI x) (loI y) (loI_ok x) (loI_ok y) (apart_cuts_len i cs (by omega))).mono ?_
        rintro e w' ⟨e1, e2⟩
        exact ⟨e1, hst ▸ e2.out.1⟩
      have bx : bits .and .i64 x 3 = loI x := rfl
      have bY : bits .and .i64 y 3 = loI y := rfl
      have q1 : (i : Int) < (nc : Int) := by omega
      have q2 : (i : Int) < 10 := by omega
      clear hE hst hxy HC
      generalize loI x = lx at *
      generalize loI y = ly at *
      go_upto_region 8 with fail
      go_region_held3 (fun W => W.cell? ⟨g, o + i * 2, none⟩ = some (.int .i64 x) ∧ W.cell? ⟨g, o + i * 2 + 1, none⟩ = some (.int .i64 y)) (go_keep) (first | (go_at_call 10; refine hC2.out.mono ?_; rintro e w3 ⟨rfl, h3⟩; clear hC2; obtain ⟨z0, z1⟩ := hcell.out w3 h3.out.below))
      go_wp2
      go_roundw
      case rel => exact ⟨i + 1, by simp, by omega, h3⟩
      case measure => simp [intOf]; omega
    · have HI : Hid (i = nc) := by
        show i = nc
        omega
      have q1 : ¬ (i : Int) < (nc : Int) := by have := HI.out; omega
      rw [HI.out] at hE
      obtain ⟨C, hCd⟩ : ∃ C, cutsL (firstP nc cs) = C := ⟨_, rfl⟩
      rw [hCd] at hE
      have hCl : Hid (C.length < 4611686018427387904) := by
        show C.length < _
        rw [← hCd]
        exact apart_cuts_len _ cs (by omega)
      have hCj : Hid (∀ a b, cutB a b (firstP nc cs) = !joinedB C a b) := fun a b => by rw [← hCd, joined_cuts]; simp
      clear hCd hlt
      go_wp2
      go_loopw [8, 9, 10] (fun al my c wr => ∃ j : Nat, al = .int .i64 (j : Int) ∧ my = .int .i64 (mayN C (firstP j ps) : Int) ∧ c = .int .i64 (j : Int) ∧ j ≤ kp ∧ Hid (NIn (fun k => k < N) N w b (sendAll C (firstP j ps)) wr)) (fun _ _ c _ => kp - (intOf c).toNat)
      case atStart => exact ⟨0, rfl, rfl, rfl, Nat.zero_le _, hE⟩
      case round =>
        obtain ⟨j, rfl, rfl, rfl, hj, hS⟩ := hrel
        clear hE
        by_cases hlt : j < kp
        · obtain ⟨⟨x, y⟩, hxy⟩ : ∃ p, ps[j]? = some p := ⟨_, List.getElem?_eq_getElem (by rw [HNP.out]; omega)⟩
          obtain ⟨g, o, rfl, k0, k1⟩ := (HP.out.below hS.out.below).cell j _ hxy
          have hsn := apart_sent C ps j (by have := KP.out; omega)
          have hst : sendAll C (firstP (j + 1) ps) = addN (sendAll C (firstP j ps)) (loI x) (loI y) bX := by
            rw [firstP_snoc ps j _ hxy, sendAll_snoc]; rfl
          have hmy : mayN C (firstP (j + 1) ps) = mayN C (firstP j ps) + if joinedB C (loI x) (loI y) then 1 else 0 := by
            rw [firstP_snoc ps j _ hxy, mayN_snoc]; rfl
          have hsl := (sent_ok C (firstP j ps) (firstP_ok j ps)).last
          have hfl := firstP_len j ps
          have hm0 : mayN C (firstP j ps) ≤ 40 := Nat.le_trans (List.length_filter_le _ _) (by rw [firstP_len]; have := KP.out; omega)
          have hC2 : Hid (Calls Try.prog 9 #[.pointer (some ⟨b, 0, none⟩), .int .i64 (loI x), .int .i64 (loI y), .slice (some ⟨wr.heap.size, 0, none⟩) 1 1] (wr.alloc (.cells #[.string ⟨#[120]⟩] 9)) fun e w' => e = .returned (.int .i64 1) ∧ Hid (NIn (fun k => k < N) N w b (sendAll C (firstP (j + 1) ps)) w')) := by
            refine (in_send hS.out (loI x) (loI y) [bX] (by simp) (by rw [hsl]; have := KP.out; omega)).mono ?_
            rintro e w' ⟨e1, e2⟩
            rw [hsn.1] at e1
            have e3 := e2.out.1
            rw [hsn.2, ← hst] at e3
            exact ⟨e1, e3⟩
          have bx : bits .and .i64 x 3 = loI x := rfl
          have bY : bits .and .i64 y 3 = loI y := rfl
          have hCa := hCj.out (loI x) (loI y)
          have HCa : Hid (cutB (loI x) (loI y) (firstP nc cs) = !joinedB C (loI x) (loI y)) := hCa
          have HMY : Hid (mayN C (firstP (j + 1) ps) = mayN C (firstP j ps) + if joinedB C (loI x) (loI y) then 1 else 0) := hmy
          have q1 : (j : Int) < (np : Int) := by omega
          have q2 : (j : Int) < 40 := by omega
          clear hS hst hxy HP hsn hmy hsl hfl hCa
          generalize loI x = lx at *
          generalize loI y = ly at *
          generalize mayN C (firstP j ps) = mj at *
          go_wp2_with (go_at_call 9; refine hC2.out.mono ?_; rintro e w3 ⟨rfl, h3⟩; clear hC2)
          go_loopw [13, 14] (fun ct c wr => ∃ k : Nat, ct = .bool (cutB lx ly (firstP k cs)) ∧ c = .int .i64 (k : Int) ∧ k ≤ nc ∧ wr = w3) (fun _ c _ => nc - (intOf c).toNat)
          case atStart => exact ⟨0, rfl, rfl, Nat.zero_le _, rfl⟩
          case round =>
            obtain ⟨k, rfl, rfl, hk, rfl⟩ := hrel
            clear q1 q2
            by_cases hlt2 : k < nc
            · obtain ⟨⟨x2, y2⟩, hxy2⟩ : ∃ p, cs[k]? = some p := ⟨_, List.getElem?_eq_getElem (by rw [HNC.out]; omega)⟩
              obtain ⟨g2, o2, rfl, z0, z1⟩ := (HC.out.below h3.out.below).cell k _ hxy2
              have hcb : cutB lx ly (firstP (k + 1) cs) = (cutB lx ly (firstP k cs) || (loI x2 != loI y2 && ((lx == loI x2 && ly == loI y2) || (lx == loI y2 && ly == loI x2)))) := by
                rw [firstP_snoc cs k _ hxy2]
                exact cutB_snoc _ _ _ _ _
              have HCB : Hid (cutB lx ly (firstP (k + 1) cs) = (cutB lx ly (firstP k cs) || (loI x2 != loI y2 && ((lx == loI x2 && ly == loI y2) || (lx == loI y2 && ly == loI x2))))) := hcb
              have bx2 : bits .and .i64 x2 3 = loI x2 := rfl
              have bY2 : bits .and .i64 y2 3 = loI y2 := rfl
              have q1 : (k : Int) < (nc : Int) := by omega
              have q2 : (k : Int) < 10 := by omega
              clear hcb hxy2
              generalize loI x2 = cx at *
              generalize loI y2 = cy at *
              generalize cutB lx ly (firstP k cs) = c0 at *
              have HMS : Hid (nc - (k + 1) < nc - k) := by
                show nc - (k + 1) < nc - k
                omega
              clear hM
              cases c0 with
              | true =>
                go_wp2
                go_roundw
                case rel => exact ⟨k + 1, by rw [HCB.out]; rfl, by simp, by omega, (by first | rfl | trivial)⟩
                case measure => simpa [intOf] using HMS.out
              | false =>
                by_cases e1 : cx = cy
                · subst e1
                  go_wp2
                  go_roundw
                  case rel => exact ⟨k + 1, by rw [HCB.out]; simp, by simp, by omega, (by first | rfl | trivial)⟩
                  case measure => simpa [intOf] using HMS.out
                · have f1 : (cx == cy) = false := beq_eq_false_iff_ne.2 e1
                  have f1' : (cx != cy) = true := by simp [bne, f1]
                  by_cases e2 : lx = cx
                  · have f2 : (lx == cx) = true := beq_iff_eq.2 e2
                    by_cases e3 : ly = cy
                    · have f3 : (ly == cy) = true := beq_iff_eq.2 e3
                      have HB : Hid (cutB lx ly (firstP (k + 1) cs) = true) := by
                        show _ = true
                        rw [HCB.out, f1', f2, f3]; rfl
                      clear HCB e1 e2 e3
                      go_wp2
                      go_roundw
                      case rel => exact ⟨k + 1, by rw [HB.out], by simp, by omega, (by first | rfl | trivial)⟩
                      case measure => simpa [intOf] using HMS.out
                    · have f3 : (ly == cy) = false := beq_eq_false_iff_ne.2 e3
                      have f4 : (lx == cy) = false := beq_eq_false_iff_ne.2 (fun q => e1 (e2.symm.trans q))
                      have HB : Hid (cutB lx ly (firstP (k + 1) cs) = false) := by
                        show _ = false
                        rw [HCB.out, f1', f2, f3, f4]; rfl
                      clear HCB e1 e2 e3
                      go_wp2
                      go_roundw
                      case rel => exact ⟨k + 1, by rw [HB.out], by simp, by omega, (by first | rfl | trivial)⟩
                      case measure => simpa [intOf] using HMS.out
                  · have f2 : (lx == cx) = false := beq_eq_false_iff_ne.2 e2
                    by_cases e3 : lx = cy
                    · have f3 : (lx == cy) = true := beq_iff_eq.2 e3
                      by_cases e4 : ly = cx
                      · have f4 : (ly == cx) = true := beq_iff_eq.2 e4
                        have HB : Hid (cutB lx ly (firstP (k + 1) cs) = true) := by
                          show _ = true
                          rw [HCB.out, f1', f2, f3, f4]; simp
                        clear HCB e1 e2 e3 e4
                        go_wp2
                        go_roundw
                        case rel => exact ⟨k + 1, by rw [HB.out], by simp, by omega, (by first | rfl | trivial)⟩
                        case measure => simpa [intOf] using HMS.out
                      · have f4 : (ly == cx) = false := beq_eq_false_iff_ne.2 e4
                        have HB : Hid (cutB lx ly (firstP (k + 1) cs) = false) := by
                          show _ = false
                          rw [HCB.out, f1', f2, f3, f4]; simp
                        clear HCB e1 e2 e3 e4
                        go_wp2
                        go_roundw
                        case rel => exact ⟨k + 1, by rw [HB.out], by simp, by omega, (by first | rfl | trivial)⟩
                        case measure => simpa [intOf] using HMS.out
                    · have f3 : (lx == cy) = false := beq_eq_false_iff_ne.2 e3
                      have HB : Hid (cutB lx ly (firstP (k + 1) cs) = false) := by
                        show _ = false
                        rw [HCB.out, f1', f2, f3]; simp
                      clear HCB e1 e2 e3
                      go_wp2
                      go_roundw
                      case rel => exact ⟨k + 1, by rw [HB.out], by simp, by omega, (by first | rfl | trivial)⟩
                      case measure => simpa [intOf] using HMS.out
            · have HK : Hid (k = nc) := by
                show k = nc
                omega
              have q1 : ¬ (k : Int) < (nc : Int) := by have := HK.out; omega
              have e0 : cutB lx ly (firstP k cs) = !joinedB C lx ly := by rw [HK.out]; exact HCa.out
              rw [e0]
              clear e0 hlt2
              cases hjb : joinedB C lx ly with
              | true =>
                have HMZ : Hid (mayN C (firstP (j + 1) ps) = mj + 1) := by
                  show _ = mj + 1
                  rw [HMY.out, hjb]; rfl
                clear hjb HCa HMY
                go_wp2
                go_roundw
                case rel => exact ⟨j + 1, by simp, by rw [HMZ.out]; simp, by simp, by omega, h3⟩
                case measure => simp [intOf]; omega
              | false =>
                have HMZ : Hid (mayN C (firstP (j + 1) ps) = mj) := by
                  show _ = mj
                  rw [HMY.out, hjb]; rfl
                clear hjb HCa HMY
                go_wp2
                go_roundw
                case rel => exact ⟨j + 1, by simp, by rw [HMZ.out], by simp, by omega, h3⟩
                case measure => simp [intOf]; omega
        · have HJ : Hid (j = kp) := by
            show j = kp
            omega
          have q1 : (j : Int) < (np : Int) := by have := HJ.out; have := KP.out; omega
          have q2 : ¬ (j : Int) < 40 := by have := HJ.out; have := KP.out; omega
          have hso := sent_ok C (firstP j ps) (firstP_ok j ps)
          have hj40 : j ≤ 40 := by omega
          have hfl : (firstP j ps).length = j := by rw [firstP_len, HNP.out]; omega
          have hT0 : Hid (TakeR C j (mayN C (firstP j ps)) 0 0 (sendAll C (firstP j ps))) := ⟨hso.cuts, hso.ok, by rw [hso.len, hfl]; rfl, hso.may, .inl rfl⟩
          have hmj : mayN C (firstP j ps) ≤ j := Nat.le_trans (List.length_filter_le _ _) (by rw [hfl]; exact Nat.le_refl _)
          have hS1 : Hid (∃ s, NIn (fun k => k < N) N w b s wr ∧ TakeR C j (mayN C (firstP j ps)) 0 0 s) := ⟨_, hS.out, hT0.out⟩
          clear hS hso hfl hT0 hlt
          generalize mayN C (firstP j ps) = mj at *
          go_wp2
          go_loopw [17, 18] (fun gt c wr => ∃ i got : Nat, gt = .int .i64 (got : Int) ∧ c = .int .i64 (i : Int) ∧ i ≤ j + 1 ∧ Hid (∃ s, NIn (fun k => k < N) N w b s wr ∧ TakeR C j mj i got s)) (fun _ c _ => j + 1 - (intOf c).toNat)
          case atStart => exact ⟨0, 0, rfl, rfl, Nat.zero_le _, hS1⟩
          case round =>
            obtain ⟨i2, got, rfl, rfl, hi2, hR⟩ := hrel
            clear hS1
            obtain ⟨s, hs1, hs2⟩ := hR.out
            have hgj : got ≤ j := by have := hs2.len; omega
            have HS1 : Hid (NIn (fun k => k < N) N w b s wr) := hs1
            have HS2 : Hid (TakeR C j mj i2 got s) := hs2
            clear hs1 hs2 hR
            by_cases hlt3 : i2 ≤ j
            · have hq : (i2 : Int) ≤ (j : Int) := by omega
              cases hpk : pickO s (i2 : Int) with
              | none =>
                have hT : Hid (Calls Try.prog 11 #[.pointer (some ⟨b, 0, none⟩), .int .i64 (i2 : Int)] wr fun e w' => e = .returned (.tuple #[.agg #[.int .i64 0, .int .i64 0, .int .i64 0, .string ⟨#[]⟩], .bool false]) ∧ Hid (NIn (fun k => k < N) N w b s w')) := (in_take_none HS1.out HS2.out.ok _ hpk).mono fun _ _ ⟨e1, e2⟩ => ⟨e1, e2.out.1⟩
                have hR2 : Hid (TakeR C j mj (i2 + 1) got s) := HS2.out.none hpk
                clear HS1 HS2 hpk
                go_wp2_with (go_at_call 11; refine hT.out.mono ?_; rintro e w4 ⟨rfl, h4⟩; clear hT)
                go_roundw
                case rel => exact ⟨i2 + 1, got, by simp, by simp, by omega, ⟨s, h4.out.alloc _, hR2.out⟩⟩
                case measure => simp [intOf]; omega
              | some im =>
                obtain ⟨jj, m1, m2, m3, m4⟩ := im
                have hT : Hid (Calls Try.prog 11 #[.pointer (some ⟨b, 0, none⟩), .int .i64 (i2 : Int)] wr fun e w' => e = .returned (.tuple #[.agg #[.int .i64 m1, .int .i64 m2, .int .i64 m3, .string m4], .bool true]) ∧ Hid (NIn (fun k => k < N) N w b (dropN s jj) w')) := (in_take_some HS1.out HS2.out.ok _ ((okI_iff _).2 (by omega)) jj _ hpk).mono fun _ _ ⟨e1, e2⟩ => ⟨e1, e2.out.1⟩
                have hR2 : Hid (TakeR C j mj (i2 + 1) (got + 1) (dropN s jj)) := HS2.out.some hpk
                clear HS1 HS2 hpk
                go_wp2_with (go_at_call 11; refine hT.out.mono ?_; rintro e w4 ⟨rfl, h4⟩; clear hT)
                go_roundw
                case rel => exact ⟨i2 + 1, got + 1, by simp, by simp, by omega, ⟨_, h4.out.alloc _, hR2.out⟩⟩
                case measure => simp [intOf]; omega
            · obtain rfl : i2 = j + 1 := by omega
              have hq : ¬ ((j : Int) + 1 ≤ (j : Int)) := by omega
              obtain ⟨d1, d2, d3, d4⟩ := HS2.out.done
              subst d1
              have hH : Hid (Calls Try.prog 13 #[.pointer (some ⟨b, 0, none⟩), .slice none 0 0] wr fun e w' => ∃ k, e = .returned (.int .i64 k) ∧ Hid (NIn (fun k => k < N) N w b (healN s []) w')) := (in_heal HS1.out (by rw [HS2.out.cuts]; exact hCl.out)).mono fun _ _ ⟨e1, e2⟩ => ⟨_, e1, e2.out.1⟩
              have hW : Hid (∀ W, Hid (NIn (fun k => k < N) N w b (healN s []) W) → Calls Try.prog 14 #[.pointer (some ⟨b, 0, none⟩), .slice none 0 0] W fun e w' => ∃ a c, e = .returned (.slice a (j - got) c) ∧ Hid (Below N w w')) := fun W h => (in_waits h.out d3).mono fun _ _ ⟨a, c, e1, e2⟩ => ⟨a, c, d2 ▸ e1, e2.out.1.below⟩
              have hsub : ((j - got : Nat) : Int) = (j : Int) - (got : Int) := by omega
              clear HS1 HS2 d2 d3
              go_wp2_with (first
                | (go_at_call 13; refine hH.out.mono ?_; rintro e w5 ⟨k5, rfl, h5⟩; clear hH)
                | (go_at_call 14; refine (hW.out w5 h5).mono ?_; rintro e w6 ⟨a6, c6, rfl, h6⟩; clear hW h5))
              go_ret
              exact ⟨rfl, h6.out⟩
set_option maxHeartbeats 6400000 in
set_option maxRecDepth 100000 in
theorem netApart_gtle (ps cs : List (Int × Int)) (hcv : 10 < cs.length) (hpv : ps.length ≤ 40) (hcl : cs.length ≤ maxLen) (vp vc : Value) (w : World) (hp : PairsAt w.heap.size w vp ps) (hc : PairsAt w.heap.size w vc cs) : Calls Try.prog 6 #[vp, vc] w fun e w' => e = .returned (.bool true) ∧ Below w.heap.size w w' := by
  have hM : maxLen = 9223372036854775807 := rfl
  obtain ⟨ap, cp, rfl⟩ := hp.len
  obtain ⟨ac, cc, rfl⟩ := hc.len
  obtain ⟨N, hN⟩ : ∃ N, w.heap.size = N := ⟨_, rfl⟩
  rw [hN] at hp hc ⊢
  have HP : Hid (PairsAt N w (.slice ap ps.length cp) ps) := hp
  have HC : Hid (PairsAt N w (.slice ac cs.length cc) cs) := hc
  have aw : Hid (Calls Try.prog 7 #[] w fun e w' => e = .returned (.bool true) ∧ Hid (Below N w w')) := hN ▸ awake_any w
  have HN : Hid (w.heap.size = N) := hN
  clear hN hp hc
  have hnew : Hid (∀ W, Hid (Below N w W) → Calls Try.prog 8 #[] W fun e w' => ∃ b, e = .returned (.pointer (some ⟨b, 0, none⟩)) ∧ Hid (NIn (fun k => k < N) N w b ⟨[], 0, cutsL (firstP 0 cs)⟩ w')) := fun W hW => (in_new W.heap.size W rfl).mono fun _ _ ⟨e1, e2, _⟩ => ⟨_, e1, by
    have hs : N ≤ W.heap.size := HN.out ▸ hW.out.size
    have h2 := e2.out
    exact ⟨h2.net.less fun k hk => Nat.lt_of_lt_of_le hk hs, hW.out.trans (h2.below.mono hs), fun k hk => hk⟩⟩
  generalize hnp : ps.length = np at *
  generalize hnc : cs.length = nc at *
  have HNP : Hid (ps.length = np) := hnp
  have HNC : Hid (cs.length = nc) := hnc
  clear hnp hnc
  obtain ⟨kc, hkc⟩ : ∃ kc, kc = 10 := ⟨_, rfl⟩
  have KC : Hid (kc = 10) := hkc
  have hkc10 : kc ≤ 10 := by omega
  have hkcn : kc < nc := by omega
  clear hkc
  have hkp40 : np ≤ 40 := hpv
  go_enter Try.func6, Try.ntmps6
  go_wp2_with (first
    | (go_at_call 7; refine aw.out.mono ?_; rintro e w1 ⟨rfl, h1⟩; clear aw)
    | (go_at_call 8; refine (hnew.out w1 h1).mono ?_; rintro e w2 ⟨b, rfl, h2⟩; clear hnew h1))
  go_loopw [7] (fun c wr => ∃ i : Nat, c = .int .i64 (i : Int) ∧ i ≤ kc ∧ Hid (NIn (fun k => k < N) N w b ⟨[], 0, cutsL (firstP i cs)⟩ wr)) (fun c _ => kc - (intOf c).toNat)
  case atStart => exact ⟨0, rfl, Nat.zero_le _, h2⟩
  case round =>
    obtain ⟨i, rfl, hi, hE⟩ := hrel
    clear h2
    by_cases hlt : i < kc
    · obtain ⟨⟨x, y⟩, hxy⟩ : ∃ p, cs[i]? = some p := ⟨_, List.getElem?_eq_getElem (by rw [HNC.out]; omega)⟩
      obtain ⟨g, o, rfl, k0, k1⟩ := (HC.out.below hE.out.below).cell i _ hxy
      have hcell : Hid (∀ W, Below N w W → W.cell? ⟨g, o + i * 2, none⟩ = some (.int .i64 x) ∧ W.cell? ⟨g, o + i * 2 + 1, none⟩ = some (.int .i64 y)) := fun W hW => by
        obtain ⟨g', o', e', z0, z1⟩ := (HC.out.below hW).cell i _ hxy
        cases e'
        exact ⟨z0, z1⟩
      have hst : cutsL (firstP (i + 1) cs) = cutL (cutsL (firstP i cs)) (loI x) (loI y) := by
        rw [firstP_snoc cs i _ hxy]
        exact cutsL_snoc _ _ _
      have hC2 : Hid (Calls Try.prog 10 #[.pointer (some ⟨b, 0, none⟩), .int .i64 (loI x), .int .i64 (loI y)] wr.drew fun e w' => e = .returned (.tuple #[]) ∧ Hid (NIn (fun k => k < N) N w b ⟨[], 0, cutsL (firstP (i + 1) cs)⟩ w')) := by
        have hE' : NIn (fun k => k < N) N w b ⟨[], 0, cutsL (firstP i cs)⟩ wr.drew := ⟨hE.out.net.drew, hE.out.below.drew, hE.out.low⟩
        refine (in_cut hE' (loI x) (loI y) (loI_ok x) (loI_ok y) (apart_cuts_len i cs (by have := KC.out; omega))).mono ?_
        rintro e w' ⟨e1, e2⟩
        exact ⟨e1, hst ▸ e2.out.1⟩
      have bx : bits .and .i64 x 3 = loI x := rfl
      have bY : bits .and .i64 y 3 = loI y := rfl
      have q1 : (i : Int) < (nc : Int) := by omega
      have q2 : (i : Int) < 10 := by omega
      clear hE hst hxy HC
      generalize loI x = lx at *
      generalize loI y = ly at *
      go_upto_region 8 with fail
      go_region_held3 (fun W => W.cell? ⟨g, o + i * 2, none⟩ = some (.int .i64 x) ∧ W.cell? ⟨g, o + i * 2 + 1, none⟩ = some (.int .i64 y)) (go_keep) (first | (go_at_call 10; refine hC2.out.mono ?_; rintro e w3 ⟨rfl, h3⟩; clear hC2; obtain ⟨z0, z1⟩ := hcell.out w3 h3.out.below))
      go_wp2
      go_roundw
      case rel => exact ⟨i + 1, by simp, by omega, h3⟩
      case measure => simp [intOf]; omega
    · have HI : Hid (i = kc) := by
        show i = kc
        omega
      have q1 : (i : Int) < (nc : Int) := by have := HI.out; have := KC.out; omega
      have q2 : ¬ (i : Int) < 10 := by have := HI.out; have := KC.out; omega
      rw [HI.out] at hE
      obtain ⟨C, hCd⟩ : ∃ C, cutsL (firstP kc cs) = C := ⟨_, rfl⟩
      rw [hCd] at hE
      have hCl : Hid (C.length < 4611686018427387904) := by
        show C.length < _
        rw [← hCd]
        exact apart_cuts_len _ cs (by have := KC.out; omega)
      have hCj : Hid (∀ a b, cutB a b (firstP kc cs) = !joinedB C a b) := fun a b => by rw [← hCd, joined_cuts]; simp
      clear hCd hlt
      go_wp2
      go_loopw [8, 9, 10] (fun al my c wr => ∃ j : Nat, al = .int .i64 (j : Int) ∧ my = .int .i64 (mayN C (firstP j ps) : Int) ∧ c = .int .i64 (j : Int) ∧ j ≤ np ∧ Hid (NIn (fun k => k < N) N w b (sendAll C (firstP j ps)) wr)) (fun _ _ c _ => np - (intOf c).toNat)
      case atStart => exact ⟨0, rfl, rfl, rfl, Nat.zero_le _, hE⟩
      case round =>
        obtain ⟨j, rfl, rfl, rfl, hj, hS⟩ := hrel
        clear hE
        by_cases hlt : j < np
        · obtain ⟨⟨x, y⟩, hxy⟩ : ∃ p, ps[j]? = some p := ⟨_, List.getElem?_eq_getElem (by rw [HNP.out]; omega)⟩
          obtain ⟨g, o, rfl, k0, k1⟩ := (HP.out.below hS.out.below).cell j _ hxy
          have hsn := apart_sent C ps j (by omega)
          have hst : sendAll C (firstP (j + 1) ps) = addN (sendAll C (firstP j ps)) (loI x) (loI y) bX := by
            rw [firstP_snoc ps j _ hxy, sendAll_snoc]; rfl
          have hmy : mayN C (firstP (j + 1) ps) = mayN C (firstP j ps) + if joinedB C (loI x) (loI y) then 1 else 0 := by
            rw [firstP_snoc ps j _ hxy, mayN_snoc]; rfl
          have hsl := (sent_ok C (firstP j ps) (firstP_ok j ps)).last
          have hfl := firstP_len j ps
          have hm0 : mayN C (firstP j ps) ≤ 40 := Nat.le_trans (List.length_filter_le _ _) (by rw [firstP_len]; omega)
          have hC2 : Hid (Calls Try.prog 9 #[.pointer (some ⟨b, 0, none⟩), .int .i64 (loI x), .int .i64 (loI y), .slice (some ⟨wr.heap.size, 0, none⟩) 1 1] (wr.alloc (.cells #[.string ⟨#[120]⟩] 9)) fun e w' => e = .returned (.int .i64 1) ∧ Hid (NIn (fun k => k < N) N w b (sendAll C (firstP (j + 1) ps)) w')) := by
            refine (in_send hS.out (loI x) (loI y) [bX] (by simp) (by rw [hsl]; omega)).mono ?_
            rintro e w' ⟨e1, e2⟩
            rw [hsn.1] at e1
            have e3 := e2.out.1
            rw [hsn.2, ← hst] at e3
            exact ⟨e1, e3⟩
          have bx : bits .and .i64 x 3 = loI x := rfl
          have bY : bits .and .i64 y 3 = loI y := rfl
          have hCa := hCj.out (loI x) (loI y)
          have HCa : Hid (cutB (loI x) (loI y) (firstP kc cs) = !joinedB C (loI x) (loI y)) := hCa
          have HMY : Hid (mayN C (firstP (j + 1) ps) = mayN C (firstP j ps) + if joinedB C (loI x) (loI y) then 1 else 0) := hmy
          have q1 : (j : Int) < (np : Int) := by omega
          have q2 : (j : Int) < 40 := by omega
          clear hS hst hxy HP hsn hmy hsl hfl hCa
          generalize loI x = lx at *
          generalize loI y = ly at *
          generalize mayN C (firstP j ps) = mj at *
          go_wp2_with (go_at_call 9; refine hC2.out.mono ?_; rintro e w3 ⟨rfl, h3⟩; clear hC2)
          go_loopw [13, 14] (fun ct c wr => ∃ k : Nat, ct = .bool (cutB lx ly (firstP k cs)) ∧ c = .int .i64 (k : Int) ∧ k ≤ kc ∧ wr = w3) (fun _ c _ => kc - (intOf c).toNat)
          case atStart => exact ⟨0, rfl, rfl, Nat.zero_le _, rfl⟩
          case round =>
            obtain ⟨k, rfl, rfl, hk, rfl⟩ := hrel
            clear q1 q2
            by_cases hlt2 : k < kc
            · obtain ⟨⟨x2, y2⟩, hxy2⟩ : ∃ p, cs[k]? = some p := ⟨_, List.getElem?_eq_getElem (by rw [HNC.out]; omega)⟩
              obtain ⟨g2, o2, rfl, z0, z1⟩ := (HC.out.below h3.out.below).cell k _ hxy2
              have hcb : cutB lx ly (firstP (k + 1) cs) = (cutB lx ly (firstP k cs) || (loI x2 != loI y2 && ((lx == loI x2 && ly == loI y2) || (lx == loI y2 && ly == loI x2)))) := by
                rw [firstP_snoc cs k _ hxy2]
                exact cutB_snoc _ _ _ _ _
              have HCB : Hid (cutB lx ly (firstP (k + 1) cs) = (cutB lx ly (firstP k cs) || (loI x2 != loI y2 && ((lx == loI x2 && ly == loI y2) || (lx == loI y2 && ly == loI x2))))) := hcb
              have bx2 : bits .and .i64 x2 3 = loI x2 := rfl
              have bY2 : bits .and .i64 y2 3 = loI y2 := rfl
              have q1 : (k : Int) < (nc : Int) := by omega
              have q2 : (k : Int) < 10 := by omega
              clear hcb hxy2
              generalize loI x2 = cx at *
              generalize loI y2 = cy at *
              generalize cutB lx ly (firstP k cs) = c0 at *
              have HMS : Hid (kc - (k + 1) < kc - k) := by
                show kc - (k + 1) < kc - k
                omega
              clear hM
              cases c0 with
              | true =>
                go_wp2
                go_roundw
                case rel => exact ⟨k + 1, by rw [HCB.out]; rfl, by simp, by omega, (by first | rfl | trivial)⟩
                case measure => simpa [intOf] using HMS.out
              | false =>
                by_cases e1 : cx = cy
                · subst e1
                  go_wp2
                  go_roundw
                  case rel => exact ⟨k + 1, by rw [HCB.out]; simp, by simp, by omega, (by first | rfl | trivial)⟩
                  case measure => simpa [intOf] using HMS.out
                · have f1 : (cx == cy) = false := beq_eq_false_iff_ne.2 e1
                  have f1' : (cx != cy) = true := by simp [bne, f1]
                  by_cases e2 : lx = cx
                  · have f2 : (lx == cx) = true := beq_iff_eq.2 e2
                    by_cases e3 : ly = cy
                    · have f3 : (ly == cy) = true := beq_iff_eq.2 e3
                      have HB : Hid (cutB lx ly (firstP (k + 1) cs) = true) := by
                        show _ = true
                        rw [HCB.out, f1', f2, f3]; rfl
                      clear HCB e1 e2 e3
                      go_wp2
                      go_roundw
                      case rel => exact ⟨k + 1, by rw [HB.out], by simp, by omega, (by first | rfl | trivial)⟩
                      case measure => simpa [intOf] using HMS.out
                    · have f3 : (ly == cy) = false := beq_eq_false_iff_ne.2 e3
                      have f4 : (lx == cy) = false := beq_eq_false_iff_ne.2 (fun q => e1 (e2.symm.trans q))
                      have HB : Hid (cutB lx ly (firstP (k + 1) cs) = false) := by
                        show _ = false
                        rw [HCB.out, f1', f2, f3, f4]; rfl
                      clear HCB e1 e2 e3
                      go_wp2
                      go_roundw
                      case rel => exact ⟨k + 1, by rw [HB.out], by simp, by omega, (by first | rfl | trivial)⟩
                      case measure => simpa [intOf] using HMS.out
                  · have f2 : (lx == cx) = false := beq_eq_false_iff_ne.2 e2
                    by_cases e3 : lx = cy
                    · have f3 : (lx == cy) = true := beq_iff_eq.2 e3
                      by_cases e4 : ly = cx
                      · have f4 : (ly == cx) = true := beq_iff_eq.2 e4
                        have HB : Hid (cutB lx ly (firstP (k + 1) cs) = true) := by
                          show _ = true
                          rw [HCB.out, f1', f2, f3, f4]; simp
                        clear HCB e1 e2 e3 e4
                        go_wp2
                        go_roundw
                        case rel => exact ⟨k + 1, by rw [HB.out], by simp, by omega, (by first | rfl | trivial)⟩
                        case measure => simpa [intOf] using HMS.out
                      · have f4 : (ly == cx) = false := beq_eq_false_iff_ne.2 e4
                        have HB : Hid (cutB lx ly (firstP (k + 1) cs) = false) := by
                          show _ = false
                          rw [HCB.out, f1', f2, f3, f4]; simp
                        clear HCB e1 e2 e3 e4
                        go_wp2
                        go_roundw
                        case rel => exact ⟨k + 1, by rw [HB.out], by simp, by omega, (by first | rfl | trivial)⟩
                        case measure => simpa [intOf] using HMS.out
                    · have f3 : (lx == cy) = false := beq_eq_false_iff_ne.2 e3
                      have HB : Hid (cutB lx ly (firstP (k + 1) cs) = false) := by
                        show _ = false
                        rw [HCB.out, f1', f2, f3]; simp
                      clear HCB e1 e2 e3
                      go_wp2
                      go_roundw
                      case rel => exact ⟨k + 1, by rw [HB.out], by simp, by omega, (by first | rfl | trivial)⟩
                      case measure => simpa [intOf] using HMS.out
            · have HK : Hid (k = kc) := by
                show k = kc
                omega
              have q1 : (k : Int) < (nc : Int) := by have := HK.out; have := KC.out; omega
              have q2 : ¬ (k : Int) < 10 := by have := HK.out; have := KC.out; omega
              have e0 : cutB lx ly (firstP k cs) = !joinedB C lx ly := by rw [HK.out]; exact HCa.out
              rw [e0]
              clear e0 hlt2
              cases hjb : joinedB C lx ly with
              | true =>
                have HMZ : Hid (mayN C (firstP (j + 1) ps) = mj + 1) := by
                  show _ = mj + 1
                  rw [HMY.out, hjb]; rfl
                clear hjb HCa HMY
                go_wp2
                go_roundw
                case rel => exact ⟨j + 1, by simp, by rw [HMZ.out]; simp, by simp, by omega, h3⟩
                case measure => simp [intOf]; omega
              | false =>
                have HMZ : Hid (mayN C (firstP (j + 1) ps) = mj) := by
                  show _ = mj
                  rw [HMY.out, hjb]; rfl
                clear hjb HCa HMY
                go_wp2
                go_roundw
                case rel => exact ⟨j + 1, by simp, by rw [HMZ.out], by simp, by omega, h3⟩
                case measure => simp [intOf]; omega
        · have HJ : Hid (j = np) := by
            show j = np
            omega
          have q1 : ¬ (j : Int) < (np : Int) := by have := HJ.out; omega
          have hso := sent_ok C (firstP j ps) (firstP_ok j ps)
          have hj40 : j ≤ 40 := by omega
          have hfl : (firstP j ps).length = j := by rw [firstP_len, HNP.out]; omega
          have hT0 : Hid (TakeR C j (mayN C (firstP j ps)) 0 0 (sendAll C (firstP j ps))) := ⟨hso.cuts, hso.ok, by rw [hso.len, hfl]; rfl, hso.may, .inl rfl⟩
          have hmj : mayN C (firstP j ps) ≤ j := Nat.le_trans (List.length_filter_le _ _) (by rw [hfl]; exact Nat.le_refl _)
          have hS1 : Hid (∃ s, NIn (fun k => k < N) N w b s wr ∧ TakeR C j (mayN C (firstP j ps)) 0 0 s) := ⟨_, hS.out, hT0.out⟩
          clear hS hso hfl hT0 hlt
          generalize mayN C (firstP j ps) = mj at *
          go_wp2
          go_loopw [17, 18] (fun gt c wr => ∃ i got : Nat, gt = .int .i64 (got : Int) ∧ c = .int .i64 (i : Int) ∧ i ≤ j + 1 ∧ Hid (∃ s, NIn (fun k => k < N) N w b s wr ∧ TakeR C j mj i got s)) (fun _ c _ => j + 1 - (intOf c).toNat)
          case atStart => exact ⟨0, 0, rfl, rfl, Nat.zero_le _, hS1⟩
          case round =>
            obtain ⟨i2, got, rfl, rfl, hi2, hR⟩ := hrel
            clear hS1
            obtain ⟨s, hs1, hs2⟩ := hR.out
            have hgj : got ≤ j := by have := hs2.len; omega
            have HS1 : Hid (NIn (fun k => k < N) N w b s wr) := hs1
            have HS2 : Hid (TakeR C j mj i2 got s) := hs2
            clear hs1 hs2 hR
            by_cases hlt3 : i2 ≤ j
            · have hq : (i2 : Int) ≤ (j : Int) := by omega
              cases hpk : pickO s (i2 : Int) with
              | none =>
                have hT : Hid (Calls Try.prog 11 #[.pointer (some ⟨b, 0, none⟩), .int .i64 (i2 : Int)] wr fun e w' => e = .returned (.tuple #[.agg #[.int .i64 0, .int .i64 0, .int .i64 0, .string ⟨#[]⟩], .bool false]) ∧ Hid (NIn (fun k => k < N) N w b s w')) := (in_take_none HS1.out HS2.out.ok _ hpk).mono fun _ _ ⟨e1, e2⟩ => ⟨e1, e2.out.1⟩
                have hR2 : Hid (TakeR C j mj (i2 + 1) got s) := HS2.out.none hpk
                clear HS1 HS2 hpk
                go_wp2_with (go_at_call 11; refine hT.out.mono ?_; rintro e w4 ⟨rfl, h4⟩; clear hT)
                go_roundw
                case rel => exact ⟨i2 + 1, got, by simp, by simp, by omega, ⟨s, h4.out.alloc _, hR2.out⟩⟩
                case measure => simp [intOf]; omega
              | some im =>
                obtain ⟨jj, m1, m2, m3, m4⟩ := im
                have hT : Hid (Calls Try.prog 11 #[.pointer (some ⟨b, 0, none⟩), .int .i64 (i2 : Int)] wr fun e w' => e = .returned (.tuple #[.agg #[.int .i64 m1, .int .i64 m2, .int .i64 m3, .string m4], .bool true]) ∧ Hid (NIn (fun k => k < N) N w b (dropN s jj) w')) := (in_take_some HS1.out HS2.out.ok _ ((okI_iff _).2 (by omega)) jj _ hpk).mono fun _ _ ⟨e1, e2⟩ => ⟨e1, e2.out.1⟩
                have hR2 : Hid (TakeR C j mj (i2 + 1) (got + 1) (dropN s jj)) := HS2.out.some hpk
                clear HS1 HS2 hpk
                go_wp2_with (go_at_call 11; refine hT.out.mono ?_; rintro e w4 ⟨rfl, h4⟩; clear hT)
                go_roundw
                case rel => exact ⟨i2 + 1, got + 1, by simp, by simp, by omega, ⟨_, h4.out.alloc _, hR2.out⟩⟩
                case measure => simp [intOf]; omega
            · obtain rfl : i2 = j + 1 := by omega
              have hq : ¬ ((j : Int) + 1 ≤ (j : Int)) := by omega
              obtain ⟨d1, d2, d3, d4⟩ := HS2.out.done
              subst d1
              have hH : Hid (Calls Try.prog 13 #[.pointer (some ⟨b, 0, none⟩), .slice none 0 0] wr fun e w' => ∃ k, e = .returned (.int .i64 k) ∧ Hid (NIn (fun k => k < N) N w b (healN s []) w')) := (in_heal HS1.out (by rw [HS2.out.cuts]; exact hCl.out)).mono fun _ _ ⟨e1, e2⟩ => ⟨_, e1, e2.out.1⟩
              have hW : Hid (∀ W, Hid (NIn (fun k => k < N) N w b (healN s []) W) → Calls Try.prog 14 #[.pointer (some ⟨b, 0, none⟩), .slice none 0 0] W fun e w' => ∃ a c, e = .returned (.slice a (j - got) c) ∧ Hid (Below N w w')) := fun W h => (in_waits h.out d3).mono fun _ _ ⟨a, c, e1, e2⟩ => ⟨a, c, d2 ▸ e1, e2.out.1.below⟩
              have hsub : ((j - got : Nat) : Int) = (j : Int) - (got : Int) := by omega
              clear HS1 HS2 d2 d3
              go_wp2_with (first
                | (go_at_call 13; refine hH.out.mono ?_; rintro e w5 ⟨k5, rfl, h5⟩; clear hH)
                | (go_at_call 14; refine (hW.out w5 h5).mono ?_; rintro e w6 ⟨a6, c6, rfl, h6⟩; clear hW h5))
              go_ret
              exact ⟨rfl, h6.out⟩
set_option maxHeartbeats 6400000 in
set_option maxRecDepth 100000 in
theorem netApart_gtgt (ps cs : List (Int × Int)) (hcv : 10 < cs.length) (hpv : 40 < ps.length) (hpl : ps.length ≤ maxLen) (hcl : cs.length ≤ maxLen) (vp vc : Value) (w : World) (hp : PairsAt w.heap.size w vp ps) (hc : PairsAt w.heap.size w vc cs) : Calls Try.prog 6 #[vp, vc] w fun e w' => e = .returned (.bool true) ∧ Below w.heap.size w w' := by
  have hM : maxLen = 9223372036854775807 := rfl
  obtain ⟨ap, cp, rfl⟩ := hp.len
  obtain ⟨ac, cc, rfl⟩ := hc.len
  obtain ⟨N, hN⟩ : ∃ N, w.heap.size = N := ⟨_, rfl⟩
  rw [hN] at hp hc ⊢
  have HP : Hid (PairsAt N w (.slice ap ps.length cp) ps) := hp
  have HC : Hid (PairsAt N w (.slice ac cs.length cc) cs) := hc
  have aw : Hid (Calls Try.prog 7 #[] w fun e w' => e = .returned (.bool true) ∧ Hid (Below N w w')) := hN ▸ awake_any w
  have HN : Hid (w.heap.size = N) := hN
  clear hN hp hc
  have hnew : Hid (∀ W, Hid (Below N w W) → Calls Try.prog 8 #[] W fun e w' => ∃ b, e = .returned (.pointer (some ⟨b, 0, none⟩)) ∧ Hid (NIn (fun k => k < N) N w b ⟨[], 0, cutsL (firstP 0 cs)⟩ w')) := fun W hW => (in_new W.heap.size W rfl).mono fun _ _ ⟨e1, e2, _⟩ => ⟨_, e1, by
    have hs : N ≤ W.heap.size := HN.out ▸ hW.out.size
    have h2 := e2.out
    exact ⟨h2.net.less fun k hk => Nat.lt_of_lt_of_le hk hs, hW.out.trans (h2.below.mono hs), fun k hk => hk⟩⟩
  generalize hnp : ps.length = np at *
  generalize hnc : cs.length = nc at *
  have HNP : Hid (ps.length = np) := hnp
  have HNC : Hid (cs.length = nc) := hnc
  clear hnp hnc
  obtain ⟨kc, hkc⟩ : ∃ kc, kc = 10 := ⟨_, rfl⟩
  have KC : Hid (kc = 10) := hkc
  have hkc10 : kc ≤ 10 := by omega
  have hkcn : kc < nc := by omega
  clear hkc
  obtain ⟨kp, hkp⟩ : ∃ kp, kp = 40 := ⟨_, rfl⟩
  have KP : Hid (kp = 40) := hkp
  have hkp40 : kp ≤ 40 := by omega
  have hkpn : kp < np := by omega
  clear hkp
  go_enter Try.func6, Try.ntmps6
  go_wp2_with (first
    | (go_at_call 7; refine aw.out.mono ?_; rintro e w1 ⟨rfl, h1⟩; clear aw)
    | (go_at_call 8; refine (hnew.out w1 h1).mono ?_; rintro e w2 ⟨b, rfl, h2⟩; clear hnew h1))
  go_loopw [7] (fun c wr => ∃ i : Nat, c = .int .i64 (i : Int) ∧ i ≤ kc ∧ Hid (NIn (fun k => k < N) N w b ⟨[], 0, cutsL (firstP i cs)⟩ wr)) (fun c _ => kc - (intOf c).toNat)
  case atStart => exact ⟨0, rfl, Nat.zero_le _, h2⟩
  case round =>
    obtain ⟨i, rfl, hi, hE⟩ := hrel
    clear h2
    by_cases hlt : i < kc
    · obtain ⟨⟨x, y⟩, hxy⟩ : ∃ p, cs[i]? = some p := ⟨_, List.getElem?_eq_getElem (by rw [HNC.out]; omega)⟩
      obtain ⟨g, o, rfl, k0, k1⟩ := (HC.out.below hE.out.below).cell i _ hxy
      have hcell : Hid (∀ W, Below N w W → W.cell? ⟨g, o + i * 2, none⟩ = some (.int .i64 x) ∧ W.cell? ⟨g, o + i * 2 + 1, none⟩ = some (.int .i64 y)) := fun W hW => by
        obtain ⟨g', o', e', z0, z1⟩ := (HC.out.below hW).cell i _ hxy
        cases e'
        exact ⟨z0, z1⟩
      have hst : cutsL (firstP (i + 1) cs) = cutL (cutsL (firstP i cs)) (loI x) (loI y) := by
        rw [firstP_snoc cs i _ hxy]
        exact cutsL_snoc _ _ _
      have hC2 : Hid (Calls Try.prog 10 #[.pointer (some ⟨b, 0, none⟩), .int .i64 (loI x), .int .i64 (loI y)] wr.drew fun e w' => e = .returned (.tuple #[]) ∧ Hid (NIn (fun k => k < N) N w b ⟨[], 0, cutsL (firstP (i + 1) cs)⟩ w')) := by
        have hE' : NIn (fun k => k < N) N w b ⟨[], 0, cutsL (firstP i cs)⟩ wr.drew := ⟨hE.out.net.drew, hE.out.below.drew, hE.out.low⟩
        refine (in_cut hE' (loI x) (loI y) (loI_ok x) (loI_ok y) (apart_cuts_len i cs (by have := KC.out; omega))).mono ?_
        rintro e w' ⟨e1, e2⟩
        exact ⟨e1, hst ▸ e2.out.1⟩
      have bx : bits .and .i64 x 3 = loI x := rfl
      have bY : bits .and .i64 y 3 = loI y := rfl
      have q1 : (i : Int) < (nc : Int) := by omega
      have q2 : (i : Int) < 10 := by omega
      clear hE hst hxy HC
      generalize loI x = lx at *
      generalize loI y = ly at *
      go_upto_region 8 with fail
      go_region_held3 (fun W => W.cell? ⟨g, o + i * 2, none⟩ = some (.int .i64 x) ∧ W.cell? ⟨g, o + i * 2 + 1, none⟩ = some (.int .i64 y)) (go_keep) (first | (go_at_call 10; refine hC2.out.mono ?_; rintro e w3 ⟨rfl, h3⟩; clear hC2; obtain ⟨z0, z1⟩ := hcell.out w3 h3.out.below))
      go_wp2
      go_roundw
      case rel => exact ⟨i + 1, by simp, by omega, h3⟩
      case measure => simp [intOf]; omega
    · have HI : Hid (i = kc) := by
        show i = kc
        omega
      have q1 : (i : Int) < (nc : Int) := by have := HI.out; have := KC.out; omega
      have q2 : ¬ (i : Int) < 10 := by have := HI.out; have := KC.out; omega
      rw [HI.out] at hE
      obtain ⟨C, hCd⟩ : ∃ C, cutsL (firstP kc cs) = C := ⟨_, rfl⟩
      rw [hCd] at hE
      have hCl : Hid (C.length < 4611686018427387904) := by
        show C.length < _
        rw [← hCd]
        exact apart_cuts_len _ cs (by have := KC.out; omega)
      have hCj : Hid (∀ a b, cutB a b (firstP kc cs) = !joinedB C a b) := fun a b => by rw [← hCd, joined_cuts]; simp
      clear hCd hlt
      go_wp2
      go_loopw [8, 9, 10] (fun al my c wr => ∃ j : Nat, al = .int .i64 (j : Int) ∧ my = .int .i64 (mayN C (firstP j ps) : Int) ∧ c = .int .i64 (j : Int) ∧ j ≤ kp ∧ Hid (NIn (fun k => k < N) N w b (sendAll C (firstP j ps)) wr)) (fun _ _ c _ => kp - (intOf c).toNat)
      case atStart => exact ⟨0, rfl, rfl, rfl, Nat.zero_le _, hE⟩
      case round =>
        obtain ⟨j, rfl, rfl, rfl, hj, hS⟩ := hrel
        clear hE
        by_cases hlt : j < kp
        · obtain ⟨⟨x, y⟩, hxy⟩ : ∃ p, ps[j]? = some p := ⟨_, List.getElem?_eq_getElem (by rw [HNP.out]; omega)⟩
          obtain ⟨g, o, rfl, k0, k1⟩ := (HP.out.below hS.out.below).cell j _ hxy
          have hsn := apart_sent C ps j (by have := KP.out; omega)
          have hst : sendAll C (firstP (j + 1) ps) = addN (sendAll C (firstP j ps)) (loI x) (loI y) bX := by
            rw [firstP_snoc ps j _ hxy, sendAll_snoc]; rfl
          have hmy : mayN C (firstP (j + 1) ps) = mayN C (firstP j ps) + if joinedB C (loI x) (loI y) then 1 else 0 := by
            rw [firstP_snoc ps j _ hxy, mayN_snoc]; rfl
          have hsl := (sent_ok C (firstP j ps) (firstP_ok j ps)).last
          have hfl := firstP_len j ps
          have hm0 : mayN C (firstP j ps) ≤ 40 := Nat.le_trans (List.length_filter_le _ _) (by rw [firstP_len]; have := KP.out; omega)
          have hC2 : Hid (Calls Try.prog 9 #[.pointer (some ⟨b, 0, none⟩), .int .i64 (loI x), .int .i64 (loI y), .slice (some ⟨wr.heap.size, 0, none⟩) 1 1] (wr.alloc (.cells #[.string ⟨#[120]⟩] 9)) fun e w' => e = .returned (.int .i64 1) ∧ Hid (NIn (fun k => k < N) N w b (sendAll C (firstP (j + 1) ps)) w')) := by
            refine (in_send hS.out (loI x) (loI y) [bX] (by simp) (by rw [hsl]; have := KP.out; omega)).mono ?_
            rintro e w' ⟨e1, e2⟩
            rw [hsn.1] at e1
            have e3 := e2.out.1
            rw [hsn.2, ← hst] at e3
            exact ⟨e1, e3⟩
          have bx : bits .and .i64 x 3 = loI x := rfl
          have bY : bits .and .i64 y 3 = loI y := rfl
          have hCa := hCj.out (loI x) (loI y)
          have HCa : Hid (cutB (loI x) (loI y) (firstP kc cs) = !joinedB C (loI x) (loI y)) := hCa
          have HMY : Hid (mayN C (firstP (j + 1) ps) = mayN C (firstP j ps) + if joinedB C (loI x) (loI y) then 1 else 0) := hmy
          have q1 : (j : Int) < (np : Int) := by omega
          have q2 : (j : Int) < 40 := by omega
          clear hS hst hxy HP hsn hmy hsl hfl hCa
          generalize loI x = lx at *
          generalize loI y = ly at *
          generalize mayN C (firstP j ps) = mj at *
          go_wp2_with (go_at_call 9; refine hC2.out.mono ?_; rintro e w3 ⟨rfl, h3⟩; clear hC2)
          go_loopw [13, 14] (fun ct c wr => ∃ k : Nat, ct = .bool (cutB lx ly (firstP k cs)) ∧ c = .int .i64 (k : Int) ∧ k ≤ kc ∧ wr = w3) (fun _ c _ => kc - (intOf c).toNat)
          case atStart => exact ⟨0, rfl, rfl, Nat.zero_le _, rfl⟩
          case round =>
            obtain ⟨k, rfl, rfl, hk, rfl⟩ := hrel
            clear q1 q2
            by_cases hlt2 : k < kc
            · obtain ⟨⟨x2, y2⟩, hxy2⟩ : ∃ p, cs[k]? = some p := ⟨_, List.getElem?_eq_getElem (by rw [HNC.out]; omega)⟩
              obtain ⟨g2, o2, rfl, z0, z1⟩ := (HC.out.below h3.out.below).cell k _ hxy2
              have hcb : cutB lx ly (firstP (k + 1) cs) = (cutB lx ly (firstP k cs) || (loI x2 != loI y2 && ((lx == loI x2 && ly == loI y2) || (lx == loI y2 && ly == loI x2)))) := by
                rw [firstP_snoc cs k _ hxy2]
                exact cutB_snoc _ _ _ _ _
              have HCB : Hid (cutB lx ly (firstP (k + 1) cs) = (cutB lx ly (firstP k cs) || (loI x2 != loI y2 && ((lx == loI x2 && ly == loI y2) || (lx == loI y2 && ly == loI x2))))) := hcb
              have bx2 : bits .and .i64 x2 3 = loI x2 := rfl
              have bY2 : bits .and .i64 y2 3 = loI y2 := rfl
              have q1 : (k : Int) < (nc : Int) := by omega
              have q2 : (k : Int) < 10 := by omega
              clear hcb hxy2
              generalize loI x2 = cx at *
              generalize loI y2 = cy at *
              generalize cutB lx ly (firstP k cs) = c0 at *
              have HMS : Hid (kc - (k + 1) < kc - k) := by
                show kc - (k + 1) < kc - k
                omega
              clear hM
              cases c0 with
              | true =>
                go_wp2
                go_roundw
                case rel => exact ⟨k + 1, by rw [HCB.out]; rfl, by simp, by omega, (by first | rfl | trivial)⟩
                case measure => simpa [intOf] using HMS.out
              | false =>
                by_cases e1 : cx = cy
                · subst e1
                  go_wp2
                  go_roundw
                  case rel => exact ⟨k + 1, by rw [HCB.out]; simp, by simp, by omega, (by first | rfl | trivial)⟩
                  case measure => simpa [intOf] using HMS.out
                · have f1 : (cx == cy) = false := beq_eq_false_iff_ne.2 e1
                  have f1' : (cx != cy) = true := by simp [bne, f1]
                  by_cases e2 : lx = cx
                  · have f2 : (lx == cx) = true := beq_iff_eq.2 e2
                    by_cases e3 : ly = cy
                    · have f3 : (ly == cy) = true := beq_iff_eq.2 e3
                      have HB : Hid (cutB lx ly (firstP (k + 1) cs) = true) := by
                        show _ = true
                        rw [HCB.out, f1', f2, f3]; rfl
                      clear HCB e1 e2 e3
                      go_wp2
                      go_roundw
                      case rel => exact ⟨k + 1, by rw [HB.out], by simp, by omega, (by first | rfl | trivial)⟩
                      case measure => simpa [intOf] using HMS.out
                    · have f3 : (ly == cy) = false := beq_eq_false_iff_ne.2 e3
                      have f4 : (lx == cy) = false := beq_eq_false_iff_ne.2 (fun q => e1 (e2.symm.trans q))
                      have HB : Hid (cutB lx ly (firstP (k + 1) cs) = false) := by
                        show _ = false
                        rw [HCB.out, f1', f2, f3, f4]; rfl
                      clear HCB e1 e2 e3
                      go_wp2
                      go_roundw
                      case rel => exact ⟨k + 1, by rw [HB.out], by simp, by omega, (by first | rfl | trivial)⟩
                      case measure => simpa [intOf] using HMS.out
                  · have f2 : (lx == cx) = false := beq_eq_false_iff_ne.2 e2
                    by_cases e3 : lx = cy
                    · have f3 : (lx == cy) = true := beq_iff_eq.2 e3
                      by_cases e4 : ly = cx
                      · have f4 : (ly == cx) = true := beq_iff_eq.2 e4
                        have HB : Hid (cutB lx ly (firstP (k + 1) cs) = true) := by
                          show _ = true
                          rw [HCB.out, f1', f2, f3, f4]; simp
                        clear HCB e1 e2 e3 e4
                        go_wp2
                        go_roundw
                        case rel => exact ⟨k + 1, by rw [HB.out], by simp, by omega, (by first | rfl | trivial)⟩
                        case measure => simpa [intOf] using HMS.out
                      · have f4 : (ly == cx) = false := beq_eq_false_iff_ne.2 e4
                        have HB : Hid (cutB lx ly (firstP (k + 1) cs) = false) := by
                          show _ = false
                          rw [HCB.out, f1', f2, f3, f4]; simp
                        clear HCB e1 e2 e3 e4
                        go_wp2
                        go_roundw
                        case rel => exact ⟨k + 1, by rw [HB.out], by simp, by omega, (by first | rfl | trivial)⟩
                        case measure => simpa [intOf] using HMS.out
                    · have f3 : (lx == cy) = false := beq_eq_false_iff_ne.2 e3
                      have HB : Hid (cutB lx ly (firstP (k + 1) cs) = false) := by
                        show _ = false
                        rw [HCB.out, f1', f2, f3]; simp
                      clear HCB e1 e2 e3
                      go_wp2
                      go_roundw
                      case rel => exact ⟨k + 1, by rw [HB.out], by simp, by omega, (by first | rfl | trivial)⟩
                      case measure => simpa [intOf] using HMS.out
            · have HK : Hid (k = kc) := by
                show k = kc
                omega
              have q1 : (k : Int) < (nc : Int) := by have := HK.out; have := KC.out; omega
              have q2 : ¬ (k : Int) < 10 := by have := HK.out; have := KC.out; omega
              have e0 : cutB lx ly (firstP k cs) = !joinedB C lx ly := by rw [HK.out]; exact HCa.out
              rw [e0]
              clear e0 hlt2
              cases hjb : joinedB C lx ly with
              | true =>
                have HMZ : Hid (mayN C (firstP (j + 1) ps) = mj + 1) := by
                  show _ = mj + 1
                  rw [HMY.out, hjb]; rfl
                clear hjb HCa HMY
                go_wp2
                go_roundw
                case rel => exact ⟨j + 1, by simp, by rw [HMZ.out]; simp, by simp, by omega, h3⟩
                case measure => simp [intOf]; omega
              | false =>
                have HMZ : Hid (mayN C (firstP (j + 1) ps) = mj) := by
                  show _ = mj
                  rw [HMY.out, hjb]; rfl
                clear hjb HCa HMY
                go_wp2
                go_roundw
                case rel => exact ⟨j + 1, by simp, by rw [HMZ.out], by simp, by omega, h3⟩
                case measure => simp [intOf]; omega
        · have HJ : Hid (j = kp) := by
            show j = kp
            omega
          have q1 : (j : Int) < (np : Int) := by have := HJ.out; have := KP.out; omega
          have q2 : ¬ (j : Int) < 40 := by have := HJ.out; have := KP.out; omega
          have hso := sent_ok C (firstP j ps) (firstP_ok j ps)
          have hj40 : j ≤ 40 := by omega
          have hfl : (firstP j ps).length = j := by rw [firstP_len, HNP.out]; omega
          have hT0 : Hid (TakeR C j (mayN C (firstP j ps)) 0 0 (sendAll C (firstP j ps))) := ⟨hso.cuts, hso.ok, by rw [hso.len, hfl]; rfl, hso.may, .inl rfl⟩
          have hmj : mayN C (firstP j ps) ≤ j := Nat.le_trans (List.length_filter_le _ _) (by rw [hfl]; exact Nat.le_refl _)
          have hS1 : Hid (∃ s, NIn (fun k => k < N) N w b s wr ∧ TakeR C j (mayN C (firstP j ps)) 0 0 s) := ⟨_, hS.out, hT0.out⟩
          clear hS hso hfl hT0 hlt
          generalize mayN C (firstP j ps) = mj at *
          go_wp2
          go_loopw [17, 18] (fun gt c wr => ∃ i got : Nat, gt = .int .i64 (got : Int) ∧ c = .int .i64 (i : Int) ∧ i ≤ j + 1 ∧ Hid (∃ s, NIn (fun k => k < N) N w b s wr ∧ TakeR C j mj i got s)) (fun _ c _ => j + 1 - (intOf c).toNat)
          case atStart => exact ⟨0, 0, rfl, rfl, Nat.zero_le _, hS1⟩
          case round =>
            obtain ⟨i2, got, rfl, rfl, hi2, hR⟩ := hrel
            clear hS1
            obtain ⟨s, hs1, hs2⟩ := hR.out
            have hgj : got ≤ j := by have := hs2.len; omega
            have HS1 : Hid (NIn (fun k => k < N) N w b s wr) := hs1
            have HS2 : Hid (TakeR C j mj i2 got s) := hs2
            clear hs1 hs2 hR
            by_cases hlt3 : i2 ≤ j
            · have hq : (i2 : Int) ≤ (j : Int) := by omega
              cases hpk : pickO s (i2 : Int) with
              | none =>
                have hT : Hid (Calls Try.prog 11 #[.pointer (some ⟨b, 0, none⟩), .int .i64 (i2 : Int)] wr fun e w' => e = .returned (.tuple #[.agg #[.int .i64 0, .int .i64 0, .int .i64 0, .string ⟨#[]⟩], .bool false]) ∧ Hid (NIn (fun k => k < N) N w b s w')) := (in_take_none HS1.out HS2.out.ok _ hpk).mono fun _ _ ⟨e1, e2⟩ => ⟨e1, e2.out.1⟩
                have hR2 : Hid (TakeR C j mj (i2 + 1) got s) := HS2.out.none hpk
                clear HS1 HS2 hpk
                go_wp2_with (go_at_call 11; refine hT.out.mono ?_; rintro e w4 ⟨rfl, h4⟩; clear hT)
                go_roundw
                case rel => exact ⟨i2 + 1, got, by simp, by simp, by omega, ⟨s, h4.out.alloc _, hR2.out⟩⟩
                case measure => simp [intOf]; omega
              | some im =>
                obtain ⟨jj, m1, m2, m3, m4⟩ := im
                have hT : Hid (Calls Try.prog 11 #[.pointer (some ⟨b, 0, none⟩), .int .i64 (i2 : Int)] wr fun e w' => e = .returned (.tuple #[.agg #[.int .i64 m1, .int .i64 m2, .int .i64 m3, .string m4], .bool true]) ∧ Hid (NIn (fun k => k < N) N w b (dropN s jj) w')) := (in_take_some HS1.out HS2.out.ok _ ((okI_iff _).2 (by omega)) jj _ hpk).mono fun _ _ ⟨e1, e2⟩ => ⟨e1, e2.out.1⟩
                have hR2 : Hid (TakeR C j mj (i2 + 1) (got + 1) (dropN s jj)) := HS2.out.some hpk
                clear HS1 HS2 hpk
                go_wp2_with (go_at_call 11; refine hT.out.mono ?_; rintro e w4 ⟨rfl, h4⟩; clear hT)
                go_roundw
                case rel => exact ⟨i2 + 1, got + 1, by simp, by simp, by omega, ⟨_, h4.out.alloc _, hR2.out⟩⟩
                case measure => simp [intOf]; omega
            · obtain rfl : i2 = j + 1 := by omega
              have hq : ¬ ((j : Int) + 1 ≤ (j : Int)) := by omega
              obtain ⟨d1, d2, d3, d4⟩ := HS2.out.done
              subst d1
              have hH : Hid (Calls Try.prog 13 #[.pointer (some ⟨b, 0, none⟩), .slice none 0 0] wr fun e w' => ∃ k, e = .returned (.int .i64 k) ∧ Hid (NIn (fun k => k < N) N w b (healN s []) w')) := (in_heal HS1.out (by rw [HS2.out.cuts]; exact hCl.out)).mono fun _ _ ⟨e1, e2⟩ => ⟨_, e1, e2.out.1⟩
              have hW : Hid (∀ W, Hid (NIn (fun k => k < N) N w b (healN s []) W) → Calls Try.prog 14 #[.pointer (some ⟨b, 0, none⟩), .slice none 0 0] W fun e w' => ∃ a c, e = .returned (.slice a (j - got) c) ∧ Hid (Below N w w')) := fun W h => (in_waits h.out d3).mono fun _ _ ⟨a, c, e1, e2⟩ => ⟨a, c, d2 ▸ e1, e2.out.1.below⟩
              have hsub : ((j - got : Nat) : Int) = (j : Int) - (got : Int) := by omega
              clear HS1 HS2 d2 d3
              go_wp2_with (first
                | (go_at_call 13; refine hH.out.mono ?_; rintro e w5 ⟨k5, rfl, h5⟩; clear hH)
                | (go_at_call 14; refine (hW.out w5 h5).mono ?_; rintro e w6 ⟨a6, c6, rfl, h6⟩; clear hW h5))
              go_ret
              exact ⟨rfl, h6.out⟩
theorem netApart_walk (ps cs : List (Int × Int)) (hpl : ps.length ≤ maxLen) (hcl : cs.length ≤ maxLen) (vp vc : Value) (w : World) (hp : PairsAt w.heap.size w vp ps) (hc : PairsAt w.heap.size w vc cs) : Calls Try.prog 6 #[vp, vc] w fun e w' => e = .returned (.bool true) ∧ Below w.heap.size w w' := by
  by_cases h1 : cs.length ≤ 10
  · by_cases h2 : ps.length ≤ 40
    · exact netApart_lele ps cs h1 h2 vp vc w hp hc
    · exact netApart_legt ps cs h1 (by omega) hpl vp vc w hp hc
  · by_cases h2 : ps.length ≤ 40
    · exact netApart_gtle ps cs (by omega) h2 hcl vp vc w hp hc
    · exact netApart_gtgt ps cs (by omega) (by omega) hpl hcl vp vc w hp hc
end Go.Proofs.Ytmdoamkockoipaa
