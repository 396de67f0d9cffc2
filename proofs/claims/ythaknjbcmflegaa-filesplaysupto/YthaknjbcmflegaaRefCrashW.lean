/- The document's disk: Crash: the walk. -/
import Derived.Test.YthaknjbcmflegaaRefCrash
namespace Go.Proofs.Ythaknjbcmflegaa
open Go.RowKit Go.Maps Go.WideMaps

theorem crashD_len (l : Fs) (ps : List Int) : (crashD l ps).1.length = l.length := by
  have := congrArg List.length (crashD_keys l ps)
  simpa using this
theorem mid_at (S : Dk) (ps : List Int) (j : Nat) (hj : j < S.fs.length) : (midS S ps j).fs[j]? = S.fs[j]? := by
  show ((crashD (S.fs.take j) ps).1 ++ S.fs.drop j)[j]? = _
  have h1 : (crashD (S.fs.take j) ps).1.length = j := by rw [crashD_len, List.length_take]; omega
  rw [List.getElem?_append_right (by omega), h1, Nat.sub_self, List.getElem?_drop]; simp
theorem mid_len (S : Dk) (ps : List Int) (j : Nat) : (midS S ps j).fs.length = S.fs.length := by
  show ((crashD (S.fs.take j) ps).1 ++ S.fs.drop j).length = _
  rw [List.length_append, crashD_len, List.length_take, List.length_drop]; omega
theorem strL_take (l : List UInt8) (n : Nat) : strL (l.take n) = (strL l).extract 0 n := by
  apply ByteArray.ext
  apply Array.ext'
  simp [strL]
/-- What the round of a crash says of the file at its place. -/
structure AtCrash (N r : Nat) (S : Dk) (ps : List Int) (j : Nat) (nm D D' : ByteArray) (F F' : Nat) : Prop where
  over : ∀ W, RefAt W N r (midS S ps j) → ∃ g c, W.cell? ⟨r, 0, none⟩ = some (.slice (some ⟨g, 0, none⟩) S.fs.length c) ∧ W.cell? ⟨g, j * 3, none⟩ = some (.string nm) ∧ W.cell? ⟨g, j * 3 + 1, none⟩ = some (.string D) ∧ W.cell? ⟨g, j * 3 + 2, none⟩ = some (.int .i64 (F : Int)) ∧ (∀ i, W.frozen? ⟨g, i, none⟩ = false) ∧
      RefAt (((W.setCell ⟨g, j * 3, none⟩ (.string nm)).setCell ⟨g, j * 3 + 1, none⟩ (.string D')).setCell ⟨g, j * 3 + 2, none⟩ (.int .i64 (F' : Int))) N r (midS S ps (j + 1)) ∧ RUpd N W (((W.setCell ⟨g, j * 3, none⟩ (.string nm)).setCell ⟨g, j * 3 + 1, none⟩ (.string D')).setCell ⟨g, j * 3 + 2, none⟩ (.int .i64 (F' : Int)))
  firm : F ≤ D.size
  size : D.size ≤ 16777216
theorem at_crash (N r : Nat) (S : Dk) (ps : List Int) (j at0 : Nat) (w : World) (h : RefAt w N r (midS S ps j)) (hd : midP S ps j = ps.drop at0) (hj : j < S.fs.length) :
    ∃ nm D F, (F = D.size ∧ midP S ps (j + 1) = ps.drop at0 ∧ AtCrash N r S ps j nm D D F D.size) ∨ (F < D.size ∧ midP S ps (j + 1) = ps.drop (at0 + 1) ∧ ∃ M, M = F + staysN ((ps.drop at0).headD 0) (D.size - F) ∧ AtCrash N r S ps j nm D (D.extract 0 M) F M) := by
  obtain ⟨⟨k, f⟩, hk⟩ : ∃ p, S.fs[j]? = some p := ⟨S.fs[j], List.getElem?_eq_getElem hj⟩
  have hG := h.good
  obtain ⟨n1, n2, n3⟩ := mid_next S ps j k f hk hG.rise
  have hdd := midP_drop S ps j at0 hd k f hk hG.rise
  have hfirm := hG.firm _ (get_mem n1)
  have hus := used_le_mem n1
  have hu := hG.used
  have hcg := crash1_good f (midP S ps j)
  have hT : (midS S ps (j + 1)).Good := by
    have := hG.over k f (crash1 f (midP S ps j)).1 n1 hcg.1 hcg.2
    rw [n2] at this; exact this
  have key : ∀ W, RefAt W N r (midS S ps j) → _ := fun W hW => hW.over (i := j) (k := k) (f := f) (f' := (crash1 f (midP S ps j)).1) (T := midS S ps (j + 1)) (by rw [mid_at S ps j hj]; exact hk) (by
    show midS S ps (j + 1) = { midS S ps j with fs := put k (crash1 f (midP S ps j)).1 (midS S ps j).fs }
    rw [n2]; rfl) hT
  rw [mid_len] at key
  refine ⟨strL k, strL f.bytes, f.firm, ?_⟩
  have hsz : (strL f.bytes).size = f.bytes.length := rfl
  by_cases h0 : f.bytes.length - f.firm = 0
  · rw [if_pos h0] at hdd
    have e : (crash1 f (midP S ps j)).1 = ⟨f.bytes, f.bytes.length⟩ := by rw [crash1, if_pos h0]
    rw [e] at key
    exact .inl ⟨by show f.firm = f.bytes.length; simp at hfirm; omega, hdd, key, hfirm, by show f.bytes.length ≤ _; omega⟩
  · rw [if_neg h0] at hdd
    have e : (crash1 f (midP S ps j)).1 = ⟨f.bytes.take (f.firm + staysN ((ps.drop at0).headD 0) (f.bytes.length - f.firm)), f.firm + staysN ((ps.drop at0).headD 0) (f.bytes.length - f.firm)⟩ := by
      rw [crash1, if_neg h0, hd]
      have hst := staysN_le ((ps.drop at0).headD 0) (f.bytes.length - f.firm)
      have hfm : f.firm ≤ f.bytes.length := hfirm
      show (⟨f.bytes.take _, (f.bytes.take _).length⟩ : Fl) = _
      rw [List.length_take, Nat.min_eq_left (by omega)]
    rw [e] at key
    refine .inr ⟨by show f.firm < f.bytes.length; omega, hdd, _, rfl, ?_, hfirm, by show f.bytes.length ≤ _; omega⟩
    rw [hsz, ← strL_take]
    exact key

set_option maxHeartbeats 3200000 in
set_option maxRecDepth 100000 in
theorem rcrash_some (N r : Nat) (S : Dk) (ps : List Int) (hps : ∀ p ∈ ps, -9223372036854775808 ≤ p ∧ p < 9223372036854775808) (a : Option Addr) (c : Nat) (hpl : ps.length < 9223372036854775808) (w : World) (h : RefAt w N r S) (ha : LowInts w N a ps) :
    Calls Try.prog 13 #[.pointer (some ⟨r, 0, none⟩), .slice a ps.length c] w fun e w' => e = .returned (.tuple #[]) ∧ RefAt w' N r (crashS S ps) ∧ RUpd N w w' := by
  have hNw := h.lt
  have hlen := h.good.len
  have HA : Hid (∀ W, RUpd N w W → LowInts W N a ps) := fun W hW => ha.below (hW.below (by omega))
  have HPS : Hid (∀ p ∈ ps, -9223372036854775808 ≤ p ∧ p < 9223372036854775808) := hps
  obtain ⟨m, hm⟩ : ∃ m, S.fs.length = m := ⟨_, rfl⟩
  have M : Hid (S.fs.length = m) := hm
  obtain ⟨n, hn⟩ : ∃ n, ps.length = n := ⟨_, rfl⟩
  have HN : Hid (ps.length = n) := hn
  have H0 : Hid (RefAt w N r (midS S ps 0)) := h
  have HC : Hid (∀ W, RefAt W N r (midS S ps m) → RefAt ((W.setCell ⟨r, 3, none⟩ (.bool false)).setCell ⟨r, 2, none⟩ (.int .i64 (-1))) N r (crashS S ps) ∧ RUpd N W ((W.setCell ⟨r, 3, none⟩ (.bool false)).setCell ⟨r, 2, none⟩ (.int .i64 (-1)))) := fun W hW => by
    rw [mid_end S ps m (by omega)] at hW
    obtain ⟨v, q1, q2, q3, q4⟩ := hW
    obtain ⟨j1, j2, j3⟩ := ref_set (T := (⟨(crashD S.fs ps).1, S.room, true, S.armed, S.ahead, S.steps⟩ : Dk)) q1 q2 q3 rfl 3 (.bool false) rfl
    obtain ⟨i1, i2, i3⟩ := ref_set (T := crashS S ps) j1 q2 j2 rfl 2 (.int .i64 (-1)) rfl
    exact ⟨⟨v, i1, q2, i2, ⟨⟨q4.rise, q4.len, q4.used, q4.room, q4.keys, q4.ahead⟩, fun e => (by cases e), q4.firm⟩⟩, j3.trans i3⟩
  have HF : Hid (∀ W j, RefAt W N r (midS S ps j) → W.cell? ⟨r, 0, none⟩ = W.cell? ⟨r, 0, none⟩ ∧ (∃ v, W.cell? ⟨r, 0, none⟩ = some v ∧ ∃ a c, v = .slice a m c) ∧ W.frozen? ⟨r, 3, none⟩ = false ∧ W.frozen? ⟨r, 2, none⟩ = false ∧ (∃ u, W.cell? ⟨r, 3, none⟩ = some u) ∧ ∃ u, W.cell? ⟨r, 2, none⟩ = some u) := fun W j hW => by
    obtain ⟨fs, a, c, e1, e2, e3⟩ := hW.rows
    obtain ⟨v, q1, q2, q3, q4⟩ := hW
    refine ⟨rfl, ⟨_, e2, a, c, ?_⟩, q1.frozen 3, q1.frozen 2, ⟨_, q1.at 3 _ rfl⟩, ⟨_, q1.at 2 _ rfl⟩⟩
    rw [← e1, mid_len, hm]
  have HX : Hid (∀ W j at0, RefAt W N r (midS S ps j) → midP S ps j = ps.drop at0 → j < m → ∃ nm D F, (F = D.size ∧ midP S ps (j + 1) = ps.drop at0 ∧ AtCrash N r S ps j nm D D F D.size) ∨ (F < D.size ∧ midP S ps (j + 1) = ps.drop (at0 + 1) ∧ ∃ M, M = F + staysN ((ps.drop at0).headD 0) (D.size - F) ∧ AtCrash N r S ps j nm D (D.extract 0 M) F M)) := fun W j at0 h1 h2 h3 => at_crash N r S ps j at0 W h1 h2 (by omega)
  rw [hn] at hpl ⊢
  rw [hm] at hlen
  clear hps hm ha h hn
  go_enter Try.func13, Try.ntmps13
  go_wp2_with fail
  go_loopw [4, 5] (fun x c wr => ∃ (j at0 : Nat), j ≤ m ∧ at0 ≤ j ∧ c = .int .i64 (j : Int) ∧ x = .int .i64 (at0 : Int) ∧ Hid (RefAt wr N r (midS S ps j)) ∧ Hid (RUpd N w wr) ∧ Hid (midP S ps j = ps.drop at0)) (fun _ c _ => m - (intOf c).toNat)
  case atStart => exact ⟨0, 0, by omega, by omega, rfl, rfl, H0, RUpd.refl _ _, rfl⟩
  case round =>
    obtain ⟨j, at0, hj, hat, rfl, rfl, hR, hU, hD⟩ := hrel
    obtain ⟨_, ⟨v0, c0, a1, c1, rfl⟩, z3, z2, ⟨y3, c3⟩, ⟨y2, c2⟩⟩ := HF.out wr j hR.out
    by_cases hlt : j < m
    · obtain ⟨nm, D, F, hcase⟩ := HX.out wr j at0 hR.out hD.out hlt
      rcases hcase with ⟨hF, hD2, hA⟩ | ⟨hF, hD2, M0, hM, hA⟩
      · subst hF
        have HAT : Hid (AtCrash N r S ps j nm D D D.size D.size) := hA
        obtain ⟨g, cc, x0, x1, x2, x3, xf, _⟩ := hA.over wr hR.out
        rw [M.out, c0] at x0
        cases x0
        have hDs := hA.size
        have hw0 : wrap64 ((D.size : Int) - (D.size : Int)) = 0 := by unfold wrap64; omega
        have HD2 : Hid (midP S ps (j + 1) = ps.drop at0) := hD2
        clear hA xf HC HF HX hD2
        go_wp2_with fail
        clear x1 x2 x3
        have hbW : Below wr.heap.size wr (wr.alloc (.cells #[.string nm, .string D, .int .i64 (D.size : Int)] 63)) := (Below.refl _ _).alloc (Nat.le_refl _) _
        have hoW : Holds (wr.alloc (.cells #[.string nm, .string D, .int .i64 (D.size : Int)] 63)) wr.heap.size [.string nm, .string D, .int .i64 (D.size : Int)] 63 := holds_new wr [.string nm, .string D, .int .i64 (D.size : Int)] 63
        have RW : RefAt (wr.alloc (.cells #[.string nm, .string D, .int .i64 (D.size : Int)] 63)) N r (midS S ps j) := hR.out.below hbW
        have UW : RUpd N w (wr.alloc (.cells #[.string nm, .string D, .int .i64 (D.size : Int)] 63)) := hU.out.trans (RUpd.ofBelow hbW)
        obtain ⟨B, hB⟩ : ∃ B, wr.heap.size = B := ⟨_, rfl⟩
        rw [hB] at hoW ⊢
        obtain ⟨g, cc, x0, x1, x2, x3, xf, k1, k2⟩ := HAT.out.over _ RW
        rw [M.out] at x0
        have q0 := hoW.at 0 _ rfl
        have q1 := hoW.at 1 _ rfl
        have q2 := hoW.at 2 _ rfl
        have UW2 : Hid (RUpd N w (wr.alloc (.cells #[.string nm, .string D, .int .i64 (D.size : Int)] 63))) := UW
        clear UW RW hbW hoW HAT c0 c2 c3 z2 z3
        generalize (wr.alloc (.cells #[.string nm, .string D, .int .i64 (D.size : Int)] 63)) = W at *
        have K1 : Hid (RefAt (((W.setCell ⟨g, j * 3, none⟩ (.string nm)).setCell ⟨g, j * 3 + 1, none⟩ (.string D)).setCell ⟨g, j * 3 + 2, none⟩ (.int .i64 (D.size : Int))) N r (midS S ps (j + 1))) := k1
        have K2 : Hid (RUpd N W (((W.setCell ⟨g, j * 3, none⟩ (.string nm)).setCell ⟨g, j * 3 + 1, none⟩ (.string D)).setCell ⟨g, j * 3 + 2, none⟩ (.int .i64 (D.size : Int)))) := k2
        have xf0 := xf (j * 3)
        have xf1 := xf (j * 3 + 1)
        have xf2 := xf (j * 3 + 2)
        have g1 : (j : Int) < (m : Int) := by omega
        have g2 : (0 : Int) ≤ (j : Int) := by omega
        have g3 : ((j : Int)).toNat = j := by omega
        clear k1 k2 xf
        go_region
        go_wp2
        exact ⟨⟨j + 1, at0, by omega, by omega, rfl, rfl, K1.out.drew, (UW2.out.trans K2.out).drew, HD2⟩, by simp; omega⟩
      · have HAT : Hid (AtCrash N r S ps j nm D (D.extract 0 M0) F M0) := hA
        obtain ⟨g, cc, x0, x1, x2, x3, xf, _⟩ := hA.over wr hR.out
        rw [M.out, c0] at x0
        cases x0
        have hDs := hA.size
        have HD2 : Hid (midP S ps (j + 1) = ps.drop (at0 + 1)) := hD2
        have hFl : F < D.size := hF
        have hl0 : (0 : Int) < (D.size : Int) - (F : Int) := by omega
        have hw1 : IntKind.i64.wrap ((D.size : Int) - (F : Int) + 1) = (D.size : Int) - (F : Int) + 1 := by rw [wrapEq]; unfold wrap64; omega
        have hz : ¬ (D.size : Int) - (F : Int) + 1 = 0 := by omega
        obtain ⟨st, hst⟩ : ∃ st, staysN ((ps.drop at0).headD 0) (D.size - F) = st := ⟨_, rfl⟩
        have hsl : st ≤ D.size - F := by rw [← hst]; exact staysN_le _ _
        rw [hst] at hM
        have hr3 : IntKind.i64.wrap ((F : Int) + (st : Int)) = (M0 : Int) := by rw [wrapEq]; unfold wrap64; omega
        have hm1 : (M0 : Int) ≤ (D.size : Int) := by omega
        have hm2 : (0 : Int) ≤ (M0 : Int) := by omega
        have hm3 : ((M0 : Int)).toNat = M0 := by omega
        have hrem : ∀ q : Nat, staysN ((ps.drop at0).headD 0) (D.size - F) = q % (D.size - F + 1) → Int.tmod (q : Int) ((D.size : Int) - (F : Int) + 1) = (st : Int) := fun q h => by
          rw [Int.tmod_eq_emod_of_nonneg (by omega), ← hst, h]
          rw [show (D.size : Int) - (F : Int) + 1 = ((D.size - F + 1 : Nat) : Int) by omega]
          exact (Int.natCast_emod q _).symm
        have hMl : M0 ≤ D.size := by omega
        have hwr : IntKind.i64.wrap (st : Int) = (st : Int) := by rw [wrapEq]; unfold wrap64; omega
        clear hA xf HC HF HX hD2
        by_cases hin : at0 < n
        · obtain ⟨p, hp⟩ : ∃ p, ps[at0]? = some p := ⟨ps[at0]'(by have := HN.out; omega), List.getElem?_eq_getElem _⟩
          have hpb := HPS.out p (List.mem_of_getElem? hp)
          have hhd : (ps.drop at0).headD 0 = p := by simp [List.headD_eq_head?_getD, hp]
          rw [hhd] at hrem
          obtain ⟨gi, oi, rfl, ci0⟩ : ∃ gi oi, a = some ⟨gi, oi, none⟩ ∧ wr.cell? ⟨gi, oi + at0, none⟩ = some (.int .i64 p) := by
            rcases HA.out wr hU.out with h0 | ⟨gi, oi, e, _, hc⟩
            · have := HN.out; omega
            · exact ⟨gi, oi, e, hc at0 p hp⟩
          have ci : (wr.alloc (.cells #[.string nm, .string D, .int .i64 (F : Int)] 63)).cell? ⟨gi, oi + at0, none⟩ = some (.int .i64 p) := (((Below.refl _ wr).alloc (Nat.le_refl _) _ : Below wr.heap.size wr _).cell (cell_lt ci0)).trans ci0
          by_cases hneg : p < 0
          · obtain ⟨q, hq⟩ : ∃ q : Nat, -(p + 1) = (q : Int) := ⟨(-(p + 1)).toNat, by omega⟩
            have hrq := hrem q (by rw [staysN, if_pos hneg, hq]; simp)
            clear hrem hst hM hsl
            go_wp2_with fail
            go_region
            go_wp2_with fail
            clear x1 x2 x3 ci ci0
            have hbW : Below wr.heap.size wr (wr.alloc (.cells #[.string nm, .string (D.extract 0 M0), .int .i64 (M0 : Int)] 63)).drew := Below.drew ((Below.refl _ _).alloc (Nat.le_refl _) _)
            have hoW : Holds (wr.alloc (.cells #[.string nm, .string (D.extract 0 M0), .int .i64 (M0 : Int)] 63)).drew wr.heap.size [.string nm, .string (D.extract 0 M0), .int .i64 (M0 : Int)] 63 := holds_new wr [.string nm, .string (D.extract 0 M0), .int .i64 (M0 : Int)] 63
            have RW : RefAt (wr.alloc (.cells #[.string nm, .string (D.extract 0 M0), .int .i64 (M0 : Int)] 63)).drew N r (midS S ps j) := hR.out.below hbW
            have UW : RUpd N w (wr.alloc (.cells #[.string nm, .string (D.extract 0 M0), .int .i64 (M0 : Int)] 63)).drew := hU.out.trans (RUpd.ofBelow hbW)
            obtain ⟨B, hB⟩ : ∃ B, wr.heap.size = B := ⟨_, rfl⟩
            rw [hB] at hoW ⊢
            obtain ⟨g, cc, x0, x1, x2, x3, xf, k1, k2⟩ := HAT.out.over _ RW
            rw [M.out] at x0
            have q0 := hoW.at 0 _ rfl
            have q1 := hoW.at 1 _ rfl
            have q2 := hoW.at 2 _ rfl
            have UW2 : Hid (RUpd N w (wr.alloc (.cells #[.string nm, .string (D.extract 0 M0), .int .i64 (M0 : Int)] 63)).drew) := UW
            clear UW RW hbW hoW HAT c0 c2 c3 z2 z3
            generalize (wr.alloc (.cells #[.string nm, .string (D.extract 0 M0), .int .i64 (M0 : Int)] 63)).drew = W at *
            have K1 : Hid (RefAt (((W.setCell ⟨g, j * 3, none⟩ (.string nm)).setCell ⟨g, j * 3 + 1, none⟩ (.string (D.extract 0 M0))).setCell ⟨g, j * 3 + 2, none⟩ (.int .i64 (M0 : Int))) N r (midS S ps (j + 1))) := k1
            have K2 : Hid (RUpd N W (((W.setCell ⟨g, j * 3, none⟩ (.string nm)).setCell ⟨g, j * 3 + 1, none⟩ (.string (D.extract 0 M0))).setCell ⟨g, j * 3 + 2, none⟩ (.int .i64 (M0 : Int)))) := k2
            have xf0 := xf (j * 3)
            have xf1 := xf (j * 3 + 1)
            have xf2 := xf (j * 3 + 2)
            have g1 : (j : Int) < (m : Int) := by omega
            have g2 : (0 : Int) ≤ (j : Int) := by omega
            have g3 : ((j : Int)).toNat = j := by omega
            clear k1 k2 xf
            go_region
            go_wp2
            exact ⟨⟨j + 1, at0 + 1, by omega, by omega, rfl, rfl, K1.out.drew, (UW2.out.trans K2.out).drew, HD2⟩, by simp; omega⟩
          · obtain ⟨q, hq⟩ : ∃ q : Nat, p = (q : Int) := ⟨p.toNat, by omega⟩
            have hrq := hrem q (by rw [staysN, if_neg hneg, hq]; simp)
            subst hq
            clear hrem hst hM hsl
            go_wp2_with fail
            go_region
            go_wp2_with fail
            clear x1 x2 x3 ci ci0
            have hbW : Below wr.heap.size wr (wr.alloc (.cells #[.string nm, .string (D.extract 0 M0), .int .i64 (M0 : Int)] 63)).drew := Below.drew ((Below.refl _ _).alloc (Nat.le_refl _) _)
            have hoW : Holds (wr.alloc (.cells #[.string nm, .string (D.extract 0 M0), .int .i64 (M0 : Int)] 63)).drew wr.heap.size [.string nm, .string (D.extract 0 M0), .int .i64 (M0 : Int)] 63 := holds_new wr [.string nm, .string (D.extract 0 M0), .int .i64 (M0 : Int)] 63
            have RW : RefAt (wr.alloc (.cells #[.string nm, .string (D.extract 0 M0), .int .i64 (M0 : Int)] 63)).drew N r (midS S ps j) := hR.out.below hbW
            have UW : RUpd N w (wr.alloc (.cells #[.string nm, .string (D.extract 0 M0), .int .i64 (M0 : Int)] 63)).drew := hU.out.trans (RUpd.ofBelow hbW)
            obtain ⟨B, hB⟩ : ∃ B, wr.heap.size = B := ⟨_, rfl⟩
            rw [hB] at hoW ⊢
            obtain ⟨g, cc, x0, x1, x2, x3, xf, k1, k2⟩ := HAT.out.over _ RW
            rw [M.out] at x0
            have q0 := hoW.at 0 _ rfl
            have q1 := hoW.at 1 _ rfl
            have q2 := hoW.at 2 _ rfl
            have UW2 : Hid (RUpd N w (wr.alloc (.cells #[.string nm, .string (D.extract 0 M0), .int .i64 (M0 : Int)] 63)).drew) := UW
            clear UW RW hbW hoW HAT c0 c2 c3 z2 z3
            generalize (wr.alloc (.cells #[.string nm, .string (D.extract 0 M0), .int .i64 (M0 : Int)] 63)).drew = W at *
            have K1 : Hid (RefAt (((W.setCell ⟨g, j * 3, none⟩ (.string nm)).setCell ⟨g, j * 3 + 1, none⟩ (.string (D.extract 0 M0))).setCell ⟨g, j * 3 + 2, none⟩ (.int .i64 (M0 : Int))) N r (midS S ps (j + 1))) := k1
            have K2 : Hid (RUpd N W (((W.setCell ⟨g, j * 3, none⟩ (.string nm)).setCell ⟨g, j * 3 + 1, none⟩ (.string (D.extract 0 M0))).setCell ⟨g, j * 3 + 2, none⟩ (.int .i64 (M0 : Int)))) := k2
            have xf0 := xf (j * 3)
            have xf1 := xf (j * 3 + 1)
            have xf2 := xf (j * 3 + 2)
            have g1 : (j : Int) < (m : Int) := by omega
            have g2 : (0 : Int) ≤ (j : Int) := by omega
            have g3 : ((j : Int)).toNat = j := by omega
            clear k1 k2 xf
            go_region
            go_wp2
            exact ⟨⟨j + 1, at0 + 1, by omega, by omega, rfl, rfl, K1.out.drew, (UW2.out.trans K2.out).drew, HD2⟩, by simp; omega⟩
        · have hhd : (ps.drop at0).headD 0 = 0 := by
            rw [List.drop_eq_nil_of_le (by have := HN.out; omega)]; rfl
          have hs0 : st = 0 := by rw [← hst, hhd, staysN, if_neg (by decide)]; simp
          subst hs0
          obtain rfl : M0 = F := by omega
          clear hrem hst hM hsl hr3 hwr
          go_wp2_with fail
          go_region
          go_wp2_with fail
          clear x1 x2 x3
          have hbW : Below wr.heap.size wr (wr.alloc (.cells #[.string nm, .string (D.extract 0 M0), .int .i64 (M0 : Int)] 63)).drew := Below.drew ((Below.refl _ _).alloc (Nat.le_refl _) _)
          have hoW : Holds (wr.alloc (.cells #[.string nm, .string (D.extract 0 M0), .int .i64 (M0 : Int)] 63)).drew wr.heap.size [.string nm, .string (D.extract 0 M0), .int .i64 (M0 : Int)] 63 := holds_new wr [.string nm, .string (D.extract 0 M0), .int .i64 (M0 : Int)] 63
          have RW : RefAt (wr.alloc (.cells #[.string nm, .string (D.extract 0 M0), .int .i64 (M0 : Int)] 63)).drew N r (midS S ps j) := hR.out.below hbW
          have UW : RUpd N w (wr.alloc (.cells #[.string nm, .string (D.extract 0 M0), .int .i64 (M0 : Int)] 63)).drew := hU.out.trans (RUpd.ofBelow hbW)
          obtain ⟨B, hB⟩ : ∃ B, wr.heap.size = B := ⟨_, rfl⟩
          rw [hB] at hoW ⊢
          obtain ⟨g, cc, x0, x1, x2, x3, xf, k1, k2⟩ := HAT.out.over _ RW
          rw [M.out] at x0
          have q0 := hoW.at 0 _ rfl
          have q1 := hoW.at 1 _ rfl
          have q2 := hoW.at 2 _ rfl
          have UW2 : Hid (RUpd N w (wr.alloc (.cells #[.string nm, .string (D.extract 0 M0), .int .i64 (M0 : Int)] 63)).drew) := UW
          clear UW RW hbW hoW HAT c0 c2 c3 z2 z3
          generalize (wr.alloc (.cells #[.string nm, .string (D.extract 0 M0), .int .i64 (M0 : Int)] 63)).drew = W at *
          have K1 : Hid (RefAt (((W.setCell ⟨g, j * 3, none⟩ (.string nm)).setCell ⟨g, j * 3 + 1, none⟩ (.string (D.extract 0 M0))).setCell ⟨g, j * 3 + 2, none⟩ (.int .i64 (M0 : Int))) N r (midS S ps (j + 1))) := k1
          have K2 : Hid (RUpd N W (((W.setCell ⟨g, j * 3, none⟩ (.string nm)).setCell ⟨g, j * 3 + 1, none⟩ (.string (D.extract 0 M0))).setCell ⟨g, j * 3 + 2, none⟩ (.int .i64 (M0 : Int)))) := k2
          have xf0 := xf (j * 3)
          have xf1 := xf (j * 3 + 1)
          have xf2 := xf (j * 3 + 2)
          have g1 : (j : Int) < (m : Int) := by omega
          have g2 : (0 : Int) ≤ (j : Int) := by omega
          have g3 : ((j : Int)).toNat = j := by omega
          clear k1 k2 xf
          go_region
          go_wp2
          exact ⟨⟨j + 1, at0 + 1, by omega, by omega, rfl, rfl, K1.out.drew, (UW2.out.trans K2.out).drew, HD2⟩, by simp; omega⟩
    · obtain rfl : j = m := by omega
      obtain ⟨k1, k2⟩ := HC.out wr hR.out
      have K1 : Hid (RefAt ((wr.setCell ⟨r, 3, none⟩ (.bool false)).setCell ⟨r, 2, none⟩ (.int .i64 (-1))) N r (crashS S ps)) := k1
      have K2 : Hid (RUpd N wr ((wr.setCell ⟨r, 3, none⟩ (.bool false)).setCell ⟨r, 2, none⟩ (.int .i64 (-1)))) := k2
      clear k1 k2 HC HF HX
      go_wp2
      exact bodyPost_end (results_none (by kernel_rfl) _ _ _) rfl ⟨rfl, K1.out, hU.out.trans K2.out⟩
end Go.Proofs.Ythaknjbcmflegaa
