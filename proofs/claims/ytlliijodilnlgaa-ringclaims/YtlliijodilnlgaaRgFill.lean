/- What package ring's fill answers. -/
import Derived.Test.YtlliijodilnlgaaRgKeep
namespace Go.Proofs.Ytlliijodilnlgaa
open Go.RowKit

def outV (M : List Int) (l : List Nat) : List Int := l.map fun i => M.getD i 0
theorem outV_len (M : List Int) (l : List Nat) : (outV M l).length = l.length := by simp [outV]
/-- the ring when some of it is filled. -/
def midV (M : List Int) (out : List Nat) (left : List (Option Nat)) : List Int := outV M out ++ keptV M left
theorem midV_len (M : List Int) (out : List Nat) (left : List (Option Nat)) : (midV M out left).length = out.length + left.length := by simp [midV, outV_len, keptV_len]
theorem midV_some (M : List Int) (out : List Nat) (i : Nat) (left : List (Option Nat)) : midV M (out ++ [i]) left = midV M out (some i :: left) := by simp [midV, outV, keptV, valI]
theorem midV_none (M : List Int) (out : List Nat) (i : Nat) (left : List (Option Nat)) : midV M (out ++ [i]) left = (midV M out (none :: left)).set out.length (M.getD i 0) := by
  unfold midV
  rw [List.set_append_right _ _ (by rw [outV_len]; omega), outV_len, Nat.sub_self]
  simp [outV, keptV, valI]
theorem fillS_len (s : List Nat × List Int × Nat) (x : Option Nat) : (fillS s x).1.length = s.1.length + 1 := by
  cases x <;> simp [fillS]
theorem fold_len (l : List (Option Nat)) : ∀ s : List Nat × List Int × Nat, (l.foldl fillS s).1.length = s.1.length + l.length := by
  induction l with
  | nil => intro s; rfl
  | cons x l ih => intro s; rw [List.foldl_cons, ih, fillS_len, List.length_cons]; omega
theorem fill_ok (n : Nat) (l : List (Option Nat)) : ∀ (k : Nat) (s : List Nat × List Int × Nat), FillOk n s l → FillOk n ((l.take k).foldl fillS s) (l.drop k) := by
  induction l with
  | nil => intro k s h; simpa using h
  | cons x l ih =>
    intro k s h
    cases k with
    | zero => exact h
    | succ k =>
      rw [List.take_succ_cons, List.foldl_cons, List.drop_succ_cons]
      apply ih
      cases x with
      | none => exact h.none
      | some i => exact h.some

set_option maxHeartbeats 2000000 in
theorem fill_any (B : Nat) (v : Value) (M : List Int) (hp : ∀ x ∈ M, 0 < x) (hl : M.length ≤ 17592186043904) (g : Nat) (kept : List (Option Nat)) (hk8 : kept.length = 8) (hin : ∀ i, some i ∈ kept → i < M.length) (room : List Int) (hok : FillOk M.length ([], room, 0) kept) (w : World) (hv : Ints B w v M) (hB : B ≤ w.heap.size) (hBg : B ≤ g) (hg : Holds w g (intV room) 3) :
    Calls Try.prog 22 #[.agg (intV (keptV M kept)).toArray, v, .slice (some ⟨g, 0, none⟩) M.length M.length] w fun e w' => e = .returned (.agg (intV (outV M (fillI kept room))).toArray) ∧ Upd g w w' := by
  obtain ⟨N, hN⟩ : ∃ N, w.heap.size = N := ⟨_, rfl⟩
  have hgN : g < N := by rw [← hN]; exact hg.lt
  rw [hN] at hB
  have HOk : Hid (∀ k, FillOk M.length ((kept.take k).foldl fillS ([], room, 0)) (kept.drop k)) := fun k => fill_ok M.length kept k _ hok
  have HLn : Hid (∀ k, k ≤ 8 → ((kept.take k).foldl fillS ([], room, 0)).1.length = k) := fun k hk => by rw [fold_len]; simp; omega
  have HI : Hid (∀ k : Nat, k < 8 → ∀ W, (Instr.index 23 (.agg (intV (keptV M kept)).toArray) (.int .i64 (k : Int))).run Try.prog W = .ok (.int .i64 ((keptV M kept).getD k 0)) W) := fun k hk W => index_own (keptV M kept) (by rw [keptV_len]; exact hk8) k hk W
  have HP : Hid (∀ i, i < M.length → 0 < M.getD i 0) := fun i hi => by
    rw [List.getD_eq_getElem?_getD, List.getElem?_eq_getElem hi]
    exact hp _ (List.getElem_mem hi)
  have HV : Hid (∀ W i, Below B w W → i < M.length → ∃ b o, v.ownBlock = some b ∧ (∃ c, v = .slice (some ⟨b, o, none⟩) M.length c) ∧ W.cell? ⟨b, o + i, none⟩ = some (.int .i64 (M.getD i 0))) := fun W i hW hi => by
    obtain ⟨a, c, e, _, h0 | ⟨b, o, e1, _, h2⟩⟩ := hv.below hW
    · omega
    · subst e; subst e1
      exact ⟨b, o, rfl, ⟨c, rfl⟩, h2 i hi⟩
  have H8 : Hid (kept.length = 8) := hk8
  have HIn : Hid (∀ i, some i ∈ kept → i < M.length) := hin
  have HG : Hid (Holds w g (intV room) 3) := hg
  obtain ⟨a, cap, rfl⟩ := hv.len
  obtain ⟨n, hn⟩ : ∃ n, M.length = n := ⟨_, rfl⟩
  rw [hn] at hl HOk HP HV HIn ⊢
  clear hn hv hp hok hk8 hin hg
  go_enter Try.func22, Try.ntmps22
  go_wp2_with (first
    | (refine wpList_box_new 3 rfl rfl 23 _ rfl N hN _ rfl ?_; intro w1 h1)
    | (refine wpList_alloc_new 6 rfl rfl 23 rfl (N + 1) h1.size _ zero23 ?_; intro w2 h2; have H12 := h1.holds.below h2.below (by omega))
    | (refine wpList_load_all rfl 23 _ rfl _ rfl 23 (intV (keptV M kept)) 8 3 H12 und23 (by rw [siz23, intV_len, keptV_len, H8.out]) ?_))
  have B2 : Below N w w2 := h1.below.trans (h2.below.mono (by omega))
  have HB2 : Hid (Below N w w2) := B2
  have HG2 : Hid (Holds w2 g (intV ((kept.take 0).foldl fillS ([], room, 0)).2.1) 3) := HG.out.below B2 hgN
  have HK2 : Hid (Holds w2 N (intV (midV M ((kept.take 0).foldl fillS ([], room, 0)).1 (kept.drop 0))) 23) := H12
  have HR2 : Hid (Holds w2 (N + 1) (intV (List.replicate 8 0)) 23) := h2.holds
  have hz2 : w2.heap.size = N + 2 := h2.size
  clear B2 h1 h2 H12
  go_loopw [7, 11] (fun nx c wr => ∃ k : Nat, k ≤ 8 ∧ c = .int .i64 (k : Int) ∧ nx = .int .i64 ((((kept.take k).foldl fillS ([], room, 0)).2.2 : Nat) : Int) ∧ Holds wr g (intV ((kept.take k).foldl fillS ([], room, 0)).2.1) 3 ∧ Holds wr N (intV (midV M ((kept.take k).foldl fillS ([], room, 0)).1 (kept.drop k))) 23 ∧ TUpd (fun i => i = g ∨ i = N) w2 wr) (fun _ c _ => 8 - (intOf c).toNat)
  case atStart => exact ⟨0, by omega, rfl, rfl, HG2.out, HK2.out, TUpd.refl _ _⟩
  case round =>
  clear HG2 HK2
  obtain ⟨k, hk, rfl, rfl, hh, hkp, hU⟩ := hrel
  by_cases hlt : k < 8
  · have hix := HI.out k hlt
    obtain ⟨x, hx⟩ : ∃ x, kept[k]? = some x := ⟨_, List.getElem?_eq_getElem (by rw [H8.out]; exact hlt)⟩
    have hdr : kept.drop k = x :: kept.drop (k + 1) := List.drop_eq_getElem?_toList_append.trans (by rw [hx]; rfl)
    have hval : (keptV M kept).getD k 0 = valI M x := by simp [keptV, List.getD_eq_getElem?_getD, hx]
    rw [hval] at hix
    have hfold := foldl_take_succ fillS ([], room, 0) kept k x hx
    have hok := HOk.out k
    have hlen := HLn.out k hk
    rw [hdr] at hkp hok
    generalize (kept.take k).foldl fillS ([], room, 0) = S at hh hkp hfold hok hlen
    obtain ⟨out, rm, next⟩ := S
    replace hh : Holds wr g (intV rm) 3 := hh
    replace hkp : Holds wr N (intV (midV M out (x :: kept.drop (k + 1)))) 23 := hkp
    replace hlen : out.length = k := hlen
    have i0 : (0 : Int) ≤ (k : Int) := by omega
    have i1 : (k : Int) < 8 := by omega
    have hb : Below B w wr := (HB2.out.mono hB).trans (hU.below (by omega) (fun i hi q => by rcases q with q | q <;> omega))
    have HU : Hid (TUpd (fun i => i = g ∨ i = N) w2 wr) := hU
    have HH : Hid (Holds wr g (intV rm) 3) := hh
    have HKP : Hid (Holds wr N (intV (midV M out (x :: kept.drop (k + 1)))) 23) := hkp
    cases x with
    | some i =>
      have hi := HIn.out i (List.mem_of_getElem? hx)
      have hpos := HP.out i hi
      have hSm : Hid (∀ W, Calls Try.prog 18 #[.int .i64 (M.getD i 0)] W fun e w' => e = .returned (.bool true) ∧ w' = W) := fun W => by
        have := somebody_any (M.getD i 0) W
        rwa [decide_eq_true hpos] at this
      have hix' : ∀ W, (Instr.index 23 (.agg (intV (keptV M kept)).toArray) (.int .i64 (k : Int))).run Try.prog W = .ok (.int .i64 (M.getD i 0)) W := hix
      have hst : Hid ((kept.take (k + 1)).foldl fillS ([], room, 0) = (out ++ [i], rm, next)) := hfold
      generalize hy : M.getD i 0 = y at hSm hix' hpos
      clear hix hx hdr hval hfold hok hlen hh hkp hU hb hy
      go_wp2_with (go_at_call 18; refine (hSm.out _).mono ?_; rintro e w4 ⟨rfl, rfl⟩)
      refine ⟨⟨k + 1, by omega, by go_num, ?_, ?_, ?_, HU.out⟩, by simp [intOf]; omega⟩
      · rw [hst.out]
      · rw [hst.out]; exact HH.out
      · rw [hst.out, midV_some]; exact HKP.out
    | none =>
      have hSm : Hid (∀ W, Calls Try.prog 18 #[.int .i64 0] W fun e w' => e = .returned (.bool false) ∧ w' = W) := fun W => somebody_any 0 W
      have hix' : ∀ W, (Instr.index 23 (.agg (intV (keptV M kept)).toArray) (.int .i64 (k : Int))).run Try.prog W = .ok (.int .i64 0) W := hix
      have hsp : 0 < rm.sum := by have := hok.sum; simp at this; omega
      obtain ⟨s0, s1, s2, s3⟩ := skip_facts rm next hok.zeros hsp
      have hrl : rm.length = n := hok.len
      obtain ⟨y0, y1⟩ := hok.r8 (skipI rm next)
      have hst : Hid ((kept.take (k + 1)).foldl fillS ([], room, 0) = (out ++ [skipI rm next], rm.set (skipI rm next) (rm.getD (skipI rm next) 0 - 1), skipI rm next)) := hfold
      have hrl2 : Hid (rm.length = n) := hrl
      have s3' : Hid (∀ j, j < skipI rm next → rm.getD j 0 = 0) := s3
      generalize skipI rm next = sk at s0 s1 s2 s3' hst y0 y1
      rw [hrl] at s1
      obtain ⟨b, of_, -, ⟨c, ec⟩, hnod⟩ := HV.out wr sk hb s1
      cases ec
      have hml : k < (midV M out (none :: kept.drop (k + 1))).length := by rw [midV_len, List.length_cons]; omega
      have kcell := hkp.at k _ (intV_at _ k hml)
      have kfr := hkp.frozen k
      have rcell := hh.at sk _ (intV_at _ sk (by omega))
      have rfr := hh.frozen sk
      have hmid : Hid (midV M (out ++ [sk]) (kept.drop (k + 1)) = (midV M out (none :: kept.drop (k + 1))).set k (M.getD sk 0)) := by
        show _ = _
        rw [midV_none, hlen]
      generalize (midV M out (none :: kept.drop (k + 1))).getD k 0 = z at kcell
      generalize hq : rm.getD sk 0 = y at rcell y0 y1 s2
      have HQ : Hid (rm.getD sk 0 = y) := hq
      generalize M.getD sk 0 = mx at hnod hmid
      have hne : g ≠ N := by omega
      have j0 : (0 : Int) ≤ (sk : Int) := by omega
      have j1 : (sk : Int) < (n : Int) := by omega
      have hypos : 0 < y := by omega
      clear hix hx hdr hval hfold hok hlen hkp hU hb hsp s3 hml hq hrl
      go_wp2_with (go_at_call 18; refine (hSm.out _).mono ?_; rintro e w4 ⟨rfl, rfl⟩)
      go_loopw [7] (fun nx wq => ∃ j : Nat, next ≤ j ∧ j ≤ sk ∧ nx = .int .i64 (j : Int) ∧ wq = w4) (fun nx _ => sk - (intOf nx).toNat)
      case atStart => exact ⟨next, Nat.le_refl _, s0, rfl, rfl⟩
      case round =>
      obtain ⟨j, hj0, hj1, rfl, rfl⟩ := hrel
      by_cases hjs : j < sk
      · have jc := HH.out.at j _ (intV_at _ j (by have := hrl2.out; omega))
        rw [s3'.out j hjs] at jc
        have t0 : (0 : Int) ≤ (j : Int) := by omega
        have t1 : (j : Int) < (n : Int) := by omega
        have t2 : (j : Int) + 1 ≤ 17592186043904 := by omega
        clear rcell kcell rfr kfr hnod
        go_wp2
        exact ⟨⟨j + 1, by omega, by omega, by go_num, trivial⟩, by simp [intOf]; omega⟩
      · have ej : j = sk := by omega
        subst ej
        clear hjs
        go_wp2
        refine ⟨⟨k + 1, by omega, by go_num, ?_, ?_, ?_, ?_⟩, by simp [intOf]; omega⟩
        · rw [hst.out]
        · rw [hst.out, HQ.out, ← intV_set]
          exact (HH.out.setOther _ _ _ hne).set j _
        · rw [hst.out, hmid.out, ← intV_set]
          exact (HKP.out.set k _).setOther _ _ _ (fun e => hne e.symm)
        · exact (HU.out.setCell (Or.inr rfl) _ _).setCell (Or.inl rfl) _ _
  · have e8 : k = 8 := by omega
    subst e8
    have h1 : (fillI kept room).length = 8 := by
      have := HLn.out 8 (by omega)
      rw [List.take_of_length_le (by rw [H8.out]; omega)] at this
      exact this
    rw [List.take_of_length_le (by rw [H8.out]; omega), List.drop_eq_nil_of_le (by rw [H8.out]; omega)] at hkp
    replace hkp : Holds wr N (intV (outV M (fillI kept room))) 23 := by
      have e : midV M (fillI kept room) [] = outV M (fillI kept room) := by simp [midV, keptV]
      rw [← e]; exact hkp
    generalize hKK : fillI kept room = KK at hkp h1
    have HKK : Hid (fillI kept room = KK) := hKK
    have hres := HR2.out.tupd hU (by omega)
    have HU : Hid (TUpd (fun i => i = g ∨ i = N) w2 wr) := hU
    have hlen : (intV (outV M KK)).length = 8 := by rw [intV_len, outV_len, h1]
    clear hU hh hKK h1
    generalize ((List.take 8 kept).foldl fillS ([], room, 0)).2.2 = nx
    go_wp2_with (first
      | (refine wpList_load_all rfl 23 _ rfl _ rfl 23 (intV (outV M KK)) 8 3 hkp und23 (by rw [siz23, hlen]) ?_)
      | (refine wpList_store_all rfl 23 (.tmp 6) (.tmp 37) rfl (N + 1) rfl (intV (outV M KK)) rfl 23 _ hres (by rw [siz23, hlen]) (by rw [hlen, intV_len]; rfl) (intV_one _) ?_; intro w5 h5))
    refine bodyPost_ret (results_cell_row (p := 6) (by kernel_rfl) _ w5 (N + 1) 23 (intV (outV M KK)).toArray (0, 0) _ rfl h5.holds und23 rfl (by rw [siz23, List.size_toArray, hlen])) rfl ⟨by rw [HKK.out], ?_⟩
    refine ⟨h5.os.trans (HU.out.os.trans HB2.out.os), h5.tape.trans (HU.out.tape.trans HB2.out.tape), h5.output.trans (HU.out.output.trans HB2.out.output), ?_, fun i hi hne => ?_⟩
    · rw [h5.size]; exact Nat.le_trans HB2.out.size HU.out.size
    · rw [h5.others i (by omega), HU.out.block i (by omega) (fun q => by rcases q with q | q <;> omega), HB2.out.block i (by omega)]
end Go.Proofs.Ytlliijodilnlgaa
