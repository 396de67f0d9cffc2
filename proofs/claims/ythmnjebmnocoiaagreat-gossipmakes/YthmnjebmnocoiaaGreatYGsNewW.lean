/- What package gossip's New (13) tells. -/
import Derived.Deep.Cut
import Derived.Test.YthmnjebmnocoiaaGreatYGsNewP
import Derived.Test.YthmnjebmnocoiaaGreatYA8
namespace Go.Proofs.YthmnjebmnocoiaaGreat
open Go.RowKit
attribute [local go_sem ↓] rule28

def noC : List Value := [.slice none 0 0, .int .i64 0, .int .u64 0, .int .i64 0, .int .u64 0, .int .i64 0, .int .u64 0, .int .i64 0, .int .u64 0, .int .i64 0, .int .u64 0, .int .i64 0, .int .u64 0, .int .i64 0, .int .u64 0, .int .i64 0, .int .u64 0]
theorem noC_eq : noC = ringC (.slice none 0 0) noR := rfl
theorem noC_one : ∀ u ∈ noC, u.oneCell' = true := fun u hu => by
  rw [noC_eq] at hu
  exact ringC_one (noR_at 0 default) u hu
set_option maxRecDepth 100000 in
set_option maxHeartbeats 4000000 in
theorem new_any (n : Int) (w : World) : Calls Tryz.prog 18 #[.int .i64 n] w fun e w' => ∃ u, e = .returned (ringV u (newL n)) ∧ RingAt w'.heap.size w' u (newL n) ∧ Below w.heap.size w w' := by
  obtain ⟨N, hN⟩ : ∃ N, w.heap.size = N := ⟨_, rfl⟩
  rw [hN]
  have hnode := fun W => isNode_any n W
  cases hi : isN n with
  | false =>
    have HE : Hid (newL n = noR) := by show newL n = noR; unfold newL; rw [hi]; rfl
    rw [hi] at hnode
    clear hi
    go_enter Tryz.func18, Tryz.ntmps18
    go_wp2_with (first
      | (refine wpList_alloc_new 2 rfl rfl 28 rfl N hN _ zero28 ?_; intro w1 h1; have hH : Holds w1 N noC 28 := h1.holds)
      | (go_at_call 37; refine (hnode _).mono ?_; rintro e w2 ⟨rfl, rfl⟩)
      | (refine wpList_store_all rfl 28 (.tmp 2) (.tmp 8) rfl N rfl noC rfl 28 noC hH siz28 rfl noC_one ?_; intro w3 h3))
    go_wp2
    refine bodyPost_ret (results_cell_row (p := 2) (by kernel_rfl) _ w3 N 28 noC.toArray (0, 0) _ rfl h3.holds Tryz.underlying28 rfl (siz28.trans (congrArg some (show noC.length = 17 from rfl).symm))) rfl ?_
    rw [HE.out]
    refine ⟨.slice none 0 0, rfl, noR_at _ _, ?_⟩
    exact h1.below.trans (h3.below (Nat.le_refl _))
  | true =>
    have h17 := (isN_iff n).1 hi
    have HE : Hid (newL n = ((turnL noR 1 [n]).1, newOs (turnL noR 1 [n]).2 n 8)) := by show newL n = _; unfold newL; rw [hi]; rfl
    have HT : Hid (∀ W, Calls Tryz.prog 38 #[.agg noC.toArray, .int .i64 1, .slice (some ⟨W.heap.size, 0, none⟩) 1 1] (W.alloc (.cells #[.int .i64 n] 3)) fun e w' => ∃ u ds, e = .returned (.agg ds.toArray) ∧ Hid (ds = ringC u (turnL noR 1 [n]) ∧ RingAt w'.heap.size w' u (turnL noR 1 [n]) ∧ Fresh W.heap.size u ∧ (∀ g, u.ownBlock = some g → ∃ cs fr, w'.heap[g]? = some (.cells cs 53 fr)) ∧ Below W.heap.size W w')) := fun W => by
      have hI : Ints (W.alloc (.cells #[.int .i64 n] 3)).heap.size (W.alloc (.cells #[.int .i64 n] 3)) (.slice (some ⟨W.heap.size, 0, none⟩) 1 1) [n] := by
        refine ⟨_, 1, rfl, Nat.le_refl _, Or.inr ⟨W.heap.size, 0, rfl, by simp, fun j hj => ?_⟩⟩
        obtain rfl : j = 0 := by simp at hj; exact hj
        exact (holds_new W [.int .i64 n] 3).at 0 _ rfl
      have hA : Below W.heap.size W (W.alloc (.cells #[.int .i64 n] 3)) := (Below.refl _ _).alloc (Nat.le_refl _) _
      refine (turned_any (.slice none 0 0) noR noR_fit 1 (by decide) _ _ [n] (by simpa using h17) (by simp) _ (Nat.le_refl _) hI (noR_at _ _)).mono fun e w' ⟨u, e1, e2, e3, e4, e5⟩ => ⟨u, _, e1, rfl, e2, e3.mono (by simp), e4, hA.trans (e5.mono (by simp))⟩
    rw [hi] at hnode
    clear hi
    go_enter Tryz.func18, Tryz.ntmps18
    go_upto_region 5 with (first
      | (refine wpList_alloc_new 2 rfl rfl 28 rfl N hN _ zero28 ?_; intro w1 h1; have hH : Holds w1 N noC 28 := h1.holds)
      | (go_at_call 37; refine (hnode _).mono ?_; rintro e w2 ⟨rfl, e2⟩; rw [e2]; clear e2)
      | (go_at_call 38; refine (HT.out w1).mono ?_; rintro e w3 ⟨u, ds, rfl, R3⟩; obtain ⟨M, hM⟩ : ∃ M, w3.heap.size = M := ⟨_, rfl⟩; have hds17 := ringC_len R3.out.2.1; have hds1 := ringC_one R3.out.2.1; rw [← R3.out.1] at hds17 hds1)
      | (refine wpList_alloc_new 3 rfl rfl 28 rfl M hM _ zero28 ?_; intro w4 h4; have hH4 : Holds w4 M noC 28 := h4.holds)
      | (refine wpList_store_all rfl 28 (.tmp 3) (.tmp 12) rfl M rfl ds rfl 28 noC hH4 (siz28.trans (congrArg some hds17.symm)) hds17.symm hds1 ?_; intro w5 h5))
    have hz1 := h1.size
    have hs3 := R3.out.2.2.2.2.size
    have hz4 := h4.size
    have hMN : N < M := by omega
    have b14 : Below (N + 1) w1 w4 := (R3.out.2.2.2.2.mono (by omega)).trans (h4.below.mono (by omega))
    have HN5 : Hid (Holds w5 N noC 28) := (h5.others N (by omega)).trans (hH.below b14 (by omega))
    have HB5 : Hid (Below N w w5) := (h1.below.trans (b14.mono (by omega))).trans (h5.below (by omega))
    have hol : (turnL noR 1 [n]).2.length = 8 := R3.out.2.1.own
    have HG5 : Hid (Holds w5 M (ringC u ((turnL noR 1 [n]).1, newOs (turnL noR 1 [n]).2 n 0)) 28) := by
      have q := h5.holds
      rw [R3.out.1] at q
      show Holds _ _ _ _
      rw [newOs_zero _ _ hol]
      exact q
    have hU5 : Outs (fun b => b = M) w4 w5 := Outs.ofTurned h5 rfl
    have hb34 : Below w3.heap.size w3 w4 := by rw [hM]; exact h4.below
    have HR5 : Hid (RingAt w5.heap.size w5 u (turnL noR 1 [n])) := by
      have q := R3.out.2.1.below hb34
      have q2 : RingAt w3.heap.size w5 u (turnL noR 1 [n]) := (show RingAt w3.heap.size w4 u _ from q).mem.outs hU5 (by omega) (fun g hg e => by
        have := R3.out.2.1.mem
        subst e
        obtain ⟨cs', fr', q'⟩ := R3.out.2.2.2.1 g hg
        have := (Array.getElem?_eq_some_iff.1 q').1
        omega) |> fun m => ⟨m, hol⟩
      exact q2.mono (by have := hU5.size; omega)
    have HF5 : Hid (∀ b, u.ownBlock = some b → b ≠ M ∧ b ≠ N) := fun b hb => by
      obtain ⟨cs', fr', q'⟩ := R3.out.2.2.2.1 b hb
      have h1' := (Array.getElem?_eq_some_iff.1 q').1
      have h2' := R3.out.2.2.1 b hb
      exact ⟨by omega, by omega⟩
    have hz5 : M + 1 ≤ w5.heap.size := by have := hU5.size; omega
    clear h1 h4 h5 hH hH4 R3 hz4 hU5 hb34 b14 HT hnode hds17 hds1
    rw [hz1]
    clear hz1 hs3
    generalize turnL noR 1 [n] = tr at *
    go_loopw [13] (fun c wr => ∃ i : Nat, i ≤ 8 ∧ c = .int .i64 (i : Int) ∧ Hid (Holds wr M (ringC u (tr.1, newOs tr.2 n i)) 28 ∧ Outs (fun b => b = M) w5 wr)) (fun c _ => 8 - (intOf c).toNat)
    case atStart => exact ⟨0, Nat.zero_le _, rfl, HG5.out, Outs.refl _ _⟩
    case round =>
      obtain ⟨i, hi, rfl, hI⟩ := hrel
      by_cases hlt : i < 8
      · have hlt' : (i : Int) < 8 := by omega
        have hi0 : (0 : Int) ≤ (i : Int) := by omega
        have hsu := newOs_succ tr.2 n i
        have hml := newOs_len tr.2 n i
        obtain ⟨hH', hU⟩ := hI.out
        have hset : Hid (overV (ringC u (tr.1, newOs tr.2 n i)) (1 + i * 2) (owV (n, 1)) = ringC u (tr.1, (newOs tr.2 n i).set i (n, 1))) := ring_set u tr.1 _ i (n, 1) (by omega)
        have hrl : (ringC u (tr.1, newOs tr.2 n i)).length = 17 := by show (u :: ownV _).length = 17; rw [List.length_cons, ownV_len, hml]
        have HU : Hid (Outs (fun b => b = M) w5 wr) := hU
        have HSU : Hid (newOs tr.2 n (i + 1) = (newOs tr.2 n i).set i (n, 1)) := hsu
        clear hI hU hsu
        go_wp2_with (refine wpList_store_part rfl 25 (.tmp 20) (.tmp 18) rfl M (1 + i * 2) rfl (owV (n, 1)) rfl 28 _ hH' siz25 (by rw [hrl]; simp [owV]; omega) (owV_one _) ?_; intro w6 h6)
        have hf6 := h6.holds
        rw [hset.out, ← HSU.out] at hf6
        have U6 : Outs (fun b => b = M) w5 w6 := HU.out.trans (Outs.ofTurned h6 rfl)
        clear h6
        go_wp2
        go_roundw
        case rel => exact ⟨i + 1, by omega, by go_num, hf6, U6⟩
        case measure => simp [intOf]; omega
      · obtain rfl : i = 8 := by omega
        obtain ⟨hH', hU⟩ := hI.out
        have i1 : ¬ ((8 : Nat) : Int) < 8 := by decide
        have hml : (newOs tr.2 n 8).length = 8 := newOs_len _ _ _
        have hrl : (ringC u (tr.1, newOs tr.2 n 8)).length = 17 := by show (u :: ownV _).length = 17; rw [List.length_cons, ownV_len, hml]
        have hone : ∀ x ∈ ringC u (tr.1, newOs tr.2 n 8), x.oneCell' = true := fun x hx => by
          rcases List.mem_cons.1 hx with rfl | hx
          · exact mems_one HR5.out.mem
          · exact ownV_one _ x hx
        have HX : Holds wr N noC 28 := HN5.out.outs hU (by omega)
        have HU : Hid (Outs (fun b => b = M) w5 wr) := hU
        obtain ⟨es, hes0⟩ : ∃ es, ringC u (tr.1, newOs tr.2 n 8) = es := ⟨_, rfl⟩
        have hes : Hid (ringC u (tr.1, newOs tr.2 n 8) = es) := hes0
        rw [hes0] at hH' hrl hone
        have rr := hH'.row28 hrl
        clear hes0 hI hU
        go_wp2_with (refine wpList_store_all rfl 28 (.tmp 2) (.tmp 22) rfl N rfl es rfl 28 _ HX (siz28.trans (congrArg some hrl.symm)) hrl.symm hone ?_; intro w12 h12)
        refine bodyPost_ret (results_cell_row (p := 2) (by kernel_rfl) _ w12 N 28 es.toArray (0, 0) _ rfl h12.holds Tryz.underlying28 rfl (siz28.trans (congrArg some (show es.length = 17 from hrl).symm))) rfl ?_
        rw [HE.out, ← hes.out]
        have U12 : Outs (fun b => b = M ∨ b = N) w5 w12 := (HU.out.trans' (fun b hb => Or.inl hb)).trans (Outs.ofTurned h12 (Or.inr rfl))
        refine ⟨u, rfl, ⟨(HR5.out.mem.outs U12 (Nat.le_refl _) (fun b hb e => ?_)).mono U12.size, hml⟩, HB5.out.trans (U12.below (by omega) (by omega))⟩
        obtain ⟨q1, q2⟩ := HF5.out b hb
        rcases e with e | e
        · exact q1 e
        · exact q2 e
end Go.Proofs.YthmnjebmnocoiaaGreat
