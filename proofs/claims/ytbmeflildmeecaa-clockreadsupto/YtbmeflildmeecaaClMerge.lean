/- Merge (17): of each actor the greatest N of all. -/
import Derived.Maps.AppendAt
import Derived.Test.YtbmeflildmeecaaClSort
import Derived.Test.YtbmeflildmeecaaClGet
namespace Go.Proofs.Ytbmeflildmeecaa
open Go.RowKit Go.Shelf Go.Sort Go.Lib
attribute [local go_sem] Oper.semAt_some

theorem allD_flat (ls : List (List Dt)) : allD ls = posD ls.flatten := by
  induction ls with
  | nil => rfl
  | cons l ls ih => rw [List.flatten_cons, posD_append, ← ih]; rfl
/-- What a call has made: blocks from m on. -/
abbrev From (m : Nat) (w : World) : Nat → Prop := fun k => m ≤ k ∧ k < w.heap.size

set_option maxHeartbeats 1000000 in
theorem compact_none (cap : Nat) (w : World) :
    Calls Try.prog 41 #[.slice none 0 cap, .func (.func 42) #[] #[]] w fun e w' => e = .returned (.slice none 0 cap) ∧ w' = w := by
  go_enter Try.func41, Try.ntmps41
  go_wp2
  go_ret
  exact ⟨rfl, rfl⟩
theorem info33 : (Try.prog.info? 33).map (fun i => (i.zero, i.size, i.bytes)) = some (some (.agg #[.int .u64 0, .int .u64 0]), 2, 16) := by kernel_rfl
theorem own_holds {W : World} {m n : Nat} {v : Value} {l : List Dt} (h : W.ownsRow m 33 2 v n (cellsD l)) (hn : n = l.length) :
    (v = .slice none 0 0 ∧ l = []) ∨ ∃ g cap tl, v = .slice (some ⟨g, 0, none⟩) l.length cap ∧ m ≤ g ∧ l.length ≤ cap ∧ Holds W g (cellsD l ++ tl) 33 := by
  subst hn
  obtain ⟨_, ⟨rfl, h0⟩ | ⟨g, cap, cur, rfl, hm, hh, hc, _, _, ht⟩⟩ := h
  · exact .inl ⟨rfl, List.eq_nil_of_length_eq_zero h0⟩
  · refine .inr ⟨g, cap, cur.toList.drop (l.length * 2), rfl, hm, hc, ?_⟩
    unfold Holds
    rw [← ht, List.take_append_drop, Array.toArray_toList]
    exact hh
theorem clk_row {G : Nat → Prop} {w : World} {b cap : Nat} {l : List Dt} (hb : G b) (h : Row w b 0 l) : Clk G w (.slice (some ⟨b, 0, none⟩) l.length cap) l := ⟨_, _, rfl, fun _ => ⟨b, 0, rfl, hb, h⟩⟩

theorem Row.putObj {w : World} {b o D : Nat} {l : List Dt} (h : Row w b o l) (hne : b ≠ D) (x : Obj) : Row (w.putObj D x) b o l := fun i d e =>
  ⟨(World.cell?_of_block (a := ⟨b, o + i * 2, none⟩) (World.putObj_heap_other hne)).trans (h i d e).1, (World.cell?_of_block (a := ⟨b, o + i * 2 + 1, none⟩) (World.putObj_heap_other hne)).trans (h i d e).2⟩

set_option maxRecDepth 100000 in
set_option maxHeartbeats 4000000 in
theorem merge_any (v : Value) (ls : List (List Dt)) (hl : ls.length < 9223372036854775807) (hls : ∀ c ∈ ls, c.length < 9223372036854775807) (hall : (allD ls).length ≤ 8796093022208) (w : World) (hv : Clks (Lt w.heap.size) w v ls) :
    Calls Try.prog 17 #[v] w fun e w' => ∃ u, e = .returned u ∧ Clk (From w.heap.size w') w' u (norm ls.flatten) ∧ Below w.heap.size w w' := by
  obtain ⟨a, cap, rfl, hv'⟩ := id hv
  obtain ⟨i0, hi, hz0, hz1, hz2⟩ := info_parts info33
  refine (callsIn_wide (n := 3)).1 ?_
  refine callsIn_of_wp_marks Try.func17 rfl trivial ?_ rfl
  simp only [Try.ntmps17, List.size_toArray, List.length_cons, List.length_nil, Nat.reduceAdd, Nat.reduceSub, Array.replicate_succ, Array.replicate_zero, List.push_toArray, List.append_toArray, List.nil_append, List.cons_append]
  gi_wp2_with (refine ⟨trivial, ?_⟩; gi_at_call 38; refine (dots_in Fence.wide 2 trivial rfl _ _ _ _).mono ?_; rintro e w' ⟨rfl, rfl⟩)
  obtain ⟨m, hm⟩ : ∃ m, w.heap.size = m := ⟨_, rfl⟩
  rw [hm] at hv ⊢
  have b0 := (holds_new w [.slice none 0 0] 28).alloc (.cells #[.slice a ls.length cap] 59)
  have b1 := holds_new (w.alloc (.cells #[.slice none 0 0] 28)) [.slice a ls.length cap] 59
  simp only [World.size_alloc, hm] at b0 b1
  have hB0 : Below m w ((w.alloc (.cells #[.slice none 0 0] 28)).alloc (.cells #[.slice a ls.length cap] 59)) := ((Below.refl _ w).alloc (by omega) _).alloc (by simp; omega) _
  have hsz : ((w.alloc (.cells #[.slice none 0 0] 28)).alloc (.cells #[.slice a ls.length cap] 59)).heap.size = m + 2 := by simp [hm]
  obtain ⟨W0, hW0⟩ : ∃ W0, (w.alloc (.cells #[.slice none 0 0] 28)).alloc (.cells #[.slice a ls.length cap] 59) = W0 := ⟨_, rfl⟩
  simp only [List.toArray] at b0 b1
  rw [hW0] at b0 b1 hB0 hsz ⊢
  clear hW0
  have hG : ∀ k, k < m → k < W0.heap.size := fun k hk => by omega
  have hbox : Boxed W0 m 28 (.slice none 0 0) := b0
  refine wpIn_rangeFunc_ownH rfl (by omega) (gf := 55) (lb := #[.pointer (some ⟨m + 1, 0, none⟩)]) rfl trivial (enters_of Try.func55 (by kernel_rfl) rfl)
    (dots_stops Fence.wide 2 trivial rfl (by omega) (m + 1) (fun k => k < m) _ ls hl hls W0 (by omega) hG (b1.at 0 _ rfl) (hv.keep (Kp.ofBelow hB0 (fun k hk => hk)))) kp_t (kp_b hG) (Below.refl _ _) (fun _ => rfl)
    (fun pre W => (∃ v, Boxed W m 28 v ∧ W.ownsRow m 33 2 v pre.length (cellsD pre) ∧ True) ∧ Below m w W)
    (fun _ _ _ => False)
    (OwnFrom.and (Own.from (holdsRow_own m m 28 33 2 (fun pre : List Dt => pre.length) (fun pre => cellsD pre) (fun _ _ => True)) _) (ownFrom_below (by omega) (by omega)))
    (fun _ _ _ _ _ hs _ _ => hs)
    ⟨⟨_, hbox, World.ownsRow_nil _ _ _ _, trivial⟩, hB0⟩
    (fun x a' W => ∃ Bx, m < Bx ∧ Holds W Bx [.int .u64 (x.1 : Int), .int .u64 (x.2 : Int)] 33 ∧ a' = { tmps := #[.slice a ls.length cap, undef, .slice none 0 0, .pointer (some ⟨m, 0, none⟩), .pointer (some ⟨Bx, 0, none⟩), .slice a ls.length cap, .func (.func 55) #[] #[.pointer (some ⟨m + 1, 0, none⟩)], dotV x, undef, undef, undef, undef, undef, undef, undef, undef], defers := [] })
    (fun x a' _ X Y row hs hg hr => by obtain ⟨Bx, h1, h2, h3⟩ := hs; exact ⟨Bx, h1, holds_own Bx (fun (_ : Unit) => [.int .u64 (x.1 : Int), .int .u64 (x.2 : Int)]) 33 () X Y row h2 hg (fun r e => (hr r e).2), h3⟩)
    ?assign ?body ?done ?stop
  case assign =>
    rintro l pre x W K ⟨⟨v, h1, hr, _⟩, hB1⟩ hK
    have hle : m ≤ W.heap.size := Nat.le_trans (by omega) hB1.size
    gi_wp2
    exact hK _ _ ((KeepsOthers.alloc _ _).from _) ((Kp.refl _ W).alloc (fun k hk => Nat.lt_of_lt_of_le hk hle) _) ⟨⟨v, h1.alloc _, hr.alloc _, trivial⟩, hB1.alloc hle _⟩ ⟨W.heap.size, h1.lt, holds_new W [_, _] 33, rfl⟩
  case body =>
    rintro l pre x a' W hl ⟨r, hr⟩ ⟨⟨v, hv, hrow, _⟩, hB1⟩ ⟨Bx, hBx, bX, rfl⟩ hlt
    have c0 := hv.cell
    have x0 := bX.at 0 _ rfl
    have x1 := bX.at 1 _ rfl
    have hle : m ≤ W.heap.size := Nat.le_trans (by omega) hB1.size
    have hnew : ∀ j u, [Value.int .u64 (x.1 : Int), .int .u64 (x.2 : Int)][j]? = some u → (W.alloc (.cells #[.int .u64 (x.1 : Int), .int .u64 (x.2 : Int)] 33)).cell? ((⟨W.heap.size, 0, none⟩ : Addr).add j) = some u := fun j u hu => by
      have := (holds_new W [.int .u64 (x.1 : Int), .int .u64 (x.2 : Int)] 33).at j u hu
      have e : (⟨W.heap.size, 0, none⟩ : Addr).add j = ⟨W.heap.size, j, none⟩ := by simp [Addr.add]; exact fun h => h.symm
      rw [e]; exact this
    gi_wp2_with (gi_at_builtin; refine wpListIn_append_own _ rfl _ _ 28 rfl m 33 i0 (.agg #[.int .u64 0, .int .u64 0]) 2 16 Try.underlying28 hi hz0 hz1 hz2 rfl (by decide) _ _ _ rfl (hrow.alloc _) ⟨W.heap.size, 0, none⟩ 1 1 [.int .u64 (x.1 : Int), .int .u64 (x.2 : Int)] rfl rfl hnew (by simp [Value.oneCell']) (by unfold maxLen; omega) (by omega) (by simp; omega) ?_; intro v' w1 hown' hgrow _; obtain ⟨g', cap', rfl⟩ := ownsRow_succ hown'; obtain ⟨hv1, hv2, hr2, hk2, hb2⟩ := hv.appended (by decide) hrow hle (Nat.le_refl _) hown' hgrow; have hc1 := hv1.cell; have hf1 := hv1.frozen)
    have hcd : cellsD (pre ++ [x]) = cellsD pre ++ [.int .u64 (x.1 : Int), .int .u64 (x.2 : Int)] := by rw [cellsD_append]; rfl
    exact ⟨hk2.from _, Kp.ofBelow hb2 (fun k hk => hk), ⟨_, hv2, by rw [hcd, List.length_append]; exact hr2, trivial⟩, hB1.trans hb2⟩
  case done =>
    rintro D zs W hD rfl ⟨⟨v, hv, hrow, _⟩, hB1⟩ hK
    have hle : m ≤ W.heap.size := Nat.le_trans (by omega) hB1.size
    have c0 := hv.cell
    have hDl : D < W.heap.size := (Array.getElem?_eq_some_iff.1 hK).1
    rcases own_holds hrow rfl with ⟨rfl, hnil⟩ | ⟨g, cap', tl, rfl, hg, hcap, hH⟩
    · have h39 := sort_none 0 W
      have h41 := compact_none 0 W
      have hnm : norm ls.flatten = [] := by
        rw [allD_flat] at hnil
        exact (norm_of (c := []) ⟨by simp, by simp⟩ (fun a => by rw [← getN_pos ls.flatten, hnil])).symm
      have hB3 := hB1.trans (belowK_b (w := w) (Nat.le_of_eq hm.symm) W D (.deferred (some [])) (.deferred none) (by omega) hK rfl rfl)
      gi_wp2_with (first | (refine ⟨trivial, ?_⟩; gi_at_call 39; refine (callsIn_wide.2 h39).mono ?_; rintro e w1 ⟨rfl, hw1⟩; have hw1 := hw1.symm; subst hw1) | (refine ⟨trivial, ?_⟩; gi_at_call 41; refine (callsIn_wide.2 h41).mono ?_; rintro e w1 ⟨rfl, hw1⟩; have hw1 := hw1.symm; subst hw1))
      refine ⟨by simp, .inl ⟨_, _, rfl, run_takeDeferred hK, ?_⟩⟩
      refine ⟨_, results_tmp rfl _ _ _, _, rfl, ?_, hm ▸ hB3⟩
      rw [hnm]
      exact Clk.nil _ _ _ _
    · have hgD : g ≠ D := fun e => by rw [← e] at hK; unfold Holds at hH; rw [hH] at hK; cases hK
      have hvH : Holds W m [.slice (some ⟨g, 0, none⟩) (allD ls).length cap'] 28 := hv
      have hgm : g ≠ m := fun e => by rw [e] at hH; exact absurd (hH.inj hvH).2 (by decide)
      have h39 := sort_some g (allD ls) tl cap' (by omega) W hH
      have hmm : m ≠ g := fun e => hgm e.symm
      have h41 : ∀ l' w1, l'.length = (allD ls).length → Holds w1 g (cellsD l' ++ tl) 33 → Calls Try.prog 41 #[.slice (some ⟨g, 0, none⟩) (allD ls).length cap', .func (.func 42) #[] #[]] w1 fun e w' => e = .returned (.slice (some ⟨g, 0, none⟩) (compG none l').length cap') ∧ Row w' g 0 (compG none l') ∧ Upd g w1 w' := fun l' w1 e h => by
        have := compact_some g l' tl cap' (by omega) (by omega) w1 h
        rwa [e] at this
      obtain ⟨LN, hLN⟩ : ∃ LN, (allD ls).length = LN := ⟨_, rfl⟩
      rw [hLN] at h39 h41 hvH c0
      gi_wp2_with (first | (refine ⟨trivial, ?_⟩; gi_at_call 39; refine (callsIn_wide.2 h39).mono ?_; rintro e w1 ⟨rfl, l', hp', hs', hl', hH', hU'⟩; have hv1 := (hvH.upd hU' hmm).at 0 _ rfl) | (refine ⟨trivial, ?_⟩; gi_at_call 41; refine (callsIn_wide.2 (h41 l' w1 hl' hH')).mono ?_; rintro e w2 ⟨rfl, hrow2, hU2⟩))
      have hUU := hU'.trans hU2
      have hK2 : w2.heap[D]? = some (.deferred (some [])) := by rw [hUU.block D hDl hgD.symm]; exact hK
      have hnm : compG none l' = norm ls.flatten := comp_norm hs' (by rw [← allD_flat]; exact hp')
      have hBB : Below m w w2 := hB1.trans (hUU.below hg hle)
      have hB3 := belowK_b (w := w) (Nat.le_refl _) w2 D (.deferred (some [])) (.deferred none) (by omega) hK2 rfl rfl
      refine ⟨by simp, .inl ⟨_, _, rfl, run_takeDeferred hK2, ?_⟩⟩
      refine ⟨_, results_tmp rfl _ _ _, _, rfl, ?_, hm ▸ hBB.trans (hm ▸ hB3)⟩
      rw [← hnm]
      exact clk_row ⟨hm ▸ hg, Nat.lt_of_lt_of_le (Nat.lt_of_lt_of_le hH.lt hUU.size) hB3.size⟩ (hrow2.putObj hgD _)
  case stop =>
    rintro D c pre W _ _ h _
    exact h.elim
end Go.Proofs.Ytbmeflildmeecaa
