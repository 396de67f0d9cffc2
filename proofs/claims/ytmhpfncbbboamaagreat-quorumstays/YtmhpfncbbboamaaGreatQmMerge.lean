/- Merge (37) of clocks of nothing. -/
import Derived.Maps.AppendAt
import Derived.Test.YtmhpfncbbboamaaGreatQmDots
import Derived.Test.YtmhpfncbbboamaaGreatQmNone
namespace Go.Proofs.YtmhpfncbbboamaaGreat
open Go.RowKit Go.Shelf Go.Lib
attribute [local go_sem] Oper.semAt_some

set_option maxRecDepth 100000 in
theorem compact_none (f : Value) (w : World) :
    Calls Tryz.prog 47 #[.slice none 0 0, f] w fun e w' => e = .returned (.slice none 0 0) ∧ w' = w := by
  go_enter Tryz.func47, Tryz.ntmps47
  go_wp2
  go_ret
  exact ⟨rfl, rfl⟩
theorem allD_none (m : Nat) : allD (List.replicate m []) = [] := by
  induction m with
  | zero => rfl
  | succ m ih => rw [List.replicate_succ, allD, List.flatMap_cons]; exact ih
set_option maxRecDepth 100000 in
set_option maxHeartbeats 4000000 in
theorem merge_none (v : Value) (ls : List (List Dt)) (hl : ls.length < 9223372036854775807) (hls : ∀ c ∈ ls, c.length < 9223372036854775807) (hall : allD ls = []) (w : World) (hv : Clks (fun k => k < w.heap.size) w v ls) :
    Calls Tryz.prog 37 #[v] w fun e w' => e = .returned (.slice none 0 0) ∧ Gr w w' := by
  obtain ⟨a, cap, rfl, hv'⟩ := id hv
  refine (callsIn_wide (n := 3)).1 ?_
  refine callsIn_of_wp_marks Tryz.func37 rfl trivial ?_ rfl
  simp only [Tryz.ntmps37, List.size_toArray, List.length_cons, List.length_nil, Nat.reduceAdd, Nat.reduceSub, Array.replicate_succ, Array.replicate_zero, List.push_toArray, List.append_toArray, List.nil_append, List.cons_append]
  gi_wp2_with (refine ⟨trivial, ?_⟩; gi_at_call 44; refine (dots_in Fence.wide 2 trivial rfl _ _ _ _).mono ?_; rintro e w' ⟨rfl, rfl⟩)
  obtain ⟨m, hm⟩ : ∃ m, w.heap.size = m := ⟨_, rfl⟩
  rw [hm] at hv ⊢
  have b0 := (holds_new w [.slice none 0 0] 32).alloc (.cells #[.slice a ls.length cap] 99)
  have b1 := holds_new (w.alloc (.cells #[.slice none 0 0] 32)) [.slice a ls.length cap] 99
  simp only [World.size_alloc, hm] at b0 b1
  have hB0 : Below m w ((w.alloc (.cells #[.slice none 0 0] 32)).alloc (.cells #[.slice a ls.length cap] 99)) := ((Below.refl _ w).alloc (by omega) _).alloc (by simp; omega) _
  have hsz : ((w.alloc (.cells #[.slice none 0 0] 32)).alloc (.cells #[.slice a ls.length cap] 99)).heap.size = m + 2 := by simp [hm]
  obtain ⟨W0, hW0⟩ : ∃ W0, (w.alloc (.cells #[.slice none 0 0] 32)).alloc (.cells #[.slice a ls.length cap] 99) = W0 := ⟨_, rfl⟩
  simp only [List.toArray] at b0 b1
  rw [hW0] at b0 b1 hB0 hsz ⊢
  clear hW0
  have hG : ∀ k, k < m → k < W0.heap.size := fun k hk => by omega
  have hbox : Boxed W0 m 32 (.slice none 0 0) := b0
  refine wpIn_rangeFunc_ownH rfl (by omega) (gf := 56) (lb := #[.pointer (some ⟨m + 1, 0, none⟩)]) rfl trivial (enters_of Tryz.func56 (by kernel_rfl) rfl)
    (dots_stops Fence.wide 2 trivial rfl (by omega) (m + 1) (fun k => k < m) _ ls hl hls W0 (by omega) hG (b1.at 0 _ rfl) (hv.keep (Kp.ofBelow hB0 (fun k hk => hk)))) kp_t (kp_b hG) (Below.refl _ _) (fun _ => rfl)
    (fun pre W => (∃ v, Boxed W m 32 v ∧ W.ownsRow m 105 2 v (pre.map fun _ => 0).length (pre.flatMap fun d => [.int .u64 (d.1 : Int), .int .u64 (d.2 : Int)]) ∧ v = .slice none 0 0) ∧ Below m w W)
    (fun _ _ _ => False)
    (OwnFrom.and (Own.from (holdsRow_own m m 32 105 2 (fun pre : List Dt => (pre.map fun _ => 0).length) (fun pre => pre.flatMap fun d => [.int .u64 (d.1 : Int), .int .u64 (d.2 : Int)]) (fun _ v => v = .slice none 0 0)) _) (ownFrom_below (by omega) (by omega)))
    (fun _ _ _ _ _ hs _ _ => hs)
    ⟨⟨_, hbox, World.ownsRow_nil _ _ _ _, rfl⟩, hB0⟩
    (fun x a' W => True)
    (fun x a' _ X Y row hs hg hr => trivial)
    ?assign ?body ?done ?stop
  case assign =>
    rintro l pre x W K ⟨⟨v, h1, hr, hvn⟩, hB1⟩ hK
    have hle : m ≤ W.heap.size := Nat.le_trans (by omega) hB1.size
    gi_wp2
    exact hK _ _ ((KeepsOthers.alloc _ _).from _) ((Kp.refl _ W).alloc (fun k hk => Nat.lt_of_lt_of_le hk hle) _) ⟨⟨v, h1.alloc _, hr.alloc _, hvn⟩, hB1.alloc hle _⟩ trivial
  case body =>
    rintro l pre x a' W hl ⟨r, hr⟩ _ _ hlt
    rw [hall] at hlt
    exact absurd hlt (Nat.not_lt_zero _)
  case done =>
    rintro D zs W hD rfl ⟨⟨v, hv, hrow, rfl⟩, hB1⟩ hK
    have c0 := hv.cell
    have hDl : D < W.heap.size := (Array.getElem?_eq_some_iff.1 hK).1
    have h39 := sort45_none (.func (.func 46) #[] #[]) W
    have h41 := compact_none (.func (.func 48) #[] #[]) W
    have hB3 := hB1.trans (belowK_b (w := w) (Nat.le_of_eq hm.symm) W D (.deferred (some [])) (.deferred none) (by omega) hK rfl rfl)
    gi_wp2_with (first | (refine ⟨trivial, ?_⟩; gi_at_call 45; refine (callsIn_wide.2 h39).mono ?_; rintro e w1 ⟨rfl, hw1⟩; have hw1 := hw1.symm; subst hw1) | (refine ⟨trivial, ?_⟩; gi_at_call 47; refine (callsIn_wide.2 h41).mono ?_; rintro e w1 ⟨rfl, hw1⟩; have hw1 := hw1.symm; subst hw1))
    refine ⟨by simp, .inl ⟨_, _, rfl, run_takeDeferred hK, ?_⟩⟩
    exact ⟨_, results_tmp rfl _ _ _, rfl, by unfold Gr; rw [hm]; exact hB3⟩
  case stop =>
    rintro D c pre W _ _ h _
    exact h.elim
/-- One clock of nothing, or two. -/
theorem merge_nils (n g : Nat) (t : TypeId) (cs : List Value) (hn : n = 1 ∨ n = 2) (hcs : cs = List.replicate n (.slice none 0 0)) (w : World) (hH : Holds w g cs t) : Calls Tryz.prog 37 #[.slice (some ⟨g, 0, none⟩) n n] w fun e w' => e = .returned (.slice none 0 0) ∧ Gr w w' := by
  have := merge_none (.slice (some ⟨g, 0, none⟩) n n) (List.replicate n []) (by simp; omega) (by intro c hc; rw [List.eq_of_mem_replicate hc]; simp) (allD_none n) w ⟨some ⟨g, 0, none⟩, n, by simp, fun i l hi => ⟨g, 0, .slice none 0 0, rfl, hH.lt, ?_, ?_⟩⟩
  · exact this
  · have hi' : i < n := by have := (List.getElem?_eq_some_iff.1 hi).1; simpa using this
    exact hH.at _ _ (by rw [hcs, Nat.zero_add, List.getElem?_replicate, if_pos hi'])
  · rw [List.eq_of_mem_replicate (List.mem_of_getElem? hi)]
    exact Clk.nil _ _ _ _
end Go.Proofs.YtmhpfncbbboamaaGreat
