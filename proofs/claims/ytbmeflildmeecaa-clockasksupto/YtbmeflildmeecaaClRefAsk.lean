/- The document's Two (20), Covers (22), within (44), Compare (24), Same (26), Next (27); the program's Same (25). -/
import Derived.Deep.RegionHeld3
import Derived.Deep.RegionWith
import Derived.Test.YtbmeflildmeecaaClRefNorm
namespace Go.Proofs.Ytbmeflildmeecaa
open Go.RowKit Go.Shelf Go.Sort Go.Lib Pk

theorem clk_news {G : Nat → Prop} {w : World} {a : Option Addr} {cap : Nat} {l : List Dt} (h : Clk G w (.slice a l.length cap) l) : 0 < l.length → ∃ p, a = some p ∧ ∀ (j : Nat) (u : Value), (cellsD l)[j]? = some u → w.cell? (p.add j) = some u := fun hl => by
  obtain ⟨a', cap', e, hr⟩ := h
  simp only [Value.slice.injEq] at e
  obtain ⟨rfl, -, -⟩ := e
  obtain ⟨b, o, rfl, -, hr⟩ := hr (by intro e; rw [e] at hl; simp at hl)
  exact ⟨_, rfl, row_news hr⟩
set_option maxRecDepth 100000 in
set_option maxHeartbeats 4000000 in
theorem refTwo_any (u v : Value) (c d : List Dt) (hl : c.length + d.length ≤ 1099511627776) (w : World) (hu : Clk (Lt w.heap.size) w u c) (hv : Clk (Lt w.heap.size) w v d) :
    Calls Try.prog 20 #[u, v] w (Makes w (norm (c ++ d))) := by
  obtain ⟨a, cap, rfl, -⟩ := id hu
  obtain ⟨a', cap', rfl, -⟩ := id hv
  obtain ⟨i0, hi, hz0, hz1, hz2⟩ := info_parts info33
  have F33 : Hid (Try.prog.info? 33 = some i0) := hi
  clear hi
  obtain ⟨m, hm⟩ : ∃ m, w.heap.size = m := ⟨_, rfl⟩
  have n1 : Hid (0 < c.length → ∃ p, a = some p ∧ ∀ (j : Nat) (u : Value), (cellsD c)[j]? = some u → w.cell? (p.add j) = some u) := clk_news hu
  have n2 : Hid (∀ W : World, Below m w W → 0 < d.length → ∃ p, a' = some p ∧ ∀ (j : Nat) (u : Value), (cellsD d)[j]? = some u → W.cell? (p.add j) = some u) := fun W hB => clk_news (hv.keep (Kp.ofBelow (G := Lt w.heap.size) (hm ▸ hB) (fun _ h => h)))
  have h19 : Hid (∀ v2 w2, w2.ownsRow m 33 2 v2 (0 + c.length + d.length) ([] ++ cellsD c ++ cellsD d) → Calls Try.prog 19 #[v2] w2 (Makes w2 (norm (c ++ d)))) := fun v2 w2 h => by
    have h3 : w2.ownsRow m 33 2 v2 (c ++ d).length (cellsD (c ++ d)) := by
      rw [cellsD_append, List.length_append]
      simpa using h
    exact refNorm_any v2 (c ++ d) (by rw [List.length_append]; exact hl) w2 (own_clk h3).made
  have l1 : (cellsD c).length = c.length * 2 := cellsD_len c
  have l2 : (cellsD d).length = d.length * 2 := cellsD_len d
  have o1 : Hid (∀ u ∈ cellsD c, u.oneCell' = true) := fun u hu => cells_one hu
  have o2 : Hid (∀ u ∈ cellsD d, u.oneCell' = true) := fun u hu => cells_one hu
  clear hu hv
  generalize norm (c ++ d) = R at *
  generalize cellsD c = X at *
  generalize cellsD d = Y at *
  generalize c.length = nc at *
  generalize d.length = nd at *
  have L1 : Hid (X.length = nc * 2) := l1
  have L2 : Hid (Y.length = nd * 2) := l2
  clear l1 l2
  go_enter Try.func20, Try.ntmps20
  go_wp2_with (first
    | (go_at_call 19; refine (h19.out v2 w2 own2).mono ?_; intro e w3 hM; obtain ⟨a3, c3, rfl, k3, b3⟩ := id hM)
    | (at_builtin; refine wpList_append_src rfl (.tmp 9) (.tmp 10) 28 rfl m 33 i0 (.agg #[.int .u64 0, .int .u64 0]) 2 16 Try.underlying28 F33.out hz0 hz1 hz2 rfl (by omega) _ _ _ own1 rfl Y _ _ _ rfl L2.out (n2.out w1 B1) o2.out (by unfold maxLen; omega) (by omega) le1 ?_; intro v2 w2 own2 gr2 at2; have B2 := B1.grown gr2 le1 (fun j e => own_base own1 j e))
    | (at_builtin; refine wpList_append_src rfl (.tmp 6) (.tmp 7) 28 rfl m 33 i0 (.agg #[.int .u64 0, .int .u64 0]) 2 16 Try.underlying28 F33.out hz0 hz1 hz2 rfl (by omega) _ _ _ (World.ownsRow_nil _ _ _ _) rfl X _ _ _ rfl L1.out n1.out o1.out (by unfold maxLen; omega) (by omega) (by omega) ?_; intro v1 w1 own1 gr1 at1; have le1 : m ≤ w1.heap.size := by have := gr1.size; omega
       have B1 : Below m w w1 := (Below.refl m w).grown gr1 (by omega) (fun j e => by cases e)))
  go_ret
  have hle := B2.size
  exact ⟨a3, c3, rfl, k3.mono (fun k hk => ⟨by omega, hk.2⟩), below_trans (hm ▸ B2) b3⟩

set_option maxRecDepth 100000 in
set_option maxHeartbeats 4000000 in
theorem refCovers_any (v : Value) (c : List Dt) (d : Dt) (hl : c.length < 9223372036854775807) (w : World) (hv : Clk (Lt w.heap.size) w v c) :
    Calls Try.prog 22 #[v, dotV d] w fun e w' => e = .returned (.bool (covers c d)) ∧ Below w.heap.size w w' := by
  obtain ⟨a, cap, rfl, -⟩ := id hv
  have hB := below_alloc w (.cells #[.int .u64 (d.1 : Int), .int .u64 (d.2 : Int)] 33)
  have h21 : Hid (∀ W, Below w.heap.size w W → Calls Try.prog 21 #[.slice a c.length cap, .int .u64 (d.1 : Int)] W fun e w' => e = .returned (.int .u64 (getN c d.1 : Int)) ∧ w' = W) := fun W h => refGet_any _ c d.1 hl W (hv.up h)
  have x0 := (holds_new w [.int .u64 (d.1 : Int), .int .u64 (d.2 : Int)] 33).at 0 _ rfl
  have x1 := (holds_new w [.int .u64 (d.1 : Int), .int .u64 (d.2 : Int)] 33).at 1 _ rfl
  unfold covers
  clear hv
  generalize getN c d.1 = G at *
  by_cases h0 : 0 < d.2
  · have h0' : (0 : Int) < (d.2 : Int) := by omega
    by_cases h1 : d.2 ≤ G
    · have h1' : (d.2 : Int) ≤ (G : Int) := by omega
      rw [decide_eq_true (p := 0 < d.2 ∧ d.2 ≤ G) ⟨h0, h1⟩]
      have h0d : decide (0 < d.2) = true := decide_eq_true h0
      go_enter Try.func22, Try.ntmps22
      go_wp2_with fail
      go_region_held3 (fun w' => w'.cell? ⟨w.heap.size, 0, none⟩ = some (.int .u64 (d.1 : Int)) ∧ w'.cell? ⟨w.heap.size, 1, none⟩ = some (.int .u64 (d.2 : Int))) (go_keep) (first | (go_at_call 21; refine (h21.out _ hB.drew).mono ?_; rintro e w' ⟨rfl, rfl⟩))
      all_goals
        go_wp2
        go_ret
        exact ⟨rfl, hB.drew⟩
    · have h1' : ¬ (d.2 : Int) ≤ (G : Int) := by omega
      rw [decide_eq_false (p := 0 < d.2 ∧ d.2 ≤ G) (fun q => h1 q.2)]
      have h0d : decide (0 < d.2) = true := decide_eq_true h0
      go_enter Try.func22, Try.ntmps22
      go_wp2_with fail
      go_region_held3 (fun w' => w'.cell? ⟨w.heap.size, 0, none⟩ = some (.int .u64 (d.1 : Int)) ∧ w'.cell? ⟨w.heap.size, 1, none⟩ = some (.int .u64 (d.2 : Int))) (go_keep) (first | (go_at_call 21; refine (h21.out _ hB.drew).mono ?_; rintro e w' ⟨rfl, rfl⟩))
      all_goals
        go_wp2
        go_ret
        exact ⟨rfl, hB.drew⟩
  · have h0' : ¬ (0 : Int) < (d.2 : Int) := by omega
    rw [decide_eq_false (p := 0 < d.2 ∧ d.2 ≤ G) (fun q => h0 q.1)]
    go_enter Try.func22, Try.ntmps22
    go_wp2_with fail
    first
      | (go_region_with (fail))
      | fail
    all_goals
      go_wp2
      go_ret
      exact ⟨rfl, hB.drew⟩
end Go.Proofs.Ytbmeflildmeecaa
