/- Covers (16): was a dot seen? -/
import Derived.Test.YtbmeflildmeecaaClGet
namespace Go.Proofs.Ytbmeflildmeecaa
open Go.RowKit Go.Shelf
attribute [local go_sem] Oper.semAt_some

def covers (c : List Dt) (d : Dt) : Bool := decide (0 < d.2 ∧ d.2 ≤ getN c d.1)
theorem covers_no {c : List Dt} {d : Dt} (h : ∀ x ∈ posD c, ¬ (x.1 = d.1 ∧ d.2 ≤ x.2)) : covers c d = false := by
  refine decide_eq_false (fun ⟨h1, h2⟩ => ?_)
  have := getN_pos c d.1
  have hm := getN_mem (l := posD c) (a := d.1) (by omega)
  exact h _ hm ⟨rfl, by show d.2 ≤ getN (posD c) d.1; omega⟩
theorem covers_yes {c : List Dt} {d : Dt} {x : Dt} (h : x ∈ posD c) (h1 : x.1 = d.1) (h2 : d.2 ≤ x.2) : covers c d = decide (0 < d.2) := by
  have := getN_ge h
  rw [h1, getN_pos] at this
  unfold covers
  by_cases g : 0 < d.2
  · rw [decide_eq_true g]; exact decide_eq_true ⟨g, by omega⟩
  · rw [decide_eq_false g]; exact decide_eq_false (fun q => g q.1)

def NoHit (d : Dt) (l : List Dt) : Prop := ∀ x ∈ l, ¬ (x.1 = d.1 ∧ d.2 ≤ x.2)
theorem NoHit.snoc {d x : Dt} {l : List Dt} (h : NoHit d l) (hx : ¬ (x.1 = d.1 ∧ d.2 ≤ x.2)) : NoHit d (l ++ [x]) := fun y hy => by
  rcases List.mem_append.1 hy with q | q
  · exact h y q
  · simp at q; subst q; exact hx

set_option maxRecDepth 100000 in
set_option maxHeartbeats 4000000 in
theorem covers_any (v : Value) (c : List Dt) (d : Dt) (hl : c.length < 9223372036854775807) (w : World) (hv : Clk (Lt w.heap.size) w v c) :
    Calls Try.prog 16 #[v, dotV d] w fun e w' => e = .returned (.bool (covers c d)) ∧ Below w.heap.size w w' := by
  obtain ⟨a, cap, rfl, hv'⟩ := id hv
  refine (callsIn_wide (n := 3)).1 ?_
  refine callsIn_of_wp_marks Try.func16 rfl trivial ?_ rfl
  simp only [Try.ntmps16, List.size_toArray, List.length_cons, List.length_nil, Nat.reduceAdd, Nat.reduceSub, Array.replicate_succ, Array.replicate_zero, List.push_toArray, List.append_toArray, List.nil_append, List.cons_append]
  gi_wp2_with (refine ⟨trivial, ?_⟩; gi_at_call 38; refine (dots_in Fence.wide 2 trivial rfl _ _ _ _).mono ?_; rintro e w' ⟨rfl, rfl⟩)
  obtain ⟨m, hm⟩ : ∃ m, w.heap.size = m := ⟨_, rfl⟩
  rw [hm] at hv ⊢
  have b0 := (((holds_new w [.int .u64 (d.1 : Int), .int .u64 (d.2 : Int)] 33).alloc (.cells #[.bool false] 4)).alloc (.cells #[.slice a c.length cap] 28)).alloc (.cells #[.slice (some ⟨m + 1 + 1, 0, none⟩) 1 1] 59)
  have b1 := ((holds_new (w.alloc (.cells #[.int .u64 (d.1 : Int), .int .u64 (d.2 : Int)] 33)) [.bool false] 4).alloc (.cells #[.slice a c.length cap] 28)).alloc (.cells #[.slice (some ⟨m + 1 + 1, 0, none⟩) 1 1] 59)
  have b2 := (holds_new ((w.alloc (.cells #[.int .u64 (d.1 : Int), .int .u64 (d.2 : Int)] 33)).alloc (.cells #[.bool false] 4)) [.slice a c.length cap] 28).alloc (.cells #[.slice (some ⟨m + 1 + 1, 0, none⟩) 1 1] 59)
  have b3 := holds_new (((w.alloc (.cells #[.int .u64 (d.1 : Int), .int .u64 (d.2 : Int)] 33)).alloc (.cells #[.bool false] 4)).alloc (.cells #[.slice a c.length cap] 28)) [.slice (some ⟨m + 1 + 1, 0, none⟩) 1 1] 59
  simp only [World.size_alloc, hm] at b0 b1 b2 b3
  have hB0 : Below m w ((((w.alloc (.cells #[.int .u64 (d.1 : Int), .int .u64 (d.2 : Int)] 33)).alloc (.cells #[.bool false] 4)).alloc (.cells #[.slice a c.length cap] 28)).alloc (.cells #[.slice (some ⟨m + 1 + 1, 0, none⟩) 1 1] 59)) := ((((Below.refl _ w).alloc (by omega) _).alloc (by simp; omega) _).alloc (by simp; omega) _).alloc (by simp; omega) _
  have hsz : ((((w.alloc (.cells #[.int .u64 (d.1 : Int), .int .u64 (d.2 : Int)] 33)).alloc (.cells #[.bool false] 4)).alloc (.cells #[.slice a c.length cap] 28)).alloc (.cells #[.slice (some ⟨m + 1 + 1, 0, none⟩) 1 1] 59)).heap.size = m + 4 := by simp [hm]
  obtain ⟨W0, hW0⟩ : ∃ W0, (((w.alloc (.cells #[.int .u64 (d.1 : Int), .int .u64 (d.2 : Int)] 33)).alloc (.cells #[.bool false] 4)).alloc (.cells #[.slice a c.length cap] 28)).alloc (.cells #[.slice (some ⟨m + 1 + 1, 0, none⟩) 1 1] 59) = W0 := ⟨_, rfl⟩
  change Holds _ _ _ _ at b0 b1 b2 b3
  simp only [List.toArray] at b0 b1 b2 b3
  rw [hW0] at b0 b1 b2 b3 hB0 hsz ⊢
  clear hW0
  have hG : ∀ k, (k < m ∨ k = m + 1 + 1) → k < W0.heap.size := fun k hk => by omega
  have hcl : Clk (fun k => k < m ∨ k = m + 1 + 1) W0 (.slice a c.length cap) c := (hv.keep (Kp.ofBelow hB0 (fun k hk => hk))).mono (fun k hk => .inl hk)
  refine wpIn_rangeFunc_ownH rfl (by omega) (gf := 55) (lb := #[.pointer (some ⟨m + 1 + 1 + 1, 0, none⟩)]) rfl trivial (enters_of Try.func55 (by kernel_rfl) rfl)
    (dots_stops Fence.wide 2 trivial rfl (by omega) (m + 1 + 1 + 1) (fun k => k < m ∨ k = m + 1 + 1) _ [c] (by simp) (by simpa using hl) W0 (by omega) hG (b3.at 0 _ rfl) (clks_one (.inr rfl) (b2.at 0 _ rfl) hcl)) kp_t (kp_b hG) (Below.refl _ _) (fun _ => rfl)
    (fun pre W => ((NoHit d pre ∧ Holds W (m + 1) [.bool false] 4) ∧ Holds W m [.int .u64 (d.1 : Int), .int .u64 (d.2 : Int)] 33 ∧ Holds W (m + 1 + 1) [.slice a c.length cap] 28) ∧ Below m w W)
    (fun c pre W => ((c = .ret ∧ ∃ x ∈ pre, x.1 = d.1 ∧ d.2 ≤ x.2) ∧ Holds W (m + 1) [.bool (decide (0 < d.2))] 4) ∧ Below m w W)
    (OwnFrom.and (OwnFrom.and (OwnFrom.and (ownFrom_pure _ _) (Own.from (holds_own _ (fun pre => [.bool false]) _) _)) (OwnFrom.and (Own.from (holds_own _ (fun _ => [.int .u64 (d.1 : Int), .int .u64 (d.2 : Int)]) _) _) (Own.from (holds_own _ (fun _ => [.slice a c.length cap]) _) _))) (ownFrom_below (by omega) (by omega)))
    (fun c => OwnFrom.and (OwnFrom.and (ownFrom_pure _ _) (Own.from (holds_own _ (fun pre => [.bool (decide (0 < d.2))]) _) _)) (ownFrom_below (by omega) (by omega)))
    ⟨⟨⟨fun _ h => (by cases h), b1⟩, b0, b2⟩, hB0⟩
    (fun x a' W => ∃ Bx, m + 1 < Bx ∧ Holds W Bx [.int .u64 (x.1 : Int), .int .u64 (x.2 : Int)] 33 ∧ a' = { tmps := #[.slice a c.length cap, dotV d, undef, .pointer (some ⟨m, 0, none⟩), .pointer (some ⟨m + 1, 0, none⟩), .pointer (some ⟨Bx, 0, none⟩), .slice a c.length cap, .slice (some ⟨m + 1 + 1, 0, none⟩) 1 1, .func (.func 55) #[] #[.pointer (some ⟨m + 1 + 1 + 1, 0, none⟩)], dotV x, undef, undef, undef, undef, undef, undef, undef, undef, undef, undef, undef, undef, undef, undef, undef], defers := [] })
    (fun x a' _ X Y row hs hg hr => by obtain ⟨Bx, h1, h2, h3⟩ := hs; exact ⟨Bx, h1, holds_own Bx (fun (_ : Unit) => [.int .u64 (x.1 : Int), .int .u64 (x.2 : Int)]) 33 () X Y row h2 hg (fun r e => (hr r e).2), h3⟩)
    ?assign ?body ?done ?stop
  case assign =>
    rintro l pre x W K ⟨⟨⟨hp, h1⟩, h0, h2⟩, hB1⟩ hK
    have hle : m ≤ W.heap.size := Nat.le_trans (by omega) hB1.size
    gi_wp2
    refine hK _ _ ((KeepsOthers.alloc _ _).from _) ((Kp.refl _ W).alloc ?_ _) ⟨⟨⟨hp, h1.alloc _⟩, h0.alloc _, h2.alloc _⟩, hB1.alloc hle _⟩ ⟨W.heap.size, h1.lt, holds_new W [_, _] 33, rfl⟩
    intro k hk
    have := h2.lt
    omega
  case body =>
    rintro l pre x a' W hl ⟨r, hr⟩ ⟨⟨⟨hp, h1⟩, h0, h2⟩, hB1⟩ ⟨Bx, hBx, bX, rfl⟩ hlt
    have c0 := h0.at 0 _ rfl
    have c01 := h0.at 1 _ rfl
    have c1 := h1.at 0 _ rfl
    have f1 := h1.frozen 0
    have x0 := bX.at 0 _ rfl
    have x1 := bX.at 1 _ rfl
    by_cases hx : x.1 = d.1
    · have hx' : (x.1 : Int) = (d.1 : Int) := by omega
      by_cases hy : d.2 ≤ x.2
      · have hy' : (d.2 : Int) ≤ (x.2 : Int) := by omega
        gi_wp2
        refine ⟨(KeepsOthers.setCell _ _ _).from _, ⟨⟨rfl, x, by simp, hx, hy⟩, ?_⟩, hB1.setCell (p := ⟨m + 1, 0, none⟩) (by simp) _⟩
        have := h1.set 0 (.bool (decide (0 < d.2)))
        simpa using this
      · have hy' : ¬ (d.2 : Int) ≤ (x.2 : Int) := by omega
        gi_wp2
        exact ⟨KeepsFrom.refl _ _, Kp.refl _ _, ⟨⟨hp.snoc (fun g => hy g.2), h1⟩, h0, h2⟩, hB1⟩
    · have hx' : ¬ (x.1 : Int) = (d.1 : Int) := by omega
      gi_wp2
      exact ⟨KeepsFrom.refl _ _, Kp.refl _ _, ⟨⟨hp.snoc (fun g => hx g.1), h1⟩, h0, h2⟩, hB1⟩
  case done =>
    rintro D zs W hD rfl ⟨⟨⟨hp, h1⟩, h0, h2⟩, hB1⟩ hK
    have c1 := h1.at 0 _ rfl
    have f1 := h1.frozen 0
    rw [allD_one] at hp
    gi_wp2
    have hK' := (KeepsOthers.setCell W ⟨m + 1, 0, none⟩ (.bool false)).same D _ hK rfl
    refine ⟨by simp, .inl ⟨_, _, rfl, run_takeDeferred hK', ?_⟩⟩
    have hc5 := cell_kept ((h1.set 0 (.bool false)).at 0 _ rfl) (grownBy_putObj' _ D (.deferred none)) (fun r e => by cases e; exact ⟨_, hK', rfl⟩)
    refine ⟨.bool false, ?_, by rw [covers_no hp], hm ▸ (hB1.setCell (p := ⟨m + 1, 0, none⟩) (by simp) _).trans (belowK_b (w := w) (by omega) _ D _ _ (by omega) hK' rfl rfl)⟩
    simp [results, Try.f16, go_sem, hc5]
  case stop =>
    rintro D c' pre W hD hpre ⟨⟨⟨rfl, x, hx, hx1, hx2⟩, h1⟩, hB1⟩ hK
    gi_wp2
    refine ⟨by simp, .inl ⟨_, _, rfl, run_takeDeferred hK, ?_⟩⟩
    have hc5 := cell_kept (h1.at 0 _ rfl) (grownBy_putObj' _ D (.deferred none)) (fun r e => by cases e; exact ⟨_, hK, rfl⟩)
    rw [allD_one] at hpre
    refine ⟨.bool (decide (0 < d.2)), ?_, by rw [covers_yes (hpre.subset hx) hx1 hx2], hm ▸ hB1.trans (belowK_b (w := w) (by omega) W D _ _ (by omega) hK rfl rfl)⟩
    simp [results, Try.f16, go_sem, hc5]
end Go.Proofs.Ytbmeflildmeecaa
