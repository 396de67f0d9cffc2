/- Get (12): an actor's N. -/
import Derived.Test.YtbmeflildmeecaaClDots
namespace Go.Proofs.Ytbmeflildmeecaa
open Go.RowKit Go.Shelf
attribute [local go_sem] Oper.semAt_some

theorem clks_one {G : Nat → Prop} {b : Nat} {w : World} {v : Value} {c : List Dt} (hb : G b) (hc : w.cell? ⟨b, 0, none⟩ = some v) (h : Clk G w v c) : Clks G w (.slice (some ⟨b, 0, none⟩) 1 1) [c] :=
  ⟨_, _, rfl, fun i l e => by
    cases i with
    | zero => cases e; exact ⟨b, 0, v, rfl, hb, hc, h⟩
    | succ i => simp at e⟩
theorem allD_one (c : List Dt) : allD [c] = posD c := by simp [allD]
theorem holds_own {β : Type} (B : Nat) (cs : β → List Value) (t : TypeId) : Own (fun s W => Holds W B (cs s) t) := fun s X Y row hs hg hrow => by
  unfold Holds at *
  exact (grownBy_keeps_cells hg hrow hs rfl).trans hs
/-- What lies below n. -/
abbrev Lt (n : Nat) : Nat → Prop := fun k => k < n

set_option maxRecDepth 100000 in
set_option maxHeartbeats 4000000 in
theorem get_any (v : Value) (c : List Dt) (actor : Nat) (hl : c.length < 9223372036854775807) (w : World) (hv : Clk (Lt w.heap.size) w v c) :
    Calls Try.prog 12 #[v, .int .u64 (actor : Int)] w fun e w' => e = .returned (.int .u64 (getN c actor : Int)) ∧ Below w.heap.size w w' := by
  obtain ⟨a, cap, rfl, hv'⟩ := id hv
  refine (callsIn_wide (n := 3)).1 ?_
  refine callsIn_of_wp_marks Try.func12 rfl trivial ?_ rfl
  simp only [Try.ntmps12, List.size_toArray, List.length_cons, List.length_nil, Nat.reduceAdd, Nat.reduceSub, Array.replicate_succ, Array.replicate_zero, List.push_toArray, List.append_toArray, List.nil_append, List.cons_append]
  gi_wp2_with (refine ⟨trivial, ?_⟩; gi_at_call 38; refine (dots_in Fence.wide 2 trivial rfl _ _ _ _).mono ?_; rintro e w' ⟨rfl, rfl⟩)
  obtain ⟨m, hm⟩ : ∃ m, w.heap.size = m := ⟨_, rfl⟩
  rw [hm] at hv ⊢
  have b0 := (((holds_new w [.int .u64 (actor : Int)] 24).alloc (.cells #[.int .u64 0] 24)).alloc (.cells #[.slice a c.length cap] 28)).alloc (.cells #[.slice (some ⟨m + 1 + 1, 0, none⟩) 1 1] 59)
  have b1 := ((holds_new (w.alloc (.cells #[.int .u64 (actor : Int)] 24)) [.int .u64 0] 24).alloc (.cells #[.slice a c.length cap] 28)).alloc (.cells #[.slice (some ⟨m + 1 + 1, 0, none⟩) 1 1] 59)
  have b2 := (holds_new ((w.alloc (.cells #[.int .u64 (actor : Int)] 24)).alloc (.cells #[.int .u64 0] 24)) [.slice a c.length cap] 28).alloc (.cells #[.slice (some ⟨m + 1 + 1, 0, none⟩) 1 1] 59)
  have b3 := holds_new (((w.alloc (.cells #[.int .u64 (actor : Int)] 24)).alloc (.cells #[.int .u64 0] 24)).alloc (.cells #[.slice a c.length cap] 28)) [.slice (some ⟨m + 1 + 1, 0, none⟩) 1 1] 59
  simp only [World.size_alloc, hm] at b0 b1 b2 b3
  have hB0 : Below m w ((((w.alloc (.cells #[.int .u64 (actor : Int)] 24)).alloc (.cells #[.int .u64 0] 24)).alloc (.cells #[.slice a c.length cap] 28)).alloc (.cells #[.slice (some ⟨m + 1 + 1, 0, none⟩) 1 1] 59)) := ((((Below.refl _ w).alloc (by omega) _).alloc (by simp; omega) _).alloc (by simp; omega) _).alloc (by simp; omega) _
  have hsz : ((((w.alloc (.cells #[.int .u64 (actor : Int)] 24)).alloc (.cells #[.int .u64 0] 24)).alloc (.cells #[.slice a c.length cap] 28)).alloc (.cells #[.slice (some ⟨m + 1 + 1, 0, none⟩) 1 1] 59)).heap.size = m + 4 := by simp [hm]
  obtain ⟨W0, hW0⟩ : ∃ W0, (((w.alloc (.cells #[.int .u64 (actor : Int)] 24)).alloc (.cells #[.int .u64 0] 24)).alloc (.cells #[.slice a c.length cap] 28)).alloc (.cells #[.slice (some ⟨m + 1 + 1, 0, none⟩) 1 1] 59) = W0 := ⟨_, rfl⟩
  change Holds _ _ _ _ at b0 b1 b2 b3
  simp only [List.toArray] at b0 b1 b2 b3
  rw [hW0] at b0 b1 b2 b3 hB0 hsz ⊢
  clear hW0
  have hG : ∀ k, (k < m ∨ k = m + 1 + 1) → k < W0.heap.size := fun k hk => by omega
  have hcl : Clk (fun k => k < m ∨ k = m + 1 + 1) W0 (.slice a c.length cap) c := (hv.keep (Kp.ofBelow hB0 (fun k hk => hk))).mono (fun k hk => .inl hk)
  refine wpIn_rangeFunc_ownH rfl (by omega) (gf := 55) (lb := #[.pointer (some ⟨m + 1 + 1 + 1, 0, none⟩)]) rfl trivial (enters_of Try.func55 (by kernel_rfl) rfl)
    (dots_stops Fence.wide 2 trivial rfl (by omega) (m + 1 + 1 + 1) (fun k => k < m ∨ k = m + 1 + 1) _ [c] (by simp) (by simpa using hl) W0 (by omega) hG (b3.at 0 _ rfl) (clks_one (.inr rfl) (b2.at 0 _ rfl) hcl)) kp_t (kp_b hG) (Below.refl _ _) (fun _ => rfl)
    (fun pre W => (Holds W (m + 1) [.int .u64 (getN pre actor : Int)] 24 ∧ Holds W m [.int .u64 (actor : Int)] 24 ∧ Holds W (m + 1 + 1) [.slice a c.length cap] 28) ∧ Below m w W)
    (fun _ _ _ => False)
    (OwnFrom.and (OwnFrom.and (Own.from (holds_own _ (fun pre => [.int .u64 (getN pre actor : Int)]) _) _) (OwnFrom.and (Own.from (holds_own _ (fun _ => [.int .u64 (actor : Int)]) _) _) (Own.from (holds_own _ (fun _ => [.slice a c.length cap]) _) _))) (ownFrom_below (by omega) (by omega)))
    (fun _ _ _ _ _ hs _ _ => hs)
    ⟨⟨b1, b0, b2⟩, hB0⟩
    (fun x a' W => ∃ Bx, m + 1 < Bx ∧ Holds W Bx [.int .u64 (x.1 : Int), .int .u64 (x.2 : Int)] 33 ∧ a' = { tmps := #[.slice a c.length cap, .int .u64 (actor : Int), undef, .pointer (some ⟨m, 0, none⟩), .int .u64 0, .pointer (some ⟨m + 1, 0, none⟩), .pointer (some ⟨Bx, 0, none⟩), .slice a c.length cap, .slice (some ⟨m + 1 + 1, 0, none⟩) 1 1, .func (.func 55) #[] #[.pointer (some ⟨m + 1 + 1 + 1, 0, none⟩)], dotV x, undef, undef, undef, undef, undef, undef, undef, undef, undef], defers := [] })
    (fun x a' _ X Y row hs hg hr => by obtain ⟨Bx, h1, h2, h3⟩ := hs; exact ⟨Bx, h1, holds_own Bx (fun (_ : Unit) => [.int .u64 (x.1 : Int), .int .u64 (x.2 : Int)]) 33 () X Y row h2 hg (fun r e => (hr r e).2), h3⟩)
    ?assign ?body ?done ?stop
  case assign =>
    rintro l pre x W K ⟨⟨h1, h0, h2⟩, hB1⟩ hK
    have hle : m ≤ W.heap.size := Nat.le_trans (by omega) hB1.size
    gi_wp2
    refine hK _ _ ((KeepsOthers.alloc _ _).from _) ((Kp.refl _ W).alloc ?_ _) ⟨⟨h1.alloc _, h0.alloc _, h2.alloc _⟩, hB1.alloc hle _⟩ ⟨W.heap.size, h1.lt, holds_new W [_, _] 33, rfl⟩
    intro k hk
    have := h2.lt
    omega
  case body =>
    rintro l pre x a' W hl ⟨r, hr⟩ ⟨⟨h1, h0, h2⟩, hB1⟩ ⟨Bx, hBx, bX, rfl⟩ hlt
    have c0 := h0.at 0 _ rfl
    have c1 := h1.at 0 _ rfl
    have f1 := h1.frozen 0
    have x0 := bX.at 0 _ rfl
    have x1 := bX.at 1 _ rfl
    by_cases hx : x.1 = actor
    · have hx' : (x.1 : Int) = (actor : Int) := by omega
      gi_wp2
      all_goals
        refine ⟨(KeepsOthers.setCell _ _ _).from _, (Kp.refl _ W).setCell _ _ _ (by omega), ⟨?_, h0.setOther _ _ _ (by omega), h2.setOther _ _ _ (by omega)⟩, hB1.setCell (p := ⟨m + 1, 0, none⟩) (by simp) _⟩
        have := h1.set 0 (.int .u64 (getN (pre ++ [x]) actor : Int))
        rw [getN_append, getN_one, if_pos hx] at this ⊢
        first
          | (rw [Nat.max_eq_right (by omega)] at this ⊢; exact this)
          | (rw [Nat.max_eq_left (by omega)] at this ⊢; exact this)
    · have hx' : ¬ (x.1 : Int) = (actor : Int) := by omega
      gi_wp2
      exact ⟨KeepsFrom.refl _ _, Kp.refl _ _, ⟨by rw [getN_append, getN_one, if_neg hx, Nat.max_zero]; exact h1, h0, h2⟩, hB1⟩
  case done =>
    rintro D zs W hD rfl ⟨⟨h1, h0, h2⟩, hB1⟩ hK
    have c1 := h1.at 0 _ rfl
    gi_wp2
    refine ⟨by simp, .inl ⟨_, _, rfl, run_takeDeferred hK, ?_⟩⟩
    refine ⟨_, results_tmp rfl _ _ _, ?_, hm ▸ hB1.trans (belowK_b (w := w) (by omega) W D _ _ (by omega) hK rfl rfl)⟩
    rw [allD_one, getN_pos]
    rfl
  case stop =>
    rintro D c pre W _ _ h _
    exact h.elim
end Go.Proofs.Ytbmeflildmeecaa
