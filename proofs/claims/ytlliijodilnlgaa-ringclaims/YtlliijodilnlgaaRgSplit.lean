/- What package ring's split answers. -/
import Derived.Test.YtlliijodilnlgaaRgWalk
namespace Go.Proofs.Ytlliijodilnlgaa
open Go.RowKit

theorem cutN_eq (n : Int) (l : List Int) : min (max n 0) (l.length : Int) = (cutN n l : Int) := by unfold cutN; omega
theorem run_slice_to (w : World) (a : Option Addr) (ln cap m : Nat) (hm : m ≤ cap) : (Instr.slice 24 (.slice a ln cap) none (some (.int .i64 (m : Int))) none).run Try.prog w = .ok (.slice a m cap) w := by
  simp [Instr.slice, Sem.run_bind, run_underlying und24, go_sem, Instr.sliceBounds, show (m : Int) ≤ (cap : Int) by omega, run_sizeOf siz3]
theorem run_slice_from (w : World) (a : Option Addr) (ln cap m : Nat) (hm : m ≤ ln) : (Instr.slice 24 (.slice a ln cap) (some (.int .i64 (m : Int))) none none).run Try.prog w = .ok (.slice (if cap = m then a else a.map (·.add m)) (ln - m) (cap - m)) w := by
  simp [Instr.slice, Sem.run_bind, run_underlying und24, go_sem, Instr.sliceBounds, show (m : Int) ≤ (ln : Int) by omega, run_sizeOf siz3]
set_option maxHeartbeats 1000000 in
theorem split_any (B : Nat) (v : Value) (L : List Int) (n : Int) (w : World) (h : Ints B w v L) :
    Calls Try.prog 30 #[v, .int .i64 n] w fun e w' => ∃ v1 v2, e = .returned (.tuple #[v1, v2]) ∧ Ints B w v1 (L.take (cutN n L)) ∧ Ints B w v2 (L.drop (cutN n L)) ∧ ∃ q, w' = w.drewN q := by
  obtain ⟨a, cap, rfl, hcap, hc⟩ := h
  have hm := cutN_le n L
  have he := cutN_eq n L
  generalize hmm : cutN n L = m at hm he ⊢
  have H1 : Hid (Ints B w (.slice a m cap) (L.take m)) := by
    refine ⟨a, cap, by rw [List.length_take, Nat.min_eq_left hm], by rw [List.length_take]; omega, ?_⟩
    rw [List.length_take, Nat.min_eq_left hm]
    rcases hc with h0 | ⟨g, o, e1, h1, h2⟩
    · exact Or.inl (by omega)
    · refine Or.inr ⟨g, o, e1, h1, fun j hj => ?_⟩
      rw [h2 j (by omega)]
      simp [List.getD_eq_getElem?_getD, hj]
  have H2 : Hid (Ints B w (.slice (if cap = m then a else a.map (·.add m)) (L.length - m) (cap - m)) (L.drop m)) := by
    refine ⟨_, _, by rw [List.length_drop], by rw [List.length_drop]; omega, ?_⟩
    rw [List.length_drop]
    rcases hc with h0 | ⟨g, o, e1, h1, h2⟩
    · exact Or.inl (by omega)
    · by_cases hcm : cap = m
      · exact Or.inl (by omega)
      · rw [if_neg hcm, e1]
        refine Or.inr ⟨g, o + m, by rw [Option.map_some, Addr.add_mid], h1, fun j hj => ?_⟩
        rw [show o + m + j = o + (m + j) by omega, h2 (m + j) (by omega)]
        simp [List.getD_eq_getElem?_getD, List.getElem?_drop]
  have r1 : ∀ w, _ := fun w => run_slice_to w a L.length cap m (by omega)
  have r2 : ∀ w, _ := fun w => run_slice_from w a L.length cap m (by omega)
  generalize (if cap = m then a else a.map (·.add m)) = a2 at H2 r2
  obtain ⟨ln, hln⟩ : ∃ ln, L.length = ln := ⟨_, rfl⟩
  rw [hln] at hm he hcap r1 r2 H2 ⊢
  clear hc hln hmm
  go_enter Try.func30, Try.ntmps30
  go_wp2
  go_quiet (fail)
  go_wp2
  go_ret2
  exact ⟨_, _, rfl, H1.out, H2.out, _, rfl⟩
theorem ints_drewN {B : Nat} {w : World} {v : Value} {l : List Int} (q : Nat) (h : Ints B w v l) : Ints B (w.drewN q) v l := by
  obtain ⟨a, cap, e, hcp, hc⟩ := h
  refine ⟨a, cap, e, hcp, ?_⟩
  rcases hc with h0 | ⟨g, o, e1, h1, h2⟩
  · exact Or.inl h0
  · exact Or.inr ⟨g, o, e1, h1, fun j hj => by rw [World.cell?_of_block (w := w) (by simp)]; exact h2 j hj⟩
theorem below_drewN (B : Nat) (w : World) (q : Nat) : Below B w (w.drewN q) := by
  have : ∀ q, Below B w (w.drewN q) := fun q => by
    induction q with
    | zero => exact Below.refl _ _
    | succ q ih => exact ih.trans (Below.drew (Below.refl _ _))
  exact this q
set_option maxHeartbeats 1000000 in
theorem primaries_any (o : List Int) (ho : o.length = 8) (p n : Int) (w : World) :
    Calls Try.prog 15 #[.agg (intV o).toArray, .int .i64 p, .int .i64 n] w fun e w' => ∃ v, e = .returned v ∧ Ints w'.heap.size w' v (primL o p n) ∧ Below w.heap.size w w' := by
  obtain ⟨m, hm⟩ : ∃ m, w.heap.size = m := ⟨_, rfl⟩
  have HW : Hid (∀ W, Calls Try.prog 26 #[.agg (intV o).toArray, .int .i64 p] W fun e w' => ∃ v, e = .returned v ∧ w'.ownsRow W.heap.size 3 1 v (walkL o p).length (intV (walkL o p)) ∧ Below W.heap.size W w') := fun W => walk_any o ho p W
  have HS : Hid (∀ B v W, Ints B W v (walkL o p) → Calls Try.prog 30 #[v, .int .i64 n] W fun e w' => ∃ v1 v2, e = .returned (.tuple #[v1, v2]) ∧ Ints B W v1 (primL o p n) ∧ Ints B W v2 (restL o p n) ∧ ∃ q, w' = W.drewN q) := fun B v W h => split_any B v (walkL o p) n W h
  have HO : Hid (o.length = 8) := ho
  rw [hm]
  clear ho
  go_enter Try.func15, Try.ntmps15
  go_wp2_with (first
    | (refine wpList_box_new 3 rfl rfl 23 _ rfl m hm _ rfl ?_; intro w1 h1)
    | (refine wpList_load_all rfl 23 _ rfl _ rfl 23 (intV o) 8 3 h1.holds und23 (by rw [siz23, intV_len, HO.out]) ?_)
    | (go_at_call 26; refine (HW.out w1).mono ?_; rintro e w2 ⟨v2, rfl, own2, b2⟩; have I2 := ints_of_row own2)
    | (go_at_call 30; refine (HS.out _ _ w2 I2).mono ?_; rintro e w3 ⟨v3, v4, rfl, I3, I4, q, rfl⟩))
  go_ret
  refine ⟨_, rfl, ints_drewN q (by simpa using I3), ?_⟩
  exact (h1.below.trans (b2.mono (by rw [h1.size]; omega))).trans (below_drewN m w2 q)
end Go.Proofs.Ytlliijodilnlgaa
