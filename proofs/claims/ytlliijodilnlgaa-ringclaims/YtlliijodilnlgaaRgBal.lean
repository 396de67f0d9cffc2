/- What package ring's Balanced answers. -/
import Derived.Test.YtlliijodilnlgaaRgClaim
namespace Go.Proofs.Ytlliijodilnlgaa
open Go.RowKit

def balT (t : List Int) : Bool := decide (t.sum = 8) && decide (Lib.maxOf t - Lib.minOf t ≤ 1)
def balL (o ms : List Int) : Bool := if (risenL ms).length = 0 then decide ((walkL o 0).length = 0) else balT (tallyI (risenL ms).length (o.map (findI (risenL ms))))
theorem fold_max (l : List Int) : ∀ a : Int, 0 ≤ a ∧ a ≤ 8 → (∀ x ∈ l, 0 ≤ x ∧ x ≤ 8) → 0 ≤ l.foldl max a ∧ l.foldl max a ≤ 8 := by
  induction l with
  | nil => intro a h _; exact h
  | cons x l ih => intro a h hl; have := hl x (by simp); exact ih (max a x) (by omega) (fun y hy => hl y (by simp [hy]))
theorem fold_min (l : List Int) : ∀ a : Int, 0 ≤ a ∧ a ≤ 8 → (∀ x ∈ l, 0 ≤ x ∧ x ≤ 8) → 0 ≤ l.foldl min a ∧ l.foldl min a ≤ 8 := by
  induction l with
  | nil => intro a h _; exact h
  | cons x l ih => intro a h hl; have := hl x (by simp); exact ih (min a x) (by omega) (fun y hy => hl y (by simp [hy]))
theorem R8.mem {l : List Int} (h : R8 l) : ∀ x ∈ l, 0 ≤ x ∧ x ≤ 8 := fun x hx => by
  obtain ⟨i, hi, e⟩ := List.getElem_of_mem hx
  have := h i
  rw [List.getD_eq_getElem?_getD, List.getElem?_eq_getElem hi, e] at this
  exact this
theorem sum_take {t : List Int} (h : R8 t) : ∀ k, 0 ≤ (t.take k).sum ∧ (t.take k).sum ≤ 8 * (k : Int)
  | 0 => by simp
  | k + 1 => by
    have ih := sum_take h k
    rcases Nat.lt_or_ge k t.length with g | g
    · have e : t[k]? = some (t.getD k 0) := getD_at t k g
      rw [List.take_add_one, e, List.sum_append]
      have := h k
      simp only [Option.toList_some, List.sum_cons, List.sum_nil]
      omega
    · rw [List.take_of_length_le (by omega)]
      rw [List.take_of_length_le (by omega)] at ih
      omega
theorem tallyI_R8 (n : Nat) (l : List (Option Nat)) (hl : l.length = 8) : R8 (tallyI n l) := fun i => by
  have := tallyI_le n l i
  omega
set_option maxHeartbeats 2000000 in
theorem balanced_any (B : Nat) (o : List Int) (ho : o.length = 8) (v : Value) (ms : List Int) (w : World) (hv : Ints B w v ms) (hB : B ≤ w.heap.size) (hl : ms.length ≤ 17592186043904) :
    Calls Try.prog 12 #[.agg (intV o).toArray, v] w fun e w' => e = .returned (.bool (balL o ms)) ∧ Below w.heap.size w w' := by
  obtain ⟨N, hN⟩ : ∃ N, w.heap.size = N := ⟨_, rfl⟩
  rw [hN] at hB ⊢
  obtain ⟨hM, hmem⟩ := risen_facts ms
  have HRi : Hid (∀ W, Below N w W → Calls Try.prog 19 #[v] W fun e w' => ∃ u, e = .returned u ∧ Ints w'.heap.size w' u (risenL ms) ∧ Below W.heap.size W w') := fun W hW => risen_any B v ms W (hv.below (hW.mono hB)) (by have := hW.size; omega) hl
  have HO : Hid (o.length = 8) := ho
  have hml : (risenL ms).length ≤ 17592186043904 := by
    have h1 : (risenL ms).length ≤ (sortL (posL ms)).length := by
      unfold risenL Lib.compact Lib.compactUpTo
      rw [List.length_map]
      exact Nat.le_trans (List.length_filter_le ..) (by simp)
    have h2 := posL_len ms
    rw [sortL_len] at h1
    omega
  have HBl : Hid (balL o ms = if (risenL ms).length = 0 then decide ((walkL o 0).length = 0) else balT (tallyI (risenL ms).length (o.map (findI (risenL ms))))) := rfl
  generalize balL o ms = res at HBl ⊢
  generalize risenL ms = M at hM HRi HBl hml
  clear hmem hv hl
  by_cases h0 : M.length = 0
  · have hW : Hid (∀ W, Calls Try.prog 26 #[.agg (intV o).toArray, .int .i64 0] W fun e w' => ∃ v, e = .returned v ∧ w'.ownsRow W.heap.size 3 1 v (walkL o 0).length (intV (walkL o 0)) ∧ Below W.heap.size W w') := fun W => walk_any o ho 0 W
    have hres : Hid (res = decide ((walkL o 0).length = 0)) := by
      show _ = _
      rw [HBl.out, if_pos h0]
    clear HBl
    generalize walkL o 0 = WL at hW hres
    have h00 : Hid (M.length = 0) := h0
    clear h0
    go_enter Try.func12, Try.ntmps12
    go_wp2_with (first
      | (refine wpList_box_new 2 rfl rfl 23 _ rfl N hN _ rfl ?_; intro w1 h1)
      | (go_at_call 19; refine (HRi.out w1 h1.below).mono ?_; rintro e w3 ⟨u, rfl, I3, b3⟩; obtain ⟨ua, uc, rfl⟩ := I3.len; rw [h00.out] at I3 ⊢; have HO3 := h1.holds.below b3 (by rw [h1.size]; omega))
      | (refine wpList_load_all rfl 23 _ rfl _ rfl 23 (intV o) 8 3 HO3 und23 (by rw [siz23, intV_len, HO.out]) ?_)
      | (go_at_call 26; refine (hW.out w3).mono ?_; rintro e w4 ⟨v4, rfl, own4, b4⟩; obtain ⟨va, vc, rfl⟩ := row_slice own4))
    go_ret
    refine ⟨?_, (h1.below.trans (b3.mono (by rw [h1.size]; omega))).trans (b4.mono (by have := b3.size; rw [h1.size] at this; omega))⟩
    rw [hres.out]
    cases WL with
    | nil => rfl
    | cons a l => simp; omega
  · have HTa : Hid (∀ W u, Ints W.heap.size W u M → Calls Try.prog 21 #[.agg (intV o).toArray, u] W fun e w' => ∃ g, e = .returned (.slice (some ⟨g, 0, none⟩) M.length M.length) ∧ W.heap.size ≤ g ∧ Holds w' g (intV (tallyI M.length (o.map (findI M)))) 3 ∧ Below W.heap.size W w') := fun W u hu => tally_any _ o ho u M hM hml W hu (Nat.le_refl _)
    have hr8 := tallyI_R8 M.length (o.map (findI M)) (by simp [ho])
    have htl := tallyI_len M.length (o.map (findI M))
    have hres : Hid (res = balT (tallyI M.length (o.map (findI M)))) := by
      show _ = _
      rw [HBl.out, if_neg h0]
    generalize tallyI M.length (o.map (findI M)) = t at HTa hr8 htl hres
    have HML : Hid (M.length = t.length) := htl.symm
    rw [← htl] at HTa h0 hml
    obtain ⟨n, hn⟩ : ∃ n, t.length = n := ⟨_, rfl⟩
    have HT : Hid (t.length = n) := hn
    have HS : Hid (∀ k, 0 ≤ (t.take k).sum ∧ (t.take k).sum ≤ 8 * (k : Int)) := fun k => sum_take hr8 k
    have HMx : Hid (∀ W g, Holds W g (intV t) 3 → Calls Try.prog 27 #[.slice (some ⟨g, 0, none⟩) n n] W fun e w' => e = .returned (.int .i64 (Lib.maxOf t)) ∧ w' = W) := fun W g hg => by
      have := Try.slices_Max_int g 0 n n t W (by omega) (by omega) (by omega) (fun j hj => by rw [Nat.zero_add]; exact hg.at j _ (intV_at t j hj))
      rwa [List.take_of_length_le (by omega)] at this
    have HMn : Hid (∀ W g, Holds W g (intV t) 3 → Calls Try.prog 28 #[.slice (some ⟨g, 0, none⟩) n n] W fun e w' => e = .returned (.int .i64 (Lib.minOf t)) ∧ w' = W) := fun W g hg => by
      have := Try.slices_Min_int g 0 n n t W (by omega) (by omega) (by omega) (fun j hj => by rw [Nat.zero_add]; exact hg.at j _ (intV_at t j hj))
      rwa [List.take_of_length_le (by omega)] at this
    obtain ⟨x0, x8⟩ : 0 ≤ Lib.maxOf t ∧ Lib.maxOf t ≤ 8 := by
      unfold Lib.maxOf
      exact fold_max _ _ (by have := hr8 0; cases t with | nil => simp | cons a l => simpa using this) hr8.mem
    obtain ⟨y0, y8⟩ : 0 ≤ Lib.minOf t ∧ Lib.minOf t ≤ 8 := by
      unfold Lib.minOf
      exact fold_min _ _ (by have := hr8 0; cases t with | nil => simp | cons a l => simpa using this) hr8.mem
    rw [hn] at HTa h0 hml
    have hn0 : ¬ (n : Int) = 0 := by omega
    rw [hn] at HML
    have hres2 : Hid (res = (decide (t.sum = 8) && decide (Lib.maxOf t - Lib.minOf t ≤ 1))) := hres.out
    generalize Lib.maxOf t = mx at HMx x0 x8 hres2
    generalize Lib.minOf t = mn at HMn y0 y8 hres2
    clear hres
    clear hn htl HBl hr8 hM h0 ho
    go_enter Try.func12, Try.ntmps12
    go_wp2_with (first
      | (refine wpList_box_new 2 rfl rfl 23 _ rfl N hN _ rfl ?_; intro w1 h1)
      | (go_at_call 19; refine (HRi.out w1 h1.below).mono ?_; rintro e w3 ⟨u, rfl, I3, b3⟩; obtain ⟨ua, uc, rfl⟩ := I3.len; rw [HML.out] at I3 ⊢; have HO3 := h1.holds.below b3 (by rw [h1.size]; omega))
      | (refine wpList_load_all rfl 23 _ rfl _ rfl 23 (intV o) 8 3 HO3 und23 (by rw [siz23, intV_len, HO.out]) ?_)
      | (go_at_call 21; refine (HTa.out w3 _ I3).mono ?_; rintro e w4 ⟨g4, rfl, hg4, T4, b4⟩))
    have HB4 : Hid (Below N w w4) := (h1.below.trans (b3.mono (by rw [h1.size]; omega))).trans (b4.mono (by have := b3.size; rw [h1.size] at this; omega))
    have HT4 : Hid (Holds w4 g4 (intV t) 3) := T4
    clear h1 b3 b4 T4 I3 HO3 hg4
    go_loopw [7, 24] (fun s c wr => ∃ k : Nat, k ≤ n ∧ c = .int .i64 (k : Int) ∧ s = .int .i64 (t.take k).sum ∧ wr = w4) (fun _ c _ => n - (intOf c).toNat)
    case atStart => exact ⟨0, by omega, rfl, by simp, rfl⟩
    case round =>
    obtain ⟨k, hk, rfl, rfl, rfl⟩ := hrel
    by_cases hlt : k < n
    · have hc := HT4.out.at k _ (intV_at t k (by rw [HT.out]; exact hlt))
      have hst : Hid ((t.take (k + 1)).sum = (t.take k).sum + t.getD k 0) := by
        show _ = _
        rw [List.take_add_one, getD_at t k (by rw [HT.out]; exact hlt), List.sum_append]; simp
      obtain ⟨s0, s1⟩ := HS.out k
      obtain ⟨s2, s3⟩ := HS.out (k + 1)
      rw [hst.out] at s2 s3
      generalize (t.take k).sum = s at *
      generalize t.getD k 0 = y at *
      have i0 : (0 : Int) ≤ (k : Int) := by omega
      have i1 : (k : Int) < (n : Int) := by omega
      have s4 : s + y ≤ 140737488351232 := by push_cast at s3; omega
      clear s3
      go_wp2
      exact ⟨⟨k + 1, by omega, by go_num, by rw [hst.out], trivial⟩, by simp [intOf]; omega⟩
    · have e8 : t.take k = t := List.take_of_length_le (by rw [HT.out]; omega)
      rw [e8]
      have i1 : ¬ (k : Int) < (n : Int) := by omega
      have hX := HMx.out wr g4 HT4.out
      have hY := HMn.out wr g4 HT4.out
      generalize t.sum = sm at *
      have HX : Hid (Calls Try.prog 27 #[.slice (some ⟨g4, 0, none⟩) n n] wr fun e w' => e = .returned (.int .i64 mx) ∧ w' = wr) := hX
      have HY : Hid (Calls Try.prog 28 #[.slice (some ⟨g4, 0, none⟩) n n] wr fun e w' => e = .returned (.int .i64 mn) ∧ w' = wr) := hY
      clear hX hY HMx HMn e8 hlt
      by_cases hs : sm = 8
      · subst hs
        have hr3 : res = decide (mx - mn ≤ 1) := by rw [hres2.out]; simp
        subst hr3
        clear hres2
        go_wp2_with (first
          | (go_at_call 27; refine HX.out.mono ?_; rintro e w6 ⟨rfl, rfl⟩)
          | (go_at_call 28; refine HY.out.mono ?_; rintro e w6 ⟨rfl, rfl⟩))
        go_ret
        exact ⟨rfl, HB4.out⟩
      · have hsb : (sm == 8) = false := by simpa using hs
        have hr3 : res = false := by rw [hres2.out]; simp [hs]
        subst hr3
        clear hres2
        go_wp2
        go_ret
        exact ⟨rfl, HB4.out⟩
end Go.Proofs.Ytlliijodilnlgaa
