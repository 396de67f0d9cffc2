/- The stable sort's blocks that change places, in memory. -/
import Derived.Test.YtlliijodilnlgaaRgSort
import Derived.Test.YtlliijodilnlgaaSmPure
namespace Go.Proofs.Ytlliijodilnlgaa
open Go.RowKit Go.Sort

def rowF (N : Nat) (F : Nat → Int) : List Value := intV ((List.range N).map F)
theorem rowF_at (N : Nat) (F : Nat → Int) (k : Nat) (h : k < N) : (rowF N F)[k]? = some (.int .i64 (F k)) := by simp [rowF, intV, h]
theorem rowF_ext (N : Nat) (F G : Nat → Int) (h : ∀ k, k < N → F k = G k) : rowF N F = rowF N G := by
  unfold rowF
  congr 1
  exact List.map_congr_left (fun k hk => h k (List.mem_range.1 hk))
theorem rowF_swp (N : Nat) (F : Nat → Int) (i j : Nat) (hij : i ≠ j) : ((rowF N F).set i (.int .i64 (F j))).set j (.int .i64 (F i)) = rowF N (Sm.swp F i j) := by
  apply List.ext_getElem?
  intro k
  rw [List.getElem?_set, List.getElem?_set]
  unfold rowF intV
  simp only [List.length_set, List.length_map, List.length_range, List.getElem?_map]
  by_cases hk : k < N
  · rw [List.getElem?_range hk]
    simp only [Option.map_some, Sm.swp]
    by_cases e1 : j = k
    · subst e1; rw [if_pos rfl, if_pos hk, if_neg (fun q => hij q.symm), if_pos rfl]
    · rw [if_neg e1]
      by_cases e2 : i = k
      · subst e2; rw [if_pos rfl, if_pos hk, if_pos rfl]
      · rw [if_neg e2, if_neg (fun q => e2 q.symm), if_neg (fun q => e1 q.symm)]
  · rw [List.getElem?_eq_none (by simp; omega)]
    by_cases e1 : j = k
    · rw [if_pos e1, if_neg (by omega)]; rfl
    · rw [if_neg e1]
      by_cases e2 : i = k
      · rw [if_pos e2, if_neg (by omega)]; rfl
      · rw [if_neg e2]; rfl
theorem row_swp {w : World} {bk N : Nat} {F : Nat → Int} (h : Holds w bk (rowF N F) 3) (i j : Nat) (hij : i ≠ j) : Holds ((w.setCell ⟨bk, i, none⟩ (.int .i64 (F j))).setCell ⟨bk, j, none⟩ (.int .i64 (F i))) bk (rowF N (Sm.swp F i j)) 3 := by
  rw [← rowF_swp N F i j hij]
  exact (h.set i _).set j _
set_option maxHeartbeats 2000000 in
theorem swapRange_any (bk N cap a b n : Nat) (F : Nat → Int) (cv : Value) (w : World) (h : Holds w bk (rowF N F) 3) (hab : a + n ≤ b) (hbn : b + n ≤ N) (hN : N ≤ 17592186043904) : Calls Try.prog 64 #[.slice (some ⟨bk, 0, none⟩) N cap, .int .i64 (a : Int), .int .i64 (b : Int), .int .i64 (n : Int), cv] w fun e w' => e = .returned (.tuple #[]) ∧ Holds w' bk (rowF N (Sm.swR F a b n)) 3 ∧ Upd bk w w' := by
  go_enter Try.func64, Try.ntmps64
  go_wp2
  go_loopw [10] (fun c wr => ∃ k : Nat, k ≤ n ∧ c = .int .i64 (k : Int) ∧ Holds wr bk (rowF N (Sm.swR F a b k)) 3 ∧ Upd bk w wr) (fun c _ => n - (intOf c).toNat)
  case atStart => exact ⟨0, by omega, rfl, by rw [Sm.swR_zero]; exact h, Upd.refl _ _⟩
  case round =>
  obtain ⟨k, hk, rfl, hh, hU⟩ := hrel
  by_cases hlt : k < n
  · have i0 : (0 : Int) ≤ (k : Int) := by omega
    have i1 : (k : Int) < (n : Int) := by omega
    obtain ⟨G, hG⟩ : ∃ G, Sm.swR F a b k = G := ⟨_, rfl⟩
    have hcw : ∀ t, t < N → wr.cell? ⟨bk, t, none⟩ = some (.int .i64 (G t)) := fun t ht => by rw [hG] at hh; exact hh.at t _ (rowF_at N G t ht)
    have hfw : ∀ t, t < N → wr.frozen? ⟨bk, t, none⟩ = false := fun t _ => hh.frozen t
    have HH : Hid (Holds ((wr.setCell ⟨bk, a + k, none⟩ (.int .i64 (G (b + k)))).setCell ⟨bk, b + k, none⟩ (.int .i64 (G (a + k)))).drew bk (rowF N (Sm.swR F a b (k + 1))) 3 ∧ Upd bk w ((wr.setCell ⟨bk, a + k, none⟩ (.int .i64 (G (b + k)))).setCell ⟨bk, b + k, none⟩ (.int .i64 (G (a + k)))).drew) := by
      show _ ∧ _
      rw [Sm.swR_succ F a b k (by omega), hG]
      rw [hG] at hh
      exact ⟨(row_swp hh _ _ (by omega)).drew, ((hU.setCell _ _).setCell _ _).drew⟩
    have b1 : (a : Int) + k < N := by omega
    have b2 : (b : Int) + k < N := by omega
    have c1 := hcw (a + k) (by omega)
    have c2 := hcw (b + k) (by omega)
    have d1 := hfw (a + k) (by omega)
    have d2 := hfw (b + k) (by omega)
    clear hh hU hG h hcw hfw
    go_wp2
    go_region
    all_goals go_wp2
    exact ⟨⟨k + 1, by omega, by go_num, HH.out.1, HH.out.2⟩, by simp [intOf]; omega⟩
  · obtain rfl : k = n := by omega
    go_wp2
    go_end0
    exact ⟨rfl, hh, hU⟩
theorem swapRange_at (bk N cap a b n : Nat) (x y z : Int) (hx : x = (a : Int)) (hy : y = (b : Int)) (hz : z = (n : Int)) (F : Nat → Int) (cv : Value) (w : World) (h : Holds w bk (rowF N F) 3) (hab : a + n ≤ b) (hbn : b + n ≤ N) (hN : N ≤ 17592186043904) : Calls Try.prog 64 #[.slice (some ⟨bk, 0, none⟩) N cap, .int .i64 x, .int .i64 y, .int .i64 z, cv] w fun e w' => e = .returned (.tuple #[]) ∧ Holds w' bk (rowF N (Sm.swR F a b n)) 3 ∧ Upd bk w w' := by
  subst hx hy hz
  exact swapRange_any bk N cap a b n F cv w h hab hbn hN
set_option maxHeartbeats 2000000 in
theorem rotate_any (bk N cap a m b : Nat) (F : Nat → Int) (cv : Value) (w : World) (h : Holds w bk (rowF N F) 3) (ham : a < m) (hmb : m < b) (hbN : b ≤ N) (hN : N ≤ 17592186043904) : Calls Try.prog 62 #[.slice (some ⟨bk, 0, none⟩) N cap, .int .i64 (a : Int), .int .i64 (m : Int), .int .i64 (b : Int), cv] w fun e w' => e = .returned (.tuple #[]) ∧ Holds w' bk (rowF N (Sm.exch a m b F)) 3 ∧ Upd bk w w' := by
  have HI : Hid (∃ i j : Nat, (m : Int) - a = i ∧ (b : Int) - m = j ∧ 0 < i ∧ 0 < j ∧ i ≤ m ∧ m + j ≤ N ∧ Holds w bk (rowF N F) 3 ∧ Sm.exch (m - i) m (m + j) F = Sm.exch a m b F) := ⟨m - a, b - m, by omega, by omega, by omega, by omega, by omega, by omega, h, by rw [show m - (m - a) = a by omega, show m + (b - m) = b by omega]⟩
  obtain ⟨E, hE⟩ : ∃ E, Sm.exch a m b F = E := ⟨_, rfl⟩
  rw [hE] at HI ⊢
  clear h hE
  go_enter Try.func62, Try.ntmps62
  go_wp2
  go_loopw [10, 11] (fun x y wr => ∃ (i j : Nat) (G : Nat → Int), x = .int .i64 (i : Int) ∧ y = .int .i64 (j : Int) ∧ 0 < i ∧ 0 < j ∧ i ≤ m ∧ m + j ≤ N ∧ Holds wr bk (rowF N G) 3 ∧ Upd bk w wr ∧ Sm.exch (m - i) m (m + j) G = E) (fun x y _ => (intOf x).toNat + (intOf y).toNat)
  case atStart =>
    obtain ⟨i, j, e1, e2, h1, h2, h3, h4, h5, h6⟩ := HI.out
    exact ⟨i, j, F, by rw [e1], by rw [e2], h1, h2, h3, h4, h5, Upd.refl _ _, h6⟩
  case round =>
  obtain ⟨i, j, G, rfl, rfl, h1, h2, h3, h4, hh, hU, hE⟩ := hrel
  clear HI
  by_cases hij : i = j
  · subst hij
    have hc := swapRange_at bk N cap (m - i) m i ((m : Int) - i) m i (by omega) rfl rfl G cv wr hh (by omega) (by omega) hN
    rw [← Sm.exch_eq G m i h3, hE] at hc
    have hC : Hid (Calls Try.prog 64 _ wr _) := hc
    have HU : Hid (Upd bk w wr) := hU
    clear hc hh hU hE
    go_wp2_with (go_at_call 64; refine hC.out.mono ?_; rintro e w3 ⟨rfl, H3, U3⟩)
    go_end0
    exact ⟨rfl, H3, HU.out.trans U3⟩
  · have hne : ¬ (i : Int) = (j : Int) := by omega
    by_cases hgt : j < i
    · have g1 : (j : Int) < (i : Int) := by omega
      have hc := swapRange_at bk N cap (m - i) m j ((m : Int) - i) m j (by omega) rfl rfl G cv wr hh (by omega) (by omega) hN
      have hC : Hid (Calls Try.prog 64 _ wr _) := hc
      have HE : Hid (Sm.exch (m - (i - j)) m (m + j) (Sm.swR G (m - i) m j) = E) := by
        show _ = _
        rw [← Sm.exch_gt G m i j h3 hgt]; exact hE
      have HU : Hid (Upd bk w wr) := hU
      clear hc hh hU hE
      go_wp2_with (go_at_call 64; refine hC.out.mono ?_; rintro e w3 ⟨rfl, H3, U3⟩)
      exact ⟨⟨i - j, j, _, by congr 1; omega, rfl, by omega, h2, by omega, h4, H3, HU.out.trans U3, HE.out⟩, by simp [intOf]; omega⟩
    · have g1 : ¬ (j : Int) < (i : Int) := by omega
      have hc := swapRange_at bk N cap (m - i) (m + j - i) i ((m : Int) - i) ((m : Int) + j - i) i (by omega) (by omega) rfl G cv wr hh (by omega) (by omega) hN
      have hC : Hid (Calls Try.prog 64 _ wr _) := hc
      have HE : Hid (Sm.exch (m - i) m (m + (j - i)) (Sm.swR G (m - i) (m + j - i) i) = E) := by
        show _ = _
        rw [← Sm.exch_lt G m i j h3 (by omega)]; exact hE
      have HU : Hid (Upd bk w wr) := hU
      clear hc hh hU hE
      go_wp2_with (go_at_call 64; refine hC.out.mono ?_; rintro e w3 ⟨rfl, H3, U3⟩)
      exact ⟨⟨i, j - i, _, rfl, by congr 1; omega, h1, by omega, h3, by omega, H3, HU.out.trans U3, HE.out⟩, by simp [intOf]; omega⟩
end Go.Proofs.Ytlliijodilnlgaa
