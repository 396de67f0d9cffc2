/- What the document's own Join answers: the document's sum of the sums' bytes, one behind the other. -/
import Derived.Test.YtccebaleaipilaaDoorJoin
namespace Go.Proofs.YtccebaleaipilaaDoor
open Go.RowKit

theorem refSum_length (l : List UInt8) : (refSum l).length = 32 := by rw [← sum_ref]; exact sumL_length _ (putN_ok _ _ newL_ok)

set_option maxHeartbeats 8000000 in
set_option maxRecDepth 100000 in
theorem rjoin_some (ls : List (List UInt8)) (h32 : ∀ l ∈ ls, l.length = 32) (h60 : ls.length ≤ 60) (g o cap : Nat) (w : World) (hg : g < w.heap.size) (hl : Lies w g o ls) :
    Calls Tryd.prog 16 #[.slice (some ⟨g, o, none⟩) ls.length cap] w fun e w' => e = .returned (.agg ((refSum ls.flatten).map byteV).toArray) ∧ Below w.heap.size w w' := by
  have HL : Hid (Lies w g o ls) := hl
  have H32 : Hid (∀ l ∈ ls, l.length = 32) := h32
  clear hl h32
  have hq := refSum_length ls.flatten
  obtain ⟨q, Hq⟩ : ∃ q, Hid (refSum ls.flatten = q) := ⟨_, rfl⟩
  rw [Hq.out] at hq ⊢
  obtain ⟨n, hn⟩ : ∃ n, w.heap.size = n := ⟨_, rfl⟩
  rw [hn] at hg ⊢
  go_enter Tryd.func16, Tryd.ntmps16
  go_wp2_with (refine wpList_alloc_new 2 rfl rfl 23 rfl n hn _ (zero_of_info info23).1 ?_; intro w1 h1)
  have b1 := h1.below
  have hR1 := h1.holds
  clear h1
  go_loopw [3, 4] (fun v c wr => ∃ (k : Nat) (p : ByteArray), k ≤ ls.length ∧ c = .int .i64 (k : Int) ∧ v = .string p ∧ p.size = 32 * k ∧ p.data.toList = (ls.take k).flatten ∧ wr = w1) (fun _ c _ => ls.length - (intOf c).toNat)
  case atStart => exact ⟨0, _, by omega, rfl, rfl, rfl, rfl, rfl⟩
  case round =>
    obtain ⟨k, p, hk, rfl, rfl, hps, hpd, rfl⟩ := hrel
    have HPD : Hid (p.data.toList = (ls.take k).flatten) := hpd
    have HPS : Hid (p.size = 32 * k) := hps
    have hp2 : p.size ≤ 1920 := by omega
    clear hpd hps
    by_cases hlt : k < ls.length
    · obtain ⟨l, hlk⟩ : ∃ l, ls[k] = l := ⟨_, rfl⟩
      have hl32 : l.length = 32 := H32.out l (hlk ▸ List.getElem_mem hlt)
      have hrg : wr.rangeAt g (o + k * 32) (l.map byteV) := HL.out.below b1 (by omega) k l (by rw [List.getElem?_eq_getElem hlt, hlk])
      have hfl : (ls.take (k + 1)).flatten = (ls.take k).flatten ++ l := by rw [flat_take ls k hlt, hlk]
      have HFL : Hid ((ls.take (k + 1)).flatten = (ls.take k).flatten ++ l) := hfl
      have hsl := run_slice32 wr g (o + k * 32)
      have hcv := run_text32 wr g (o + k * 32) l hl32 hrg
      clear hrg hfl hlk
      have hsz := strL_size l
      have i0 : (0 : Int) ≤ (k : Int) := by omega
      have i1 : (k : Int) < (ls.length : Int) := by omega
      go_wp2_with fail
      refine ⟨⟨k + 1, p ++ strL l, by omega, by go_num, rfl, by rw [ByteArray.size_append, HPS.out, hsz, hl32]; omega, ?_, trivial⟩, by simp [intOf]; omega⟩
      rw [ByteArray.data_append, Array.toList_append, HPD.out, strL_data, HFL.out]
    · have hfl : p.data.toList = ls.flatten := by rw [HPD.out, List.take_of_length_le (by omega)]
      have hcall : Hid (∀ W, Calls Tryd.prog 9 #[.string p] W fun e w' => e = .returned (.agg (q.map byteV).toArray) ∧ Below W.heap.size W w') := fun W => by
        have := rsum_any p (by omega) W
        rw [hfl, Hq.out] at this
        exact this
      clear hfl
      have i1 : ¬ (k : Int) < (ls.length : Int) := by omega
      go_wp2_with (first
        | (go_at_call 9; refine (hcall.out wr).mono ?_; rintro e w4 ⟨rfl, h4⟩; have hR4 := hR1.below h4 hR1.lt)
        | (refine wpList_store_all rfl 23 (.tmp 2) (.tmp 19) rfl n rfl (q.map byteV) rfl 23 _ hR4 (by rw [(zero_of_info info23).2, List.length_map, hq]) (by rw [List.length_map, List.length_map, hq]; rfl) (byteV_one _) ?_; intro w5 h5))
      exact bodyPost_ret (results_cell_row (p := 2) (by kernel_rfl) _ w5 n 23 (q.map byteV).toArray (0, 0) _ rfl h5.holds und23 rfl (by rw [(zero_of_info info23).2, List.size_toArray, List.length_map, hq])) rfl ⟨rfl, (b1.trans (h4.mono (by have := b1.size; omega))).trans (h5.below (by omega))⟩

set_option maxHeartbeats 8000000 in
set_option maxRecDepth 100000 in
/-- Of no sums. -/
theorem rjoin_none (a0 : Option Addr) (cap : Nat) (w : World) :
    Calls Tryd.prog 16 #[.slice a0 0 cap] w fun e w' => e = .returned (.agg ((refSum []).map byteV).toArray) ∧ Below w.heap.size w w' := by
  have hq := refSum_length []
  have hcall : Hid (∀ W, Calls Tryd.prog 9 #[.string ⟨#[]⟩] W fun e w' => e = .returned (.agg ((refSum []).map byteV).toArray) ∧ Below W.heap.size W w') := fun W => rsum_any ⟨#[]⟩ (by decide) W
  obtain ⟨q, Hq⟩ : ∃ q, Hid (refSum [] = q) := ⟨_, rfl⟩
  rw [Hq.out] at hq hcall ⊢
  obtain ⟨n, hn⟩ : ∃ n, w.heap.size = n := ⟨_, rfl⟩
  rw [hn]
  go_enter Tryd.func16, Tryd.ntmps16
  go_wp2_with (refine wpList_alloc_new 2 rfl rfl 23 rfl n hn _ (zero_of_info info23).1 ?_; intro w1 h1)
  have b1 := h1.below
  have hR1 := h1.holds
  clear h1
  go_loopw [3, 4] (fun v c wr => c = .int .i64 0 ∧ v = .string ⟨#[]⟩ ∧ wr = w1) (fun _ _ _ => 0)
  case atStart => exact ⟨rfl, rfl, rfl⟩
  case round =>
    obtain ⟨rfl, rfl, rfl⟩ := hrel
    go_wp2_with (first
      | (go_at_call 9; refine (hcall.out wr).mono ?_; rintro e w4 ⟨rfl, h4⟩; have hR4 := hR1.below h4 hR1.lt)
      | (refine wpList_store_all rfl 23 (.tmp 2) (.tmp 19) rfl n rfl (q.map byteV) rfl 23 _ hR4 (by rw [(zero_of_info info23).2, List.length_map, hq]) (by rw [List.length_map, List.length_map, hq]; rfl) (byteV_one _) ?_; intro w5 h5))
    exact bodyPost_ret (results_cell_row (p := 2) (by kernel_rfl) _ w5 n 23 (q.map byteV).toArray (0, 0) _ rfl h5.holds und23 rfl (by rw [(zero_of_info info23).2, List.size_toArray, List.length_map, hq])) rfl ⟨rfl, (b1.trans (h4.mono (by have := b1.size; omega))).trans (h5.below (by omega))⟩
end Go.Proofs.YtccebaleaipilaaDoor
