/- The function of the statement ShaSums, called with whatever text, answers true; nothing that was there is turned. -/
import Derived.Test.YtccebaleaipilaaDoorParts
import Derived.Test.YtccebaleaipilaaDoorRefE
namespace Go.Proofs.YtccebaleaipilaaDoor
open Go.RowKit
attribute [local go_sem ↓] rule_eql rule_neq rule23 rule23r rule_eqr
attribute [local go_sem] isLd_mk ldX_mk isEq_mk eqX_mk eqY_mk

theorem row_of {w : World} {c : Nat} {q : List UInt8} {t : TypeId} (h : Holds w c (q.map byteV) t) (hq : q.length = 32) : rowOf w (.pointer (some ⟨c, 0, none⟩)) 32 = some (q.map byteV) := by
  have := rowOf_range (h.range 0 _ (fun j v hv => by rw [Nat.zero_add]; exact hv))
  rwa [List.length_map, hq] at this

set_option maxHeartbeats 8000000 in
set_option maxRecDepth 100000 in
theorem shaSums_walk (s : ByteArray) (hs : s.size ≤ maxLen) (w : World) (hL : Laid w) :
    Calls Tryd.prog 3 #[.string s] w fun e w' => e = .returned (.bool true) ∧ Below w.heap.size w w' := by
  unfold maxLen at hs
  have hn2 := hL.two
  obtain ⟨n, hn⟩ : ∃ n, w.heap.size = n := ⟨_, rfl⟩
  rw [hn] at hn2 ⊢
  by_cases hlt : 5000 < s.size
  · have hrs : (s.extract 0 5000).size ≤ 5000 := by simp; omega
    obtain ⟨q, hq, _, D8, _, D9⟩ := four_ways [s.extract 0 5000] (by have e : (bytes [s.extract 0 5000]).length = (s.extract 0 5000).size := (by simp [bytes]); rw [e]; exact hrs) (by simp) (s.extract 0 5000) (by simp [bytes])
    have D8 : Hid _ := D8
    have D9 : Hid _ := D9
    have T10 : Hid (∀ W, Calls Tryd.prog 10 #[.agg (q.map byteV).toArray] W fun e w' => e = .returned (.string (textL q)) ∧ Below W.heap.size W w') := fun W => text_any q hq W
    have T11 : Hid (∀ W, Calls Tryd.prog 11 #[.agg (q.map byteV).toArray] W fun e w' => e = .returned (.string (textL q)) ∧ Below W.heap.size W w') := fun W => rtext_any q hq W
    have S0 := same32 q hq
    go_enter Tryd.func3, Tryd.ntmps3
    go_wp2_with (first
      | (go_at_call 7; refine (awake_any _ hL).mono ?_; rintro e w1 ⟨rfl, h1⟩; have b1 : Below n w (w1.alloc (.cells #[.string (s.extract 0 5000)] 9)) := (hn ▸ h1 : Below n w w1).alloc (by have := h1.size; omega) _)
      | (go_at_call 8; refine (D8.out _ (w1.alloc (.cells #[.string (s.extract 0 5000)] 9)) (parts_new w1 [s.extract 0 5000] 1) (hL.below b1 (by omega))).mono ?_; rintro e w3 ⟨rfl, h3⟩; obtain ⟨c, hc⟩ : ∃ c, w3.heap.size = c := ⟨_, rfl⟩)
      | (refine wpList_alloc_new 4 rfl rfl 23 rfl c hc _ (zero_of_info info23).1 ?_; intro w4 h4)
      | (refine wpList_store_all rfl 23 (.tmp 4) (.tmp 13) rfl c rfl (q.map byteV) rfl 23 _ h4.holds (by rw [(zero_of_info info23).2, List.length_map, hq]) (by rw [List.length_map, List.length_map, hq]; rfl) (byteV_one _) ?_; intro w5 h5))
    have hz1 := b1.size
    have b3 : Below n w w3 := b1.trans (h3.mono (by omega))
    have hnc : n ≤ c := by have := b3.size; omega
    have b5 : Below n w w5.drew := ((b3.trans (h4.below.mono hnc)).trans (h5.below hnc)).drew
    have hq5 : Holds w5.drew c (q.map byteV) 23 := h5.holds.drew
    have l5 := row_of hq5 hq
    clear h1 b1 h3 h4 h5 hc D8 hz1
    go_region_with (first
      | (go_at_call 9; refine (D9.out w5.drew).mono ?_; rintro e w6 ⟨rfl, h6⟩; have hq6 := hq5.below h6 hq5.lt; have l6 := row_of hq6 hq; have b6 : Below n w w6 := b5.trans (h6.mono (by have := b5.size; omega)))
      | (go_at_call 10; refine (T10.out w6).mono ?_; rintro e w7 ⟨rfl, h7⟩; have hq7 := hq6.below h7 hq6.lt; have l7 := row_of hq7 hq; have b7 : Below n w w7 := b6.trans (h7.mono (by have := b6.size; omega)))
      | (go_at_call 11; refine (T11.out w7).mono ?_; rintro e w8 ⟨rfl, h8⟩; have b8 : Below n w w8 := b7.trans (h8.mono (by have := b7.size; omega))))
    all_goals
      go_wp2
      go_ret
      exact ⟨rfl, b8⟩
  · have hrs : s.size ≤ 5000 := by omega
    obtain ⟨q, hq, _, D8, _, D9⟩ := four_ways [s] (by have e : (bytes [s]).length = s.size := (by simp [bytes]); rw [e]; exact hrs) (by simp) s (by simp [bytes])
    have D8 : Hid _ := D8
    have D9 : Hid _ := D9
    have T10 : Hid (∀ W, Calls Tryd.prog 10 #[.agg (q.map byteV).toArray] W fun e w' => e = .returned (.string (textL q)) ∧ Below W.heap.size W w') := fun W => text_any q hq W
    have T11 : Hid (∀ W, Calls Tryd.prog 11 #[.agg (q.map byteV).toArray] W fun e w' => e = .returned (.string (textL q)) ∧ Below W.heap.size W w') := fun W => rtext_any q hq W
    have S0 := same32 q hq
    go_enter Tryd.func3, Tryd.ntmps3
    go_wp2_with (first
      | (go_at_call 7; refine (awake_any _ hL).mono ?_; rintro e w1 ⟨rfl, h1⟩; have b1 : Below n w (w1.alloc (.cells #[.string s] 9)) := (hn ▸ h1 : Below n w w1).alloc (by have := h1.size; omega) _)
      | (go_at_call 8; refine (D8.out _ (w1.alloc (.cells #[.string s] 9)) (parts_new w1 [s] 1) (hL.below b1 (by omega))).mono ?_; rintro e w3 ⟨rfl, h3⟩; obtain ⟨c, hc⟩ : ∃ c, w3.heap.size = c := ⟨_, rfl⟩)
      | (refine wpList_alloc_new 4 rfl rfl 23 rfl c hc _ (zero_of_info info23).1 ?_; intro w4 h4)
      | (refine wpList_store_all rfl 23 (.tmp 4) (.tmp 13) rfl c rfl (q.map byteV) rfl 23 _ h4.holds (by rw [(zero_of_info info23).2, List.length_map, hq]) (by rw [List.length_map, List.length_map, hq]; rfl) (byteV_one _) ?_; intro w5 h5))
    have hz1 := b1.size
    have b3 : Below n w w3 := b1.trans (h3.mono (by omega))
    have hnc : n ≤ c := by have := b3.size; omega
    have b5 : Below n w w5.drew := ((b3.trans (h4.below.mono hnc)).trans (h5.below hnc)).drew
    have hq5 : Holds w5.drew c (q.map byteV) 23 := h5.holds.drew
    have l5 := row_of hq5 hq
    clear h1 b1 h3 h4 h5 hc D8 hz1
    go_region_with (first
      | (go_at_call 9; refine (D9.out w5.drew).mono ?_; rintro e w6 ⟨rfl, h6⟩; have hq6 := hq5.below h6 hq5.lt; have l6 := row_of hq6 hq; have b6 : Below n w w6 := b5.trans (h6.mono (by have := b5.size; omega)))
      | (go_at_call 10; refine (T10.out w6).mono ?_; rintro e w7 ⟨rfl, h7⟩; have hq7 := hq6.below h7 hq6.lt; have l7 := row_of hq7 hq; have b7 : Below n w w7 := b6.trans (h7.mono (by have := b6.size; omega)))
      | (go_at_call 11; refine (T11.out w7).mono ?_; rintro e w8 ⟨rfl, h8⟩; have b8 : Below n w w8 := b7.trans (h8.mono (by have := b7.size; omega))))
    all_goals
      go_wp2
      go_ret
      exact ⟨rfl, b8⟩
end Go.Proofs.YtccebaleaipilaaDoor
