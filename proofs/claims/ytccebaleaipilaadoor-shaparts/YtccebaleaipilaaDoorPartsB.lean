/- The function of the statement ShaParts, called with no parts, answers true; nothing that was there is turned. -/
import Derived.Test.YtccebaleaipilaaDoorParts
namespace Go.Proofs.YtccebaleaipilaaDoor
open Go.RowKit
attribute [local go_sem ↓] rule_eql rule_neq rule23 rule23r rule_eqr
attribute [local go_sem] isLd_mk ldX_mk isEq_mk eqX_mk eqY_mk

set_option maxHeartbeats 8000000 in
set_option maxRecDepth 100000 in
theorem shaParts_none (a0 : Option Addr) (cap0 : Nat) (w : World) (hL : Laid w) :
    Calls Tryd.prog 4 #[.slice a0 0 cap0] w fun e w' => e = .returned (.bool true) ∧ Below w.heap.size w w' := by
  have hn2 := hL.two
  obtain ⟨n, hn⟩ : ∃ n, w.heap.size = n := ⟨_, rfl⟩
  rw [hn] at hn2 ⊢
  obtain ⟨q, hq, D14, D8, _, D9⟩ := four_ways [] (by decide) (by decide) ⟨#[]⟩ rfl
  have D14 : Hid _ := D14
  have D8 : Hid _ := D8
  have D9 : Hid _ := D9
  have S0 := same32 q hq
  go_enter Tryd.func4, Tryd.ntmps4
  go_wp2_with (first
    | (go_at_call 7; refine (awake_any _ hL).mono ?_; rintro e w1 ⟨rfl, h1⟩; obtain ⟨b, hb⟩ : ∃ b, w1.heap.size = b := ⟨_, rfl⟩)
    | (go_at_call 12; refine (new_any _).mono ?_; rw [hb]; rintro e w2 ⟨rfl, h2⟩))
  rw [hn] at h1
  have hnb : n ≤ b := by rw [← hb]; have := h1.size; omega
  have b2 : Below n w w2 := h1.trans (h2.below.mono hnb)
  have hH2 : Holds w2 b (hashV (putN newL (bytes []))) 43 := h2.holds
  clear h1 h2 hb
  go_loopw [4, 6, 7] (fun av kv c wr => c = .int .i64 0 ∧ av = .string ⟨#[]⟩ ∧ kv = .slice none 0 0 ∧ Holds wr b (hashV (putN newL (bytes []))) 43 ∧ Below n w wr) (fun _ _ _ _ => 0)
  case atStart => exact ⟨rfl, rfl, rfl, hH2, b2⟩
  case round =>
    clear b2 hH2
    obtain ⟨rfl, rfl, rfl, hH, hb⟩ := hrel
    have hnw : n ≤ wr.heap.size := by have := hb.size; omega
    go_wp2_with (first
      | (go_at_call 9; refine (D9.out _).mono ?_; rintro e w5 ⟨rfl, h5⟩; obtain ⟨c, hc⟩ : ∃ c, w5.heap.size = c := ⟨_, rfl⟩)
      | (refine wpList_alloc_new 8 rfl rfl 23 rfl c hc _ (zero_of_info info23).1 ?_; intro w6 h6)
      | (refine wpList_store_all rfl 23 (.tmp 8) (.tmp 67) rfl c rfl (q.map byteV) rfl 23 _ h6.holds (by rw [(zero_of_info info23).2, List.length_map, hq]) (by rw [List.length_map, List.length_map, hq]; rfl) (byteV_one _) ?_; intro w7 h7))
    have hwc : wr.heap.size ≤ c := by rw [← hc]; exact h5.size
    have r7 : Below wr.heap.size wr w7.drew := ((h5.trans (h6.below.mono hwc)).trans (h7.below hwc)).drew
    have HH7 : Hid (Holds w7.drew b (hashV (putN newL (bytes []))) 43) := hH.below r7 hH.lt
    have b7 : Below n w w7.drew := hb.trans (r7.mono hnw)
    have hq7 : Holds w7.drew c (q.map byteV) 23 := h7.holds.drew
    have l7 : rowOf w7.drew (.pointer (some ⟨c, 0, none⟩)) 32 = some (q.map byteV) := by
      have := rowOf_range (hq7.range 0 _ (fun j v hv => by rw [Nat.zero_add]; exact hv))
      rwa [List.length_map, hq] at this
    clear h5 h6 h7 hc hH hb r7
    go_region_with (first
      | (go_at_call 14; refine (D14.out b w7.drew (hL.below b7 (by omega)) HH7.out).mono ?_; rintro e w8 ⟨rfl, h8⟩; have hq8 := hq7.below h8 hq7.lt; have l8 : rowOf w8 (.pointer (some ⟨c, 0, none⟩)) 32 = some (q.map byteV) := (by have := rowOf_range (hq8.range 0 _ (fun j v hv => by rw [Nat.zero_add]; exact hv)); rwa [List.length_map, hq] at this); have b8 : Below n w w8 := b7.trans (h8.mono (by have := b7.size; omega)); have HP8 : Hid (Parts w8 (.slice none 0 0) []) := .inl ⟨rfl, rfl⟩)
      | (go_at_call 8; refine (D8.out _ w8 HP8.out (hL.below b8 (by omega))).mono ?_; rintro e w9 ⟨rfl, h9⟩; have hq9 := hq8.below h9 hq8.lt; have l9 : rowOf w9 (.pointer (some ⟨c, 0, none⟩)) 32 = some (q.map byteV) := (by have := rowOf_range (hq9.range 0 _ (fun j v hv => by rw [Nat.zero_add]; exact hv)); rwa [List.length_map, hq] at this); have b9 : Below n w w9 := b8.trans (h9.mono (by have := b8.size; omega))))
    all_goals
      go_wp2
      go_ret
      exact ⟨rfl, b9⟩
end Go.Proofs.YtccebaleaipilaaDoor
