/- The function of the statement ShaJoins, called with no sums, answers true; nothing that was there is turned. -/
import Derived.Test.YtccebaleaipilaaDoorJoins
namespace Go.Proofs.YtccebaleaipilaaDoor
open Go.RowKit
attribute [local go_sem ↓] rule_eql rule_neq rule23 rule23r rule_eqr rule_ner
attribute [local go_sem] isLd_mk ldX_mk isEq_mk eqX_mk eqY_mk isNe_mk neX_mk neY_mk

set_option maxHeartbeats 8000000 in
set_option maxRecDepth 100000 in
theorem shaJoins_none (a0 : Option Addr) (cap : Nat) (w : World) (hL : Laid w) :
    Calls Tryd.prog 5 #[.slice a0 0 cap] w fun e w' => e = .returned (.bool true) ∧ Below w.heap.size w w' := by
  have hn2 := hL.two
  obtain ⟨q, hq, J15, J16⟩ : ∃ q : List UInt8, q.length = 32 ∧
      (∀ (a2 : Option Addr) (cap2 : Nat) (W : World), Laid W → Calls Tryd.prog 15 #[.slice a2 0 cap2] W fun e w' => e = .returned (.agg (q.map byteV).toArray) ∧ Below W.heap.size W w') ∧
      (∀ (a2 : Option Addr) (cap2 : Nat) (W : World), Calls Tryd.prog 16 #[.slice a2 0 cap2] W fun e w' => e = .returned (.agg (q.map byteV).toArray) ∧ Below W.heap.size W w') :=
    ⟨sumL (putN newL []), sumL_length _ (putN_ok _ _ newL_ok), fun a2 cap2 W h3 => join_none a2 cap2 W h3, fun a2 cap2 W => by
      have := rjoin_none a2 cap2 W
      rw [← sum_ref] at this; exact this⟩
  have J15 : Hid _ := J15
  have J16 : Hid _ := J16
  have S0 := same32 q hq
  obtain ⟨n, hn⟩ : ∃ n, w.heap.size = n := ⟨_, rfl⟩
  rw [hn] at hn2 ⊢
  cases a0
  all_goals
    go_enter Tryd.func5, Tryd.ntmps5
    go_wp2_with (first
    | (go_at_call 7; refine (awake_any _ hL).mono ?_; rintro e w1 ⟨rfl, h1⟩; rw [hn] at h1; have hL1 : Laid w1 := hL.below h1 (by omega))
    | (go_at_call 15; refine (J15.out _ _ w1 hL1).mono ?_; rintro e w4 ⟨rfl, h4⟩; obtain ⟨c, hc⟩ : ∃ c, w4.heap.size = c := ⟨_, rfl⟩)
    | (refine wpList_alloc_new 5 rfl rfl 23 rfl c hc _ (zero_of_info info23).1 ?_; intro w5 h5)
    | (refine wpList_store_all rfl 23 (.tmp 5) (.tmp 17) rfl c rfl (q.map byteV) rfl 23 _ h5.holds (by rw [(zero_of_info info23).2, List.length_map, hq]) (by rw [List.length_map, List.length_map, hq]; rfl) (byteV_one _) ?_; intro w6 h6))
    have hwc : w1.heap.size ≤ c := by rw [← hc]; exact h4.size
    have b16 : Below w1.heap.size w1 w6 := (h4.trans (h5.below.mono hwc)).trans (h6.below hwc)
    have b6 : Below n w w6.drew := (h1.trans (b16.mono (by have := h1.size; omega))).drew
    have hqd : Holds w6.drew c (q.map byteV) 23 := h6.holds.drew
    have ld := row_of hqd hq
    clear h4 h5 h6 hc h1 hL1 b16 hwc
    go_loopw [6] (fun cv wr => cv = .int .i64 0 ∧ wr = w6) (fun _ _ => 0)
    case atStart => exact ⟨rfl, rfl⟩
    case round =>
      obtain ⟨rfl, rfl⟩ := hrel
      go_wp2_with fail
      go_region_with (go_at_call 16; refine (J16.out _ cap wr.drew).mono ?_; rintro e w8 ⟨rfl, h8⟩; have hq8 := hqd.below h8 hqd.lt; have l8 := row_of hq8 hq; have b8 : Below n w w8 := b6.trans (h8.mono (by have := b6.size; omega)))
      all_goals
        go_wp2
        go_ret
        exact ⟨rfl, b8⟩
end Go.Proofs.YtccebaleaipilaaDoor
