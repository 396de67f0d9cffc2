/- The function of the statement ShaNil, called with whatever text, answers true; nothing that was there is turned. -/
import Derived.Test.YtccebaleaipilaaDoorAwake
import Derived.Test.YtccebaleaipilaaDoorEql
namespace Go.Proofs.YtccebaleaipilaaDoor
open Go.RowKit
attribute [local go_sem ↓] rule_eql rule_neq

/-- The sum of a nil hash and that of no parts are one. -/
theorem pair_none : ∃ q : List UInt8, q.length = 32 ∧
    (∀ W, Laid W → Calls Tryd.prog 14 #[.pointer none] W fun e w' => e = .returned (.agg (q.map byteV).toArray) ∧ Below W.heap.size W w') ∧
    (∀ W, Laid W → Calls Tryd.prog 8 #[.slice none 0 0] W fun e w' => e = .returned (.agg (q.map byteV).toArray) ∧ Below W.heap.size W w') :=
  ⟨sumL newL, sumL_length _ newL_ok, fun W hW => hsum_none W hW, fun W hW => sum_any [] (by decide) (by decide) _ W (.inl ⟨rfl, rfl⟩) hW⟩
/-- The sum of a hash to which parts were put and that of the parts are one. -/
theorem pair_some (ps : List ByteArray) (hlen : (bytes ps).length < 1152921504606846976 - 300) (hps : ps.length < 140737488355328) : ∃ (q : List UInt8), q.length = 32 ∧
    (∀ b W, Laid W → Holds W b (hashV (putN newL (bytes ps))) 43 → Calls Tryd.prog 14 #[.pointer (some ⟨b, 0, none⟩)] W fun e w' => e = .returned (.agg (q.map byteV).toArray) ∧ Below W.heap.size W w') ∧
    (∀ v W, Parts W v ps → Laid W → Calls Tryd.prog 8 #[v] W fun e w' => e = .returned (.agg (q.map byteV).toArray) ∧ Below W.heap.size W w') :=
  ⟨sumL (putN newL (bytes ps)), sumL_length _ (putN_ok _ _ newL_ok), fun b W hW hH => hsum_some _ (putN_ok _ _ newL_ok) (by rw [putN_len]; simp only [newL]; omega) b W hW hH, fun v W hp hW => sum_any ps hlen hps v W hp hW⟩

set_option maxHeartbeats 400000 in
set_option maxRecDepth 100000 in
theorem shaNil_walk (s : ByteArray) (hs : s.size ≤ maxLen) (w : World) (hL : Laid w) :
    Calls Tryd.prog 6 #[.string s] w fun e w' => e = .returned (.bool true) ∧ Below w.heap.size w w' := by
  unfold maxLen at hs
  have hn2 := hL.two
  obtain ⟨n, hn⟩ : ∃ n, w.heap.size = n := ⟨_, rfl⟩
  rw [hn] at hn2 ⊢
  by_cases hlt : 1000 < s.size
  all_goals
    go_enter Tryd.func6, Tryd.ntmps6
    go_wp2_with (first
      | (refine wpList_build_none rfl 43 rfl (hashV newL).toArray built43 ?_)
      | (refine wpList_box_new 6 rfl rfl 43 _ rfl n hn (hashV newL) rfl ?_; intro w1 h1)
      | (go_at_call_of 13 (Value.pointer none); refine (write_none _ _).mono ?_; rintro e w2 ⟨rfl, rfl⟩))
  · have hrs : (s.extract 0 1000).size ≤ 1000 := by simp; omega
    obtain ⟨r, hr⟩ : ∃ r, s.extract 0 1000 = r := ⟨_, rfl⟩
    simp only [hr]
    rw [hr] at hrs
    clear hr
    have hz1 := h1.size
    have bW : Below (n + 1) w1 ((w1.alloc (.cells #[.string s] 9)).alloc (.cells #[.string r] 9)) := ((Below.refl _ _).alloc (by omega) _).alloc (by simp; omega) _
    have hzW : ((w1.alloc (.cells #[.string s] 9)).alloc (.cells #[.string r] 9)).heap.size = n + 3 := by simp [hz1]
    have hcW : ∀ (i : Nat) (p : ByteArray), [r][i]? = some p → ((w1.alloc (.cells #[.string s] 9)).alloc (.cells #[.string r] 9)).cell? ⟨n + 2, 0 + i, none⟩ = some (.string p) := fun i p hi => by
      have := cell_of_row ((w1.alloc (.cells #[.string s] 9)).alloc (.cells #[.string r] 9)) (n + 2) (0 + i) #[.string r] 9 (0, 0) (by
        have := heap_alloc_new (w1.alloc (.cells #[.string s] 9)) (.cells #[.string r] 9)
        simpa [hz1] using this)
      rw [this]
      cases i with
      | zero => simp at hi ⊢; exact hi
      | succ i => simp at hi
    rw [hz1]
    generalize (w1.alloc (.cells #[.string s] 9)).alloc (.cells #[.string r] 9) = W at *
    have bnW : Below n w W := h1.below.trans (bW.mono (by omega))
    have hLW : Laid W := hL.below bnW (by omega)
    have hHW : Holds W n (hashV newL) 43 := h1.holds.below bW (by omega)
    have hby : (bytes [r]).length = r.size := by simp [bytes]
    obtain ⟨q0, hq0, C14, C8⟩ := pair_none
    obtain ⟨q1, hq1, D14, D8⟩ := pair_some [r] (by omega) (by simp)
    have C14 : Hid _ := C14
    have C8 : Hid _ := C8
    have D14 : Hid _ := D14
    have D8 : Hid _ := D8
    have S0 := same32 q0 hq0
    have S1 := same32 q1 hq1
    refine (write_some newL newL_ok [r] (by rw [hby]; simp only [newL]; omega) (by simp) n (by omega) (n + 2) 0 1 (by omega) W hLW hHW hcW).mono ?_
    rintro e w2 ⟨rfl, h2, u2⟩
    have b2 : Below n w w2 := bnW.trans (u2.below (Nat.le_refl _) (by omega))
    have hL2 : Laid w2 := hL.below b2 (by omega)
    clear hcW hHW hLW bnW bW
    dsimp only
    go_wp2_with (first
      | (go_at_call 7; refine (awake_any _ hL2).mono ?_; rintro e w3 ⟨rfl, h3⟩; have hL3 : Laid w3 := hL2.below h3 hL2.two)
      | (go_at_call_of 14 (Value.pointer none); refine (C14.out _ hL3).mono ?_; rintro e w4 ⟨rfl, h4⟩; have hL4 : Laid w4 := hL3.below h4 hL3.two)
      | (go_at_call_of 8 (Value.slice none 0 0); refine (C8.out _ hL4).mono ?_; rintro e w5 ⟨rfl, h5⟩; have hL5 : Laid w5 := hL4.below h5 hL4.two; have hH5 := ((h2.below h3 h2.lt).below h4 (h2.below h3 h2.lt).lt).below h5 ((h2.below h3 h2.lt).below h4 (h2.below h3 h2.lt).lt).lt)
      | (go_at_call_of 14 (Value.pointer (some ⟨n, 0, none⟩)); refine (D14.out n _ hL5 hH5).mono ?_; rintro e w6 ⟨rfl, h6⟩; have hL6 : Laid w6 := hL5.below h6 hL5.two; have hL7 : Laid (w6.alloc (.cells #[.string r] 9)) := hL6.below ((Below.refl _ _).alloc (Nat.le_refl _) _) hL6.two)
      | (go_at_call 8; refine (D8.out _ _ (parts_new w6 [r] 1) hL7).mono ?_; rintro e w7 ⟨rfl, h7⟩))
    go_ret
    have z3 := h3.size
    have z4 := h4.size
    have z5 := h5.size
    have z6 := h6.size
    have z2 := b2.size
    have z7 := h7.size
    refine ⟨rfl, ((((b2.trans (h3.mono (by omega))).trans (h4.mono (by omega))).trans (h5.mono (by omega))).trans (h6.mono (by omega))).trans ?_⟩
    exact (((Below.refl _ _).alloc (Nat.le_refl _) _).mono (by omega)).trans (h7.mono (by simp; omega))
  · have hz1 := h1.size
    have bW : Below (n + 1) w1 ((w1.alloc (.cells #[.string s] 9)).alloc (.cells #[.string s] 9)) := ((Below.refl _ _).alloc (by omega) _).alloc (by simp; omega) _
    have hzW : ((w1.alloc (.cells #[.string s] 9)).alloc (.cells #[.string s] 9)).heap.size = n + 3 := by simp [hz1]
    have hcW : ∀ (i : Nat) (p : ByteArray), [s][i]? = some p → ((w1.alloc (.cells #[.string s] 9)).alloc (.cells #[.string s] 9)).cell? ⟨n + 2, 0 + i, none⟩ = some (.string p) := fun i p hi => by
      have := cell_of_row ((w1.alloc (.cells #[.string s] 9)).alloc (.cells #[.string s] 9)) (n + 2) (0 + i) #[.string s] 9 (0, 0) (by
        have := heap_alloc_new (w1.alloc (.cells #[.string s] 9)) (.cells #[.string s] 9)
        simpa [hz1] using this)
      rw [this]
      cases i with
      | zero => simp at hi ⊢; exact hi
      | succ i => simp at hi
    rw [hz1]
    generalize (w1.alloc (.cells #[.string s] 9)).alloc (.cells #[.string s] 9) = W at *
    have bnW : Below n w W := h1.below.trans (bW.mono (by omega))
    have hLW : Laid W := hL.below bnW (by omega)
    have hHW : Holds W n (hashV newL) 43 := h1.holds.below bW (by omega)
    have hby : (bytes [s]).length = s.size := by simp [bytes]
    obtain ⟨q0, hq0, C14, C8⟩ := pair_none
    obtain ⟨q1, hq1, D14, D8⟩ := pair_some [s] (by omega) (by simp)
    have C14 : Hid _ := C14
    have C8 : Hid _ := C8
    have D14 : Hid _ := D14
    have D8 : Hid _ := D8
    have S0 := same32 q0 hq0
    have S1 := same32 q1 hq1
    refine (write_some newL newL_ok [s] (by rw [hby]; simp only [newL]; omega) (by simp) n (by omega) (n + 2) 0 1 (by omega) W hLW hHW hcW).mono ?_
    rintro e w2 ⟨rfl, h2, u2⟩
    have b2 : Below n w w2 := bnW.trans (u2.below (Nat.le_refl _) (by omega))
    have hL2 : Laid w2 := hL.below b2 (by omega)
    clear hcW hHW hLW bnW bW
    dsimp only
    go_wp2_with (first
      | (go_at_call 7; refine (awake_any _ hL2).mono ?_; rintro e w3 ⟨rfl, h3⟩; have hL3 : Laid w3 := hL2.below h3 hL2.two)
      | (go_at_call_of 14 (Value.pointer none); refine (C14.out _ hL3).mono ?_; rintro e w4 ⟨rfl, h4⟩; have hL4 : Laid w4 := hL3.below h4 hL3.two)
      | (go_at_call_of 8 (Value.slice none 0 0); refine (C8.out _ hL4).mono ?_; rintro e w5 ⟨rfl, h5⟩; have hL5 : Laid w5 := hL4.below h5 hL4.two; have hH5 := ((h2.below h3 h2.lt).below h4 (h2.below h3 h2.lt).lt).below h5 ((h2.below h3 h2.lt).below h4 (h2.below h3 h2.lt).lt).lt)
      | (go_at_call_of 14 (Value.pointer (some ⟨n, 0, none⟩)); refine (D14.out n _ hL5 hH5).mono ?_; rintro e w6 ⟨rfl, h6⟩; have hL6 : Laid w6 := hL5.below h6 hL5.two; have hL7 : Laid (w6.alloc (.cells #[.string s] 9)) := hL6.below ((Below.refl _ _).alloc (Nat.le_refl _) _) hL6.two)
      | (go_at_call 8; refine (D8.out _ _ (parts_new w6 [s] 1) hL7).mono ?_; rintro e w7 ⟨rfl, h7⟩))
    go_ret
    have z3 := h3.size
    have z4 := h4.size
    have z5 := h5.size
    have z6 := h6.size
    have z2 := b2.size
    have z7 := h7.size
    refine ⟨rfl, ((((b2.trans (h3.mono (by omega))).trans (h4.mono (by omega))).trans (h5.mono (by omega))).trans (h6.mono (by omega))).trans ?_⟩
    exact (((Below.refl _ _).alloc (Nat.le_refl _) _).mono (by omega)).trans (h7.mono (by simp; omega))
end Go.Proofs.YtccebaleaipilaaDoor
