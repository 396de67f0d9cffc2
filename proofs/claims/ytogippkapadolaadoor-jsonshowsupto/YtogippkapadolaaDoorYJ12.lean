/- JsRight, JsLaid. -/
import Derived.Test.YtogippkapadolaaDoorYJ7
import Derived.Test.YtogippkapadolaaDoorYJ11
import Derived.Test.YtogippkapadolaaDoorYJ6
/- Whether a value is right: the switch (by gen_jsright.py). -/
namespace Go.Proofs.YtogippkapadolaaDoor
open Go.RowKit

def badB (k : Int) (b : Bool) (n : Int) (s : List UInt8) (ll nl : Nat) (within : Nat) : Bool :=
  decide (k < 0) || decide (k > 5) || (b && decide (k ≠ 1)) || (decide (n ≠ 0) && decide (k ≠ 2)) || (decide (s ≠ []) && decide (k ≠ 3)) || (decide (0 < ll) && !(decide (k = 4) || decide (k = 5))) || (decide (0 < nl) && decide (k ≠ 5)) || (decide (nl ≠ ll) && decide (k = 5)) || ((decide (k = 4) || decide (k = 5)) && decide (16 ≤ within))
theorem cell4_new (w : World) (a0 a1 a2 a3 a4 a5 : Value) : ∀ y, Gr (w.alloc (.cells #[a0, a1, a2, a3, a4, a5] 27)) y → y.cell? ⟨w.heap.size, 4, none⟩ = some a4 := fun y hy => by
  have h : Holds (w.alloc (.cells [a0, a1, a2, a3, a4, a5].toArray 27)) w.heap.size [a0, a1, a2, a3, a4, a5] 27 := heap_alloc_new w _
  exact (h.gr hy).at 4 _ rfl
theorem str_ne {s : List UInt8} (h : s ≠ []) : ¬ (strL s).toList = [] := by
  rw [ByteArray.toList_eq]
  simpa [strL] using h
theorem str_em {s : List UInt8} (h : s ≠ []) : (strL s).toList.isEmpty = false := by
  rw [ByteArray.toList_eq]
  simpa [strL] using h
set_option maxHeartbeats 4000000 in
set_option maxRecDepth 100000 in
theorem isRight_lo {k : Int} {b : Bool} {n : Int} {s : List UInt8} {la na : Option Addr} {ll lc nl nc : Nat} {m : Nat} {w : World} {X Y : Bool} (hk : k < 0) :
    Calls Tryd.prog 28 #[.agg #[.int .i64 k, .bool b, .int .i64 n, .string (strL s), .slice la ll lc, .slice na nl nc], .int .i64 (m : Int)] w fun e w' => e = .returned (.bool (!badB k b n s ll nl m && X && Y)) ∧ Gr w w' := by
  have gk : k < 0 := hk
  rw [show badB k b n s ll nl m = true by simp [badB, hk]]
  go_enter Tryd.func28, Tryd.ntmps28
  go_wp2
  go_ret
  exact ⟨rfl, Gr.alloc _ _⟩
set_option maxHeartbeats 4000000 in
set_option maxRecDepth 100000 in
theorem isRight_hi {k : Int} {b : Bool} {n : Int} {s : List UInt8} {la na : Option Addr} {ll lc nl nc : Nat} {m : Nat} {w : World} {X Y : Bool} (hk : k > 5) :
    Calls Tryd.prog 28 #[.agg #[.int .i64 k, .bool b, .int .i64 n, .string (strL s), .slice la ll lc, .slice na nl nc], .int .i64 (m : Int)] w fun e w' => e = .returned (.bool (!badB k b n s ll nl m && X && Y)) ∧ Gr w w' := by
  have gk : ¬ k < 0 := by omega
  have gk2 : k > 5 := hk
  rw [show badB k b n s ll nl m = true by simp [badB, hk]]
  go_enter Tryd.func28, Tryd.ntmps28
  go_wp2
  go_ret
  exact ⟨rfl, Gr.alloc _ _⟩
set_option maxHeartbeats 4000000 in
set_option maxRecDepth 100000 in
theorem isRight_0 {b : Bool} {n : Int} {s : List UInt8} {la na : Option Addr} {ll lc nl nc : Nat} {m : Nat} {w : World} {X Y : Bool}  (hm : m ≤ 1000)
    (hgood : badB 0 b n s ll nl m = false → (∀ y, Gr w y → Calls Tryd.prog 46 #[.slice na nl nc] y fun e z => e = .returned (.bool X) ∧ Gr y z) ∧ (∀ y, Gr w y → Calls Tryd.prog 47 #[.slice la ll lc, .int .i64 ((m : Int) + 1)] y fun e z => e = .returned (.bool Y) ∧ Gr y z)) :
    Calls Tryd.prog 28 #[.agg #[.int .i64 0, .bool b, .int .i64 n, .string (strL s), .slice la ll lc, .slice na nl nc], .int .i64 (m : Int)] w fun e w' => e = .returned (.bool (!badB 0 b n s ll nl m && X && Y)) ∧ Gr w w' := by
  cases b with
  | true =>
    rw [show badB 0 true n s ll nl m = true by simp [badB]]
    clear hgood
    go_enter Tryd.func28, Tryd.ntmps28
    go_wp2
    go_ret
    exact ⟨rfl, Gr.alloc _ _⟩
  | false =>
    by_cases hn : n = 0
    · subst hn
      by_cases hs : s = []
      · subst hs
        have es : strL [] = ⟨#[]⟩ := rfl
        rw [es]
        by_cases hll : 0 < ll
        · have gl : (ll : Int) > 0 := by omega
          rw [show badB 0 false 0 [] ll nl m = true by simp [badB, hll]]
          clear hgood
          go_enter Tryd.func28, Tryd.ntmps28
          go_wp2
          go_ret
          exact ⟨rfl, Gr.alloc _ _⟩
        · have gl : ¬ (ll : Int) > 0 := by omega
          by_cases hnl : 0 < nl
          · have gnl : (nl : Int) > 0 := by omega
            rw [show badB 0 false 0 [] ll nl m = true by simp [badB, hll, hnl]]
            clear hgood
            go_enter Tryd.func28, Tryd.ntmps28
            go_wp2
            go_ret
            exact ⟨rfl, Gr.alloc _ _⟩
          · have gnl : ¬ (nl : Int) > 0 := by omega
            have hne : nl = ll := by omega
            have gne : ((nl : Int) != (ll : Int)) = false := by simp [hne]
            have hbf : badB 0 false 0 [] ll nl m = false := by simp [badB, hll, hne]
            obtain ⟨honce, hright⟩ := hgood hbf
            rw [hbf]
            clear hgood hbf
            have hm1 : (m : Int) + 1 ≤ 1001 := by omega
            clear hne
            have hcell := cell4_new w (.int .i64 0) (.bool false) (.int .i64 0) (.string ⟨#[]⟩) (.slice la ll lc) (.slice na nl nc)
            have honce := honce _ (Gr.alloc w (.cells #[.int .i64 0, .bool false, .int .i64 0, .string ⟨#[]⟩, .slice la ll lc, .slice na nl nc] 27))
            have hg0 := Gr.alloc w (.cells #[.int .i64 0, .bool false, .int .i64 0, .string ⟨#[]⟩, .slice la ll lc, .slice na nl nc] 27)
            cases X with
            | false =>
              clear hright hcell
              go_enter Tryd.func28, Tryd.ntmps28
              go_wp2_with (go_at_call 46; refine honce.mono ?_; rintro e w2 ⟨rfl, hg⟩)
              go_ret
              exact ⟨rfl, hg0.trans hg⟩
            | true =>
              go_enter Tryd.func28, Tryd.ntmps28
              go_wp2_with (first
                | (go_at_call 46; refine honce.mono ?_; rintro e w2 ⟨rfl, hg⟩; have hc4 := hcell w2 hg; have hright := hright _ (hg0.trans hg); clear hcell)
                | (go_at_call 47; refine hright.mono ?_; rintro e w3 ⟨rfl, hg3⟩))
              go_ret
              exact ⟨by simp, (hg0.trans hg).trans hg3⟩
      · have gs := str_ne hs
        have gs2 := str_em hs
        rw [show badB 0 false 0 s ll nl m = true by simp [badB, hs]]
        clear hgood
        go_enter Tryd.func28, Tryd.ntmps28
        go_wp2
        go_ret
        exact ⟨rfl, Gr.alloc _ _⟩
    · have gn : (n != 0) = true := by simp [hn]
      rw [show badB 0 false n s ll nl m = true by simp [badB, hn]]
      clear hgood
      go_enter Tryd.func28, Tryd.ntmps28
      go_wp2
      go_ret
      exact ⟨rfl, Gr.alloc _ _⟩
set_option maxHeartbeats 4000000 in
set_option maxRecDepth 100000 in
theorem isRight_1 {b : Bool} {n : Int} {s : List UInt8} {la na : Option Addr} {ll lc nl nc : Nat} {m : Nat} {w : World} {X Y : Bool}  (hm : m ≤ 1000)
    (hgood : badB 1 b n s ll nl m = false → (∀ y, Gr w y → Calls Tryd.prog 46 #[.slice na nl nc] y fun e z => e = .returned (.bool X) ∧ Gr y z) ∧ (∀ y, Gr w y → Calls Tryd.prog 47 #[.slice la ll lc, .int .i64 ((m : Int) + 1)] y fun e z => e = .returned (.bool Y) ∧ Gr y z)) :
    Calls Tryd.prog 28 #[.agg #[.int .i64 1, .bool b, .int .i64 n, .string (strL s), .slice la ll lc, .slice na nl nc], .int .i64 (m : Int)] w fun e w' => e = .returned (.bool (!badB 1 b n s ll nl m && X && Y)) ∧ Gr w w' := by
  cases b with
  | true =>
    by_cases hn : n = 0
    · subst hn
      by_cases hs : s = []
      · subst hs
        have es : strL [] = ⟨#[]⟩ := rfl
        rw [es]
        by_cases hll : 0 < ll
        · have gl : (ll : Int) > 0 := by omega
          rw [show badB 1 true 0 [] ll nl m = true by simp [badB, hll]]
          clear hgood
          go_enter Tryd.func28, Tryd.ntmps28
          go_wp2
          go_ret
          exact ⟨rfl, Gr.alloc _ _⟩
        · have gl : ¬ (ll : Int) > 0 := by omega
          by_cases hnl : 0 < nl
          · have gnl : (nl : Int) > 0 := by omega
            rw [show badB 1 true 0 [] ll nl m = true by simp [badB, hll, hnl]]
            clear hgood
            go_enter Tryd.func28, Tryd.ntmps28
            go_wp2
            go_ret
            exact ⟨rfl, Gr.alloc _ _⟩
          · have gnl : ¬ (nl : Int) > 0 := by omega
            have hne : nl = ll := by omega
            have gne : ((nl : Int) != (ll : Int)) = false := by simp [hne]
            have hbf : badB 1 true 0 [] ll nl m = false := by simp [badB, hll, hne]
            obtain ⟨honce, hright⟩ := hgood hbf
            rw [hbf]
            clear hgood hbf
            have hm1 : (m : Int) + 1 ≤ 1001 := by omega
            clear hne
            have hcell := cell4_new w (.int .i64 1) (.bool true) (.int .i64 0) (.string ⟨#[]⟩) (.slice la ll lc) (.slice na nl nc)
            have honce := honce _ (Gr.alloc w (.cells #[.int .i64 1, .bool true, .int .i64 0, .string ⟨#[]⟩, .slice la ll lc, .slice na nl nc] 27))
            have hg0 := Gr.alloc w (.cells #[.int .i64 1, .bool true, .int .i64 0, .string ⟨#[]⟩, .slice la ll lc, .slice na nl nc] 27)
            cases X with
            | false =>
              clear hright hcell
              go_enter Tryd.func28, Tryd.ntmps28
              go_wp2_with (go_at_call 46; refine honce.mono ?_; rintro e w2 ⟨rfl, hg⟩)
              go_ret
              exact ⟨rfl, hg0.trans hg⟩
            | true =>
              go_enter Tryd.func28, Tryd.ntmps28
              go_wp2_with (first
                | (go_at_call 46; refine honce.mono ?_; rintro e w2 ⟨rfl, hg⟩; have hc4 := hcell w2 hg; have hright := hright _ (hg0.trans hg); clear hcell)
                | (go_at_call 47; refine hright.mono ?_; rintro e w3 ⟨rfl, hg3⟩))
              go_ret
              exact ⟨by simp, (hg0.trans hg).trans hg3⟩
      · have gs := str_ne hs
        have gs2 := str_em hs
        rw [show badB 1 true 0 s ll nl m = true by simp [badB, hs]]
        clear hgood
        go_enter Tryd.func28, Tryd.ntmps28
        go_wp2
        go_ret
        exact ⟨rfl, Gr.alloc _ _⟩
    · have gn : (n != 0) = true := by simp [hn]
      rw [show badB 1 true n s ll nl m = true by simp [badB, hn]]
      clear hgood
      go_enter Tryd.func28, Tryd.ntmps28
      go_wp2
      go_ret
      exact ⟨rfl, Gr.alloc _ _⟩
  | false =>
    by_cases hn : n = 0
    · subst hn
      by_cases hs : s = []
      · subst hs
        have es : strL [] = ⟨#[]⟩ := rfl
        rw [es]
        by_cases hll : 0 < ll
        · have gl : (ll : Int) > 0 := by omega
          rw [show badB 1 false 0 [] ll nl m = true by simp [badB, hll]]
          clear hgood
          go_enter Tryd.func28, Tryd.ntmps28
          go_wp2
          go_ret
          exact ⟨rfl, Gr.alloc _ _⟩
        · have gl : ¬ (ll : Int) > 0 := by omega
          by_cases hnl : 0 < nl
          · have gnl : (nl : Int) > 0 := by omega
            rw [show badB 1 false 0 [] ll nl m = true by simp [badB, hll, hnl]]
            clear hgood
            go_enter Tryd.func28, Tryd.ntmps28
            go_wp2
            go_ret
            exact ⟨rfl, Gr.alloc _ _⟩
          · have gnl : ¬ (nl : Int) > 0 := by omega
            have hne : nl = ll := by omega
            have gne : ((nl : Int) != (ll : Int)) = false := by simp [hne]
            have hbf : badB 1 false 0 [] ll nl m = false := by simp [badB, hll, hne]
            obtain ⟨honce, hright⟩ := hgood hbf
            rw [hbf]
            clear hgood hbf
            have hm1 : (m : Int) + 1 ≤ 1001 := by omega
            clear hne
            have hcell := cell4_new w (.int .i64 1) (.bool false) (.int .i64 0) (.string ⟨#[]⟩) (.slice la ll lc) (.slice na nl nc)
            have honce := honce _ (Gr.alloc w (.cells #[.int .i64 1, .bool false, .int .i64 0, .string ⟨#[]⟩, .slice la ll lc, .slice na nl nc] 27))
            have hg0 := Gr.alloc w (.cells #[.int .i64 1, .bool false, .int .i64 0, .string ⟨#[]⟩, .slice la ll lc, .slice na nl nc] 27)
            cases X with
            | false =>
              clear hright hcell
              go_enter Tryd.func28, Tryd.ntmps28
              go_wp2_with (go_at_call 46; refine honce.mono ?_; rintro e w2 ⟨rfl, hg⟩)
              go_ret
              exact ⟨rfl, hg0.trans hg⟩
            | true =>
              go_enter Tryd.func28, Tryd.ntmps28
              go_wp2_with (first
                | (go_at_call 46; refine honce.mono ?_; rintro e w2 ⟨rfl, hg⟩; have hc4 := hcell w2 hg; have hright := hright _ (hg0.trans hg); clear hcell)
                | (go_at_call 47; refine hright.mono ?_; rintro e w3 ⟨rfl, hg3⟩))
              go_ret
              exact ⟨by simp, (hg0.trans hg).trans hg3⟩
      · have gs := str_ne hs
        have gs2 := str_em hs
        rw [show badB 1 false 0 s ll nl m = true by simp [badB, hs]]
        clear hgood
        go_enter Tryd.func28, Tryd.ntmps28
        go_wp2
        go_ret
        exact ⟨rfl, Gr.alloc _ _⟩
    · have gn : (n != 0) = true := by simp [hn]
      rw [show badB 1 false n s ll nl m = true by simp [badB, hn]]
      clear hgood
      go_enter Tryd.func28, Tryd.ntmps28
      go_wp2
      go_ret
      exact ⟨rfl, Gr.alloc _ _⟩
set_option maxHeartbeats 4000000 in
set_option maxRecDepth 100000 in
theorem isRight_2 {b : Bool} {n : Int} {s : List UInt8} {la na : Option Addr} {ll lc nl nc : Nat} {m : Nat} {w : World} {X Y : Bool}  (hm : m ≤ 1000)
    (hgood : badB 2 b n s ll nl m = false → (∀ y, Gr w y → Calls Tryd.prog 46 #[.slice na nl nc] y fun e z => e = .returned (.bool X) ∧ Gr y z) ∧ (∀ y, Gr w y → Calls Tryd.prog 47 #[.slice la ll lc, .int .i64 ((m : Int) + 1)] y fun e z => e = .returned (.bool Y) ∧ Gr y z)) :
    Calls Tryd.prog 28 #[.agg #[.int .i64 2, .bool b, .int .i64 n, .string (strL s), .slice la ll lc, .slice na nl nc], .int .i64 (m : Int)] w fun e w' => e = .returned (.bool (!badB 2 b n s ll nl m && X && Y)) ∧ Gr w w' := by
  cases b with
  | true =>
    rw [show badB 2 true n s ll nl m = true by simp [badB]]
    clear hgood
    go_enter Tryd.func28, Tryd.ntmps28
    go_wp2
    go_ret
    exact ⟨rfl, Gr.alloc _ _⟩
  | false =>
    by_cases hn : n = 0
    · subst hn
      by_cases hs : s = []
      · subst hs
        have es : strL [] = ⟨#[]⟩ := rfl
        rw [es]
        by_cases hll : 0 < ll
        · have gl : (ll : Int) > 0 := by omega
          rw [show badB 2 false 0 [] ll nl m = true by simp [badB, hll]]
          clear hgood
          go_enter Tryd.func28, Tryd.ntmps28
          go_wp2
          go_ret
          exact ⟨rfl, Gr.alloc _ _⟩
        · have gl : ¬ (ll : Int) > 0 := by omega
          by_cases hnl : 0 < nl
          · have gnl : (nl : Int) > 0 := by omega
            rw [show badB 2 false 0 [] ll nl m = true by simp [badB, hll, hnl]]
            clear hgood
            go_enter Tryd.func28, Tryd.ntmps28
            go_wp2
            go_ret
            exact ⟨rfl, Gr.alloc _ _⟩
          · have gnl : ¬ (nl : Int) > 0 := by omega
            have hne : nl = ll := by omega
            have gne : ((nl : Int) != (ll : Int)) = false := by simp [hne]
            have hbf : badB 2 false 0 [] ll nl m = false := by simp [badB, hll, hne]
            obtain ⟨honce, hright⟩ := hgood hbf
            rw [hbf]
            clear hgood hbf
            have hm1 : (m : Int) + 1 ≤ 1001 := by omega
            clear hne
            have hcell := cell4_new w (.int .i64 2) (.bool false) (.int .i64 0) (.string ⟨#[]⟩) (.slice la ll lc) (.slice na nl nc)
            have honce := honce _ (Gr.alloc w (.cells #[.int .i64 2, .bool false, .int .i64 0, .string ⟨#[]⟩, .slice la ll lc, .slice na nl nc] 27))
            have hg0 := Gr.alloc w (.cells #[.int .i64 2, .bool false, .int .i64 0, .string ⟨#[]⟩, .slice la ll lc, .slice na nl nc] 27)
            cases X with
            | false =>
              clear hright hcell
              go_enter Tryd.func28, Tryd.ntmps28
              go_wp2_with (go_at_call 46; refine honce.mono ?_; rintro e w2 ⟨rfl, hg⟩)
              go_ret
              exact ⟨rfl, hg0.trans hg⟩
            | true =>
              go_enter Tryd.func28, Tryd.ntmps28
              go_wp2_with (first
                | (go_at_call 46; refine honce.mono ?_; rintro e w2 ⟨rfl, hg⟩; have hc4 := hcell w2 hg; have hright := hright _ (hg0.trans hg); clear hcell)
                | (go_at_call 47; refine hright.mono ?_; rintro e w3 ⟨rfl, hg3⟩))
              go_ret
              exact ⟨by simp, (hg0.trans hg).trans hg3⟩
      · have gs := str_ne hs
        have gs2 := str_em hs
        rw [show badB 2 false 0 s ll nl m = true by simp [badB, hs]]
        clear hgood
        go_enter Tryd.func28, Tryd.ntmps28
        go_wp2
        go_ret
        exact ⟨rfl, Gr.alloc _ _⟩
    · have gn : (n != 0) = true := by simp [hn]
      by_cases hs : s = []
      · subst hs
        have es : strL [] = ⟨#[]⟩ := rfl
        rw [es]
        by_cases hll : 0 < ll
        · have gl : (ll : Int) > 0 := by omega
          rw [show badB 2 false n [] ll nl m = true by simp [badB, hn, hll]]
          clear hgood
          go_enter Tryd.func28, Tryd.ntmps28
          go_wp2
          go_ret
          exact ⟨rfl, Gr.alloc _ _⟩
        · have gl : ¬ (ll : Int) > 0 := by omega
          by_cases hnl : 0 < nl
          · have gnl : (nl : Int) > 0 := by omega
            rw [show badB 2 false n [] ll nl m = true by simp [badB, hn, hll, hnl]]
            clear hgood
            go_enter Tryd.func28, Tryd.ntmps28
            go_wp2
            go_ret
            exact ⟨rfl, Gr.alloc _ _⟩
          · have gnl : ¬ (nl : Int) > 0 := by omega
            have hne : nl = ll := by omega
            have gne : ((nl : Int) != (ll : Int)) = false := by simp [hne]
            have hbf : badB 2 false n [] ll nl m = false := by simp [badB, hn, hll, hne]
            obtain ⟨honce, hright⟩ := hgood hbf
            rw [hbf]
            clear hgood hbf
            have hm1 : (m : Int) + 1 ≤ 1001 := by omega
            clear hne
            have hcell := cell4_new w (.int .i64 2) (.bool false) (.int .i64 n) (.string ⟨#[]⟩) (.slice la ll lc) (.slice na nl nc)
            have honce := honce _ (Gr.alloc w (.cells #[.int .i64 2, .bool false, .int .i64 n, .string ⟨#[]⟩, .slice la ll lc, .slice na nl nc] 27))
            have hg0 := Gr.alloc w (.cells #[.int .i64 2, .bool false, .int .i64 n, .string ⟨#[]⟩, .slice la ll lc, .slice na nl nc] 27)
            cases X with
            | false =>
              clear hright hcell
              go_enter Tryd.func28, Tryd.ntmps28
              go_wp2_with (go_at_call 46; refine honce.mono ?_; rintro e w2 ⟨rfl, hg⟩)
              go_ret
              exact ⟨rfl, hg0.trans hg⟩
            | true =>
              go_enter Tryd.func28, Tryd.ntmps28
              go_wp2_with (first
                | (go_at_call 46; refine honce.mono ?_; rintro e w2 ⟨rfl, hg⟩; have hc4 := hcell w2 hg; have hright := hright _ (hg0.trans hg); clear hcell)
                | (go_at_call 47; refine hright.mono ?_; rintro e w3 ⟨rfl, hg3⟩))
              go_ret
              exact ⟨by simp, (hg0.trans hg).trans hg3⟩
      · have gs := str_ne hs
        have gs2 := str_em hs
        rw [show badB 2 false n s ll nl m = true by simp [badB, hn, hs]]
        clear hgood
        go_enter Tryd.func28, Tryd.ntmps28
        go_wp2
        go_ret
        exact ⟨rfl, Gr.alloc _ _⟩
set_option maxHeartbeats 4000000 in
set_option maxRecDepth 100000 in
theorem isRight_3 {b : Bool} {n : Int} {s : List UInt8} {la na : Option Addr} {ll lc nl nc : Nat} {m : Nat} {w : World} {X Y : Bool}  (hm : m ≤ 1000)
    (hgood : badB 3 b n s ll nl m = false → (∀ y, Gr w y → Calls Tryd.prog 46 #[.slice na nl nc] y fun e z => e = .returned (.bool X) ∧ Gr y z) ∧ (∀ y, Gr w y → Calls Tryd.prog 47 #[.slice la ll lc, .int .i64 ((m : Int) + 1)] y fun e z => e = .returned (.bool Y) ∧ Gr y z)) :
    Calls Tryd.prog 28 #[.agg #[.int .i64 3, .bool b, .int .i64 n, .string (strL s), .slice la ll lc, .slice na nl nc], .int .i64 (m : Int)] w fun e w' => e = .returned (.bool (!badB 3 b n s ll nl m && X && Y)) ∧ Gr w w' := by
  cases b with
  | true =>
    rw [show badB 3 true n s ll nl m = true by simp [badB]]
    clear hgood
    go_enter Tryd.func28, Tryd.ntmps28
    go_wp2
    go_ret
    exact ⟨rfl, Gr.alloc _ _⟩
  | false =>
    by_cases hn : n = 0
    · subst hn
      by_cases hs : s = []
      · subst hs
        have es : strL [] = ⟨#[]⟩ := rfl
        rw [es]
        by_cases hll : 0 < ll
        · have gl : (ll : Int) > 0 := by omega
          rw [show badB 3 false 0 [] ll nl m = true by simp [badB, hll]]
          clear hgood
          go_enter Tryd.func28, Tryd.ntmps28
          go_wp2
          go_ret
          exact ⟨rfl, Gr.alloc _ _⟩
        · have gl : ¬ (ll : Int) > 0 := by omega
          by_cases hnl : 0 < nl
          · have gnl : (nl : Int) > 0 := by omega
            rw [show badB 3 false 0 [] ll nl m = true by simp [badB, hll, hnl]]
            clear hgood
            go_enter Tryd.func28, Tryd.ntmps28
            go_wp2
            go_ret
            exact ⟨rfl, Gr.alloc _ _⟩
          · have gnl : ¬ (nl : Int) > 0 := by omega
            have hne : nl = ll := by omega
            have gne : ((nl : Int) != (ll : Int)) = false := by simp [hne]
            have hbf : badB 3 false 0 [] ll nl m = false := by simp [badB, hll, hne]
            obtain ⟨honce, hright⟩ := hgood hbf
            rw [hbf]
            clear hgood hbf
            have hm1 : (m : Int) + 1 ≤ 1001 := by omega
            clear hne
            have hcell := cell4_new w (.int .i64 3) (.bool false) (.int .i64 0) (.string ⟨#[]⟩) (.slice la ll lc) (.slice na nl nc)
            have honce := honce _ (Gr.alloc w (.cells #[.int .i64 3, .bool false, .int .i64 0, .string ⟨#[]⟩, .slice la ll lc, .slice na nl nc] 27))
            have hg0 := Gr.alloc w (.cells #[.int .i64 3, .bool false, .int .i64 0, .string ⟨#[]⟩, .slice la ll lc, .slice na nl nc] 27)
            cases X with
            | false =>
              clear hright hcell
              go_enter Tryd.func28, Tryd.ntmps28
              go_wp2_with (go_at_call 46; refine honce.mono ?_; rintro e w2 ⟨rfl, hg⟩)
              go_ret
              exact ⟨rfl, hg0.trans hg⟩
            | true =>
              go_enter Tryd.func28, Tryd.ntmps28
              go_wp2_with (first
                | (go_at_call 46; refine honce.mono ?_; rintro e w2 ⟨rfl, hg⟩; have hc4 := hcell w2 hg; have hright := hright _ (hg0.trans hg); clear hcell)
                | (go_at_call 47; refine hright.mono ?_; rintro e w3 ⟨rfl, hg3⟩))
              go_ret
              exact ⟨by simp, (hg0.trans hg).trans hg3⟩
      · have gs := str_ne hs
        have gs2 := str_em hs
        by_cases hll : 0 < ll
        · have gl : (ll : Int) > 0 := by omega
          rw [show badB 3 false 0 s ll nl m = true by simp [badB, hs, hll]]
          clear hgood
          go_enter Tryd.func28, Tryd.ntmps28
          go_wp2
          go_ret
          exact ⟨rfl, Gr.alloc _ _⟩
        · have gl : ¬ (ll : Int) > 0 := by omega
          by_cases hnl : 0 < nl
          · have gnl : (nl : Int) > 0 := by omega
            rw [show badB 3 false 0 s ll nl m = true by simp [badB, hs, hll, hnl]]
            clear hgood
            go_enter Tryd.func28, Tryd.ntmps28
            go_wp2
            go_ret
            exact ⟨rfl, Gr.alloc _ _⟩
          · have gnl : ¬ (nl : Int) > 0 := by omega
            have hne : nl = ll := by omega
            have gne : ((nl : Int) != (ll : Int)) = false := by simp [hne]
            have hbf : badB 3 false 0 s ll nl m = false := by simp [badB, hs, hll, hne]
            obtain ⟨honce, hright⟩ := hgood hbf
            rw [hbf]
            clear hgood hbf
            have hm1 : (m : Int) + 1 ≤ 1001 := by omega
            clear hne
            have hcell := cell4_new w (.int .i64 3) (.bool false) (.int .i64 0) (.string (strL s)) (.slice la ll lc) (.slice na nl nc)
            have honce := honce _ (Gr.alloc w (.cells #[.int .i64 3, .bool false, .int .i64 0, .string (strL s), .slice la ll lc, .slice na nl nc] 27))
            have hg0 := Gr.alloc w (.cells #[.int .i64 3, .bool false, .int .i64 0, .string (strL s), .slice la ll lc, .slice na nl nc] 27)
            cases X with
            | false =>
              clear hright hcell
              go_enter Tryd.func28, Tryd.ntmps28
              go_wp2_with (go_at_call 46; refine honce.mono ?_; rintro e w2 ⟨rfl, hg⟩)
              go_ret
              exact ⟨rfl, hg0.trans hg⟩
            | true =>
              go_enter Tryd.func28, Tryd.ntmps28
              go_wp2_with (first
                | (go_at_call 46; refine honce.mono ?_; rintro e w2 ⟨rfl, hg⟩; have hc4 := hcell w2 hg; have hright := hright _ (hg0.trans hg); clear hcell)
                | (go_at_call 47; refine hright.mono ?_; rintro e w3 ⟨rfl, hg3⟩))
              go_ret
              exact ⟨by simp, (hg0.trans hg).trans hg3⟩
    · have gn : (n != 0) = true := by simp [hn]
      rw [show badB 3 false n s ll nl m = true by simp [badB, hn]]
      clear hgood
      go_enter Tryd.func28, Tryd.ntmps28
      go_wp2
      go_ret
      exact ⟨rfl, Gr.alloc _ _⟩
set_option maxHeartbeats 4000000 in
set_option maxRecDepth 100000 in
theorem isRight_4 {b : Bool} {n : Int} {s : List UInt8} {la na : Option Addr} {ll lc nl nc : Nat} {m : Nat} {w : World} {X Y : Bool}  (hm : m ≤ 1000)
    (hgood : badB 4 b n s ll nl m = false → (∀ y, Gr w y → Calls Tryd.prog 46 #[.slice na nl nc] y fun e z => e = .returned (.bool X) ∧ Gr y z) ∧ (∀ y, Gr w y → Calls Tryd.prog 47 #[.slice la ll lc, .int .i64 ((m : Int) + 1)] y fun e z => e = .returned (.bool Y) ∧ Gr y z)) :
    Calls Tryd.prog 28 #[.agg #[.int .i64 4, .bool b, .int .i64 n, .string (strL s), .slice la ll lc, .slice na nl nc], .int .i64 (m : Int)] w fun e w' => e = .returned (.bool (!badB 4 b n s ll nl m && X && Y)) ∧ Gr w w' := by
  cases b with
  | true =>
    rw [show badB 4 true n s ll nl m = true by simp [badB]]
    clear hgood
    go_enter Tryd.func28, Tryd.ntmps28
    go_wp2
    go_ret
    exact ⟨rfl, Gr.alloc _ _⟩
  | false =>
    by_cases hn : n = 0
    · subst hn
      by_cases hs : s = []
      · subst hs
        have es : strL [] = ⟨#[]⟩ := rfl
        rw [es]
        by_cases hll : 0 < ll
        · have gl : (ll : Int) > 0 := by omega
          by_cases hnl : 0 < nl
          · have gnl : (nl : Int) > 0 := by omega
            rw [show badB 4 false 0 [] ll nl m = true by simp [badB, hll, hnl]]
            clear hgood
            go_enter Tryd.func28, Tryd.ntmps28
            go_wp2
            go_ret
            exact ⟨rfl, Gr.alloc _ _⟩
          · have gnl : ¬ (nl : Int) > 0 := by omega
            have hne : ¬ nl = ll := by omega
            have gne : ((nl : Int) != (ll : Int)) = true := by simp; omega
            by_cases hp : 16 ≤ m
            · have gp : (m : Int) ≥ 16 := by omega
              rw [show badB 4 false 0 [] ll nl m = true by simp [badB, hll, hnl, hne, hp]]
              clear hgood hne
              go_enter Tryd.func28, Tryd.ntmps28
              go_wp2
              go_ret
              exact ⟨rfl, Gr.alloc _ _⟩
            · have gp : ¬ (m : Int) ≥ 16 := by omega
              have hbf : badB 4 false 0 [] ll nl m = false := by simp [badB, hll, hnl, hne, hp]
              obtain ⟨honce, hright⟩ := hgood hbf
              rw [hbf]
              clear hgood hbf
              have hm1 : (m : Int) + 1 ≤ 1001 := by omega
              clear hne
              have hcell := cell4_new w (.int .i64 4) (.bool false) (.int .i64 0) (.string ⟨#[]⟩) (.slice la ll lc) (.slice na nl nc)
              have honce := honce _ (Gr.alloc w (.cells #[.int .i64 4, .bool false, .int .i64 0, .string ⟨#[]⟩, .slice la ll lc, .slice na nl nc] 27))
              have hg0 := Gr.alloc w (.cells #[.int .i64 4, .bool false, .int .i64 0, .string ⟨#[]⟩, .slice la ll lc, .slice na nl nc] 27)
              cases X with
              | false =>
                clear hright hcell
                go_enter Tryd.func28, Tryd.ntmps28
                go_wp2_with (go_at_call 46; refine honce.mono ?_; rintro e w2 ⟨rfl, hg⟩)
                go_ret
                exact ⟨rfl, hg0.trans hg⟩
              | true =>
                go_enter Tryd.func28, Tryd.ntmps28
                go_wp2_with (first
                  | (go_at_call 46; refine honce.mono ?_; rintro e w2 ⟨rfl, hg⟩; have hc4 := hcell w2 hg; have hright := hright _ (hg0.trans hg); clear hcell)
                  | (go_at_call 47; refine hright.mono ?_; rintro e w3 ⟨rfl, hg3⟩))
                go_ret
                exact ⟨by simp, (hg0.trans hg).trans hg3⟩
        · have gl : ¬ (ll : Int) > 0 := by omega
          by_cases hnl : 0 < nl
          · have gnl : (nl : Int) > 0 := by omega
            rw [show badB 4 false 0 [] ll nl m = true by simp [badB, hll, hnl]]
            clear hgood
            go_enter Tryd.func28, Tryd.ntmps28
            go_wp2
            go_ret
            exact ⟨rfl, Gr.alloc _ _⟩
          · have gnl : ¬ (nl : Int) > 0 := by omega
            have hne : nl = ll := by omega
            have gne : ((nl : Int) != (ll : Int)) = false := by simp [hne]
            by_cases hp : 16 ≤ m
            · have gp : (m : Int) ≥ 16 := by omega
              rw [show badB 4 false 0 [] ll nl m = true by simp [badB, hll, hne, hp]]
              clear hgood hne
              go_enter Tryd.func28, Tryd.ntmps28
              go_wp2
              go_ret
              exact ⟨rfl, Gr.alloc _ _⟩
            · have gp : ¬ (m : Int) ≥ 16 := by omega
              have hbf : badB 4 false 0 [] ll nl m = false := by simp [badB, hll, hne, hp]
              obtain ⟨honce, hright⟩ := hgood hbf
              rw [hbf]
              clear hgood hbf
              have hm1 : (m : Int) + 1 ≤ 1001 := by omega
              clear hne
              have hcell := cell4_new w (.int .i64 4) (.bool false) (.int .i64 0) (.string ⟨#[]⟩) (.slice la ll lc) (.slice na nl nc)
              have honce := honce _ (Gr.alloc w (.cells #[.int .i64 4, .bool false, .int .i64 0, .string ⟨#[]⟩, .slice la ll lc, .slice na nl nc] 27))
              have hg0 := Gr.alloc w (.cells #[.int .i64 4, .bool false, .int .i64 0, .string ⟨#[]⟩, .slice la ll lc, .slice na nl nc] 27)
              cases X with
              | false =>
                clear hright hcell
                go_enter Tryd.func28, Tryd.ntmps28
                go_wp2_with (go_at_call 46; refine honce.mono ?_; rintro e w2 ⟨rfl, hg⟩)
                go_ret
                exact ⟨rfl, hg0.trans hg⟩
              | true =>
                go_enter Tryd.func28, Tryd.ntmps28
                go_wp2_with (first
                  | (go_at_call 46; refine honce.mono ?_; rintro e w2 ⟨rfl, hg⟩; have hc4 := hcell w2 hg; have hright := hright _ (hg0.trans hg); clear hcell)
                  | (go_at_call 47; refine hright.mono ?_; rintro e w3 ⟨rfl, hg3⟩))
                go_ret
                exact ⟨by simp, (hg0.trans hg).trans hg3⟩
      · have gs := str_ne hs
        have gs2 := str_em hs
        rw [show badB 4 false 0 s ll nl m = true by simp [badB, hs]]
        clear hgood
        go_enter Tryd.func28, Tryd.ntmps28
        go_wp2
        go_ret
        exact ⟨rfl, Gr.alloc _ _⟩
    · have gn : (n != 0) = true := by simp [hn]
      rw [show badB 4 false n s ll nl m = true by simp [badB, hn]]
      clear hgood
      go_enter Tryd.func28, Tryd.ntmps28
      go_wp2
      go_ret
      exact ⟨rfl, Gr.alloc _ _⟩
set_option maxHeartbeats 4000000 in
set_option maxRecDepth 100000 in
theorem isRight_5 {b : Bool} {n : Int} {s : List UInt8} {la na : Option Addr} {ll lc nl nc : Nat} {m : Nat} {w : World} {X Y : Bool}  (hm : m ≤ 1000)
    (hgood : badB 5 b n s ll nl m = false → (∀ y, Gr w y → Calls Tryd.prog 46 #[.slice na nl nc] y fun e z => e = .returned (.bool X) ∧ Gr y z) ∧ (∀ y, Gr w y → Calls Tryd.prog 47 #[.slice la ll lc, .int .i64 ((m : Int) + 1)] y fun e z => e = .returned (.bool Y) ∧ Gr y z)) :
    Calls Tryd.prog 28 #[.agg #[.int .i64 5, .bool b, .int .i64 n, .string (strL s), .slice la ll lc, .slice na nl nc], .int .i64 (m : Int)] w fun e w' => e = .returned (.bool (!badB 5 b n s ll nl m && X && Y)) ∧ Gr w w' := by
  cases b with
  | true =>
    rw [show badB 5 true n s ll nl m = true by simp [badB]]
    clear hgood
    go_enter Tryd.func28, Tryd.ntmps28
    go_wp2
    go_ret
    exact ⟨rfl, Gr.alloc _ _⟩
  | false =>
    by_cases hn : n = 0
    · subst hn
      by_cases hs : s = []
      · subst hs
        have es : strL [] = ⟨#[]⟩ := rfl
        rw [es]
        by_cases hll : 0 < ll
        · have gl : (ll : Int) > 0 := by omega
          by_cases hnl : 0 < nl
          · have gnl : (nl : Int) > 0 := by omega
            by_cases hne : nl = ll
            · have gne : ((nl : Int) != (ll : Int)) = false := by simp [hne]
              by_cases hp : 16 ≤ m
              · have gp : (m : Int) ≥ 16 := by omega
                rw [show badB 5 false 0 [] ll nl m = true by simp [badB, hll, hne, hp]]
                clear hgood hne
                go_enter Tryd.func28, Tryd.ntmps28
                go_wp2
                go_ret
                exact ⟨rfl, Gr.alloc _ _⟩
              · have gp : ¬ (m : Int) ≥ 16 := by omega
                have hbf : badB 5 false 0 [] ll nl m = false := by simp [badB, hll, hne, hp]
                obtain ⟨honce, hright⟩ := hgood hbf
                rw [hbf]
                clear hgood hbf
                have hm1 : (m : Int) + 1 ≤ 1001 := by omega
                clear hne
                have hcell := cell4_new w (.int .i64 5) (.bool false) (.int .i64 0) (.string ⟨#[]⟩) (.slice la ll lc) (.slice na nl nc)
                have honce := honce _ (Gr.alloc w (.cells #[.int .i64 5, .bool false, .int .i64 0, .string ⟨#[]⟩, .slice la ll lc, .slice na nl nc] 27))
                have hg0 := Gr.alloc w (.cells #[.int .i64 5, .bool false, .int .i64 0, .string ⟨#[]⟩, .slice la ll lc, .slice na nl nc] 27)
                cases X with
                | false =>
                  clear hright hcell
                  go_enter Tryd.func28, Tryd.ntmps28
                  go_wp2_with (go_at_call 46; refine honce.mono ?_; rintro e w2 ⟨rfl, hg⟩)
                  go_ret
                  exact ⟨rfl, hg0.trans hg⟩
                | true =>
                  go_enter Tryd.func28, Tryd.ntmps28
                  go_wp2_with (first
                    | (go_at_call 46; refine honce.mono ?_; rintro e w2 ⟨rfl, hg⟩; have hc4 := hcell w2 hg; have hright := hright _ (hg0.trans hg); clear hcell)
                    | (go_at_call 47; refine hright.mono ?_; rintro e w3 ⟨rfl, hg3⟩))
                  go_ret
                  exact ⟨by simp, (hg0.trans hg).trans hg3⟩
            · have gne : ((nl : Int) != (ll : Int)) = true := by simp; omega
              rw [show badB 5 false 0 [] ll nl m = true by simp [badB, hll, hnl, hne]]
              clear hgood hne
              go_enter Tryd.func28, Tryd.ntmps28
              go_wp2
              go_ret
              exact ⟨rfl, Gr.alloc _ _⟩
          · have gnl : ¬ (nl : Int) > 0 := by omega
            have hne : ¬ nl = ll := by omega
            have gne : ((nl : Int) != (ll : Int)) = true := by simp; omega
            rw [show badB 5 false 0 [] ll nl m = true by simp [badB, hll, hnl, hne]]
            clear hgood hne
            go_enter Tryd.func28, Tryd.ntmps28
            go_wp2
            go_ret
            exact ⟨rfl, Gr.alloc _ _⟩
        · have gl : ¬ (ll : Int) > 0 := by omega
          by_cases hnl : 0 < nl
          · have gnl : (nl : Int) > 0 := by omega
            have hne : ¬ nl = ll := by omega
            have gne : ((nl : Int) != (ll : Int)) = true := by simp; omega
            rw [show badB 5 false 0 [] ll nl m = true by simp [badB, hll, hnl, hne]]
            clear hgood hne
            go_enter Tryd.func28, Tryd.ntmps28
            go_wp2
            go_ret
            exact ⟨rfl, Gr.alloc _ _⟩
          · have gnl : ¬ (nl : Int) > 0 := by omega
            have hne : nl = ll := by omega
            have gne : ((nl : Int) != (ll : Int)) = false := by simp [hne]
            by_cases hp : 16 ≤ m
            · have gp : (m : Int) ≥ 16 := by omega
              rw [show badB 5 false 0 [] ll nl m = true by simp [badB, hll, hne, hp]]
              clear hgood hne
              go_enter Tryd.func28, Tryd.ntmps28
              go_wp2
              go_ret
              exact ⟨rfl, Gr.alloc _ _⟩
            · have gp : ¬ (m : Int) ≥ 16 := by omega
              have hbf : badB 5 false 0 [] ll nl m = false := by simp [badB, hll, hne, hp]
              obtain ⟨honce, hright⟩ := hgood hbf
              rw [hbf]
              clear hgood hbf
              have hm1 : (m : Int) + 1 ≤ 1001 := by omega
              clear hne
              have hcell := cell4_new w (.int .i64 5) (.bool false) (.int .i64 0) (.string ⟨#[]⟩) (.slice la ll lc) (.slice na nl nc)
              have honce := honce _ (Gr.alloc w (.cells #[.int .i64 5, .bool false, .int .i64 0, .string ⟨#[]⟩, .slice la ll lc, .slice na nl nc] 27))
              have hg0 := Gr.alloc w (.cells #[.int .i64 5, .bool false, .int .i64 0, .string ⟨#[]⟩, .slice la ll lc, .slice na nl nc] 27)
              cases X with
              | false =>
                clear hright hcell
                go_enter Tryd.func28, Tryd.ntmps28
                go_wp2_with (go_at_call 46; refine honce.mono ?_; rintro e w2 ⟨rfl, hg⟩)
                go_ret
                exact ⟨rfl, hg0.trans hg⟩
              | true =>
                go_enter Tryd.func28, Tryd.ntmps28
                go_wp2_with (first
                  | (go_at_call 46; refine honce.mono ?_; rintro e w2 ⟨rfl, hg⟩; have hc4 := hcell w2 hg; have hright := hright _ (hg0.trans hg); clear hcell)
                  | (go_at_call 47; refine hright.mono ?_; rintro e w3 ⟨rfl, hg3⟩))
                go_ret
                exact ⟨by simp, (hg0.trans hg).trans hg3⟩
      · have gs := str_ne hs
        have gs2 := str_em hs
        rw [show badB 5 false 0 s ll nl m = true by simp [badB, hs]]
        clear hgood
        go_enter Tryd.func28, Tryd.ntmps28
        go_wp2
        go_ret
        exact ⟨rfl, Gr.alloc _ _⟩
    · have gn : (n != 0) = true := by simp [hn]
      rw [show badB 5 false n s ll nl m = true by simp [badB, hn]]
      clear hgood
      go_enter Tryd.func28, Tryd.ntmps28
      go_wp2
      go_ret
      exact ⟨rfl, Gr.alloc _ _⟩
end Go.Proofs.YtogippkapadolaaDoor

/- A value, shown (by gen_jslaid.py). -/
namespace Go.Proofs.YtogippkapadolaaDoor
open Go.RowKit
set_option maxHeartbeats 8000000 in
set_option maxRecDepth 100000 in
theorem laidParts_any {B : Nat} {w0 : World} {S : Nat → Prop} {k : Int} {b : Bool} {n0 : Int} {s : List UInt8} {l : List J} {names : List (List UInt8)} {la na : Option Addr} {lc nc : Nat} {es : List (List Value)} (hS : ∀ i, S i → i < B)
    (hes : es.length = l.length) (h6' : ∀ c ∈ es, c.length = 6) (hc1' : ∀ c ∈ es, ∀ x ∈ c, x.oneCell' = true) (hlies : Lies w0 S la es.flatten) (hnames : Lies w0 S na (names.map strV1)) (hnl : k = 5 → names.length = l.length)
    (ih : ∀ (i : Nat) (x : J) (c : List Value), l[i]? = some x → es[i]? = some c → LaidP B w0 x (.agg c.toArray)) (hl64 : l.length ≤ 140737488355327)
    (w : World) (u : Value) (o : List UInt8) (hw0 : Below B w0 w) (hB : B ≤ w.heap.size) (hO0 : Out B w u o) (htab : Tab B w) (hlim : o.length + (partsJ (decide (k = 5)) 0 l names).length + 40 ≤ 140737488355327) :
    Calls Tryd.prog 43 #[u, .agg (jsonV k b n0 s la na l.length lc names.length nc).toArray] w fun e w' => ∃ u', e = .returned u' ∧ Out B w' u' (o ++ partsJ (decide (k = 5)) 0 l names) ∧ Ap B w u w' u' := by
  obtain ⟨N, hN⟩ : ∃ N, w.heap.size = N := ⟨_, rfl⟩
  obtain ⟨n, hn⟩ : ∃ n, l.length = n := ⟨_, rfl⟩
  have hx0 : Holds (w.alloc (.cells (jsonV k b n0 s la na l.length lc names.length nc).toArray 27)) N (jsonV k b n0 s la na l.length lc names.length nc) 27 := by
    have := heap_alloc_new w (.cells (jsonV k b n0 s la na l.length lc names.length nc).toArray 27)
    rw [hN] at this; exact this
  have hb0' := Ap.new u hB (.cells (jsonV k b n0 s la na l.length lc names.length nc).toArray 27)
  have hO1 : Out B (w.alloc (.cells (jsonV k b n0 s la na l.length lc names.length nc).toArray 27)) u o := hO0.gr (Gr.alloc _ _)
  rw [hn] at hx0 hb0' hO1 ⊢
  obtain ⟨TT, hTT⟩ : ∃ T, o ++ partsJ (decide (k = 5)) 0 l names = T := ⟨_, rfl⟩
  have hlimT : TT.length + 40 ≤ 140737488355327 := by rw [← hTT]; simp; omega
  rw [hTT]
  clear hO0
  subst hN
  show Calls Tryd.prog 43 #[u, .agg #[.int .i64 k, .bool b, .int .i64 n0, .string (strL s), .slice la n lc, .slice na names.length nc]] w _
  go_enter Tryd.func43, Tryd.ntmps43
  go_wp2_with fail
  go_loopw [0, 10] (fun v c wr => ∃ (i : Nat) (acc : List UInt8), c = .int .i64 (i : Int) ∧ i ≤ n ∧ acc ++ partsJ (decide (k = 5)) i (l.drop i) names = TT ∧ Out B wr v acc ∧ Ap B w u wr v ∧ Holds wr w.heap.size (jsonV k b n0 s la na n lc names.length nc) 27 ∧ B ≤ wr.heap.size) (fun _ c _ => n - (intOf c).toNat)
  case atStart => exact ⟨0, o, rfl, by omega, by rw [List.drop_zero]; exact hTT, hO1, hb0', hx0, Nat.le_trans hB hb0'.size⟩
  case round =>
    obtain ⟨i, acc, rfl, hi, hE, hO, hBl, hbox, hBs⟩ := hrel
    rcases Nat.lt_or_ge i n with hlt | hge
    · have hx : l[i]? = some l[i] := List.getElem?_eq_getElem (by omega)
      have hce : es[i]? = some (es[i]'(by omega)) := List.getElem?_eq_getElem (by omega)
      have h6 := h6' _ (List.mem_of_getElem? hce)
      have hc1 := hc1' _ (List.mem_of_getElem? hce)
      have ihx := ih i _ _ hx hce
      have hb0 : Below B w0 wr := hw0.trans hBl.below
      obtain ⟨g, off, rfl, hgS, hrng⟩ := hlies.elem hS hb0 h6' hce
      have hE2 : acc ++ pieceJ (decide (k = 5)) i l[i] names ++ partsJ (decide (k = 5)) (i + 1) (l.drop (i + 1)) names = TT := by
        rw [List.drop_eq_getElem_cons (show i < l.length by omega), partsJ] at hE
        rw [List.append_assoc]; exact hE
      have hlenE := congrArg List.length hE2
      simp only [List.length_append] at hlenE
      have hixa : ∀ w, (Instr.indexAt 24 (.slice (some ⟨g, off, none⟩) n lc) (.int .i64 (i : Int))).run Tryd.prog w = .ok (.pointer (some ⟨g, off + i * 6, none⟩)) w := ix_slice und24 size27 hlt rfl
      have hnew : ∀ w2, Turned wr.heap.size (wr.alloc (.cells zeroJ.toArray 27)) w2 (es[i]'(by omega)) 27 → Gr wr w2 ∧ Holds w2 wr.heap.size (es[i]'(by omega)) 27 := fun w2 hT => ⟨gr_new hT, hT.holds⟩
      have g1 : (i : Int) < (n : Int) := by omega
      have hi64 : (i : Int) + 1 ≤ 140737488355328 := by omega
      have q0 : ∀ z, Holds z w.heap.size (jsonV k b n0 s (some ⟨g, off, none⟩) na n lc names.length nc) 27 → z.cell? ⟨w.heap.size, 0, none⟩ = some (.int .i64 k) ∧ z.cell? ⟨w.heap.size, 5, none⟩ = some (.slice na names.length nc) := fun z hz => ⟨hz.at 0 _ rfl, hz.at 5 _ rfl⟩
      generalize l[i] = x at *
      generalize es[i]'(by omega) = c at *
      by_cases hk5 : k = 5
      · obtain ⟨g', off', hnm⟩ := hnames.name hS (show i < names.length by have := hnl hk5; omega)
        obtain ⟨rfl, hnc⟩ := hnm
        have hnn : names.length = n := (hnl hk5).trans hn
        generalize hnmv : names[i]'(by omega) = nm at *
        have hixn : ∀ w, (Instr.indexAt 25 (.slice (some ⟨g', off', none⟩) names.length nc) (.int .i64 (i : Int))).run Tryd.prog w = .ok (.pointer (some ⟨g', off' + i, none⟩)) w := ix_slice und25 size25 (by omega) (by omega)
        have hncell : ∀ z, Below B w0 z → z.cell? ⟨g', off' + i, none⟩ = some (.string (strL nm)) := hnc
        have gk : (k == 5) = true := by simp [hk5]
        have hdk : decide (k = 5) = true := by simp [hk5]
        rw [hdk] at hE2 hlenE
        by_cases hi0 : 0 < i
        · have gi : (i : Int) > 0 := by omega
          rw [show pieceJ true i x names = [44] ++ (textJ nm ++ [58]) ++ showJ x by unfold pieceJ; rw [if_pos hi0, if_pos rfl, names_get hnmv]] at hE2 hlenE
          simp only [List.length_append, List.length_cons, List.length_nil] at hlenE
          have hl44 : acc.length + [(44 : UInt8)].length ≤ 140737488355327 := by simp; omega
          have hltx : (acc ++ [44]).length + (textJ nm).length + 10 ≤ 140737488355327 := by simp; omega
          have hl58 : ((acc ++ [44]) ++ textJ nm).length + [(58 : UInt8)].length ≤ 140737488355327 := by simp; omega
          have hlsh : ((acc ++ [44]) ++ textJ nm ++ [58]).length + (showJ x).length + 40 ≤ 140737488355327 := by simp; omega
          clear hk5 hnn hnmv hnc hnames hnl
          go_wp2_with (first
            | (refine wpList_load_part rfl 27 (.tmp 13) rfl g (off + i * 6) rfl c _ hrng Tryd.underlying27 rfl (by rw [h6]; kernel_rfl) ?_)
            | (refine wpList_store_all rfl 27 (.tmp 6) (.tmp 14) rfl wr.heap.size rfl c rfl 27 zeroJ (holds_new wr zeroJ 27) (by rw [h6]; kernel_rfl) h6.symm hc1 ?_; intro w2 hT2; obtain ⟨hg2, hm2⟩ := hnew w2 hT2; have hO2 := hO.gr hg2; have hx2 := hbox.gr hg2; have hB2 := Nat.le_trans hBs hg2.size)
            | (at_builtin; refine wpl_app55 rfl (.tmp 17) (.tmp 18) rfl B u0 acc [44] (hO2.gr (Gr.alloc _ _)) rfl ⟨w2.heap.size, 0, none⟩ 1 rfl (new_bytes w2 [44] (0, 0)) (Nat.zero_lt_succ _) hl44 (by rw [World.size_alloc]; omega) ?_; intro u3 w3 hO3 hb3'; have hb3 := (Ap.new u0 hB2 _).trans hb3'; have hx3 := hx2.ap hb3 hO2 (by decide); have hm3 := hm2.ap hb3 hO2 (by decide); have hB3 := Nat.le_trans hB2 hb3.size; have hcn3 := hncell w3 (hb0.trans (Ap.below ((Ap.ofGr u0 hg2 hBs).trans hb3))))
            | (go_at_call 42; refine (laidText_any (s := nm) hO3 hB3 hltx).mono ?_; rintro e w4 ⟨u4, rfl, hO4, hb4⟩; have hx4 := hx3.ap hb4 hO3 (by decide); have hm4 := hm3.ap hb4 hO3 (by decide); have hB4 := Nat.le_trans hB3 hb4.size)
            | (at_builtin; refine wpl_app55 rfl (.tmp 29) (.tmp 30) rfl B u4 ((acc ++ [44]) ++ textJ nm) [58] (hO4.gr (Gr.alloc _ _)) rfl ⟨w4.heap.size, 0, none⟩ 1 rfl (new_bytes w4 [58] (0, 0)) (Nat.zero_lt_succ _) hl58 (by rw [World.size_alloc]; omega) ?_; intro u5 w5 hO5 hb5'; have hb5 := (Ap.new u4 hB4 _).trans hb5'; have hx5 := hx4.ap hb5 hO4 (by decide); have hm5 := hm4.ap hb5 hO4 (by decide); have hB5 := Nat.le_trans hB4 hb5.size)
            | (refine wpList_load_part rfl 27 (.tmp 6) rfl wr.heap.size 0 rfl c _ (range_of hm5) Tryd.underlying27 rfl (by rw [h6]; kernel_rfl) ?_)
            | (go_at_call 25; refine (ihx w5 u5 _ (hb0.trans (Ap.below ((((Ap.ofGr u0 hg2 hBs).trans hb3).trans hb4).trans hb5))) hB5 hO5 (htab.of (hBl.below.trans (Ap.below ((((Ap.ofGr u0 hg2 hBs).trans hb3).trans hb4).trans hb5)))) hlsh).mono ?_; rintro e w6 ⟨u6, rfl, hO6, hb6⟩))
          refine ⟨⟨i + 1, ((acc ++ [44]) ++ textJ nm ++ [58]) ++ showJ x, rfl, by omega, ?_, hO6, hBl.trans (((((Ap.ofGr u0 hg2 hBs).trans hb3).trans hb4).trans hb5).trans hb6), hx5.ap hb6 hO5 (by decide), Nat.le_trans hB5 hb6.size⟩, by simp; omega⟩
          rw [hdk, ← hE2]; simp
        · have gi : ¬ (i : Int) > 0 := by omega
          rw [show pieceJ true i x names = [] ++ (textJ nm ++ [58]) ++ showJ x by unfold pieceJ; rw [if_neg hi0, if_pos rfl, names_get hnmv]] at hE2 hlenE
          simp only [List.length_append, List.length_cons, List.length_nil] at hlenE
          have hltx : acc.length + (textJ nm).length + 10 ≤ 140737488355327 := by simp; omega
          have hl58 : (acc ++ textJ nm).length + [(58 : UInt8)].length ≤ 140737488355327 := by simp; omega
          have hlsh : (acc ++ textJ nm ++ [58]).length + (showJ x).length + 40 ≤ 140737488355327 := by simp; omega
          clear hk5 hnn hnmv hnc hnames hnl
          go_wp2_with (first
            | (refine wpList_load_part rfl 27 (.tmp 13) rfl g (off + i * 6) rfl c _ hrng Tryd.underlying27 rfl (by rw [h6]; kernel_rfl) ?_)
            | (refine wpList_store_all rfl 27 (.tmp 6) (.tmp 14) rfl wr.heap.size rfl c rfl 27 zeroJ (holds_new wr zeroJ 27) (by rw [h6]; kernel_rfl) h6.symm hc1 ?_; intro w2 hT2; obtain ⟨hg2, hm2⟩ := hnew w2 hT2; have hO2 := hO.gr hg2; have hx2 := hbox.gr hg2; have hB2 := Nat.le_trans hBs hg2.size; have hcn2 := hncell w2 (hb0.trans (Ap.ofGr u0 hg2 hBs).below))
            | (go_at_call 42; refine (laidText_any (s := nm) hO2 hB2 hltx).mono ?_; rintro e w4 ⟨u4, rfl, hO4, hb4⟩; have hx4 := hx2.ap hb4 hO2 (by decide); have hm4 := hm2.ap hb4 hO2 (by decide); have hB4 := Nat.le_trans hB2 hb4.size)
            | (at_builtin; refine wpl_app55 rfl (.tmp 29) (.tmp 30) rfl B u4 (acc ++ textJ nm) [58] (hO4.gr (Gr.alloc _ _)) rfl ⟨w4.heap.size, 0, none⟩ 1 rfl (new_bytes w4 [58] (0, 0)) (Nat.zero_lt_succ _) hl58 (by rw [World.size_alloc]; omega) ?_; intro u5 w5 hO5 hb5'; have hb5 := (Ap.new u4 hB4 _).trans hb5'; have hx5 := hx4.ap hb5 hO4 (by decide); have hm5 := hm4.ap hb5 hO4 (by decide); have hB5 := Nat.le_trans hB4 hb5.size)
            | (refine wpList_load_part rfl 27 (.tmp 6) rfl wr.heap.size 0 rfl c _ (range_of hm5) Tryd.underlying27 rfl (by rw [h6]; kernel_rfl) ?_)
            | (go_at_call 25; refine (ihx w5 u5 _ (hb0.trans (Ap.below (((Ap.ofGr u0 hg2 hBs).trans hb4).trans hb5))) hB5 hO5 (htab.of (hBl.below.trans (Ap.below (((Ap.ofGr u0 hg2 hBs).trans hb4).trans hb5)))) hlsh).mono ?_; rintro e w6 ⟨u6, rfl, hO6, hb6⟩))
          refine ⟨⟨i + 1, (acc ++ textJ nm ++ [58]) ++ showJ x, rfl, by omega, ?_, hO6, hBl.trans ((((Ap.ofGr u0 hg2 hBs).trans hb4).trans hb5).trans hb6), hx5.ap hb6 hO5 (by decide), Nat.le_trans hB5 hb6.size⟩, by simp; omega⟩
          rw [hdk, ← hE2]; simp
      · have gk : (k == 5) = false := by simp [hk5]
        have hdk : decide (k = 5) = false := by simp [hk5]
        rw [hdk] at hE2 hlenE
        by_cases hi0 : 0 < i
        · have gi : (i : Int) > 0 := by omega
          rw [show pieceJ false i x names = [44] ++ [] ++ showJ x by unfold pieceJ; rw [if_pos hi0, if_neg (by decide)]] at hE2 hlenE
          simp only [List.length_append, List.length_cons, List.length_nil] at hlenE
          have hl44 : acc.length + [(44 : UInt8)].length ≤ 140737488355327 := by simp; omega
          have hlsh : (acc ++ [44]).length + (showJ x).length + 40 ≤ 140737488355327 := by simp; omega
          go_wp2_with (first
            | (refine wpList_load_part rfl 27 (.tmp 13) rfl g (off + i * 6) rfl c _ hrng Tryd.underlying27 rfl (by rw [h6]; kernel_rfl) ?_)
            | (refine wpList_store_all rfl 27 (.tmp 6) (.tmp 14) rfl wr.heap.size rfl c rfl 27 zeroJ (holds_new wr zeroJ 27) (by rw [h6]; kernel_rfl) h6.symm hc1 ?_; intro w2 hT2; obtain ⟨hg2, hm2⟩ := hnew w2 hT2; have hO2 := hO.gr hg2; have hx2 := hbox.gr hg2; have hB2 := Nat.le_trans hBs hg2.size)
            | (at_builtin; refine wpl_app55 rfl (.tmp 17) (.tmp 18) rfl B u0 acc [44] (hO2.gr (Gr.alloc _ _)) rfl ⟨w2.heap.size, 0, none⟩ 1 rfl (new_bytes w2 [44] (0, 0)) (Nat.zero_lt_succ _) hl44 (by rw [World.size_alloc]; omega) ?_; intro u3 w3 hO3 hb3'; have hb3 := (Ap.new u0 hB2 _).trans hb3'; have hx3 := hx2.ap hb3 hO2 (by decide); have hm3 := hm2.ap hb3 hO2 (by decide); have hB3 := Nat.le_trans hB2 hb3.size)
            | (refine wpList_load_part rfl 27 (.tmp 6) rfl wr.heap.size 0 rfl c _ (range_of hm3) Tryd.underlying27 rfl (by rw [h6]; kernel_rfl) ?_)
            | (go_at_call 25; refine (ihx w3 u3 _ (hb0.trans (Ap.below ((Ap.ofGr u0 hg2 hBs).trans hb3))) hB3 hO3 (htab.of (hBl.below.trans (Ap.below ((Ap.ofGr u0 hg2 hBs).trans hb3)))) hlsh).mono ?_; rintro e w6 ⟨u6, rfl, hO6, hb6⟩))
          refine ⟨⟨i + 1, (acc ++ [44]) ++ showJ x, rfl, by omega, ?_, hO6, hBl.trans (((Ap.ofGr u0 hg2 hBs).trans hb3).trans hb6), hx3.ap hb6 hO3 (by decide), Nat.le_trans hB3 hb6.size⟩, by simp; omega⟩
          rw [hdk, ← hE2]; simp
        · have gi : ¬ (i : Int) > 0 := by omega
          rw [show pieceJ false i x names = [] ++ [] ++ showJ x by unfold pieceJ; rw [if_neg hi0, if_neg (by decide)]] at hE2 hlenE
          simp only [List.length_append, List.length_nil] at hlenE
          have hlsh : acc.length + (showJ x).length + 40 ≤ 140737488355327 := by simp; omega
          go_wp2_with (first
            | (refine wpList_load_part rfl 27 (.tmp 13) rfl g (off + i * 6) rfl c _ hrng Tryd.underlying27 rfl (by rw [h6]; kernel_rfl) ?_)
            | (refine wpList_store_all rfl 27 (.tmp 6) (.tmp 14) rfl wr.heap.size rfl c rfl 27 zeroJ (holds_new wr zeroJ 27) (by rw [h6]; kernel_rfl) h6.symm hc1 ?_; intro w2 hT2; obtain ⟨hg2, hm2⟩ := hnew w2 hT2; have hO2 := hO.gr hg2; have hx2 := hbox.gr hg2; have hB2 := Nat.le_trans hBs hg2.size)
            | (refine wpList_load_part rfl 27 (.tmp 6) rfl wr.heap.size 0 rfl c _ (range_of hm2) Tryd.underlying27 rfl (by rw [h6]; kernel_rfl) ?_)
            | (go_at_call 25; refine (ihx w2 u0 _ (hb0.trans (Ap.below (Ap.ofGr u0 hg2 hBs))) hB2 hO2 (htab.of (hBl.below.trans (Ap.below (Ap.ofGr u0 hg2 hBs)))) hlsh).mono ?_; rintro e w6 ⟨u6, rfl, hO6, hb6⟩))
          refine ⟨⟨i + 1, acc ++ showJ x, rfl, by omega, ?_, hO6, hBl.trans ((Ap.ofGr u0 hg2 hBs).trans hb6), hx2.ap hb6 hO2 (by decide), Nat.le_trans hB2 hb6.size⟩, by simp; omega⟩
          rw [hdk, ← hE2]; simp
    · have hin : i = n := by omega
      subst hin
      have g1 : ¬ (i : Int) < (i : Int) := by omega
      have hE2 : acc = TT := by
        rw [List.drop_of_length_le (by omega), partsJ, List.append_nil] at hE; exact hE
      subst hE2
      go_wp2
      go_ret
      exact ⟨_, rfl, hO, hBl⟩
end Go.Proofs.YtogippkapadolaaDoor
