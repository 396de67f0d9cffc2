/- ClockOrder (7): the law's call returns true. -/
import Derived.Test.YtbmeflildmeecaaMerges
import Derived.Deep.RegionHeld3
namespace Go.Proofs.Ytbmeflildmeecaa
open Go.RowKit Go.Shelf Go.Sort Go.Lib Pk

def leB (a b : List Dt) : Bool := decide (norm (a ++ b) = norm b)
theorem leB_iff {a b : List Dt} : leB a b = true ↔ ∀ x, getN a x ≤ getN b x := by
  unfold leB
  rw [decide_eq_true_iff, norm_iff]
  constructor
  · intro h x
    have := h x
    rw [getN_append] at this
    omega
  · intro h x
    rw [getN_append]
    have := h x
    omega
theorem cmpV_le (a b : List Dt) : cmpV a b = pickI (leB a b) (leB b a) := by
  rw [cmpV_pick]
  unfold leB
  rw [norm_comm b a]
theorem leB_trans {a b c : List Dt} (h : leB a b = true) (k : leB b c = true) : leB a c = true := leB_iff.2 (fun x => Nat.le_trans (leB_iff.1 h x) (leB_iff.1 k x))
theorem leB_last {a b c : List Dt} (h : leB a b = true) (k : leB b c = true) : leB c a = (leB b a && leB c b) := by
  cases e : leB c a with
  | true => rw [leB_trans k e, leB_trans e h]; rfl
  | false =>
    cases e1 : leB b a with
    | false => rfl
    | true =>
      cases e2 : leB c b with
      | false => rfl
      | true => rw [leB_trans e2 e1] at e; cases e
theorem next2 {W : World} {u : Value} {c : List Dt} {n : Nat} (actor : Nat) (hu : At W u c) (hn : nextN c actor = n) (hl : c.length < 9223372036854775807) (hN : getN c actor < 18446744073709551616) : Calls Try.prog 15 #[u, .int .u64 (actor : Int)] W fun e w' => e = .returned (dotV (actor, n)) ∧ Below W.heap.size W w' := by
  have := next_any u c actor hl hN W (Hid.out hu)
  rwa [hn] at this
theorem add2 {W : World} {u : Value} {c : List Dt} (x : Dt) (hu : At W u c) (hl : c.length + 1 ≤ 8796093022208) : Calls Try.prog 14 #[u, .slice (some ⟨W.heap.size, 0, none⟩) 1 1] (W.alloc (.cells #[.int .u64 (x.1 : Int), .int .u64 (x.2 : Int)] 33)) (Makes W (norm (c ++ [x]))) := by
  have h := add_any u (.slice (some ⟨W.heap.size, 0, none⟩) 1 1) c [x] hl (W.alloc (.cells #[.int .u64 (x.1 : Int), .int .u64 (x.2 : Int)] 33)) (Clk.up (Hid.out hu) (below_alloc _ _)) (clk_row (l := [x]) (by simp) (row_new W [x]))
  exact h.mono (fun e w' hm => hm.alloc)
theorem At.drew {W : World} {v : Value} {c : List Dt} (h : At W v c) : At W.drew v c := h
theorem next_more (c : List Dt) (actor : Nat) (_h : getN c actor < 18446744073709551615) : covers c (actor, getN c actor + 1) = false ∧ cmpV c (norm (c ++ [(actor, getN c actor + 1)])) = -1 := by
  constructor
  · exact decide_eq_false (fun q => by have h2 : getN c actor + 1 ≤ getN c actor := q.2; omega)
  · rw [cmpV_le]
    have h1 : leB c (norm (c ++ [(actor, getN c actor + 1)])) = true := leB_iff.2 (fun x => by rw [getN_norm, getN_append]; omega)
    have h2 : leB (norm (c ++ [(actor, getN c actor + 1)])) c = false := by
      cases e : leB (norm (c ++ [(actor, getN c actor + 1)])) c with
      | false => rfl
      | true =>
        have := leB_iff.1 e actor
        rw [getN_norm, getN_append, getN_one, if_pos rfl] at this
        simp only at this
        omega
    rw [h1, h2]
    rfl

set_option maxRecDepth 100000 in
set_option maxHeartbeats 40000000 in
theorem order_walk (A B C : List Dt) (actor : Nat) (hA : A.length ≤ 1048576) (hB : B.length ≤ 1048576) (hC : C.length ≤ 1048576) (hN : getN A actor < 18446744073709551616) (aA aB aC : Option Addr) (cA cB cC : Nat) (w : World) (kA : Clk (Lt w.heap.size) w (.slice aA A.length cA) A) (kB : Clk (Lt w.heap.size) w (.slice aB B.length cB) B) (kC : Clk (Lt w.heap.size) w (.slice aC C.length cC) C) :
    Calls Try.prog 7 #[.agg #[.slice aA A.length cA, .slice aB B.length cB, .slice aC C.length cC], .int .u64 (actor : Int)] w fun e w' => e = .returned (.bool true) ∧ Below w.heap.size w w' := by
  have hB0 : Below w.heap.size w (w.alloc (.cells #[.slice aA A.length cA, .slice aB B.length cB, .slice aC C.length cC] 42)) := below_alloc w _
  have h10 := awake_any (w.alloc (.cells #[.slice aA A.length cA, .slice aB B.length cB, .slice aC C.length cC] 42))
  have hX0 := holds_new w [.slice aA A.length cA, .slice aB B.length cB, .slice aC C.length cC] 42
  have kA0 : At (w.alloc (.cells #[.slice aA A.length cA, .slice aB B.length cB, .slice aC C.length cC] 42)) (.slice aA A.length cA) A := kA.up hB0
  have kB0 : At (w.alloc (.cells #[.slice aA A.length cA, .slice aB B.length cB, .slice aC C.length cC] 42)) (.slice aB B.length cB) B := kB.up hB0
  have kC0 : At (w.alloc (.cells #[.slice aA A.length cA, .slice aB B.length cB, .slice aC C.length cC] 42)) (.slice aC C.length cC) C := kC.up hB0
  clear kA kB kC
  have v01 := cmpV_le A B
  have v10 := cmpV_le B A
  have v12 := cmpV_le B C
  have v02 := cmpV_le A C
  have ht1 := @leB_trans A B C
  have ht2 := @leB_last A B C
  generalize leB A B = p01 at *
  generalize leB B A = p10 at *
  generalize leB B C = p12 at *
  generalize leB C B = p21 at *
  generalize leB A C = p02 at *
  generalize leB C A = p20 at *
  go_enter Try.func7, Try.ntmps7
  cases p01 with
  | false =>
    cases p10 with
    | false =>
      have vx : cmpV A B = 2 := v01
      have vy : cmpV B A = 2 := v10
      clear v01 v10
      obtain ⟨z, hz⟩ : ∃ z, cmpV B C = z := ⟨_, rfl⟩
      clear v12 v02 ht1 ht2
      go_wp2_with (first
        | (go_at_call 23; refine (compare2 kB3 kC3 hz (by omega)).mono ?_; rintro e w4 ⟨rfl, b4⟩; have kA4 := kA3.up b4; have kB4 := kB3.up b4; have kC4 := kC3.up b4; have hX4 := hX3.below b4 hX3.lt; have x04 := hX4.at 0 _ rfl; have x14 := hX4.at 1 _ rfl; have x24 := hX4.at 2 _ rfl; clear kA3 kB3 kC3 hX3 x03 x13 x23)
        | (go_at_call 23; refine (compare2 kB2 kA2 vy (by omega)).mono ?_; rintro e w3 ⟨rfl, b3⟩; have kA3 := kA2.up b3; have kB3 := kB2.up b3; have kC3 := kC2.up b3; have hX3 := hX2.below b3 hX2.lt; have x03 := hX3.at 0 _ rfl; have x13 := hX3.at 1 _ rfl; have x23 := hX3.at 2 _ rfl; clear kA2 kB2 kC2 hX2 x02 x12 x22)
        | (go_at_call 23; refine (compare2 kA1 kB1 vx (by omega)).mono ?_; rintro e w2 ⟨rfl, b2⟩; have kA2 := kA1.up b2; have kB2 := kB1.up b2; have kC2 := kC1.up b2; have hX2 := hX1.below b2 hX1.lt; have x02 := hX2.at 0 _ rfl; have x12 := hX2.at 1 _ rfl; have x22 := hX2.at 2 _ rfl; clear kA1 kB1 kC1 hX1 x01 x11 x21)
        | (go_at_call 10; refine h10.mono ?_; rintro e w1 ⟨rfl, b1⟩; have kA1 := kA0.up b1; have kB1 := kB0.up b1; have kC1 := kC0.up b1; have hX1 := hX0.below b1 hX0.lt; have x01 := hX1.at 0 _ rfl; have x11 := hX1.at 1 _ rfl; have x21 := hX1.at 2 _ rfl; clear kA0 kB0 kC0 hX0))
      rcases Nat.lt_or_ge (getN A actor) 18446744073709551615 with hlt | hge
      · have hn : nextN A actor = getN A actor + 1 := by unfold nextN; rw [if_pos hlt]
        obtain ⟨hcov, hcmp⟩ := next_more A actor hlt
        have lM := norm_len (A ++ [(actor, getN A actor + 1)])
        simp only [List.length_append, List.length_cons, List.length_nil] at lM
        generalize getN A actor + 1 = nx at *
        go_wp2_with (first
          | (go_at_call 16; refine (covers2 (actor, nx) kA hcov (by omega)).mono ?_; rintro e w6 ⟨rfl, b6⟩; have kA2 := kA.up b6; have hX2 := hX.below b6 hX.lt; have hD2 := hD.below b6 hD.lt; have z0 := hX2.at 0 _ rfl; have e0 := hD2.at 0 _ rfl; have e1 := hD2.at 1 _ rfl; clear kA hX hD x0 d0 d1)
          | (go_at_call 15; refine (next2 actor kA4 hn (by omega) hN).mono ?_; rintro e w5 ⟨rfl, b5⟩; have kA5 := kA4.up b5; have kB5 := kB4.up b5; have kC5 := kC4.up b5; have hX5 := hX4.below b5 hX4.lt; have x05 := hX5.at 0 _ rfl; have x15 := hX5.at 1 _ rfl; have x25 := hX5.at 2 _ rfl; clear kA4 kB4 kC4 hX4 x04 x14 x24; have kA := kA5.up (below_alloc w5 (.cells #[.int .u64 (actor : Int), .int .u64 (nx : Int)] 33)); have hX := hX5.alloc (.cells #[.int .u64 (actor : Int), .int .u64 (nx : Int)] 33); have x0 := hX.at 0 _ rfl; have hD := holds_new w5 [.int .u64 (actor : Int), .int .u64 (nx : Int)] 33; have d0 := hD.at 0 _ rfl; have d1 := hD.at 1 _ rfl; clear kA5 kB5 kC5 hX5))
        have v0 := World.new_ne _ _ z0
        have v1 := World.new_ne _ _ e0
        have v2 := World.new_ne _ _ e1
        go_region_held3 (fun w' => w'.cell? ⟨w.heap.size, 0, none⟩ = some (.slice aA A.length cA) ∧ w'.cell? ⟨w5.heap.size, 0, none⟩ = some (.int .u64 (actor : Int)) ∧ w'.cell? ⟨w5.heap.size, 1, none⟩ = some (.int .u64 (nx : Int))) (go_keep) (first
          | (go_at_call 23; refine (compare2 kA4 kM4 hcmp (by omega)).mono ?_; rintro e w8 ⟨rfl, b8⟩; have y0 := (hX4.below b8 hX4.lt).at 0 _ rfl; have f0 := (hD4.below b8 hD4.lt).at 0 _ rfl; have f1 := (hD4.below b8 hD4.lt).at 1 _ rfl)
          | (go_at_call 14; refine (add2 (W := w6.drew) (actor, nx) kA2.drew (by omega)).mono ?_; rintro e w7 ⟨a4, c4, rfl, q4, b7⟩; have kM4 := Makes.at q4; have kA4 := At.up kA2.drew b7; have hX4 := Holds.below (Holds.drew hX2) b7 hX2.lt; have hD4 := Holds.below (Holds.drew hD2) b7 hD2.lt; have g0 := hX4.at 0 _ rfl; have g1 := hD4.at 0 _ rfl; have g2 := hD4.at 1 _ rfl))
        all_goals
          go_wp2
          go_ret
          exact ⟨rfl, below_trans hB0 (below_trans (below_trans b1 (below_trans b2 (below_trans b3 (below_trans b4 b5)))) (below_trans (below_alloc w5 _) (below_trans b6 (below_trans ((Below.refl _ w6).drew) (below_trans b7 b8)))))⟩
      · have hg : getN A actor = 18446744073709551615 := by omega
        have hn : nextN A actor = 18446744073709551615 := by unfold nextN; rw [hg]; rfl
        have hcov : covers A (actor, 18446744073709551615) = true := decide_eq_true ⟨by show (0 : Nat) < 18446744073709551615; omega, by show _ ≤ getN A actor; omega⟩
        clear hge hg
        go_wp2_with (first
          | (go_at_call 16; refine (covers2 (actor, 18446744073709551615) kA hcov (by omega)).mono ?_; rintro e w6 ⟨rfl, b6⟩; have hD2 := hD.below b6 hD.lt; have e1 := hD2.at 1 _ rfl)
          | (go_at_call 15; refine (next2 actor kA4 hn (by omega) hN).mono ?_; rintro e w5 ⟨rfl, b5⟩; have kA5 := kA4.up b5; have kB5 := kB4.up b5; have kC5 := kC4.up b5; have hX5 := hX4.below b5 hX4.lt; have x05 := hX5.at 0 _ rfl; have x15 := hX5.at 1 _ rfl; have x25 := hX5.at 2 _ rfl; clear kA4 kB4 kC4 hX4 x04 x14 x24; have kA := kA5.up (below_alloc w5 (.cells #[.int .u64 (actor : Int), .int .u64 18446744073709551615] 33)); have hX := hX5.alloc (.cells #[.int .u64 (actor : Int), .int .u64 18446744073709551615] 33); have x0 := hX.at 0 _ rfl; have hD := holds_new w5 [.int .u64 (actor : Int), .int .u64 18446744073709551615] 33; have d0 := hD.at 0 _ rfl; have d1 := hD.at 1 _ rfl; clear kA5 kB5 kC5 hX5))
        go_ret
        exact ⟨rfl, below_trans hB0 (below_trans (below_trans b1 (below_trans b2 (below_trans b3 (below_trans b4 b5)))) (below_trans (below_alloc w5 _) b6))⟩
    | true =>
      have vx : cmpV A B = 1 := v01
      have vy : cmpV B A = -1 := v10
      clear v01 v10
      obtain ⟨z, hz⟩ : ∃ z, cmpV B C = z := ⟨_, rfl⟩
      clear v12 v02 ht1 ht2
      go_wp2_with (first
        | (go_at_call 23; refine (compare2 kB3 kC3 hz (by omega)).mono ?_; rintro e w4 ⟨rfl, b4⟩; have kA4 := kA3.up b4; have kB4 := kB3.up b4; have kC4 := kC3.up b4; have hX4 := hX3.below b4 hX3.lt; have x04 := hX4.at 0 _ rfl; have x14 := hX4.at 1 _ rfl; have x24 := hX4.at 2 _ rfl; clear kA3 kB3 kC3 hX3 x03 x13 x23)
        | (go_at_call 23; refine (compare2 kB2 kA2 vy (by omega)).mono ?_; rintro e w3 ⟨rfl, b3⟩; have kA3 := kA2.up b3; have kB3 := kB2.up b3; have kC3 := kC2.up b3; have hX3 := hX2.below b3 hX2.lt; have x03 := hX3.at 0 _ rfl; have x13 := hX3.at 1 _ rfl; have x23 := hX3.at 2 _ rfl; clear kA2 kB2 kC2 hX2 x02 x12 x22)
        | (go_at_call 23; refine (compare2 kA1 kB1 vx (by omega)).mono ?_; rintro e w2 ⟨rfl, b2⟩; have kA2 := kA1.up b2; have kB2 := kB1.up b2; have kC2 := kC1.up b2; have hX2 := hX1.below b2 hX1.lt; have x02 := hX2.at 0 _ rfl; have x12 := hX2.at 1 _ rfl; have x22 := hX2.at 2 _ rfl; clear kA1 kB1 kC1 hX1 x01 x11 x21)
        | (go_at_call 10; refine h10.mono ?_; rintro e w1 ⟨rfl, b1⟩; have kA1 := kA0.up b1; have kB1 := kB0.up b1; have kC1 := kC0.up b1; have hX1 := hX0.below b1 hX0.lt; have x01 := hX1.at 0 _ rfl; have x11 := hX1.at 1 _ rfl; have x21 := hX1.at 2 _ rfl; clear kA0 kB0 kC0 hX0))
      rcases Nat.lt_or_ge (getN A actor) 18446744073709551615 with hlt | hge
      · have hn : nextN A actor = getN A actor + 1 := by unfold nextN; rw [if_pos hlt]
        obtain ⟨hcov, hcmp⟩ := next_more A actor hlt
        have lM := norm_len (A ++ [(actor, getN A actor + 1)])
        simp only [List.length_append, List.length_cons, List.length_nil] at lM
        generalize getN A actor + 1 = nx at *
        go_wp2_with (first
          | (go_at_call 16; refine (covers2 (actor, nx) kA hcov (by omega)).mono ?_; rintro e w6 ⟨rfl, b6⟩; have kA2 := kA.up b6; have hX2 := hX.below b6 hX.lt; have hD2 := hD.below b6 hD.lt; have z0 := hX2.at 0 _ rfl; have e0 := hD2.at 0 _ rfl; have e1 := hD2.at 1 _ rfl; clear kA hX hD x0 d0 d1)
          | (go_at_call 15; refine (next2 actor kA4 hn (by omega) hN).mono ?_; rintro e w5 ⟨rfl, b5⟩; have kA5 := kA4.up b5; have kB5 := kB4.up b5; have kC5 := kC4.up b5; have hX5 := hX4.below b5 hX4.lt; have x05 := hX5.at 0 _ rfl; have x15 := hX5.at 1 _ rfl; have x25 := hX5.at 2 _ rfl; clear kA4 kB4 kC4 hX4 x04 x14 x24; have kA := kA5.up (below_alloc w5 (.cells #[.int .u64 (actor : Int), .int .u64 (nx : Int)] 33)); have hX := hX5.alloc (.cells #[.int .u64 (actor : Int), .int .u64 (nx : Int)] 33); have x0 := hX.at 0 _ rfl; have hD := holds_new w5 [.int .u64 (actor : Int), .int .u64 (nx : Int)] 33; have d0 := hD.at 0 _ rfl; have d1 := hD.at 1 _ rfl; clear kA5 kB5 kC5 hX5))
        have v0 := World.new_ne _ _ z0
        have v1 := World.new_ne _ _ e0
        have v2 := World.new_ne _ _ e1
        go_region_held3 (fun w' => w'.cell? ⟨w.heap.size, 0, none⟩ = some (.slice aA A.length cA) ∧ w'.cell? ⟨w5.heap.size, 0, none⟩ = some (.int .u64 (actor : Int)) ∧ w'.cell? ⟨w5.heap.size, 1, none⟩ = some (.int .u64 (nx : Int))) (go_keep) (first
          | (go_at_call 23; refine (compare2 kA4 kM4 hcmp (by omega)).mono ?_; rintro e w8 ⟨rfl, b8⟩; have y0 := (hX4.below b8 hX4.lt).at 0 _ rfl; have f0 := (hD4.below b8 hD4.lt).at 0 _ rfl; have f1 := (hD4.below b8 hD4.lt).at 1 _ rfl)
          | (go_at_call 14; refine (add2 (W := w6.drew) (actor, nx) kA2.drew (by omega)).mono ?_; rintro e w7 ⟨a4, c4, rfl, q4, b7⟩; have kM4 := Makes.at q4; have kA4 := At.up kA2.drew b7; have hX4 := Holds.below (Holds.drew hX2) b7 hX2.lt; have hD4 := Holds.below (Holds.drew hD2) b7 hD2.lt; have g0 := hX4.at 0 _ rfl; have g1 := hD4.at 0 _ rfl; have g2 := hD4.at 1 _ rfl))
        all_goals
          go_wp2
          go_ret
          exact ⟨rfl, below_trans hB0 (below_trans (below_trans b1 (below_trans b2 (below_trans b3 (below_trans b4 b5)))) (below_trans (below_alloc w5 _) (below_trans b6 (below_trans ((Below.refl _ w6).drew) (below_trans b7 b8)))))⟩
      · have hg : getN A actor = 18446744073709551615 := by omega
        have hn : nextN A actor = 18446744073709551615 := by unfold nextN; rw [hg]; rfl
        have hcov : covers A (actor, 18446744073709551615) = true := decide_eq_true ⟨by show (0 : Nat) < 18446744073709551615; omega, by show _ ≤ getN A actor; omega⟩
        clear hge hg
        go_wp2_with (first
          | (go_at_call 16; refine (covers2 (actor, 18446744073709551615) kA hcov (by omega)).mono ?_; rintro e w6 ⟨rfl, b6⟩; have hD2 := hD.below b6 hD.lt; have e1 := hD2.at 1 _ rfl)
          | (go_at_call 15; refine (next2 actor kA4 hn (by omega) hN).mono ?_; rintro e w5 ⟨rfl, b5⟩; have kA5 := kA4.up b5; have kB5 := kB4.up b5; have kC5 := kC4.up b5; have hX5 := hX4.below b5 hX4.lt; have x05 := hX5.at 0 _ rfl; have x15 := hX5.at 1 _ rfl; have x25 := hX5.at 2 _ rfl; clear kA4 kB4 kC4 hX4 x04 x14 x24; have kA := kA5.up (below_alloc w5 (.cells #[.int .u64 (actor : Int), .int .u64 18446744073709551615] 33)); have hX := hX5.alloc (.cells #[.int .u64 (actor : Int), .int .u64 18446744073709551615] 33); have x0 := hX.at 0 _ rfl; have hD := holds_new w5 [.int .u64 (actor : Int), .int .u64 18446744073709551615] 33; have d0 := hD.at 0 _ rfl; have d1 := hD.at 1 _ rfl; clear kA5 kB5 kC5 hX5))
        go_ret
        exact ⟨rfl, below_trans hB0 (below_trans (below_trans b1 (below_trans b2 (below_trans b3 (below_trans b4 b5)))) (below_trans (below_alloc w5 _) b6))⟩
  | true =>
    cases p10 with
    | false =>
      have vx : cmpV A B = -1 := v01
      have vy : cmpV B A = 1 := v10
      clear v01 v10
      cases p12 with
      | false =>
        clear v02 ht1 ht2
        cases p21 with
        | true =>
          have vz : cmpV B C = 1 := v12
          clear v12
          go_wp2_with (first
            | (go_at_call 23; refine (compare2 kB3 kC3 vz (by omega)).mono ?_; rintro e w4 ⟨rfl, b4⟩; have kA4 := kA3.up b4; have kB4 := kB3.up b4; have kC4 := kC3.up b4; have hX4 := hX3.below b4 hX3.lt; have x04 := hX4.at 0 _ rfl; have x14 := hX4.at 1 _ rfl; have x24 := hX4.at 2 _ rfl; clear kA3 kB3 kC3 hX3 x03 x13 x23)
            | (go_at_call 23; refine (compare2 kB2 kA2 vy (by omega)).mono ?_; rintro e w3 ⟨rfl, b3⟩; have kA3 := kA2.up b3; have kB3 := kB2.up b3; have kC3 := kC2.up b3; have hX3 := hX2.below b3 hX2.lt; have x03 := hX3.at 0 _ rfl; have x13 := hX3.at 1 _ rfl; have x23 := hX3.at 2 _ rfl; clear kA2 kB2 kC2 hX2 x02 x12 x22)
            | (go_at_call 23; refine (compare2 kA1 kB1 vx (by omega)).mono ?_; rintro e w2 ⟨rfl, b2⟩; have kA2 := kA1.up b2; have kB2 := kB1.up b2; have kC2 := kC1.up b2; have hX2 := hX1.below b2 hX1.lt; have x02 := hX2.at 0 _ rfl; have x12 := hX2.at 1 _ rfl; have x22 := hX2.at 2 _ rfl; clear kA1 kB1 kC1 hX1 x01 x11 x21)
            | (go_at_call 10; refine h10.mono ?_; rintro e w1 ⟨rfl, b1⟩; have kA1 := kA0.up b1; have kB1 := kB0.up b1; have kC1 := kC0.up b1; have hX1 := hX0.below b1 hX0.lt; have x01 := hX1.at 0 _ rfl; have x11 := hX1.at 1 _ rfl; have x21 := hX1.at 2 _ rfl; clear kA0 kB0 kC0 hX0))
          rcases Nat.lt_or_ge (getN A actor) 18446744073709551615 with hlt | hge
          · have hn : nextN A actor = getN A actor + 1 := by unfold nextN; rw [if_pos hlt]
            obtain ⟨hcov, hcmp⟩ := next_more A actor hlt
            have lM := norm_len (A ++ [(actor, getN A actor + 1)])
            simp only [List.length_append, List.length_cons, List.length_nil] at lM
            generalize getN A actor + 1 = nx at *
            go_wp2_with (first
              | (go_at_call 16; refine (covers2 (actor, nx) kA hcov (by omega)).mono ?_; rintro e w6 ⟨rfl, b6⟩; have kA2 := kA.up b6; have hX2 := hX.below b6 hX.lt; have hD2 := hD.below b6 hD.lt; have z0 := hX2.at 0 _ rfl; have e0 := hD2.at 0 _ rfl; have e1 := hD2.at 1 _ rfl; clear kA hX hD x0 d0 d1)
              | (go_at_call 15; refine (next2 actor kA4 hn (by omega) hN).mono ?_; rintro e w5 ⟨rfl, b5⟩; have kA5 := kA4.up b5; have kB5 := kB4.up b5; have kC5 := kC4.up b5; have hX5 := hX4.below b5 hX4.lt; have x05 := hX5.at 0 _ rfl; have x15 := hX5.at 1 _ rfl; have x25 := hX5.at 2 _ rfl; clear kA4 kB4 kC4 hX4 x04 x14 x24; have kA := kA5.up (below_alloc w5 (.cells #[.int .u64 (actor : Int), .int .u64 (nx : Int)] 33)); have hX := hX5.alloc (.cells #[.int .u64 (actor : Int), .int .u64 (nx : Int)] 33); have x0 := hX.at 0 _ rfl; have hD := holds_new w5 [.int .u64 (actor : Int), .int .u64 (nx : Int)] 33; have d0 := hD.at 0 _ rfl; have d1 := hD.at 1 _ rfl; clear kA5 kB5 kC5 hX5))
            have v0 := World.new_ne _ _ z0
            have v1 := World.new_ne _ _ e0
            have v2 := World.new_ne _ _ e1
            go_region_held3 (fun w' => w'.cell? ⟨w.heap.size, 0, none⟩ = some (.slice aA A.length cA) ∧ w'.cell? ⟨w5.heap.size, 0, none⟩ = some (.int .u64 (actor : Int)) ∧ w'.cell? ⟨w5.heap.size, 1, none⟩ = some (.int .u64 (nx : Int))) (go_keep) (first
              | (go_at_call 23; refine (compare2 kA4 kM4 hcmp (by omega)).mono ?_; rintro e w8 ⟨rfl, b8⟩; have y0 := (hX4.below b8 hX4.lt).at 0 _ rfl; have f0 := (hD4.below b8 hD4.lt).at 0 _ rfl; have f1 := (hD4.below b8 hD4.lt).at 1 _ rfl)
              | (go_at_call 14; refine (add2 (W := w6.drew) (actor, nx) kA2.drew (by omega)).mono ?_; rintro e w7 ⟨a4, c4, rfl, q4, b7⟩; have kM4 := Makes.at q4; have kA4 := At.up kA2.drew b7; have hX4 := Holds.below (Holds.drew hX2) b7 hX2.lt; have hD4 := Holds.below (Holds.drew hD2) b7 hD2.lt; have g0 := hX4.at 0 _ rfl; have g1 := hD4.at 0 _ rfl; have g2 := hD4.at 1 _ rfl))
            all_goals
              go_wp2
              go_ret
              exact ⟨rfl, below_trans hB0 (below_trans (below_trans b1 (below_trans b2 (below_trans b3 (below_trans b4 b5)))) (below_trans (below_alloc w5 _) (below_trans b6 (below_trans ((Below.refl _ w6).drew) (below_trans b7 b8)))))⟩
          · have hg : getN A actor = 18446744073709551615 := by omega
            have hn : nextN A actor = 18446744073709551615 := by unfold nextN; rw [hg]; rfl
            have hcov : covers A (actor, 18446744073709551615) = true := decide_eq_true ⟨by show (0 : Nat) < 18446744073709551615; omega, by show _ ≤ getN A actor; omega⟩
            clear hge hg
            go_wp2_with (first
              | (go_at_call 16; refine (covers2 (actor, 18446744073709551615) kA hcov (by omega)).mono ?_; rintro e w6 ⟨rfl, b6⟩; have hD2 := hD.below b6 hD.lt; have e1 := hD2.at 1 _ rfl)
              | (go_at_call 15; refine (next2 actor kA4 hn (by omega) hN).mono ?_; rintro e w5 ⟨rfl, b5⟩; have kA5 := kA4.up b5; have kB5 := kB4.up b5; have kC5 := kC4.up b5; have hX5 := hX4.below b5 hX4.lt; have x05 := hX5.at 0 _ rfl; have x15 := hX5.at 1 _ rfl; have x25 := hX5.at 2 _ rfl; clear kA4 kB4 kC4 hX4 x04 x14 x24; have kA := kA5.up (below_alloc w5 (.cells #[.int .u64 (actor : Int), .int .u64 18446744073709551615] 33)); have hX := hX5.alloc (.cells #[.int .u64 (actor : Int), .int .u64 18446744073709551615] 33); have x0 := hX.at 0 _ rfl; have hD := holds_new w5 [.int .u64 (actor : Int), .int .u64 18446744073709551615] 33; have d0 := hD.at 0 _ rfl; have d1 := hD.at 1 _ rfl; clear kA5 kB5 kC5 hX5))
            go_ret
            exact ⟨rfl, below_trans hB0 (below_trans (below_trans b1 (below_trans b2 (below_trans b3 (below_trans b4 b5)))) (below_trans (below_alloc w5 _) b6))⟩
        | false =>
          have vz : cmpV B C = 2 := v12
          clear v12
          go_wp2_with (first
            | (go_at_call 23; refine (compare2 kB3 kC3 vz (by omega)).mono ?_; rintro e w4 ⟨rfl, b4⟩; have kA4 := kA3.up b4; have kB4 := kB3.up b4; have kC4 := kC3.up b4; have hX4 := hX3.below b4 hX3.lt; have x04 := hX4.at 0 _ rfl; have x14 := hX4.at 1 _ rfl; have x24 := hX4.at 2 _ rfl; clear kA3 kB3 kC3 hX3 x03 x13 x23)
            | (go_at_call 23; refine (compare2 kB2 kA2 vy (by omega)).mono ?_; rintro e w3 ⟨rfl, b3⟩; have kA3 := kA2.up b3; have kB3 := kB2.up b3; have kC3 := kC2.up b3; have hX3 := hX2.below b3 hX2.lt; have x03 := hX3.at 0 _ rfl; have x13 := hX3.at 1 _ rfl; have x23 := hX3.at 2 _ rfl; clear kA2 kB2 kC2 hX2 x02 x12 x22)
            | (go_at_call 23; refine (compare2 kA1 kB1 vx (by omega)).mono ?_; rintro e w2 ⟨rfl, b2⟩; have kA2 := kA1.up b2; have kB2 := kB1.up b2; have kC2 := kC1.up b2; have hX2 := hX1.below b2 hX1.lt; have x02 := hX2.at 0 _ rfl; have x12 := hX2.at 1 _ rfl; have x22 := hX2.at 2 _ rfl; clear kA1 kB1 kC1 hX1 x01 x11 x21)
            | (go_at_call 10; refine h10.mono ?_; rintro e w1 ⟨rfl, b1⟩; have kA1 := kA0.up b1; have kB1 := kB0.up b1; have kC1 := kC0.up b1; have hX1 := hX0.below b1 hX0.lt; have x01 := hX1.at 0 _ rfl; have x11 := hX1.at 1 _ rfl; have x21 := hX1.at 2 _ rfl; clear kA0 kB0 kC0 hX0))
          rcases Nat.lt_or_ge (getN A actor) 18446744073709551615 with hlt | hge
          · have hn : nextN A actor = getN A actor + 1 := by unfold nextN; rw [if_pos hlt]
            obtain ⟨hcov, hcmp⟩ := next_more A actor hlt
            have lM := norm_len (A ++ [(actor, getN A actor + 1)])
            simp only [List.length_append, List.length_cons, List.length_nil] at lM
            generalize getN A actor + 1 = nx at *
            go_wp2_with (first
              | (go_at_call 16; refine (covers2 (actor, nx) kA hcov (by omega)).mono ?_; rintro e w6 ⟨rfl, b6⟩; have kA2 := kA.up b6; have hX2 := hX.below b6 hX.lt; have hD2 := hD.below b6 hD.lt; have z0 := hX2.at 0 _ rfl; have e0 := hD2.at 0 _ rfl; have e1 := hD2.at 1 _ rfl; clear kA hX hD x0 d0 d1)
              | (go_at_call 15; refine (next2 actor kA4 hn (by omega) hN).mono ?_; rintro e w5 ⟨rfl, b5⟩; have kA5 := kA4.up b5; have kB5 := kB4.up b5; have kC5 := kC4.up b5; have hX5 := hX4.below b5 hX4.lt; have x05 := hX5.at 0 _ rfl; have x15 := hX5.at 1 _ rfl; have x25 := hX5.at 2 _ rfl; clear kA4 kB4 kC4 hX4 x04 x14 x24; have kA := kA5.up (below_alloc w5 (.cells #[.int .u64 (actor : Int), .int .u64 (nx : Int)] 33)); have hX := hX5.alloc (.cells #[.int .u64 (actor : Int), .int .u64 (nx : Int)] 33); have x0 := hX.at 0 _ rfl; have hD := holds_new w5 [.int .u64 (actor : Int), .int .u64 (nx : Int)] 33; have d0 := hD.at 0 _ rfl; have d1 := hD.at 1 _ rfl; clear kA5 kB5 kC5 hX5))
            have v0 := World.new_ne _ _ z0
            have v1 := World.new_ne _ _ e0
            have v2 := World.new_ne _ _ e1
            go_region_held3 (fun w' => w'.cell? ⟨w.heap.size, 0, none⟩ = some (.slice aA A.length cA) ∧ w'.cell? ⟨w5.heap.size, 0, none⟩ = some (.int .u64 (actor : Int)) ∧ w'.cell? ⟨w5.heap.size, 1, none⟩ = some (.int .u64 (nx : Int))) (go_keep) (first
              | (go_at_call 23; refine (compare2 kA4 kM4 hcmp (by omega)).mono ?_; rintro e w8 ⟨rfl, b8⟩; have y0 := (hX4.below b8 hX4.lt).at 0 _ rfl; have f0 := (hD4.below b8 hD4.lt).at 0 _ rfl; have f1 := (hD4.below b8 hD4.lt).at 1 _ rfl)
              | (go_at_call 14; refine (add2 (W := w6.drew) (actor, nx) kA2.drew (by omega)).mono ?_; rintro e w7 ⟨a4, c4, rfl, q4, b7⟩; have kM4 := Makes.at q4; have kA4 := At.up kA2.drew b7; have hX4 := Holds.below (Holds.drew hX2) b7 hX2.lt; have hD4 := Holds.below (Holds.drew hD2) b7 hD2.lt; have g0 := hX4.at 0 _ rfl; have g1 := hD4.at 0 _ rfl; have g2 := hD4.at 1 _ rfl))
            all_goals
              go_wp2
              go_ret
              exact ⟨rfl, below_trans hB0 (below_trans (below_trans b1 (below_trans b2 (below_trans b3 (below_trans b4 b5)))) (below_trans (below_alloc w5 _) (below_trans b6 (below_trans ((Below.refl _ w6).drew) (below_trans b7 b8)))))⟩
          · have hg : getN A actor = 18446744073709551615 := by omega
            have hn : nextN A actor = 18446744073709551615 := by unfold nextN; rw [hg]; rfl
            have hcov : covers A (actor, 18446744073709551615) = true := decide_eq_true ⟨by show (0 : Nat) < 18446744073709551615; omega, by show _ ≤ getN A actor; omega⟩
            clear hge hg
            go_wp2_with (first
              | (go_at_call 16; refine (covers2 (actor, 18446744073709551615) kA hcov (by omega)).mono ?_; rintro e w6 ⟨rfl, b6⟩; have hD2 := hD.below b6 hD.lt; have e1 := hD2.at 1 _ rfl)
              | (go_at_call 15; refine (next2 actor kA4 hn (by omega) hN).mono ?_; rintro e w5 ⟨rfl, b5⟩; have kA5 := kA4.up b5; have kB5 := kB4.up b5; have kC5 := kC4.up b5; have hX5 := hX4.below b5 hX4.lt; have x05 := hX5.at 0 _ rfl; have x15 := hX5.at 1 _ rfl; have x25 := hX5.at 2 _ rfl; clear kA4 kB4 kC4 hX4 x04 x14 x24; have kA := kA5.up (below_alloc w5 (.cells #[.int .u64 (actor : Int), .int .u64 18446744073709551615] 33)); have hX := hX5.alloc (.cells #[.int .u64 (actor : Int), .int .u64 18446744073709551615] 33); have x0 := hX.at 0 _ rfl; have hD := holds_new w5 [.int .u64 (actor : Int), .int .u64 18446744073709551615] 33; have d0 := hD.at 0 _ rfl; have d1 := hD.at 1 _ rfl; clear kA5 kB5 kC5 hX5))
            go_ret
            exact ⟨rfl, below_trans hB0 (below_trans (below_trans b1 (below_trans b2 (below_trans b3 (below_trans b4 b5)))) (below_trans (below_alloc w5 _) b6))⟩
      | true =>
        have h02 : p02 = true := ht1 rfl rfl
        have h20 := ht2 rfl rfl
        clear ht1 ht2
        subst h02
        cases p21 with
        | true =>
          subst h20
          have vz : cmpV B C = 0 := v12
          have vw : cmpV A C = -1 := v02
          clear v12 v02
          go_wp2_with (first
            | (go_at_call 23; refine (compare2 kA4 kC4 vw (by omega)).mono ?_; rintro e w5 ⟨rfl, b5⟩; have kA5 := kA4.up b5; have kB5 := kB4.up b5; have kC5 := kC4.up b5; have hX5 := hX4.below b5 hX4.lt; have x05 := hX5.at 0 _ rfl; have x15 := hX5.at 1 _ rfl; have x25 := hX5.at 2 _ rfl; clear kA4 kB4 kC4 hX4 x04 x14 x24)
            | (go_at_call 23; refine (compare2 kB3 kC3 vz (by omega)).mono ?_; rintro e w4 ⟨rfl, b4⟩; have kA4 := kA3.up b4; have kB4 := kB3.up b4; have kC4 := kC3.up b4; have hX4 := hX3.below b4 hX3.lt; have x04 := hX4.at 0 _ rfl; have x14 := hX4.at 1 _ rfl; have x24 := hX4.at 2 _ rfl; clear kA3 kB3 kC3 hX3 x03 x13 x23)
            | (go_at_call 23; refine (compare2 kB2 kA2 vy (by omega)).mono ?_; rintro e w3 ⟨rfl, b3⟩; have kA3 := kA2.up b3; have kB3 := kB2.up b3; have kC3 := kC2.up b3; have hX3 := hX2.below b3 hX2.lt; have x03 := hX3.at 0 _ rfl; have x13 := hX3.at 1 _ rfl; have x23 := hX3.at 2 _ rfl; clear kA2 kB2 kC2 hX2 x02 x12 x22)
            | (go_at_call 23; refine (compare2 kA1 kB1 vx (by omega)).mono ?_; rintro e w2 ⟨rfl, b2⟩; have kA2 := kA1.up b2; have kB2 := kB1.up b2; have kC2 := kC1.up b2; have hX2 := hX1.below b2 hX1.lt; have x02 := hX2.at 0 _ rfl; have x12 := hX2.at 1 _ rfl; have x22 := hX2.at 2 _ rfl; clear kA1 kB1 kC1 hX1 x01 x11 x21)
            | (go_at_call 10; refine h10.mono ?_; rintro e w1 ⟨rfl, b1⟩; have kA1 := kA0.up b1; have kB1 := kB0.up b1; have kC1 := kC0.up b1; have hX1 := hX0.below b1 hX0.lt; have x01 := hX1.at 0 _ rfl; have x11 := hX1.at 1 _ rfl; have x21 := hX1.at 2 _ rfl; clear kA0 kB0 kC0 hX0))
          rcases Nat.lt_or_ge (getN A actor) 18446744073709551615 with hlt | hge
          · have hn : nextN A actor = getN A actor + 1 := by unfold nextN; rw [if_pos hlt]
            obtain ⟨hcov, hcmp⟩ := next_more A actor hlt
            have lM := norm_len (A ++ [(actor, getN A actor + 1)])
            simp only [List.length_append, List.length_cons, List.length_nil] at lM
            generalize getN A actor + 1 = nx at *
            go_wp2_with (first
              | (go_at_call 16; refine (covers2 (actor, nx) kA hcov (by omega)).mono ?_; rintro e w7 ⟨rfl, b7⟩; have kA2 := kA.up b7; have hX2 := hX.below b7 hX.lt; have hD2 := hD.below b7 hD.lt; have z0 := hX2.at 0 _ rfl; have e0 := hD2.at 0 _ rfl; have e1 := hD2.at 1 _ rfl; clear kA hX hD x0 d0 d1)
              | (go_at_call 15; refine (next2 actor kA5 hn (by omega) hN).mono ?_; rintro e w6 ⟨rfl, b6⟩; have kA6 := kA5.up b6; have kB6 := kB5.up b6; have kC6 := kC5.up b6; have hX6 := hX5.below b6 hX5.lt; have x06 := hX6.at 0 _ rfl; have x16 := hX6.at 1 _ rfl; have x26 := hX6.at 2 _ rfl; clear kA5 kB5 kC5 hX5 x05 x15 x25; have kA := kA6.up (below_alloc w6 (.cells #[.int .u64 (actor : Int), .int .u64 (nx : Int)] 33)); have hX := hX6.alloc (.cells #[.int .u64 (actor : Int), .int .u64 (nx : Int)] 33); have x0 := hX.at 0 _ rfl; have hD := holds_new w6 [.int .u64 (actor : Int), .int .u64 (nx : Int)] 33; have d0 := hD.at 0 _ rfl; have d1 := hD.at 1 _ rfl; clear kA6 kB6 kC6 hX6))
            have v0 := World.new_ne _ _ z0
            have v1 := World.new_ne _ _ e0
            have v2 := World.new_ne _ _ e1
            go_region_held3 (fun w' => w'.cell? ⟨w.heap.size, 0, none⟩ = some (.slice aA A.length cA) ∧ w'.cell? ⟨w6.heap.size, 0, none⟩ = some (.int .u64 (actor : Int)) ∧ w'.cell? ⟨w6.heap.size, 1, none⟩ = some (.int .u64 (nx : Int))) (go_keep) (first
              | (go_at_call 23; refine (compare2 kA4 kM4 hcmp (by omega)).mono ?_; rintro e w9 ⟨rfl, b9⟩; have y0 := (hX4.below b9 hX4.lt).at 0 _ rfl; have f0 := (hD4.below b9 hD4.lt).at 0 _ rfl; have f1 := (hD4.below b9 hD4.lt).at 1 _ rfl)
              | (go_at_call 14; refine (add2 (W := w7.drew) (actor, nx) kA2.drew (by omega)).mono ?_; rintro e w8 ⟨a4, c4, rfl, q4, b8⟩; have kM4 := Makes.at q4; have kA4 := At.up kA2.drew b8; have hX4 := Holds.below (Holds.drew hX2) b8 hX2.lt; have hD4 := Holds.below (Holds.drew hD2) b8 hD2.lt; have g0 := hX4.at 0 _ rfl; have g1 := hD4.at 0 _ rfl; have g2 := hD4.at 1 _ rfl))
            all_goals
              go_wp2
              go_ret
              exact ⟨rfl, below_trans hB0 (below_trans (below_trans b1 (below_trans b2 (below_trans b3 (below_trans b4 (below_trans b5 b6))))) (below_trans (below_alloc w6 _) (below_trans b7 (below_trans ((Below.refl _ w7).drew) (below_trans b8 b9)))))⟩
          · have hg : getN A actor = 18446744073709551615 := by omega
            have hn : nextN A actor = 18446744073709551615 := by unfold nextN; rw [hg]; rfl
            have hcov : covers A (actor, 18446744073709551615) = true := decide_eq_true ⟨by show (0 : Nat) < 18446744073709551615; omega, by show _ ≤ getN A actor; omega⟩
            clear hge hg
            go_wp2_with (first
              | (go_at_call 16; refine (covers2 (actor, 18446744073709551615) kA hcov (by omega)).mono ?_; rintro e w7 ⟨rfl, b7⟩; have hD2 := hD.below b7 hD.lt; have e1 := hD2.at 1 _ rfl)
              | (go_at_call 15; refine (next2 actor kA5 hn (by omega) hN).mono ?_; rintro e w6 ⟨rfl, b6⟩; have kA6 := kA5.up b6; have kB6 := kB5.up b6; have kC6 := kC5.up b6; have hX6 := hX5.below b6 hX5.lt; have x06 := hX6.at 0 _ rfl; have x16 := hX6.at 1 _ rfl; have x26 := hX6.at 2 _ rfl; clear kA5 kB5 kC5 hX5 x05 x15 x25; have kA := kA6.up (below_alloc w6 (.cells #[.int .u64 (actor : Int), .int .u64 18446744073709551615] 33)); have hX := hX6.alloc (.cells #[.int .u64 (actor : Int), .int .u64 18446744073709551615] 33); have x0 := hX.at 0 _ rfl; have hD := holds_new w6 [.int .u64 (actor : Int), .int .u64 18446744073709551615] 33; have d0 := hD.at 0 _ rfl; have d1 := hD.at 1 _ rfl; clear kA6 kB6 kC6 hX6))
            go_ret
            exact ⟨rfl, below_trans hB0 (below_trans (below_trans b1 (below_trans b2 (below_trans b3 (below_trans b4 (below_trans b5 b6))))) (below_trans (below_alloc w6 _) b7))⟩
        | false =>
          subst h20
          have vz : cmpV B C = -1 := v12
          have vw : cmpV A C = -1 := v02
          clear v12 v02
          go_wp2_with (first
            | (go_at_call 23; refine (compare2 kA4 kC4 vw (by omega)).mono ?_; rintro e w5 ⟨rfl, b5⟩; have kA5 := kA4.up b5; have kB5 := kB4.up b5; have kC5 := kC4.up b5; have hX5 := hX4.below b5 hX4.lt; have x05 := hX5.at 0 _ rfl; have x15 := hX5.at 1 _ rfl; have x25 := hX5.at 2 _ rfl; clear kA4 kB4 kC4 hX4 x04 x14 x24)
            | (go_at_call 23; refine (compare2 kB3 kC3 vz (by omega)).mono ?_; rintro e w4 ⟨rfl, b4⟩; have kA4 := kA3.up b4; have kB4 := kB3.up b4; have kC4 := kC3.up b4; have hX4 := hX3.below b4 hX3.lt; have x04 := hX4.at 0 _ rfl; have x14 := hX4.at 1 _ rfl; have x24 := hX4.at 2 _ rfl; clear kA3 kB3 kC3 hX3 x03 x13 x23)
            | (go_at_call 23; refine (compare2 kB2 kA2 vy (by omega)).mono ?_; rintro e w3 ⟨rfl, b3⟩; have kA3 := kA2.up b3; have kB3 := kB2.up b3; have kC3 := kC2.up b3; have hX3 := hX2.below b3 hX2.lt; have x03 := hX3.at 0 _ rfl; have x13 := hX3.at 1 _ rfl; have x23 := hX3.at 2 _ rfl; clear kA2 kB2 kC2 hX2 x02 x12 x22)
            | (go_at_call 23; refine (compare2 kA1 kB1 vx (by omega)).mono ?_; rintro e w2 ⟨rfl, b2⟩; have kA2 := kA1.up b2; have kB2 := kB1.up b2; have kC2 := kC1.up b2; have hX2 := hX1.below b2 hX1.lt; have x02 := hX2.at 0 _ rfl; have x12 := hX2.at 1 _ rfl; have x22 := hX2.at 2 _ rfl; clear kA1 kB1 kC1 hX1 x01 x11 x21)
            | (go_at_call 10; refine h10.mono ?_; rintro e w1 ⟨rfl, b1⟩; have kA1 := kA0.up b1; have kB1 := kB0.up b1; have kC1 := kC0.up b1; have hX1 := hX0.below b1 hX0.lt; have x01 := hX1.at 0 _ rfl; have x11 := hX1.at 1 _ rfl; have x21 := hX1.at 2 _ rfl; clear kA0 kB0 kC0 hX0))
          rcases Nat.lt_or_ge (getN A actor) 18446744073709551615 with hlt | hge
          · have hn : nextN A actor = getN A actor + 1 := by unfold nextN; rw [if_pos hlt]
            obtain ⟨hcov, hcmp⟩ := next_more A actor hlt
            have lM := norm_len (A ++ [(actor, getN A actor + 1)])
            simp only [List.length_append, List.length_cons, List.length_nil] at lM
            generalize getN A actor + 1 = nx at *
            go_wp2_with (first
              | (go_at_call 16; refine (covers2 (actor, nx) kA hcov (by omega)).mono ?_; rintro e w7 ⟨rfl, b7⟩; have kA2 := kA.up b7; have hX2 := hX.below b7 hX.lt; have hD2 := hD.below b7 hD.lt; have z0 := hX2.at 0 _ rfl; have e0 := hD2.at 0 _ rfl; have e1 := hD2.at 1 _ rfl; clear kA hX hD x0 d0 d1)
              | (go_at_call 15; refine (next2 actor kA5 hn (by omega) hN).mono ?_; rintro e w6 ⟨rfl, b6⟩; have kA6 := kA5.up b6; have kB6 := kB5.up b6; have kC6 := kC5.up b6; have hX6 := hX5.below b6 hX5.lt; have x06 := hX6.at 0 _ rfl; have x16 := hX6.at 1 _ rfl; have x26 := hX6.at 2 _ rfl; clear kA5 kB5 kC5 hX5 x05 x15 x25; have kA := kA6.up (below_alloc w6 (.cells #[.int .u64 (actor : Int), .int .u64 (nx : Int)] 33)); have hX := hX6.alloc (.cells #[.int .u64 (actor : Int), .int .u64 (nx : Int)] 33); have x0 := hX.at 0 _ rfl; have hD := holds_new w6 [.int .u64 (actor : Int), .int .u64 (nx : Int)] 33; have d0 := hD.at 0 _ rfl; have d1 := hD.at 1 _ rfl; clear kA6 kB6 kC6 hX6))
            have v0 := World.new_ne _ _ z0
            have v1 := World.new_ne _ _ e0
            have v2 := World.new_ne _ _ e1
            go_region_held3 (fun w' => w'.cell? ⟨w.heap.size, 0, none⟩ = some (.slice aA A.length cA) ∧ w'.cell? ⟨w6.heap.size, 0, none⟩ = some (.int .u64 (actor : Int)) ∧ w'.cell? ⟨w6.heap.size, 1, none⟩ = some (.int .u64 (nx : Int))) (go_keep) (first
              | (go_at_call 23; refine (compare2 kA4 kM4 hcmp (by omega)).mono ?_; rintro e w9 ⟨rfl, b9⟩; have y0 := (hX4.below b9 hX4.lt).at 0 _ rfl; have f0 := (hD4.below b9 hD4.lt).at 0 _ rfl; have f1 := (hD4.below b9 hD4.lt).at 1 _ rfl)
              | (go_at_call 14; refine (add2 (W := w7.drew) (actor, nx) kA2.drew (by omega)).mono ?_; rintro e w8 ⟨a4, c4, rfl, q4, b8⟩; have kM4 := Makes.at q4; have kA4 := At.up kA2.drew b8; have hX4 := Holds.below (Holds.drew hX2) b8 hX2.lt; have hD4 := Holds.below (Holds.drew hD2) b8 hD2.lt; have g0 := hX4.at 0 _ rfl; have g1 := hD4.at 0 _ rfl; have g2 := hD4.at 1 _ rfl))
            all_goals
              go_wp2
              go_ret
              exact ⟨rfl, below_trans hB0 (below_trans (below_trans b1 (below_trans b2 (below_trans b3 (below_trans b4 (below_trans b5 b6))))) (below_trans (below_alloc w6 _) (below_trans b7 (below_trans ((Below.refl _ w7).drew) (below_trans b8 b9)))))⟩
          · have hg : getN A actor = 18446744073709551615 := by omega
            have hn : nextN A actor = 18446744073709551615 := by unfold nextN; rw [hg]; rfl
            have hcov : covers A (actor, 18446744073709551615) = true := decide_eq_true ⟨by show (0 : Nat) < 18446744073709551615; omega, by show _ ≤ getN A actor; omega⟩
            clear hge hg
            go_wp2_with (first
              | (go_at_call 16; refine (covers2 (actor, 18446744073709551615) kA hcov (by omega)).mono ?_; rintro e w7 ⟨rfl, b7⟩; have hD2 := hD.below b7 hD.lt; have e1 := hD2.at 1 _ rfl)
              | (go_at_call 15; refine (next2 actor kA5 hn (by omega) hN).mono ?_; rintro e w6 ⟨rfl, b6⟩; have kA6 := kA5.up b6; have kB6 := kB5.up b6; have kC6 := kC5.up b6; have hX6 := hX5.below b6 hX5.lt; have x06 := hX6.at 0 _ rfl; have x16 := hX6.at 1 _ rfl; have x26 := hX6.at 2 _ rfl; clear kA5 kB5 kC5 hX5 x05 x15 x25; have kA := kA6.up (below_alloc w6 (.cells #[.int .u64 (actor : Int), .int .u64 18446744073709551615] 33)); have hX := hX6.alloc (.cells #[.int .u64 (actor : Int), .int .u64 18446744073709551615] 33); have x0 := hX.at 0 _ rfl; have hD := holds_new w6 [.int .u64 (actor : Int), .int .u64 18446744073709551615] 33; have d0 := hD.at 0 _ rfl; have d1 := hD.at 1 _ rfl; clear kA6 kB6 kC6 hX6))
            go_ret
            exact ⟨rfl, below_trans hB0 (below_trans (below_trans b1 (below_trans b2 (below_trans b3 (below_trans b4 (below_trans b5 b6))))) (below_trans (below_alloc w6 _) b7))⟩
    | true =>
      have vx : cmpV A B = 0 := v01
      have vy : cmpV B A = 0 := v10
      clear v01 v10
      cases p12 with
      | false =>
        clear v02 ht1 ht2
        cases p21 with
        | true =>
          have vz : cmpV B C = 1 := v12
          clear v12
          go_wp2_with (first
            | (go_at_call 23; refine (compare2 kB3 kC3 vz (by omega)).mono ?_; rintro e w4 ⟨rfl, b4⟩; have kA4 := kA3.up b4; have kB4 := kB3.up b4; have kC4 := kC3.up b4; have hX4 := hX3.below b4 hX3.lt; have x04 := hX4.at 0 _ rfl; have x14 := hX4.at 1 _ rfl; have x24 := hX4.at 2 _ rfl; clear kA3 kB3 kC3 hX3 x03 x13 x23)
            | (go_at_call 23; refine (compare2 kB2 kA2 vy (by omega)).mono ?_; rintro e w3 ⟨rfl, b3⟩; have kA3 := kA2.up b3; have kB3 := kB2.up b3; have kC3 := kC2.up b3; have hX3 := hX2.below b3 hX2.lt; have x03 := hX3.at 0 _ rfl; have x13 := hX3.at 1 _ rfl; have x23 := hX3.at 2 _ rfl; clear kA2 kB2 kC2 hX2 x02 x12 x22)
            | (go_at_call 23; refine (compare2 kA1 kB1 vx (by omega)).mono ?_; rintro e w2 ⟨rfl, b2⟩; have kA2 := kA1.up b2; have kB2 := kB1.up b2; have kC2 := kC1.up b2; have hX2 := hX1.below b2 hX1.lt; have x02 := hX2.at 0 _ rfl; have x12 := hX2.at 1 _ rfl; have x22 := hX2.at 2 _ rfl; clear kA1 kB1 kC1 hX1 x01 x11 x21)
            | (go_at_call 10; refine h10.mono ?_; rintro e w1 ⟨rfl, b1⟩; have kA1 := kA0.up b1; have kB1 := kB0.up b1; have kC1 := kC0.up b1; have hX1 := hX0.below b1 hX0.lt; have x01 := hX1.at 0 _ rfl; have x11 := hX1.at 1 _ rfl; have x21 := hX1.at 2 _ rfl; clear kA0 kB0 kC0 hX0))
          rcases Nat.lt_or_ge (getN A actor) 18446744073709551615 with hlt | hge
          · have hn : nextN A actor = getN A actor + 1 := by unfold nextN; rw [if_pos hlt]
            obtain ⟨hcov, hcmp⟩ := next_more A actor hlt
            have lM := norm_len (A ++ [(actor, getN A actor + 1)])
            simp only [List.length_append, List.length_cons, List.length_nil] at lM
            generalize getN A actor + 1 = nx at *
            go_wp2_with (first
              | (go_at_call 16; refine (covers2 (actor, nx) kA hcov (by omega)).mono ?_; rintro e w6 ⟨rfl, b6⟩; have kA2 := kA.up b6; have hX2 := hX.below b6 hX.lt; have hD2 := hD.below b6 hD.lt; have z0 := hX2.at 0 _ rfl; have e0 := hD2.at 0 _ rfl; have e1 := hD2.at 1 _ rfl; clear kA hX hD x0 d0 d1)
              | (go_at_call 15; refine (next2 actor kA4 hn (by omega) hN).mono ?_; rintro e w5 ⟨rfl, b5⟩; have kA5 := kA4.up b5; have kB5 := kB4.up b5; have kC5 := kC4.up b5; have hX5 := hX4.below b5 hX4.lt; have x05 := hX5.at 0 _ rfl; have x15 := hX5.at 1 _ rfl; have x25 := hX5.at 2 _ rfl; clear kA4 kB4 kC4 hX4 x04 x14 x24; have kA := kA5.up (below_alloc w5 (.cells #[.int .u64 (actor : Int), .int .u64 (nx : Int)] 33)); have hX := hX5.alloc (.cells #[.int .u64 (actor : Int), .int .u64 (nx : Int)] 33); have x0 := hX.at 0 _ rfl; have hD := holds_new w5 [.int .u64 (actor : Int), .int .u64 (nx : Int)] 33; have d0 := hD.at 0 _ rfl; have d1 := hD.at 1 _ rfl; clear kA5 kB5 kC5 hX5))
            have v0 := World.new_ne _ _ z0
            have v1 := World.new_ne _ _ e0
            have v2 := World.new_ne _ _ e1
            go_region_held3 (fun w' => w'.cell? ⟨w.heap.size, 0, none⟩ = some (.slice aA A.length cA) ∧ w'.cell? ⟨w5.heap.size, 0, none⟩ = some (.int .u64 (actor : Int)) ∧ w'.cell? ⟨w5.heap.size, 1, none⟩ = some (.int .u64 (nx : Int))) (go_keep) (first
              | (go_at_call 23; refine (compare2 kA4 kM4 hcmp (by omega)).mono ?_; rintro e w8 ⟨rfl, b8⟩; have y0 := (hX4.below b8 hX4.lt).at 0 _ rfl; have f0 := (hD4.below b8 hD4.lt).at 0 _ rfl; have f1 := (hD4.below b8 hD4.lt).at 1 _ rfl)
              | (go_at_call 14; refine (add2 (W := w6.drew) (actor, nx) kA2.drew (by omega)).mono ?_; rintro e w7 ⟨a4, c4, rfl, q4, b7⟩; have kM4 := Makes.at q4; have kA4 := At.up kA2.drew b7; have hX4 := Holds.below (Holds.drew hX2) b7 hX2.lt; have hD4 := Holds.below (Holds.drew hD2) b7 hD2.lt; have g0 := hX4.at 0 _ rfl; have g1 := hD4.at 0 _ rfl; have g2 := hD4.at 1 _ rfl))
            all_goals
              go_wp2
              go_ret
              exact ⟨rfl, below_trans hB0 (below_trans (below_trans b1 (below_trans b2 (below_trans b3 (below_trans b4 b5)))) (below_trans (below_alloc w5 _) (below_trans b6 (below_trans ((Below.refl _ w6).drew) (below_trans b7 b8)))))⟩
          · have hg : getN A actor = 18446744073709551615 := by omega
            have hn : nextN A actor = 18446744073709551615 := by unfold nextN; rw [hg]; rfl
            have hcov : covers A (actor, 18446744073709551615) = true := decide_eq_true ⟨by show (0 : Nat) < 18446744073709551615; omega, by show _ ≤ getN A actor; omega⟩
            clear hge hg
            go_wp2_with (first
              | (go_at_call 16; refine (covers2 (actor, 18446744073709551615) kA hcov (by omega)).mono ?_; rintro e w6 ⟨rfl, b6⟩; have hD2 := hD.below b6 hD.lt; have e1 := hD2.at 1 _ rfl)
              | (go_at_call 15; refine (next2 actor kA4 hn (by omega) hN).mono ?_; rintro e w5 ⟨rfl, b5⟩; have kA5 := kA4.up b5; have kB5 := kB4.up b5; have kC5 := kC4.up b5; have hX5 := hX4.below b5 hX4.lt; have x05 := hX5.at 0 _ rfl; have x15 := hX5.at 1 _ rfl; have x25 := hX5.at 2 _ rfl; clear kA4 kB4 kC4 hX4 x04 x14 x24; have kA := kA5.up (below_alloc w5 (.cells #[.int .u64 (actor : Int), .int .u64 18446744073709551615] 33)); have hX := hX5.alloc (.cells #[.int .u64 (actor : Int), .int .u64 18446744073709551615] 33); have x0 := hX.at 0 _ rfl; have hD := holds_new w5 [.int .u64 (actor : Int), .int .u64 18446744073709551615] 33; have d0 := hD.at 0 _ rfl; have d1 := hD.at 1 _ rfl; clear kA5 kB5 kC5 hX5))
            go_ret
            exact ⟨rfl, below_trans hB0 (below_trans (below_trans b1 (below_trans b2 (below_trans b3 (below_trans b4 b5)))) (below_trans (below_alloc w5 _) b6))⟩
        | false =>
          have vz : cmpV B C = 2 := v12
          clear v12
          go_wp2_with (first
            | (go_at_call 23; refine (compare2 kB3 kC3 vz (by omega)).mono ?_; rintro e w4 ⟨rfl, b4⟩; have kA4 := kA3.up b4; have kB4 := kB3.up b4; have kC4 := kC3.up b4; have hX4 := hX3.below b4 hX3.lt; have x04 := hX4.at 0 _ rfl; have x14 := hX4.at 1 _ rfl; have x24 := hX4.at 2 _ rfl; clear kA3 kB3 kC3 hX3 x03 x13 x23)
            | (go_at_call 23; refine (compare2 kB2 kA2 vy (by omega)).mono ?_; rintro e w3 ⟨rfl, b3⟩; have kA3 := kA2.up b3; have kB3 := kB2.up b3; have kC3 := kC2.up b3; have hX3 := hX2.below b3 hX2.lt; have x03 := hX3.at 0 _ rfl; have x13 := hX3.at 1 _ rfl; have x23 := hX3.at 2 _ rfl; clear kA2 kB2 kC2 hX2 x02 x12 x22)
            | (go_at_call 23; refine (compare2 kA1 kB1 vx (by omega)).mono ?_; rintro e w2 ⟨rfl, b2⟩; have kA2 := kA1.up b2; have kB2 := kB1.up b2; have kC2 := kC1.up b2; have hX2 := hX1.below b2 hX1.lt; have x02 := hX2.at 0 _ rfl; have x12 := hX2.at 1 _ rfl; have x22 := hX2.at 2 _ rfl; clear kA1 kB1 kC1 hX1 x01 x11 x21)
            | (go_at_call 10; refine h10.mono ?_; rintro e w1 ⟨rfl, b1⟩; have kA1 := kA0.up b1; have kB1 := kB0.up b1; have kC1 := kC0.up b1; have hX1 := hX0.below b1 hX0.lt; have x01 := hX1.at 0 _ rfl; have x11 := hX1.at 1 _ rfl; have x21 := hX1.at 2 _ rfl; clear kA0 kB0 kC0 hX0))
          rcases Nat.lt_or_ge (getN A actor) 18446744073709551615 with hlt | hge
          · have hn : nextN A actor = getN A actor + 1 := by unfold nextN; rw [if_pos hlt]
            obtain ⟨hcov, hcmp⟩ := next_more A actor hlt
            have lM := norm_len (A ++ [(actor, getN A actor + 1)])
            simp only [List.length_append, List.length_cons, List.length_nil] at lM
            generalize getN A actor + 1 = nx at *
            go_wp2_with (first
              | (go_at_call 16; refine (covers2 (actor, nx) kA hcov (by omega)).mono ?_; rintro e w6 ⟨rfl, b6⟩; have kA2 := kA.up b6; have hX2 := hX.below b6 hX.lt; have hD2 := hD.below b6 hD.lt; have z0 := hX2.at 0 _ rfl; have e0 := hD2.at 0 _ rfl; have e1 := hD2.at 1 _ rfl; clear kA hX hD x0 d0 d1)
              | (go_at_call 15; refine (next2 actor kA4 hn (by omega) hN).mono ?_; rintro e w5 ⟨rfl, b5⟩; have kA5 := kA4.up b5; have kB5 := kB4.up b5; have kC5 := kC4.up b5; have hX5 := hX4.below b5 hX4.lt; have x05 := hX5.at 0 _ rfl; have x15 := hX5.at 1 _ rfl; have x25 := hX5.at 2 _ rfl; clear kA4 kB4 kC4 hX4 x04 x14 x24; have kA := kA5.up (below_alloc w5 (.cells #[.int .u64 (actor : Int), .int .u64 (nx : Int)] 33)); have hX := hX5.alloc (.cells #[.int .u64 (actor : Int), .int .u64 (nx : Int)] 33); have x0 := hX.at 0 _ rfl; have hD := holds_new w5 [.int .u64 (actor : Int), .int .u64 (nx : Int)] 33; have d0 := hD.at 0 _ rfl; have d1 := hD.at 1 _ rfl; clear kA5 kB5 kC5 hX5))
            have v0 := World.new_ne _ _ z0
            have v1 := World.new_ne _ _ e0
            have v2 := World.new_ne _ _ e1
            go_region_held3 (fun w' => w'.cell? ⟨w.heap.size, 0, none⟩ = some (.slice aA A.length cA) ∧ w'.cell? ⟨w5.heap.size, 0, none⟩ = some (.int .u64 (actor : Int)) ∧ w'.cell? ⟨w5.heap.size, 1, none⟩ = some (.int .u64 (nx : Int))) (go_keep) (first
              | (go_at_call 23; refine (compare2 kA4 kM4 hcmp (by omega)).mono ?_; rintro e w8 ⟨rfl, b8⟩; have y0 := (hX4.below b8 hX4.lt).at 0 _ rfl; have f0 := (hD4.below b8 hD4.lt).at 0 _ rfl; have f1 := (hD4.below b8 hD4.lt).at 1 _ rfl)
              | (go_at_call 14; refine (add2 (W := w6.drew) (actor, nx) kA2.drew (by omega)).mono ?_; rintro e w7 ⟨a4, c4, rfl, q4, b7⟩; have kM4 := Makes.at q4; have kA4 := At.up kA2.drew b7; have hX4 := Holds.below (Holds.drew hX2) b7 hX2.lt; have hD4 := Holds.below (Holds.drew hD2) b7 hD2.lt; have g0 := hX4.at 0 _ rfl; have g1 := hD4.at 0 _ rfl; have g2 := hD4.at 1 _ rfl))
            all_goals
              go_wp2
              go_ret
              exact ⟨rfl, below_trans hB0 (below_trans (below_trans b1 (below_trans b2 (below_trans b3 (below_trans b4 b5)))) (below_trans (below_alloc w5 _) (below_trans b6 (below_trans ((Below.refl _ w6).drew) (below_trans b7 b8)))))⟩
          · have hg : getN A actor = 18446744073709551615 := by omega
            have hn : nextN A actor = 18446744073709551615 := by unfold nextN; rw [hg]; rfl
            have hcov : covers A (actor, 18446744073709551615) = true := decide_eq_true ⟨by show (0 : Nat) < 18446744073709551615; omega, by show _ ≤ getN A actor; omega⟩
            clear hge hg
            go_wp2_with (first
              | (go_at_call 16; refine (covers2 (actor, 18446744073709551615) kA hcov (by omega)).mono ?_; rintro e w6 ⟨rfl, b6⟩; have hD2 := hD.below b6 hD.lt; have e1 := hD2.at 1 _ rfl)
              | (go_at_call 15; refine (next2 actor kA4 hn (by omega) hN).mono ?_; rintro e w5 ⟨rfl, b5⟩; have kA5 := kA4.up b5; have kB5 := kB4.up b5; have kC5 := kC4.up b5; have hX5 := hX4.below b5 hX4.lt; have x05 := hX5.at 0 _ rfl; have x15 := hX5.at 1 _ rfl; have x25 := hX5.at 2 _ rfl; clear kA4 kB4 kC4 hX4 x04 x14 x24; have kA := kA5.up (below_alloc w5 (.cells #[.int .u64 (actor : Int), .int .u64 18446744073709551615] 33)); have hX := hX5.alloc (.cells #[.int .u64 (actor : Int), .int .u64 18446744073709551615] 33); have x0 := hX.at 0 _ rfl; have hD := holds_new w5 [.int .u64 (actor : Int), .int .u64 18446744073709551615] 33; have d0 := hD.at 0 _ rfl; have d1 := hD.at 1 _ rfl; clear kA5 kB5 kC5 hX5))
            go_ret
            exact ⟨rfl, below_trans hB0 (below_trans (below_trans b1 (below_trans b2 (below_trans b3 (below_trans b4 b5)))) (below_trans (below_alloc w5 _) b6))⟩
      | true =>
        have h02 : p02 = true := ht1 rfl rfl
        have h20 := ht2 rfl rfl
        clear ht1 ht2
        subst h02
        cases p21 with
        | true =>
          subst h20
          have vz : cmpV B C = 0 := v12
          have vw : cmpV A C = 0 := v02
          clear v12 v02
          go_wp2_with (first
            | (go_at_call 23; refine (compare2 kA4 kC4 vw (by omega)).mono ?_; rintro e w5 ⟨rfl, b5⟩; have kA5 := kA4.up b5; have kB5 := kB4.up b5; have kC5 := kC4.up b5; have hX5 := hX4.below b5 hX4.lt; have x05 := hX5.at 0 _ rfl; have x15 := hX5.at 1 _ rfl; have x25 := hX5.at 2 _ rfl; clear kA4 kB4 kC4 hX4 x04 x14 x24)
            | (go_at_call 23; refine (compare2 kB3 kC3 vz (by omega)).mono ?_; rintro e w4 ⟨rfl, b4⟩; have kA4 := kA3.up b4; have kB4 := kB3.up b4; have kC4 := kC3.up b4; have hX4 := hX3.below b4 hX3.lt; have x04 := hX4.at 0 _ rfl; have x14 := hX4.at 1 _ rfl; have x24 := hX4.at 2 _ rfl; clear kA3 kB3 kC3 hX3 x03 x13 x23)
            | (go_at_call 23; refine (compare2 kB2 kA2 vy (by omega)).mono ?_; rintro e w3 ⟨rfl, b3⟩; have kA3 := kA2.up b3; have kB3 := kB2.up b3; have kC3 := kC2.up b3; have hX3 := hX2.below b3 hX2.lt; have x03 := hX3.at 0 _ rfl; have x13 := hX3.at 1 _ rfl; have x23 := hX3.at 2 _ rfl; clear kA2 kB2 kC2 hX2 x02 x12 x22)
            | (go_at_call 23; refine (compare2 kA1 kB1 vx (by omega)).mono ?_; rintro e w2 ⟨rfl, b2⟩; have kA2 := kA1.up b2; have kB2 := kB1.up b2; have kC2 := kC1.up b2; have hX2 := hX1.below b2 hX1.lt; have x02 := hX2.at 0 _ rfl; have x12 := hX2.at 1 _ rfl; have x22 := hX2.at 2 _ rfl; clear kA1 kB1 kC1 hX1 x01 x11 x21)
            | (go_at_call 10; refine h10.mono ?_; rintro e w1 ⟨rfl, b1⟩; have kA1 := kA0.up b1; have kB1 := kB0.up b1; have kC1 := kC0.up b1; have hX1 := hX0.below b1 hX0.lt; have x01 := hX1.at 0 _ rfl; have x11 := hX1.at 1 _ rfl; have x21 := hX1.at 2 _ rfl; clear kA0 kB0 kC0 hX0))
          rcases Nat.lt_or_ge (getN A actor) 18446744073709551615 with hlt | hge
          · have hn : nextN A actor = getN A actor + 1 := by unfold nextN; rw [if_pos hlt]
            obtain ⟨hcov, hcmp⟩ := next_more A actor hlt
            have lM := norm_len (A ++ [(actor, getN A actor + 1)])
            simp only [List.length_append, List.length_cons, List.length_nil] at lM
            generalize getN A actor + 1 = nx at *
            go_wp2_with (first
              | (go_at_call 16; refine (covers2 (actor, nx) kA hcov (by omega)).mono ?_; rintro e w7 ⟨rfl, b7⟩; have kA2 := kA.up b7; have hX2 := hX.below b7 hX.lt; have hD2 := hD.below b7 hD.lt; have z0 := hX2.at 0 _ rfl; have e0 := hD2.at 0 _ rfl; have e1 := hD2.at 1 _ rfl; clear kA hX hD x0 d0 d1)
              | (go_at_call 15; refine (next2 actor kA5 hn (by omega) hN).mono ?_; rintro e w6 ⟨rfl, b6⟩; have kA6 := kA5.up b6; have kB6 := kB5.up b6; have kC6 := kC5.up b6; have hX6 := hX5.below b6 hX5.lt; have x06 := hX6.at 0 _ rfl; have x16 := hX6.at 1 _ rfl; have x26 := hX6.at 2 _ rfl; clear kA5 kB5 kC5 hX5 x05 x15 x25; have kA := kA6.up (below_alloc w6 (.cells #[.int .u64 (actor : Int), .int .u64 (nx : Int)] 33)); have hX := hX6.alloc (.cells #[.int .u64 (actor : Int), .int .u64 (nx : Int)] 33); have x0 := hX.at 0 _ rfl; have hD := holds_new w6 [.int .u64 (actor : Int), .int .u64 (nx : Int)] 33; have d0 := hD.at 0 _ rfl; have d1 := hD.at 1 _ rfl; clear kA6 kB6 kC6 hX6))
            have v0 := World.new_ne _ _ z0
            have v1 := World.new_ne _ _ e0
            have v2 := World.new_ne _ _ e1
            go_region_held3 (fun w' => w'.cell? ⟨w.heap.size, 0, none⟩ = some (.slice aA A.length cA) ∧ w'.cell? ⟨w6.heap.size, 0, none⟩ = some (.int .u64 (actor : Int)) ∧ w'.cell? ⟨w6.heap.size, 1, none⟩ = some (.int .u64 (nx : Int))) (go_keep) (first
              | (go_at_call 23; refine (compare2 kA4 kM4 hcmp (by omega)).mono ?_; rintro e w9 ⟨rfl, b9⟩; have y0 := (hX4.below b9 hX4.lt).at 0 _ rfl; have f0 := (hD4.below b9 hD4.lt).at 0 _ rfl; have f1 := (hD4.below b9 hD4.lt).at 1 _ rfl)
              | (go_at_call 14; refine (add2 (W := w7.drew) (actor, nx) kA2.drew (by omega)).mono ?_; rintro e w8 ⟨a4, c4, rfl, q4, b8⟩; have kM4 := Makes.at q4; have kA4 := At.up kA2.drew b8; have hX4 := Holds.below (Holds.drew hX2) b8 hX2.lt; have hD4 := Holds.below (Holds.drew hD2) b8 hD2.lt; have g0 := hX4.at 0 _ rfl; have g1 := hD4.at 0 _ rfl; have g2 := hD4.at 1 _ rfl))
            all_goals
              go_wp2
              go_ret
              exact ⟨rfl, below_trans hB0 (below_trans (below_trans b1 (below_trans b2 (below_trans b3 (below_trans b4 (below_trans b5 b6))))) (below_trans (below_alloc w6 _) (below_trans b7 (below_trans ((Below.refl _ w7).drew) (below_trans b8 b9)))))⟩
          · have hg : getN A actor = 18446744073709551615 := by omega
            have hn : nextN A actor = 18446744073709551615 := by unfold nextN; rw [hg]; rfl
            have hcov : covers A (actor, 18446744073709551615) = true := decide_eq_true ⟨by show (0 : Nat) < 18446744073709551615; omega, by show _ ≤ getN A actor; omega⟩
            clear hge hg
            go_wp2_with (first
              | (go_at_call 16; refine (covers2 (actor, 18446744073709551615) kA hcov (by omega)).mono ?_; rintro e w7 ⟨rfl, b7⟩; have hD2 := hD.below b7 hD.lt; have e1 := hD2.at 1 _ rfl)
              | (go_at_call 15; refine (next2 actor kA5 hn (by omega) hN).mono ?_; rintro e w6 ⟨rfl, b6⟩; have kA6 := kA5.up b6; have kB6 := kB5.up b6; have kC6 := kC5.up b6; have hX6 := hX5.below b6 hX5.lt; have x06 := hX6.at 0 _ rfl; have x16 := hX6.at 1 _ rfl; have x26 := hX6.at 2 _ rfl; clear kA5 kB5 kC5 hX5 x05 x15 x25; have kA := kA6.up (below_alloc w6 (.cells #[.int .u64 (actor : Int), .int .u64 18446744073709551615] 33)); have hX := hX6.alloc (.cells #[.int .u64 (actor : Int), .int .u64 18446744073709551615] 33); have x0 := hX.at 0 _ rfl; have hD := holds_new w6 [.int .u64 (actor : Int), .int .u64 18446744073709551615] 33; have d0 := hD.at 0 _ rfl; have d1 := hD.at 1 _ rfl; clear kA6 kB6 kC6 hX6))
            go_ret
            exact ⟨rfl, below_trans hB0 (below_trans (below_trans b1 (below_trans b2 (below_trans b3 (below_trans b4 (below_trans b5 b6))))) (below_trans (below_alloc w6 _) b7))⟩
        | false =>
          subst h20
          have vz : cmpV B C = -1 := v12
          have vw : cmpV A C = -1 := v02
          clear v12 v02
          go_wp2_with (first
            | (go_at_call 23; refine (compare2 kA4 kC4 vw (by omega)).mono ?_; rintro e w5 ⟨rfl, b5⟩; have kA5 := kA4.up b5; have kB5 := kB4.up b5; have kC5 := kC4.up b5; have hX5 := hX4.below b5 hX4.lt; have x05 := hX5.at 0 _ rfl; have x15 := hX5.at 1 _ rfl; have x25 := hX5.at 2 _ rfl; clear kA4 kB4 kC4 hX4 x04 x14 x24)
            | (go_at_call 23; refine (compare2 kB3 kC3 vz (by omega)).mono ?_; rintro e w4 ⟨rfl, b4⟩; have kA4 := kA3.up b4; have kB4 := kB3.up b4; have kC4 := kC3.up b4; have hX4 := hX3.below b4 hX3.lt; have x04 := hX4.at 0 _ rfl; have x14 := hX4.at 1 _ rfl; have x24 := hX4.at 2 _ rfl; clear kA3 kB3 kC3 hX3 x03 x13 x23)
            | (go_at_call 23; refine (compare2 kB2 kA2 vy (by omega)).mono ?_; rintro e w3 ⟨rfl, b3⟩; have kA3 := kA2.up b3; have kB3 := kB2.up b3; have kC3 := kC2.up b3; have hX3 := hX2.below b3 hX2.lt; have x03 := hX3.at 0 _ rfl; have x13 := hX3.at 1 _ rfl; have x23 := hX3.at 2 _ rfl; clear kA2 kB2 kC2 hX2 x02 x12 x22)
            | (go_at_call 23; refine (compare2 kA1 kB1 vx (by omega)).mono ?_; rintro e w2 ⟨rfl, b2⟩; have kA2 := kA1.up b2; have kB2 := kB1.up b2; have kC2 := kC1.up b2; have hX2 := hX1.below b2 hX1.lt; have x02 := hX2.at 0 _ rfl; have x12 := hX2.at 1 _ rfl; have x22 := hX2.at 2 _ rfl; clear kA1 kB1 kC1 hX1 x01 x11 x21)
            | (go_at_call 10; refine h10.mono ?_; rintro e w1 ⟨rfl, b1⟩; have kA1 := kA0.up b1; have kB1 := kB0.up b1; have kC1 := kC0.up b1; have hX1 := hX0.below b1 hX0.lt; have x01 := hX1.at 0 _ rfl; have x11 := hX1.at 1 _ rfl; have x21 := hX1.at 2 _ rfl; clear kA0 kB0 kC0 hX0))
          rcases Nat.lt_or_ge (getN A actor) 18446744073709551615 with hlt | hge
          · have hn : nextN A actor = getN A actor + 1 := by unfold nextN; rw [if_pos hlt]
            obtain ⟨hcov, hcmp⟩ := next_more A actor hlt
            have lM := norm_len (A ++ [(actor, getN A actor + 1)])
            simp only [List.length_append, List.length_cons, List.length_nil] at lM
            generalize getN A actor + 1 = nx at *
            go_wp2_with (first
              | (go_at_call 16; refine (covers2 (actor, nx) kA hcov (by omega)).mono ?_; rintro e w7 ⟨rfl, b7⟩; have kA2 := kA.up b7; have hX2 := hX.below b7 hX.lt; have hD2 := hD.below b7 hD.lt; have z0 := hX2.at 0 _ rfl; have e0 := hD2.at 0 _ rfl; have e1 := hD2.at 1 _ rfl; clear kA hX hD x0 d0 d1)
              | (go_at_call 15; refine (next2 actor kA5 hn (by omega) hN).mono ?_; rintro e w6 ⟨rfl, b6⟩; have kA6 := kA5.up b6; have kB6 := kB5.up b6; have kC6 := kC5.up b6; have hX6 := hX5.below b6 hX5.lt; have x06 := hX6.at 0 _ rfl; have x16 := hX6.at 1 _ rfl; have x26 := hX6.at 2 _ rfl; clear kA5 kB5 kC5 hX5 x05 x15 x25; have kA := kA6.up (below_alloc w6 (.cells #[.int .u64 (actor : Int), .int .u64 (nx : Int)] 33)); have hX := hX6.alloc (.cells #[.int .u64 (actor : Int), .int .u64 (nx : Int)] 33); have x0 := hX.at 0 _ rfl; have hD := holds_new w6 [.int .u64 (actor : Int), .int .u64 (nx : Int)] 33; have d0 := hD.at 0 _ rfl; have d1 := hD.at 1 _ rfl; clear kA6 kB6 kC6 hX6))
            have v0 := World.new_ne _ _ z0
            have v1 := World.new_ne _ _ e0
            have v2 := World.new_ne _ _ e1
            go_region_held3 (fun w' => w'.cell? ⟨w.heap.size, 0, none⟩ = some (.slice aA A.length cA) ∧ w'.cell? ⟨w6.heap.size, 0, none⟩ = some (.int .u64 (actor : Int)) ∧ w'.cell? ⟨w6.heap.size, 1, none⟩ = some (.int .u64 (nx : Int))) (go_keep) (first
              | (go_at_call 23; refine (compare2 kA4 kM4 hcmp (by omega)).mono ?_; rintro e w9 ⟨rfl, b9⟩; have y0 := (hX4.below b9 hX4.lt).at 0 _ rfl; have f0 := (hD4.below b9 hD4.lt).at 0 _ rfl; have f1 := (hD4.below b9 hD4.lt).at 1 _ rfl)
              | (go_at_call 14; refine (add2 (W := w7.drew) (actor, nx) kA2.drew (by omega)).mono ?_; rintro e w8 ⟨a4, c4, rfl, q4, b8⟩; have kM4 := Makes.at q4; have kA4 := At.up kA2.drew b8; have hX4 := Holds.below (Holds.drew hX2) b8 hX2.lt; have hD4 := Holds.below (Holds.drew hD2) b8 hD2.lt; have g0 := hX4.at 0 _ rfl; have g1 := hD4.at 0 _ rfl; have g2 := hD4.at 1 _ rfl))
            all_goals
              go_wp2
              go_ret
              exact ⟨rfl, below_trans hB0 (below_trans (below_trans b1 (below_trans b2 (below_trans b3 (below_trans b4 (below_trans b5 b6))))) (below_trans (below_alloc w6 _) (below_trans b7 (below_trans ((Below.refl _ w7).drew) (below_trans b8 b9)))))⟩
          · have hg : getN A actor = 18446744073709551615 := by omega
            have hn : nextN A actor = 18446744073709551615 := by unfold nextN; rw [hg]; rfl
            have hcov : covers A (actor, 18446744073709551615) = true := decide_eq_true ⟨by show (0 : Nat) < 18446744073709551615; omega, by show _ ≤ getN A actor; omega⟩
            clear hge hg
            go_wp2_with (first
              | (go_at_call 16; refine (covers2 (actor, 18446744073709551615) kA hcov (by omega)).mono ?_; rintro e w7 ⟨rfl, b7⟩; have hD2 := hD.below b7 hD.lt; have e1 := hD2.at 1 _ rfl)
              | (go_at_call 15; refine (next2 actor kA5 hn (by omega) hN).mono ?_; rintro e w6 ⟨rfl, b6⟩; have kA6 := kA5.up b6; have kB6 := kB5.up b6; have kC6 := kC5.up b6; have hX6 := hX5.below b6 hX5.lt; have x06 := hX6.at 0 _ rfl; have x16 := hX6.at 1 _ rfl; have x26 := hX6.at 2 _ rfl; clear kA5 kB5 kC5 hX5 x05 x15 x25; have kA := kA6.up (below_alloc w6 (.cells #[.int .u64 (actor : Int), .int .u64 18446744073709551615] 33)); have hX := hX6.alloc (.cells #[.int .u64 (actor : Int), .int .u64 18446744073709551615] 33); have x0 := hX.at 0 _ rfl; have hD := holds_new w6 [.int .u64 (actor : Int), .int .u64 18446744073709551615] 33; have d0 := hD.at 0 _ rfl; have d1 := hD.at 1 _ rfl; clear kA6 kB6 kC6 hX6))
            go_ret
            exact ⟨rfl, below_trans hB0 (below_trans (below_trans b1 (below_trans b2 (below_trans b3 (below_trans b4 (below_trans b5 b6))))) (below_trans (below_alloc w6 _) b7))⟩
end Go.Proofs.Ytbmeflildmeecaa
