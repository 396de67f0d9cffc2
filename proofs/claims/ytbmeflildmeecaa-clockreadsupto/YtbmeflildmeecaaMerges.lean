/- ClockMerges (6): the law's call returns true. -/
import Derived.Test.YtbmeflildmeecaaClOpen
namespace Go.Proofs.Ytbmeflildmeecaa
open Go.RowKit Go.Shelf Go.Sort Go.Lib Pk

theorem clks_three {G : Nat → Prop} {b : Nat} {w : World} {u v x : Value} {c d e : List Dt} (hb : G b) (h0 : w.cell? ⟨b, 0, none⟩ = some u) (h1 : w.cell? ⟨b, 1, none⟩ = some v) (h2 : w.cell? ⟨b, 2, none⟩ = some x) (hu : Clk G w u c) (hv : Clk G w v d) (hx : Clk G w x e) : Clks G w (.slice (some ⟨b, 0, none⟩) 3 3) [c, d, e] :=
  ⟨_, _, rfl, fun i l q => by
    match i, q with
    | 0, q => cases q; exact ⟨b, 0, u, rfl, hb, h0, hu⟩
    | 1, q => cases q; exact ⟨b, 0, v, rfl, hb, h1, hv⟩
    | 2, q => cases q; exact ⟨b, 0, x, rfl, hb, h2, hx⟩
    | i + 3, q => simp at q⟩
/-- v is the clock c in world W. -/
def At (W : World) (v : Value) (c : List Dt) : Prop := Hid (Clk (Lt W.heap.size) W v c)
theorem At.up {W W' : World} {v : Value} {c : List Dt} (h : At W v c) (hB : Below W.heap.size W W') : At W' v c := Clk.up (Hid.out h) hB
theorem merge2 {W : World} {u v : Value} {c d : List Dt} (hu : At W u c) (hv : At W v d) (hl : c.length + d.length ≤ 8796093022208) :
    Calls Try.prog 17 #[.slice (some ⟨W.heap.size, 0, none⟩) 2 2] (W.alloc (.cells #[u, v] 28)) (Makes W (norm (c ++ d))) := by
  have h := merge_makes (.slice (some ⟨W.heap.size, 0, none⟩) 2 2) [c, d] (by simp) (by simp; omega) (by simpa using hl) (W.alloc (.cells #[u, v] 28)) (clks_two (by simp) ((holds_new W [u, v] 28).at 0 _ rfl) ((holds_new W [u, v] 28).at 1 _ rfl) (Clk.up (Hid.out hu) (below_alloc _ _)) (Clk.up (Hid.out hv) (below_alloc _ _)))
  rw [show [c, d].flatten = c ++ d by simp] at h
  exact h.mono (fun e w' hm => hm.alloc)
theorem merge3 {W : World} {u v x : Value} {c d e : List Dt} (hu : At W u c) (hv : At W v d) (hx : At W x e) (hl : c.length + d.length + e.length ≤ 8796093022208) :
    Calls Try.prog 17 #[.slice (some ⟨W.heap.size, 0, none⟩) 3 3] (W.alloc (.cells #[u, v, x] 28)) (Makes W (norm (c ++ (d ++ e)))) := by
  have h := merge_makes (.slice (some ⟨W.heap.size, 0, none⟩) 3 3) [c, d, e] (by simp) (by simp; omega) (by simp; omega) (W.alloc (.cells #[u, v, x] 28)) (clks_three (by simp) ((holds_new W [u, v, x] 28).at 0 _ rfl) ((holds_new W [u, v, x] 28).at 1 _ rfl) ((holds_new W [u, v, x] 28).at 2 _ rfl) (Clk.up (Hid.out hu) (below_alloc _ _)) (Clk.up (Hid.out hv) (below_alloc _ _)) (Clk.up (Hid.out hx) (below_alloc _ _)))
  rw [show [c, d, e].flatten = c ++ (d ++ e) by simp] at h
  exact h.mono (fun e w' hm => hm.alloc)
theorem norm1 {W : World} {u : Value} {c : List Dt} (hu : At W u c) (hl : c.length ≤ 8796093022208) : Calls Try.prog 13 #[u] W (Makes W (norm c)) := norm_any u c hl W (Hid.out hu)
theorem same2 {W : World} {u v : Value} {c d : List Dt} (hu : At W u c) (hv : At W v d) (h : c = d) (hl : c.length < 9223372036854775807) : Calls Try.prog 18 #[u, v] W fun e w' => e = .returned (.bool true) ∧ Below W.heap.size W w' := by
  have := same_any u v c d hl (by rw [← h]; exact hl) W (Hid.out hu) (Hid.out hv)
  rwa [decide_eq_true h] at this
theorem covers2 {W : World} {u : Value} {c : List Dt} {p : Bool} (d : Dt) (hu : At W u c) (hp : covers c d = p) (hl : c.length < 9223372036854775807) : Calls Try.prog 16 #[u, dotV d] W fun e w' => e = .returned (.bool p) ∧ Below W.heap.size W w' := by
  have := covers_any u c d hl W (Hid.out hu)
  rwa [hp] at this
theorem compare2 {W : World} {u v : Value} {c d : List Dt} {x : Int} (hu : At W u c) (hv : At W v d) (hx : cmpV c d = x) (hl : c.length + d.length ≤ 8796093022208) : Calls Try.prog 23 #[u, v] W fun e w' => e = .returned (.int .i64 x) ∧ Below W.heap.size W w' := by
  have := compare_clk u v c d hl W (Hid.out hu) (Hid.out hv)
  rwa [hx] at this
theorem Makes.at {W w' : World} {a : Option Addr} {n cap : Nat} {c : List Dt} (h : Clk (From W.heap.size w') w' (.slice a n cap) c) : At w' (.slice a n cap) c := h.made

theorem norm_comm (a b : List Dt) : norm (a ++ b) = norm (b ++ a) := norm_eq (fun x => by rw [getN_append, getN_append, Nat.max_comm])
theorem norm_assoc (a b c : List Dt) : norm (norm (a ++ b) ++ c) = norm (a ++ norm (b ++ c)) := norm_eq (fun x => by rw [getN_append, getN_norm, getN_append, getN_append, getN_norm, getN_append, Nat.max_assoc])
theorem norm_twice (a : List Dt) : norm (a ++ a) = norm a := norm_eq (fun x => by rw [getN_append, Nat.max_self])
theorem norm_turn (a b c : List Dt) : norm (a ++ (b ++ c)) = norm (c ++ (b ++ a)) := norm_eq (fun x => by simp only [getN_append]; omega)
theorem covers_all (a b c : List Dt) (d : Dt) : covers (norm (a ++ (b ++ c))) d = (covers a d || covers b d || covers c d) := by
  unfold covers
  rw [getN_norm, getN_append, getN_append]
  by_cases h : 0 < d.2
  · by_cases h1 : d.2 ≤ getN a d.1 <;> by_cases h2 : d.2 ≤ getN b d.1 <;> by_cases h3 : d.2 ≤ getN c d.1 <;> simp [h, h1, h2, h3] <;> omega
  · simp [h]
theorem cmp_part (a m : List Dt) (h : ∀ x, getN a x ≤ getN m x) : cmpV a m = -1 ∨ cmpV a m = 0 := by
  unfold cmpV
  have : norm (a ++ m) = norm m := norm_eq (fun x => by rw [getN_append]; have := h x; omega)
  rw [if_pos this]
  split
  · exact .inr rfl
  · exact .inl rfl

set_option maxRecDepth 100000 in
set_option maxHeartbeats 40000000 in
theorem merges_walk (A B C : List Dt) (d : Dt) (hA : A.length ≤ 1048576) (hB : B.length ≤ 1048576) (hC : C.length ≤ 1048576) (aA aB aC : Option Addr) (cA cB cC : Nat) (w : World) (kA : Clk (Lt w.heap.size) w (.slice aA A.length cA) A) (kB : Clk (Lt w.heap.size) w (.slice aB B.length cB) B) (kC : Clk (Lt w.heap.size) w (.slice aC C.length cC) C) :
    Calls Try.prog 6 #[.agg #[.slice aA A.length cA, .slice aB B.length cB, .slice aC C.length cC], dotV d] w fun e w' => e = .returned (.bool true) ∧ Below w.heap.size w w' := by
  have hB0 : Below w.heap.size w ((w.alloc (.cells #[.slice aA A.length cA, .slice aB B.length cB, .slice aC C.length cC] 42)).alloc (.cells #[.int .u64 (d.1 : Int), .int .u64 (d.2 : Int)] 33)) := below_trans (below_alloc w _) (below_alloc _ _)
  have h10 := awake_any ((w.alloc (.cells #[.slice aA A.length cA, .slice aB B.length cB, .slice aC C.length cC] 42)).alloc (.cells #[.int .u64 (d.1 : Int), .int .u64 (d.2 : Int)] 33))
  have hX0 := (holds_new w [.slice aA A.length cA, .slice aB B.length cB, .slice aC C.length cC] 42).alloc (.cells #[.int .u64 (d.1 : Int), .int .u64 (d.2 : Int)] 33)
  have hD0 := holds_new (w.alloc (.cells #[.slice aA A.length cA, .slice aB B.length cB, .slice aC C.length cC] 42)) [.int .u64 (d.1 : Int), .int .u64 (d.2 : Int)] 33
  rw [World.size_alloc] at hD0
  have kA0 : At ((w.alloc (.cells #[.slice aA A.length cA, .slice aB B.length cB, .slice aC C.length cC] 42)).alloc (.cells #[.int .u64 (d.1 : Int), .int .u64 (d.2 : Int)] 33)) (.slice aA A.length cA) A := kA.up hB0
  have kB0 : At ((w.alloc (.cells #[.slice aA A.length cA, .slice aB B.length cB, .slice aC C.length cC] 42)).alloc (.cells #[.int .u64 (d.1 : Int), .int .u64 (d.2 : Int)] 33)) (.slice aB B.length cB) B := kB.up hB0
  have kC0 : At ((w.alloc (.cells #[.slice aA A.length cA, .slice aB B.length cB, .slice aC C.length cC] 42)).alloc (.cells #[.int .u64 (d.1 : Int), .int .u64 (d.2 : Int)] 33)) (.slice aC C.length cC) C := kC.up hB0
  clear kA kB kC
  have l1 := norm_len (A ++ B)
  have l2 := norm_len (B ++ C)
  have l3 := norm_len (A ++ norm (B ++ C))
  have l4 := norm_len (A ++ A)
  have l5 := norm_len (A ++ (B ++ C))
  have l6 := norm_len A
  have l7 := norm_len (norm (A ++ B) ++ C)
  have l8 := norm_len (C ++ (B ++ A))
  have l9 := norm_len (B ++ A)
  simp only [List.length_append] at l1 l2 l3 l4 l5 l7 l8 l9
  have hcov := covers_all A B C d
  have hcmp := cmp_part A (norm (A ++ (B ++ C))) (fun x => by rw [getN_norm, getN_append, getN_append]; omega)
  go_enter Try.func6, Try.ntmps6
  go_wp2_with (first
    | (go_at_call 18; refine (same2 kM914 kM1014 (norm_turn A B C) (by omega)).mono ?_; rintro e w15 ⟨rfl, b15⟩; have kA15 := kA14.up b15; have kB15 := kB14.up b15; have kC15 := kC14.up b15; have kM915 := kM914.up b15; have hD15 := hD14.below b15 hD14.lt; clear kA14 kB14 kC14 kM914 kM1014 hD14; have d015 := hD15.at 0 _ rfl; have d115 := hD15.at 1 _ rfl)
    | (go_at_call 17; refine (merge3 kC13 kB13 kA13 (by omega)).mono ?_; rintro e w14 ⟨aM10, cM10, rfl, qM10, b14⟩; have kM1014 := Makes.at qM10; clear qM10; have kA14 := kA13.up b14; have kB14 := kB13.up b14; have kC14 := kC13.up b14; have kM914 := kM913.up b14; have hD14 := hD13.below b14 hD13.lt; clear kA13 kB13 kC13 kM913 hD13)
    | (go_at_call 17; refine (merge3 kA12 kB12 kC12 (by omega)).mono ?_; rintro e w13 ⟨aM9, cM9, rfl, qM9, b13⟩; have kM913 := Makes.at qM9; clear qM9; have kA13 := kA12.up b13; have kB13 := kB12.up b13; have kC13 := kC12.up b13; have hD13 := hD12.below b13 hD12.lt; clear kA12 kB12 kC12 hD12)
    | (go_at_call 18; refine (same2 kM711 kM811 (norm_twice A) (by omega)).mono ?_; rintro e w12 ⟨rfl, b12⟩; have kA12 := kA11.up b12; have kB12 := kB11.up b12; have kC12 := kC11.up b12; have hD12 := hD11.below b12 hD11.lt; clear kA11 kB11 kC11 kM711 kM811 hD11)
    | (go_at_call 13; refine (norm1 kA10 (by omega)).mono ?_; rintro e w11 ⟨aM8, cM8, rfl, qM8, b11⟩; have kM811 := Makes.at qM8; clear qM8; have kA11 := kA10.up b11; have kB11 := kB10.up b11; have kC11 := kC10.up b11; have kM711 := kM710.up b11; have hD11 := hD10.below b11 hD10.lt; clear kA10 kB10 kC10 kM710 hD10)
    | (go_at_call 17; refine (merge2 kA9 kA9 (by omega)).mono ?_; rintro e w10 ⟨aM7, cM7, rfl, qM7, b10⟩; have kM710 := Makes.at qM7; clear qM7; have kA10 := kA9.up b10; have kB10 := kB9.up b10; have kC10 := kC9.up b10; have hD10 := hD9.below b10 hD9.lt; clear kA9 kB9 kC9 hD9)
    | (go_at_call 18; refine (same2 kM48 kM68 (norm_assoc A B C) (by omega)).mono ?_; rintro e w9 ⟨rfl, b9⟩; have kA9 := kA8.up b9; have kB9 := kB8.up b9; have kC9 := kC8.up b9; have hD9 := hD8.below b9 hD8.lt; clear kA8 kB8 kC8 kM48 kM68 hD8)
    | (go_at_call 17; refine (merge2 kA7 kM57 (by omega)).mono ?_; rintro e w8 ⟨aM6, cM6, rfl, qM6, b8⟩; have kM68 := Makes.at qM6; clear qM6; have kA8 := kA7.up b8; have kB8 := kB7.up b8; have kC8 := kC7.up b8; have kM48 := kM47.up b8; have hD8 := hD7.below b8 hD7.lt; clear kA7 kB7 kC7 kM47 kM57 hD7)
    | (go_at_call 17; refine (merge2 kB6 kC6 (by omega)).mono ?_; rintro e w7 ⟨aM5, cM5, rfl, qM5, b7⟩; have kM57 := Makes.at qM5; clear qM5; have kA7 := kA6.up b7; have kB7 := kB6.up b7; have kC7 := kC6.up b7; have kM47 := kM46.up b7; have hD7 := hD6.below b7 hD6.lt; clear kA6 kB6 kC6 kM46 hD6)
    | (go_at_call 17; refine (merge2 kM35 kC5 (by omega)).mono ?_; rintro e w6 ⟨aM4, cM4, rfl, qM4, b6⟩; have kM46 := Makes.at qM4; clear qM4; have kA6 := kA5.up b6; have kB6 := kB5.up b6; have kC6 := kC5.up b6; have hD6 := hD5.below b6 hD5.lt; clear kA5 kB5 kC5 kM35 hD5)
    | (go_at_call 17; refine (merge2 kA4 kB4 (by omega)).mono ?_; rintro e w5 ⟨aM3, cM3, rfl, qM3, b5⟩; have kM35 := Makes.at qM3; clear qM3; have kA5 := kA4.up b5; have kB5 := kB4.up b5; have kC5 := kC4.up b5; have hD5 := hD4.below b5 hD4.lt; clear kA4 kB4 kC4 hD4)
    | (go_at_call 18; refine (same2 kM13 kM23 (norm_comm A B) (by omega)).mono ?_; rintro e w4 ⟨rfl, b4⟩; have kA4 := kA3.up b4; have kB4 := kB3.up b4; have kC4 := kC3.up b4; have hD4 := hD3.below b4 hD3.lt; clear kA3 kB3 kC3 kM13 kM23 hD3)
    | (go_at_call 17; refine (merge2 kB2 kA2 (by omega)).mono ?_; rintro e w3 ⟨aM2, cM2, rfl, qM2, b3⟩; have kM23 := Makes.at qM2; clear qM2; have kA3 := kA2.up b3; have kB3 := kB2.up b3; have kC3 := kC2.up b3; have kM13 := kM12.up b3; have hD3 := hD2.below b3 hD2.lt; clear kA2 kB2 kC2 kM12 hD2)
    | (go_at_call 17; refine (merge2 kA1 kB1 (by omega)).mono ?_; rintro e w2 ⟨aM1, cM1, rfl, qM1, b2⟩; have kM12 := Makes.at qM1; clear qM1; have kA2 := kA1.up b2; have kB2 := kB1.up b2; have kC2 := kC1.up b2; have hD2 := hD1.below b2 hD1.lt; clear kA1 kB1 kC1 hD1)
    | (go_at_call 10; refine h10.mono ?_; rintro e w1 ⟨rfl, b1⟩; have kA1 := kA0.up b1; have kB1 := kB0.up b1; have kC1 := kC0.up b1; have hD1 := hD0.below b1 hD0.lt; have hX := hX0.below b1 hX0.lt; have x0 := hX.at 0 _ rfl; have x1 := hX.at 1 _ rfl; have x2 := hX.at 2 _ rfl; clear kA0 kB0 kC0 hD0))
  clear hX0 x0 x1 x2 hX
  obtain ⟨x, hx⟩ : ∃ x, cmpV A (norm (A ++ (B ++ C))) = x := ⟨_, rfl⟩
  rw [hx] at hcmp
  rcases hcmp with rfl | rfl
  · cases pA : covers A d with
    | true =>
      rw [pA] at hcov
      have pM : covers (norm (A ++ (B ++ C))) d = true := by simpa using hcov
      clear hcov
      go_wp2_with (first
        | (go_at_call 16; refine (covers2 d kM917 pM (by omega)).mono ?_; rintro e w18 ⟨rfl, b18⟩)
        | (go_at_call 23; refine (compare2 kA16 kM916 hx (by omega)).mono ?_; rintro e w17 ⟨rfl, b17⟩; have kA17 := kA16.up b17; have kB17 := kB16.up b17; have kC17 := kC16.up b17; have kM917 := kM916.up b17; have hD17 := hD16.below b17 hD16.lt; have d017 := hD17.at 0 _ rfl; have d117 := hD17.at 1 _ rfl; clear kA16 kB16 kC16 kM916 hD16 d016 d116)
        | (go_at_call 16; refine (covers2 d kA15 pA (by omega)).mono ?_; rintro e w16 ⟨rfl, b16⟩; have kA16 := kA15.up b16; have kB16 := kB15.up b16; have kC16 := kC15.up b16; have kM916 := kM915.up b16; have hD16 := hD15.below b16 hD15.lt; have d016 := hD16.at 0 _ rfl; have d116 := hD16.at 1 _ rfl; clear kA15 kB15 kC15 kM915 hD15 d015 d115))
      go_ret
      exact ⟨rfl, below_trans hB0 (below_trans b1 (below_trans b2 (below_trans b3 (below_trans b4 (below_trans b5 (below_trans b6 (below_trans b7 (below_trans b8 (below_trans b9 (below_trans b10 (below_trans b11 (below_trans b12 (below_trans b13 (below_trans b14 (below_trans b15 (below_trans b16 (below_trans b17 b18)))))))))))))))))⟩
    | false =>
      cases pB : covers B d with
      | true =>
        rw [pA, pB] at hcov
        have pM : covers (norm (A ++ (B ++ C))) d = true := by simpa using hcov
        clear hcov
        go_wp2_with (first
          | (go_at_call 16; refine (covers2 d kM918 pM (by omega)).mono ?_; rintro e w19 ⟨rfl, b19⟩)
          | (go_at_call 23; refine (compare2 kA17 kM917 hx (by omega)).mono ?_; rintro e w18 ⟨rfl, b18⟩; have kA18 := kA17.up b18; have kB18 := kB17.up b18; have kC18 := kC17.up b18; have kM918 := kM917.up b18; have hD18 := hD17.below b18 hD17.lt; have d018 := hD18.at 0 _ rfl; have d118 := hD18.at 1 _ rfl; clear kA17 kB17 kC17 kM917 hD17 d017 d117)
          | (go_at_call 16; refine (covers2 d kB16 pB (by omega)).mono ?_; rintro e w17 ⟨rfl, b17⟩; have kA17 := kA16.up b17; have kB17 := kB16.up b17; have kC17 := kC16.up b17; have kM917 := kM916.up b17; have hD17 := hD16.below b17 hD16.lt; have d017 := hD17.at 0 _ rfl; have d117 := hD17.at 1 _ rfl; clear kA16 kB16 kC16 kM916 hD16 d016 d116)
          | (go_at_call 16; refine (covers2 d kA15 pA (by omega)).mono ?_; rintro e w16 ⟨rfl, b16⟩; have kA16 := kA15.up b16; have kB16 := kB15.up b16; have kC16 := kC15.up b16; have kM916 := kM915.up b16; have hD16 := hD15.below b16 hD15.lt; have d016 := hD16.at 0 _ rfl; have d116 := hD16.at 1 _ rfl; clear kA15 kB15 kC15 kM915 hD15 d015 d115))
        go_ret
        exact ⟨rfl, below_trans hB0 (below_trans b1 (below_trans b2 (below_trans b3 (below_trans b4 (below_trans b5 (below_trans b6 (below_trans b7 (below_trans b8 (below_trans b9 (below_trans b10 (below_trans b11 (below_trans b12 (below_trans b13 (below_trans b14 (below_trans b15 (below_trans b16 (below_trans b17 (below_trans b18 b19))))))))))))))))))⟩
      | false =>
        cases pC : covers C d with
        | true =>
          rw [pA, pB, pC] at hcov
          have pM : covers (norm (A ++ (B ++ C))) d = true := by simpa using hcov
          clear hcov
          go_wp2_with (first
            | (go_at_call 16; refine (covers2 d kM919 pM (by omega)).mono ?_; rintro e w20 ⟨rfl, b20⟩)
            | (go_at_call 23; refine (compare2 kA18 kM918 hx (by omega)).mono ?_; rintro e w19 ⟨rfl, b19⟩; have kA19 := kA18.up b19; have kB19 := kB18.up b19; have kC19 := kC18.up b19; have kM919 := kM918.up b19; have hD19 := hD18.below b19 hD18.lt; have d019 := hD19.at 0 _ rfl; have d119 := hD19.at 1 _ rfl; clear kA18 kB18 kC18 kM918 hD18 d018 d118)
            | (go_at_call 16; refine (covers2 d kC17 pC (by omega)).mono ?_; rintro e w18 ⟨rfl, b18⟩; have kA18 := kA17.up b18; have kB18 := kB17.up b18; have kC18 := kC17.up b18; have kM918 := kM917.up b18; have hD18 := hD17.below b18 hD17.lt; have d018 := hD18.at 0 _ rfl; have d118 := hD18.at 1 _ rfl; clear kA17 kB17 kC17 kM917 hD17 d017 d117)
            | (go_at_call 16; refine (covers2 d kB16 pB (by omega)).mono ?_; rintro e w17 ⟨rfl, b17⟩; have kA17 := kA16.up b17; have kB17 := kB16.up b17; have kC17 := kC16.up b17; have kM917 := kM916.up b17; have hD17 := hD16.below b17 hD16.lt; have d017 := hD17.at 0 _ rfl; have d117 := hD17.at 1 _ rfl; clear kA16 kB16 kC16 kM916 hD16 d016 d116)
            | (go_at_call 16; refine (covers2 d kA15 pA (by omega)).mono ?_; rintro e w16 ⟨rfl, b16⟩; have kA16 := kA15.up b16; have kB16 := kB15.up b16; have kC16 := kC15.up b16; have kM916 := kM915.up b16; have hD16 := hD15.below b16 hD15.lt; have d016 := hD16.at 0 _ rfl; have d116 := hD16.at 1 _ rfl; clear kA15 kB15 kC15 kM915 hD15 d015 d115))
          go_ret
          exact ⟨rfl, below_trans hB0 (below_trans b1 (below_trans b2 (below_trans b3 (below_trans b4 (below_trans b5 (below_trans b6 (below_trans b7 (below_trans b8 (below_trans b9 (below_trans b10 (below_trans b11 (below_trans b12 (below_trans b13 (below_trans b14 (below_trans b15 (below_trans b16 (below_trans b17 (below_trans b18 (below_trans b19 b20)))))))))))))))))))⟩
        | false =>
          rw [pA, pB, pC] at hcov
          have pM : covers (norm (A ++ (B ++ C))) d = false := by simpa using hcov
          clear hcov
          go_wp2_with (first
            | (go_at_call 16; refine (covers2 d kM919 pM (by omega)).mono ?_; rintro e w20 ⟨rfl, b20⟩)
            | (go_at_call 23; refine (compare2 kA18 kM918 hx (by omega)).mono ?_; rintro e w19 ⟨rfl, b19⟩; have kA19 := kA18.up b19; have kB19 := kB18.up b19; have kC19 := kC18.up b19; have kM919 := kM918.up b19; have hD19 := hD18.below b19 hD18.lt; have d019 := hD19.at 0 _ rfl; have d119 := hD19.at 1 _ rfl; clear kA18 kB18 kC18 kM918 hD18 d018 d118)
            | (go_at_call 16; refine (covers2 d kC17 pC (by omega)).mono ?_; rintro e w18 ⟨rfl, b18⟩; have kA18 := kA17.up b18; have kB18 := kB17.up b18; have kC18 := kC17.up b18; have kM918 := kM917.up b18; have hD18 := hD17.below b18 hD17.lt; have d018 := hD18.at 0 _ rfl; have d118 := hD18.at 1 _ rfl; clear kA17 kB17 kC17 kM917 hD17 d017 d117)
            | (go_at_call 16; refine (covers2 d kB16 pB (by omega)).mono ?_; rintro e w17 ⟨rfl, b17⟩; have kA17 := kA16.up b17; have kB17 := kB16.up b17; have kC17 := kC16.up b17; have kM917 := kM916.up b17; have hD17 := hD16.below b17 hD16.lt; have d017 := hD17.at 0 _ rfl; have d117 := hD17.at 1 _ rfl; clear kA16 kB16 kC16 kM916 hD16 d016 d116)
            | (go_at_call 16; refine (covers2 d kA15 pA (by omega)).mono ?_; rintro e w16 ⟨rfl, b16⟩; have kA16 := kA15.up b16; have kB16 := kB15.up b16; have kC16 := kC15.up b16; have kM916 := kM915.up b16; have hD16 := hD15.below b16 hD15.lt; have d016 := hD16.at 0 _ rfl; have d116 := hD16.at 1 _ rfl; clear kA15 kB15 kC15 kM915 hD15 d015 d115))
          go_ret
          exact ⟨rfl, below_trans hB0 (below_trans b1 (below_trans b2 (below_trans b3 (below_trans b4 (below_trans b5 (below_trans b6 (below_trans b7 (below_trans b8 (below_trans b9 (below_trans b10 (below_trans b11 (below_trans b12 (below_trans b13 (below_trans b14 (below_trans b15 (below_trans b16 (below_trans b17 (below_trans b18 (below_trans b19 b20)))))))))))))))))))⟩
  · cases pA : covers A d with
    | true =>
      rw [pA] at hcov
      have pM : covers (norm (A ++ (B ++ C))) d = true := by simpa using hcov
      clear hcov
      go_wp2_with (first
        | (go_at_call 16; refine (covers2 d kM917 pM (by omega)).mono ?_; rintro e w18 ⟨rfl, b18⟩)
        | (go_at_call 23; refine (compare2 kA16 kM916 hx (by omega)).mono ?_; rintro e w17 ⟨rfl, b17⟩; have kA17 := kA16.up b17; have kB17 := kB16.up b17; have kC17 := kC16.up b17; have kM917 := kM916.up b17; have hD17 := hD16.below b17 hD16.lt; have d017 := hD17.at 0 _ rfl; have d117 := hD17.at 1 _ rfl; clear kA16 kB16 kC16 kM916 hD16 d016 d116)
        | (go_at_call 16; refine (covers2 d kA15 pA (by omega)).mono ?_; rintro e w16 ⟨rfl, b16⟩; have kA16 := kA15.up b16; have kB16 := kB15.up b16; have kC16 := kC15.up b16; have kM916 := kM915.up b16; have hD16 := hD15.below b16 hD15.lt; have d016 := hD16.at 0 _ rfl; have d116 := hD16.at 1 _ rfl; clear kA15 kB15 kC15 kM915 hD15 d015 d115))
      go_ret
      exact ⟨rfl, below_trans hB0 (below_trans b1 (below_trans b2 (below_trans b3 (below_trans b4 (below_trans b5 (below_trans b6 (below_trans b7 (below_trans b8 (below_trans b9 (below_trans b10 (below_trans b11 (below_trans b12 (below_trans b13 (below_trans b14 (below_trans b15 (below_trans b16 (below_trans b17 b18)))))))))))))))))⟩
    | false =>
      cases pB : covers B d with
      | true =>
        rw [pA, pB] at hcov
        have pM : covers (norm (A ++ (B ++ C))) d = true := by simpa using hcov
        clear hcov
        go_wp2_with (first
          | (go_at_call 16; refine (covers2 d kM918 pM (by omega)).mono ?_; rintro e w19 ⟨rfl, b19⟩)
          | (go_at_call 23; refine (compare2 kA17 kM917 hx (by omega)).mono ?_; rintro e w18 ⟨rfl, b18⟩; have kA18 := kA17.up b18; have kB18 := kB17.up b18; have kC18 := kC17.up b18; have kM918 := kM917.up b18; have hD18 := hD17.below b18 hD17.lt; have d018 := hD18.at 0 _ rfl; have d118 := hD18.at 1 _ rfl; clear kA17 kB17 kC17 kM917 hD17 d017 d117)
          | (go_at_call 16; refine (covers2 d kB16 pB (by omega)).mono ?_; rintro e w17 ⟨rfl, b17⟩; have kA17 := kA16.up b17; have kB17 := kB16.up b17; have kC17 := kC16.up b17; have kM917 := kM916.up b17; have hD17 := hD16.below b17 hD16.lt; have d017 := hD17.at 0 _ rfl; have d117 := hD17.at 1 _ rfl; clear kA16 kB16 kC16 kM916 hD16 d016 d116)
          | (go_at_call 16; refine (covers2 d kA15 pA (by omega)).mono ?_; rintro e w16 ⟨rfl, b16⟩; have kA16 := kA15.up b16; have kB16 := kB15.up b16; have kC16 := kC15.up b16; have kM916 := kM915.up b16; have hD16 := hD15.below b16 hD15.lt; have d016 := hD16.at 0 _ rfl; have d116 := hD16.at 1 _ rfl; clear kA15 kB15 kC15 kM915 hD15 d015 d115))
        go_ret
        exact ⟨rfl, below_trans hB0 (below_trans b1 (below_trans b2 (below_trans b3 (below_trans b4 (below_trans b5 (below_trans b6 (below_trans b7 (below_trans b8 (below_trans b9 (below_trans b10 (below_trans b11 (below_trans b12 (below_trans b13 (below_trans b14 (below_trans b15 (below_trans b16 (below_trans b17 (below_trans b18 b19))))))))))))))))))⟩
      | false =>
        cases pC : covers C d with
        | true =>
          rw [pA, pB, pC] at hcov
          have pM : covers (norm (A ++ (B ++ C))) d = true := by simpa using hcov
          clear hcov
          go_wp2_with (first
            | (go_at_call 16; refine (covers2 d kM919 pM (by omega)).mono ?_; rintro e w20 ⟨rfl, b20⟩)
            | (go_at_call 23; refine (compare2 kA18 kM918 hx (by omega)).mono ?_; rintro e w19 ⟨rfl, b19⟩; have kA19 := kA18.up b19; have kB19 := kB18.up b19; have kC19 := kC18.up b19; have kM919 := kM918.up b19; have hD19 := hD18.below b19 hD18.lt; have d019 := hD19.at 0 _ rfl; have d119 := hD19.at 1 _ rfl; clear kA18 kB18 kC18 kM918 hD18 d018 d118)
            | (go_at_call 16; refine (covers2 d kC17 pC (by omega)).mono ?_; rintro e w18 ⟨rfl, b18⟩; have kA18 := kA17.up b18; have kB18 := kB17.up b18; have kC18 := kC17.up b18; have kM918 := kM917.up b18; have hD18 := hD17.below b18 hD17.lt; have d018 := hD18.at 0 _ rfl; have d118 := hD18.at 1 _ rfl; clear kA17 kB17 kC17 kM917 hD17 d017 d117)
            | (go_at_call 16; refine (covers2 d kB16 pB (by omega)).mono ?_; rintro e w17 ⟨rfl, b17⟩; have kA17 := kA16.up b17; have kB17 := kB16.up b17; have kC17 := kC16.up b17; have kM917 := kM916.up b17; have hD17 := hD16.below b17 hD16.lt; have d017 := hD17.at 0 _ rfl; have d117 := hD17.at 1 _ rfl; clear kA16 kB16 kC16 kM916 hD16 d016 d116)
            | (go_at_call 16; refine (covers2 d kA15 pA (by omega)).mono ?_; rintro e w16 ⟨rfl, b16⟩; have kA16 := kA15.up b16; have kB16 := kB15.up b16; have kC16 := kC15.up b16; have kM916 := kM915.up b16; have hD16 := hD15.below b16 hD15.lt; have d016 := hD16.at 0 _ rfl; have d116 := hD16.at 1 _ rfl; clear kA15 kB15 kC15 kM915 hD15 d015 d115))
          go_ret
          exact ⟨rfl, below_trans hB0 (below_trans b1 (below_trans b2 (below_trans b3 (below_trans b4 (below_trans b5 (below_trans b6 (below_trans b7 (below_trans b8 (below_trans b9 (below_trans b10 (below_trans b11 (below_trans b12 (below_trans b13 (below_trans b14 (below_trans b15 (below_trans b16 (below_trans b17 (below_trans b18 (below_trans b19 b20)))))))))))))))))))⟩
        | false =>
          rw [pA, pB, pC] at hcov
          have pM : covers (norm (A ++ (B ++ C))) d = false := by simpa using hcov
          clear hcov
          go_wp2_with (first
            | (go_at_call 16; refine (covers2 d kM919 pM (by omega)).mono ?_; rintro e w20 ⟨rfl, b20⟩)
            | (go_at_call 23; refine (compare2 kA18 kM918 hx (by omega)).mono ?_; rintro e w19 ⟨rfl, b19⟩; have kA19 := kA18.up b19; have kB19 := kB18.up b19; have kC19 := kC18.up b19; have kM919 := kM918.up b19; have hD19 := hD18.below b19 hD18.lt; have d019 := hD19.at 0 _ rfl; have d119 := hD19.at 1 _ rfl; clear kA18 kB18 kC18 kM918 hD18 d018 d118)
            | (go_at_call 16; refine (covers2 d kC17 pC (by omega)).mono ?_; rintro e w18 ⟨rfl, b18⟩; have kA18 := kA17.up b18; have kB18 := kB17.up b18; have kC18 := kC17.up b18; have kM918 := kM917.up b18; have hD18 := hD17.below b18 hD17.lt; have d018 := hD18.at 0 _ rfl; have d118 := hD18.at 1 _ rfl; clear kA17 kB17 kC17 kM917 hD17 d017 d117)
            | (go_at_call 16; refine (covers2 d kB16 pB (by omega)).mono ?_; rintro e w17 ⟨rfl, b17⟩; have kA17 := kA16.up b17; have kB17 := kB16.up b17; have kC17 := kC16.up b17; have kM917 := kM916.up b17; have hD17 := hD16.below b17 hD16.lt; have d017 := hD17.at 0 _ rfl; have d117 := hD17.at 1 _ rfl; clear kA16 kB16 kC16 kM916 hD16 d016 d116)
            | (go_at_call 16; refine (covers2 d kA15 pA (by omega)).mono ?_; rintro e w16 ⟨rfl, b16⟩; have kA16 := kA15.up b16; have kB16 := kB15.up b16; have kC16 := kC15.up b16; have kM916 := kM915.up b16; have hD16 := hD15.below b16 hD15.lt; have d016 := hD16.at 0 _ rfl; have d116 := hD16.at 1 _ rfl; clear kA15 kB15 kC15 kM915 hD15 d015 d115))
          go_ret
          exact ⟨rfl, below_trans hB0 (below_trans b1 (below_trans b2 (below_trans b3 (below_trans b4 (below_trans b5 (below_trans b6 (below_trans b7 (below_trans b8 (below_trans b9 (below_trans b10 (below_trans b11 (below_trans b12 (below_trans b13 (below_trans b14 (below_trans b15 (below_trans b16 (below_trans b17 (below_trans b18 (below_trans b19 b20)))))))))))))))))))⟩
end Go.Proofs.Ytbmeflildmeecaa
