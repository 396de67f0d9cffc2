/- ClockBytes (8): the law's call returns true. -/
import Derived.Test.YtbmeflildmeecaaMerges
import Derived.Test.YtbmeflildmeecaaClRefText
import Derived.Test.YtbmeflildmeecaaClRefAct
namespace Go.Proofs.Ytbmeflildmeecaa
open Go.RowKit Go.Shelf Go.Sort Go.Lib Pk

theorem bytes1 {W : World} {u : Value} {c : List Dt} {S : ByteArray} (hu : At W u c) (hl : c.length ≤ 1099511627776) (hf : Fit c) (hS : strL (bytesC c) = S) : Calls Try.prog 28 #[u] W fun e w' => e = .returned (.string S) ∧ Below W.heap.size W w' := hS ▸ bytes_any u c hl hf W (Hid.out hu)
theorem text1 {W : World} {u : Value} {c : List Dt} {S : ByteArray} (hu : At W u c) (hl : c.length ≤ 1099511627776) (hf : Fit c) (hS : strL (textC c) = S) : Calls Try.prog 29 #[u] W fun e w' => e = .returned (.string S) ∧ Below W.heap.size W w' := hS ▸ text_any u c hl hf W (Hid.out hu)
theorem rbytes1 {W : World} {u : Value} {c : List Dt} {S : ByteArray} (hu : At W u c) (hl : c.length ≤ 1099511627776) (hf : Fit c) (hS : strL (bytesC c) = S) : Calls Try.prog 33 #[u] W fun e w' => e = .returned (.string S) ∧ Below W.heap.size W w' := hS ▸ refBytes_any u c hl hf W (Hid.out hu)
theorem rtext1 {W : World} {u : Value} {c : List Dt} {S : ByteArray} (hu : At W u c) (hl : c.length ≤ 1099511627776) (hf : Fit c) (hS : strL (textC c) = S) : Calls Try.prog 34 #[u] W fun e w' => e = .returned (.string S) ∧ Below W.heap.size W w' := hS ▸ refText_any u c hl hf W (Hid.out hu)
theorem rnorm1 {W : World} {u : Value} {c : List Dt} (hu : At W u c) (hl : c.length ≤ 1099511627776) : Calls Try.prog 19 #[u] W (Makes W (norm c)) := refNorm_any u c hl W (Hid.out hu)
theorem bytesC_len {c : List Dt} (hl : c.length ≤ 1048576) (hf : Fit c) : (bytesC c).length ≤ 20971530 := by
  have n1 := norm_len c
  have n2 := numL_len10 (norm c).length (by omega)
  have n3 := dotB_len hf.norm
  unfold bytesC bytesR
  rw [List.length_append]
  omega
theorem textC_len {c : List Dt} (hl : c.length ≤ 1048576) (hf : Fit c) : (textC c).length ≤ 41943060 := by
  have := bytesC_len hl hf
  unfold textC
  rw [hex_len]
  omega

set_option maxRecDepth 100000 in
set_option maxHeartbeats 40000000 in
theorem bytes_walk (C : List Dt) (hC : C.length ≤ 1048576) (hf : Fit C) (aC : Option Addr) (cC : Nat) (n0 n1 n2 : Int) (w : World) (kC : Clk (Lt w.heap.size) w (.slice aC C.length cC) C) :
    Calls Try.prog 8 #[.slice aC C.length cC, .agg #[.int .i64 n0, .int .i64 n1, .int .i64 n2]] w fun e w' => e = .returned (.bool true) ∧ Below w.heap.size w w' := by
  have hB0 : Below w.heap.size w (w.alloc (.cells #[.int .i64 n0, .int .i64 n1, .int .i64 n2] 22)) := below_alloc w _
  have h10 := awake_any (w.alloc (.cells #[.int .i64 n0, .int .i64 n1, .int .i64 n2] 22))
  have hX0 := holds_new w [.int .i64 n0, .int .i64 n1, .int .i64 n2] 22
  have kC0 : At (w.alloc (.cells #[.int .i64 n0, .int .i64 n1, .int .i64 n2] 22)) (.slice aC C.length cC) C := kC.up hB0
  have hC40 : C.length ≤ 1099511627776 := by omega
  have l1 := norm_len C
  obtain ⟨r1, r2⟩ := rdV_back C hf (by omega)
  obtain ⟨p1, p2⟩ := psV_back C hf (by omega)
  have s1 : (strL (bytesC C)).size ≤ 549755813888 := by have := bytesC_len hC hf; rw [strL_size]; omega
  have s2 : (strL (textC C)).size ≤ 549755813888 := by have := textC_len hC hf; rw [strL_size]; omega
  have h30 : Hid (∀ W : World, Calls Try.prog 30 #[.string (strL (bytesC C))] W (MakesE W (norm C) 0)) := fun W => by have := cread_any (strL (bytesC C)) s1 W; rwa [r1, r2] at this
  have h31 : Hid (∀ W : World, Calls Try.prog 31 #[.string (strL (textC C))] W (MakesE W (norm C) 0)) := fun W => by have := parse_any (strL (textC C)) s2 W; rwa [p1, p2] at this
  have h11 := fun W => actor_any n0 n1 n2 W
  have h35 := fun W => refActor_any n0 n1 n2 W
  obtain ⟨a1, a2, a3⟩ := parts_act n0 n1 n2
  have hXl : actN n0 n1 n2 < 18446744073709551616 := by unfold actN; omega
  have h32 := fun W => parts_any (actN n0 n1 n2) hXl W
  simp only [a1, a2, a3] at h32
  have m1 := and_mask16 n0
  have m2 := and_mask16 n1
  have m3 := and_mask32 n2
  clear kC r1 r2 p1 p2 s1 s2 a1 a2 a3 hXl
  generalize actN n0 n1 n2 = X at *
  generalize n0 % 65536 = q0 at *
  generalize n1 % 65536 = q1 at *
  generalize n2 % 4294967296 = q2 at *
  go_enter Try.func8, Try.ntmps8
  go_wp2_with (first
    | (go_at_call 35; refine (h35 w10).mono ?_; rintro e w11 ⟨rfl, e11⟩; have e11 := e11.symm; subst e11)
    | (go_at_call 34; refine (rtext1 kC9 hC40 hf rfl).mono ?_; rintro e w10 ⟨rfl, b10⟩; have hX10 := hX9.below b10 hX9.lt; have x010 := hX10.at 0 _ rfl; have x110 := hX10.at 1 _ rfl; have x210 := hX10.at 2 _ rfl; clear kC9 hX9)
    | (go_at_call 33; refine (rbytes1 kC8 hC40 hf rfl).mono ?_; rintro e w9 ⟨rfl, b9⟩; have kC9 := kC8.up b9; have hX9 := hX8.below b9 hX8.lt; clear kC8 hX8)
    | (go_at_call 18; refine (same2 kA7 kB7 rfl (by omega)).mono ?_; rintro e w8 ⟨rfl, b8⟩; have kC8 := kC7.up b8; have hX8 := hX7.below b8 hX7.lt; clear kC7 kA7 kB7 hX7)
    | (go_at_call 18; refine (same2 kA6 kM6 rfl (by omega)).mono ?_; rintro e w7 ⟨rfl, b7⟩; have kC7 := kC6.up b7; have kA7 := kA6.up b7; have kB7 := kB6.up b7; have hX7 := hX6.below b7 hX6.lt; clear kC6 kA6 kB6 kM6 hX6)
    | (go_at_call 19; have mk := mk32; refine (rnorm1 kC5 hC40).mono ?_; rintro e w6 ⟨aM, cM, rfl, qM, b6⟩; have kM6 := Makes.at qM; clear qM; have kC6 := kC5.up b6; have kA6 := kA5.up b6; have kB6 := kB5.up b6; have hX6 := hX5.below b6 hX5.lt; clear kC5 kA5 kB5 hX5 x05 x15 x25)
    | (go_at_call 32; have mk := mk11; refine (h32 w5).mono ?_; rintro e w6 ⟨rfl, e6⟩; have e6 := e6.symm; subst e6; have mk32 : True := trivial)
    | (go_at_call 11; refine (h11 w5).mono ?_; rintro e w6 ⟨rfl, e6⟩; have e6 := e6.symm; subst e6; have mk11 : True := trivial)
    | (go_at_call 31; refine (h31.out w4).mono ?_; rintro e w5 ⟨aB, cB, rfl, qB, b5⟩; have kB5 := Makes.at qB; clear qB; have kC5 := kC4.up b5; have kA5 := kA4.up b5; have hX5 := hX4.below b5 hX4.lt; have x05 := hX5.at 0 _ rfl; have x15 := hX5.at 1 _ rfl; have x25 := hX5.at 2 _ rfl; clear kC4 kA4 hX4)
    | (go_at_call 30; refine (h30.out w3).mono ?_; rintro e w4 ⟨aA, cA, rfl, qA, b4⟩; have kA4 := Makes.at qA; clear qA; have kC4 := kC3.up b4; have hX4 := hX3.below b4 hX3.lt; clear kC3 hX3)
    | (go_at_call 29; refine (text1 kC2 hC40 hf rfl).mono ?_; rintro e w3 ⟨rfl, b3⟩; have kC3 := kC2.up b3; have hX3 := hX2.below b3 hX2.lt; clear kC2 hX2)
    | (go_at_call 28; refine (bytes1 kC1 hC40 hf rfl).mono ?_; rintro e w2 ⟨rfl, b2⟩; have kC2 := kC1.up b2; have hX2 := hX1.below b2 hX1.lt; clear kC1 hX1)
    | (go_at_call 10; refine h10.mono ?_; rintro e w1 ⟨rfl, b1⟩; have kC1 := kC0.up b1; have hX1 := hX0.below b1 hX0.lt; clear kC0 hX0))
  go_ret
  exact ⟨rfl, below_trans hB0 (below_trans b1 (below_trans b2 (below_trans b3 (below_trans b4 (below_trans b5 (below_trans b6 (below_trans b7 (below_trans b8 (below_trans b9 b10)))))))))⟩
end Go.Proofs.Ytbmeflildmeecaa
