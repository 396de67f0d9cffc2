/- Actor (11), and ClockActors (3). -/
import Derived.Test.YtbmeflildmeecaaClAwake
namespace Go.Proofs.Ytbmeflildmeecaa
open Go.RowKit Go.Shelf Go.Sort Go.Lib Pk

theorem wrap_u16 (n : Int) : IntKind.u16.wrap n = n % 65536 := by simp [IntKind.wrap, IntKind.bits, IntKind.signed]
theorem or_high (A B : Nat) (k : Nat) (h : B < 2 ^ k) : (A * 2 ^ k) ||| B = A * 2 ^ k + B := by
  rw [Nat.mul_comm, Nat.two_pow_add_eq_or_of_lt h]
def actN (a b c : Int) : Nat := (a % 65536).toNat * 281474976710656 + (b % 65536).toNat * 4294967296 + (c % 4294967296).toNat
theorem act_raw (a b c : Int) : bits .or .u64 (bits .or .u64 (IntKind.u64.wrap (IntKind.u64.wrap (IntKind.u16.wrap a) * 281474976710656)) (IntKind.u64.wrap (IntKind.u64.wrap (IntKind.u16.wrap b) * 4294967296))) (c % 4294967296) = (actN a b c : Int) := by
  obtain ⟨A, hA⟩ : ∃ A, (a % 65536).toNat = A := ⟨_, rfl⟩
  obtain ⟨B, hB⟩ : ∃ B, (b % 65536).toNat = B := ⟨_, rfl⟩
  obtain ⟨C, hC⟩ : ∃ C, (c % 4294967296).toNat = C := ⟨_, rfl⟩
  have h1 : IntKind.u64.wrap (IntKind.u64.wrap (IntKind.u16.wrap a) * 281474976710656) = ((A * 281474976710656 : Nat) : Int) := by rw [wrap_u16, wrap_u64, wrap_u64]; omega
  have h2 : IntKind.u64.wrap (IntKind.u64.wrap (IntKind.u16.wrap b) * 4294967296) = ((B * 4294967296 : Nat) : Int) := by rw [wrap_u16, wrap_u64, wrap_u64]; omega
  have h3 : c % 4294967296 = (C : Int) := by omega
  have hA' : A < 65536 := by omega
  have hB' : B < 65536 := by omega
  have hC' : C < 4294967296 := by omega
  have e1 : (A * 281474976710656) ||| (B * 4294967296) = A * 281474976710656 + B * 4294967296 := or_high A (B * 4294967296) 48 (by omega)
  have e2 : (A * 281474976710656 + B * 4294967296) ||| C = A * 281474976710656 + B * 4294967296 + C := by
    have := or_high (A * 65536 + B) C 32 hC'
    rw [show (A * 65536 + B) * 2 ^ 32 = A * 281474976710656 + B * 4294967296 by omega] at this
    exact this
  unfold actN
  rw [h1, h2, or_u64 _ _ (by omega) (by omega), e1, h3, or_u64 _ _ (by omega) (by omega), e2, hA, hB]
  congr 1
set_option maxRecDepth 100000 in
set_option maxHeartbeats 1000000 in
theorem actor_any (a b c : Int) (w : World) : Calls Try.prog 11 #[.int .i64 a, .int .i64 b, .int .i64 c] w fun e w' => e = .returned (.int .u64 (actN a b c : Int)) ∧ w' = w := by
  have h := act_raw a b c
  go_enter Try.func11, Try.ntmps11
  go_wp2
  go_ret
  exact ⟨rfl, rfl⟩
theorem act_iff (a b c x y z : Int) : actN a b c = actN x y z ↔ a % 65536 = x % 65536 ∧ b % 65536 = y % 65536 ∧ c % 4294967296 = z % 4294967296 := by
  unfold actN
  omega
theorem and_mask16 (a : Int) : bits .and .i64 a 65535 = a % 65536 := by
  show IntKind.i64.wrap ((BitVec.ofInt 64 a &&& BitVec.ofInt 64 65535).toNat : Int) = _
  have e : (BitVec.ofInt 64 (65535 : Int)).toNat = 65535 := by decide
  have m : (BitVec.ofInt 64 a).toNat &&& 65535 = (BitVec.ofInt 64 a).toNat % 65536 := Nat.and_two_pow_sub_one_eq_mod _ 16
  rw [BitVec.toNat_and, e, m, BitVec.toNat_ofInt, wrap_i64]
  omega
theorem and_mask32 (a : Int) : bits .and .i64 a 4294967295 = a % 4294967296 := by
  show IntKind.i64.wrap ((BitVec.ofInt 64 a &&& BitVec.ofInt 64 4294967295).toNat : Int) = _
  have e : (BitVec.ofInt 64 (4294967295 : Int)).toNat = 4294967295 := by decide
  have m : (BitVec.ofInt 64 a).toNat &&& 4294967295 = (BitVec.ofInt 64 a).toNat % 4294967296 := Nat.and_two_pow_sub_one_eq_mod _ 32
  rw [BitVec.toNat_and, e, m, BitVec.toNat_ofInt, wrap_i64]
  omega

set_option maxRecDepth 100000 in
set_option maxHeartbeats 4000000 in
theorem actors_walk (a0 a1 a2 b0 b1 b2 : Int) (w : World) :
    Calls Try.prog 3 #[.agg #[.int .i64 a0, .int .i64 a1, .int .i64 a2], .agg #[.int .i64 b0, .int .i64 b1, .int .i64 b2]] w fun e w' => e = .returned (.bool true) ∧ Below w.heap.size w w' := by
  have hB0 : Below w.heap.size w ((w.alloc (.cells #[.int .i64 a0, .int .i64 a1, .int .i64 a2] 22)).alloc (.cells #[.int .i64 b0, .int .i64 b1, .int .i64 b2] 22)) := below_trans (below_alloc w _) (below_alloc _ _)
  have h10 := awake_any ((w.alloc (.cells #[.int .i64 a0, .int .i64 a1, .int .i64 a2] 22)).alloc (.cells #[.int .i64 b0, .int .i64 b1, .int .i64 b2] 22))
  have hA := (holds_new w [.int .i64 a0, .int .i64 a1, .int .i64 a2] 22).alloc (.cells #[.int .i64 b0, .int .i64 b1, .int .i64 b2] 22)
  have hB := holds_new (w.alloc (.cells #[.int .i64 a0, .int .i64 a1, .int .i64 a2] 22)) [.int .i64 b0, .int .i64 b1, .int .i64 b2] 22
  rw [World.size_alloc] at hB
  have h11a := fun W => actor_any a0 a1 a2 W
  have h11b := fun W => actor_any b0 b1 b2 W
  have hiff := act_iff a0 a1 a2 b0 b1 b2
  have m1 := and_mask16 a0
  have m2 := and_mask16 a1
  have m3 := and_mask32 a2
  have m4 := and_mask16 b0
  have m5 := and_mask16 b1
  have m6 := and_mask32 b2
  generalize actN a0 a1 a2 = X at *
  generalize actN b0 b1 b2 = Y at *
  generalize a0 % 65536 = p0 at *
  generalize a1 % 65536 = p1 at *
  generalize a2 % 4294967296 = p2 at *
  generalize b0 % 65536 = q0 at *
  generalize b1 % 65536 = q1 at *
  generalize b2 % 4294967296 = q2 at *
  by_cases e0 : p0 = q0
  · by_cases e1 : p1 = q1
    · by_cases e2 : p2 = q2
      · have hXY : X = Y := hiff.2 ⟨e0, e1, e2⟩
        subst e0 e1 e2 hXY
        clear hiff
        go_enter Try.func3, Try.ntmps3
        go_wp2_with (first
          | (go_at_call 11; have mk := mkA; refine (h11b _).mono ?_; rintro e w3 ⟨rfl, hw3⟩; have hw3 := hw3.symm; subst hw3)
          | (go_at_call 11; refine (h11a _).mono ?_; rintro e w3 ⟨rfl, hw3⟩; have hw3 := hw3.symm; subst hw3; have mkA : True := trivial)
          | (go_at_call 10; refine h10.mono ?_; rintro e w2 ⟨rfl, b2⟩; have kA := hA.below b2 hA.lt; have kB := hB.below b2 hB.lt; have x0 := kA.at 0 _ rfl; have x1 := kA.at 1 _ rfl; have x2 := kA.at 2 _ rfl; have y0 := kB.at 0 _ rfl; have y1 := kB.at 1 _ rfl; have y2 := kB.at 2 _ rfl))
        go_ret
        exact ⟨rfl, below_trans hB0 b2⟩
      · have he2 : (p2 == q2) = false := beq_eq_false_iff_ne.2 e2
        have hXN : ¬ X = Y := fun e => e2 (hiff.1 e).2.2
        have hXY : ((X : Int) == (Y : Int)) = false := beq_eq_false_iff_ne.2 (fun e => hXN (by omega))
        subst e0 e1
        clear hiff
        go_enter Try.func3, Try.ntmps3
        go_wp2_with (first
          | (go_at_call 11; have mk := mkA; refine (h11b _).mono ?_; rintro e w3 ⟨rfl, hw3⟩; have hw3 := hw3.symm; subst hw3)
          | (go_at_call 11; refine (h11a _).mono ?_; rintro e w3 ⟨rfl, hw3⟩; have hw3 := hw3.symm; subst hw3; have mkA : True := trivial)
          | (go_at_call 10; refine h10.mono ?_; rintro e w2 ⟨rfl, b2⟩; have kA := hA.below b2 hA.lt; have kB := hB.below b2 hB.lt; have x0 := kA.at 0 _ rfl; have x1 := kA.at 1 _ rfl; have x2 := kA.at 2 _ rfl; have y0 := kB.at 0 _ rfl; have y1 := kB.at 1 _ rfl; have y2 := kB.at 2 _ rfl))
        go_ret
        exact ⟨rfl, below_trans hB0 b2⟩
    · have hXN : ¬ X = Y := fun e => e1 (hiff.1 e).2.1
      have hXY : ((X : Int) == (Y : Int)) = false := beq_eq_false_iff_ne.2 (fun e => hXN (by omega))
      subst e0
      clear hiff
      go_enter Try.func3, Try.ntmps3
      go_wp2_with (first
        | (go_at_call 11; have mk := mkA; refine (h11b _).mono ?_; rintro e w3 ⟨rfl, hw3⟩; have hw3 := hw3.symm; subst hw3)
        | (go_at_call 11; refine (h11a _).mono ?_; rintro e w3 ⟨rfl, hw3⟩; have hw3 := hw3.symm; subst hw3; have mkA : True := trivial)
        | (go_at_call 10; refine h10.mono ?_; rintro e w2 ⟨rfl, b2⟩; have kA := hA.below b2 hA.lt; have kB := hB.below b2 hB.lt; have x0 := kA.at 0 _ rfl; have x1 := kA.at 1 _ rfl; have x2 := kA.at 2 _ rfl; have y0 := kB.at 0 _ rfl; have y1 := kB.at 1 _ rfl; have y2 := kB.at 2 _ rfl))
      go_ret
      exact ⟨rfl, below_trans hB0 b2⟩
  · have hXN : ¬ X = Y := fun e => e0 (hiff.1 e).1
    have hXY : ((X : Int) == (Y : Int)) = false := beq_eq_false_iff_ne.2 (fun e => hXN (by omega))
    clear hiff
    go_enter Try.func3, Try.ntmps3
    go_wp2_with (first
      | (go_at_call 11; have mk := mkA; refine (h11b _).mono ?_; rintro e w3 ⟨rfl, hw3⟩; have hw3 := hw3.symm; subst hw3)
      | (go_at_call 11; refine (h11a _).mono ?_; rintro e w3 ⟨rfl, hw3⟩; have hw3 := hw3.symm; subst hw3; have mkA : True := trivial)
      | (go_at_call 10; refine h10.mono ?_; rintro e w2 ⟨rfl, b2⟩; have kA := hA.below b2 hA.lt; have kB := hB.below b2 hB.lt; have x0 := kA.at 0 _ rfl; have x1 := kA.at 1 _ rfl; have x2 := kA.at 2 _ rfl; have y0 := kB.at 0 _ rfl; have y1 := kB.at 1 _ rfl; have y2 := kB.at 2 _ rfl))
    go_ret
    exact ⟨rfl, below_trans hB0 b2⟩
end Go.Proofs.Ytbmeflildmeecaa
