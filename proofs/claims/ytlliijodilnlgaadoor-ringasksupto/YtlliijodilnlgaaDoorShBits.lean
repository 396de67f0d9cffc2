/- What the small functions on 32-bit words of package sha answer (rot, the four sigmas, choose, majority): proved for every word; they touch no memory. -/
import Derived.Test.YtlliijodilnlgaaDoorProg
import Derived.Test.YtlliijodilnlgaaDoorShPure
import Derived.Test.YtlliijodilnlgaaDoorLaws
import Derived.WalkKit
import Derived.WalkSpells
import Derived.WalkLawsBesides
namespace Go.Proofs.YtlliijodilnlgaaDoor
open Go.RowKit

theorem wrap_u32 (n : Int) : IntKind.u32.wrap n = n % 4294967296 := by simp [IntKind.wrap, IntKind.bits, IntKind.signed]
theorem ofInt_toNat (x : BitVec 32) : BitVec.ofInt 32 (x.toNat : Int) = x := by
  apply BitVec.eq_of_toNat_eq
  rw [BitVec.toNat_ofInt]
  have := x.isLt
  omega
theorem wrap_toNat (x : BitVec 32) : IntKind.u32.wrap (x.toNat : Int) = x.toNat := by
  rw [wrap_u32]
  have := x.isLt
  omega
theorem u_xor (x y : BitVec 32) : bits .xor .u32 (x.toNat : Int) (y.toNat : Int) = ((x ^^^ y).toNat : Int) := by
  show IntKind.u32.wrap ((BitVec.ofInt 32 (x.toNat : Int) ^^^ BitVec.ofInt 32 (y.toNat : Int)).toNat : Int) = _
  rw [ofInt_toNat, ofInt_toNat, wrap_toNat]
theorem u_and (x y : BitVec 32) : bits .and .u32 (x.toNat : Int) (y.toNat : Int) = ((x &&& y).toNat : Int) := by
  show IntKind.u32.wrap ((BitVec.ofInt 32 (x.toNat : Int) &&& BitVec.ofInt 32 (y.toNat : Int)).toNat : Int) = _
  rw [ofInt_toNat, ofInt_toNat, wrap_toNat]
theorem u_or (x y : BitVec 32) : bits .or .u32 (x.toNat : Int) (y.toNat : Int) = ((x ||| y).toNat : Int) := by
  show IntKind.u32.wrap ((BitVec.ofInt 32 (x.toNat : Int) ||| BitVec.ofInt 32 (y.toNat : Int)).toNat : Int) = _
  rw [ofInt_toNat, ofInt_toNat, wrap_toNat]
theorem u_not (x : BitVec 32) : bits .xor .u32 IntKind.u32.max (x.toNat : Int) = ((~~~x).toNat : Int) := by
  show IntKind.u32.wrap ((BitVec.ofInt 32 IntKind.u32.max ^^^ BitVec.ofInt 32 (x.toNat : Int)).toNat : Int) = _
  rw [ofInt_toNat, wrap_toNat, show BitVec.ofInt 32 IntKind.u32.max = BitVec.allOnes 32 by decide, BitVec.allOnes_xor]
theorem u_add (x y : BitVec 32) : IntKind.u32.wrap ((x.toNat : Int) + (y.toNat : Int)) = ((x + y).toNat : Int) := by
  rw [wrap_u32, BitVec.toNat_add]; omega
theorem u_addm (x y : BitVec 32) : ((x.toNat : Int) + (y.toNat : Int)) % (4294967296 : Int) = ((x + y).toNat : Int) := by rw [← wrap_u32, u_add]
theorem u_shl (x : BitVec 32) (n : Nat) : IntKind.u32.wrap ((x.toNat : Int) * 2 ^ n) = ((x <<< n).toNat : Int) := by
  rw [wrap_u32, BitVec.toNat_shiftLeft, Nat.shiftLeft_eq]
  simp
theorem u_shr (x : BitVec 32) (n : Nat) : (x.toNat : Int) / 2 ^ n = ((x >>> n).toNat : Int) := by
  rw [BitVec.toNat_ushiftRight, Nat.shiftRight_eq_div_pow]; simp

theorem u_shr10 (x : BitVec 32) : (x.toNat : Int) / (1024 : Int) = ((x >>> 10).toNat : Int) := by have := u_shr x 10; simpa using this
theorem u_shr3 (x : BitVec 32) : (x.toNat : Int) / (8 : Int) = ((x >>> 3).toNat : Int) := by have := u_shr x 3; simpa using this
set_option maxHeartbeats 400000 in
theorem choose_any (x y z : BitVec 32) (w : World) :
    Calls Tryd.prog 78 #[.int .u32 x.toNat, .int .u32 y.toNat, .int .u32 z.toNat] w fun e w' => e = .returned (.int .u32 (ch x y z).toNat) ∧ w' = w := by
  go_enter Tryd.func78, Tryd.ntmps78
  go_wp2
  go_ret
  exact ⟨ret_int (by simp only [u_not, u_and, u_xor]; rfl), rfl⟩
set_option maxHeartbeats 400000 in
theorem majority_any (x y z : BitVec 32) (w : World) :
    Calls Tryd.prog 80 #[.int .u32 x.toNat, .int .u32 y.toNat, .int .u32 z.toNat] w fun e w' => e = .returned (.int .u32 (maj x y z).toNat) ∧ w' = w := by
  go_enter Tryd.func80, Tryd.ntmps80
  go_wp2
  go_ret
  exact ⟨ret_int (by simp only [u_and, u_xor]; rfl), rfl⟩

theorem neg_and (n : Nat) (h : 1 ≤ n) (h' : n ≤ 31) : bits .and .u64 (IntKind.u64.wrap (-(n : Int))) 31 = 32 - (n : Int) := by
  have : n = 1 ∨ n = 2 ∨ n = 3 ∨ n = 4 ∨ n = 5 ∨ n = 6 ∨ n = 7 ∨ n = 8 ∨ n = 9 ∨ n = 10 ∨ n = 11 ∨ n = 12 ∨ n = 13 ∨ n = 14 ∨ n = 15 ∨ n = 16 ∨ n = 17 ∨ n = 18 ∨ n = 19 ∨ n = 20 ∨ n = 21 ∨ n = 22 ∨ n = 23 ∨ n = 24 ∨ n = 25 ∨ n = 26 ∨ n = 27 ∨ n = 28 ∨ n = 29 ∨ n = 30 ∨ n = 31 := by omega
  rcases this with h | h | h | h | h | h | h | h | h | h | h | h | h | h | h | h | h | h | h | h | h | h | h | h | h | h | h | h | h | h | h <;> subst h <;> decide +kernel

set_option maxHeartbeats 400000 in
theorem rotl_any (x : BitVec 32) (n : Nat) (w : World) (h : 1 ≤ n) (h' : n ≤ 31) :
    Calls Tryd.prog 86 #[.int .u32 x.toNat, .int .i64 (-(n : Int))] w fun e w' => e = .returned (.int .u32 (rotr x n).toNat) ∧ w' = w := by
  have hb := neg_and n h h'
  go_enter Tryd.func86, Tryd.ntmps86
  go_wp2
  go_ret
  exact ⟨ret_int (by rw [← wrap_u32, u_shl, u_shr, u_or, show 32 - (32 - n) = n by omega, BitVec.or_comm]; rfl), rfl⟩
set_option maxHeartbeats 400000 in
theorem rot_any (x : BitVec 32) (n : Nat) (w : World) (h : 1 ≤ n) (h' : n ≤ 31) :
    Calls Tryd.prog 85 #[.int .u32 x.toNat, .int .i64 (n : Int)] w fun e w' => e = .returned (.int .u32 (rotr x n).toNat) ∧ w' = w := by
  go_enter Tryd.func85, Tryd.ntmps85
  go_wp2_with (go_at_call 86; refine (rotl_any _ n _ h h').mono ?_; rintro e w' ⟨rfl, rfl⟩)
  go_ret
  exact ⟨rfl, rfl⟩
theorem rot_int (x : BitVec 32) (m : Int) (w : World) (h : 1 ≤ m) (h' : m ≤ 31) :
    Calls Tryd.prog 85 #[.int .u32 x.toNat, .int .i64 m] w fun e w' => e = .returned (.int .u32 (rotr x m.toNat).toNat) ∧ w' = w := by
  obtain ⟨n, rfl⟩ := Int.eq_ofNat_of_zero_le (show 0 ≤ m by omega)
  exact rot_any x n w (by omega) (by omega)
set_option maxHeartbeats 400000 in
theorem bigSigma1_any (x : BitVec 32) (w : World) :
    Calls Tryd.prog 77 #[.int .u32 x.toNat] w fun e w' => e = .returned (.int .u32 (Sig1 x).toNat) ∧ w' = w := by
  go_enter Tryd.func77, Tryd.ntmps77
  go_wp2_with (go_at_call 85; refine (rot_int _ _ _ (by omega) (by omega)).mono ?_; rintro e w' ⟨rfl, rfl⟩)
  go_ret
  exact ⟨ret_int (by simp only [u_xor]; rfl), rfl⟩
set_option maxHeartbeats 400000 in
theorem bigSigma0_any (x : BitVec 32) (w : World) :
    Calls Tryd.prog 79 #[.int .u32 x.toNat] w fun e w' => e = .returned (.int .u32 (Sig0 x).toNat) ∧ w' = w := by
  go_enter Tryd.func79, Tryd.ntmps79
  go_wp2_with (go_at_call 85; refine (rot_int _ _ _ (by omega) (by omega)).mono ?_; rintro e w' ⟨rfl, rfl⟩)
  go_ret
  exact ⟨ret_int (by simp only [u_xor]; rfl), rfl⟩
set_option maxHeartbeats 400000 in
theorem smallSigma1_any (x : BitVec 32) (w : World) :
    Calls Tryd.prog 83 #[.int .u32 x.toNat] w fun e w' => e = .returned (.int .u32 (sig1 x).toNat) ∧ w' = w := by
  go_enter Tryd.func83, Tryd.ntmps83
  go_wp2_with (go_at_call 85; refine (rot_int _ _ _ (by omega) (by omega)).mono ?_; rintro e w' ⟨rfl, rfl⟩)
  go_ret
  exact ⟨ret_int (by rw [u_shr10]; simp only [u_xor]; rfl), rfl⟩
set_option maxHeartbeats 400000 in
theorem smallSigma0_any (x : BitVec 32) (w : World) :
    Calls Tryd.prog 84 #[.int .u32 x.toNat] w fun e w' => e = .returned (.int .u32 (sig0 x).toNat) ∧ w' = w := by
  go_enter Tryd.func84, Tryd.ntmps84
  go_wp2_with (go_at_call 85; refine (rot_int _ _ _ (by omega) (by omega)).mono ?_; rintro e w' ⟨rfl, rfl⟩)
  go_ret
  exact ⟨ret_int (by rw [u_shr3]; simp only [u_xor]; rfl), rfl⟩
end Go.Proofs.YtlliijodilnlgaaDoor
