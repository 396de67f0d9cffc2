/- The statement's normal: a thing with what its kind has alone. -/
import Derived.Test.YtlbdlipdhhpgmaaThing
namespace Go.Proofs.Ytlbdlipdhhpgmaa
open Go.RowKit

def norN (k : Int) (n : Nat) : Int := if k = 2 then (n : Int) % 2 else if k = 3 then 0 else if k = 4 then 0 else (n : Int)
def norS (k : Int) (s : ByteArray) : ByteArray := if k = 2 then ⟨#[]⟩ else if k = 3 then s else if k = 4 then s else ⟨#[]⟩
set_option maxHeartbeats 1600000 in
set_option maxRecDepth 100000 in
theorem normal_any (k l : Int) (n : Nat) (s : ByteArray) (w : World) :
    Calls Try.prog 20 #[.agg #[.int .i64 k, .int .i64 l, .int .u64 (n : Int), .string s]] w fun e w' => e = .returned (.agg #[.int .i64 k, .int .i64 l, .int .u64 (norN k n), .string (norS k s)]) ∧ Below w.heap.size w w' := by
  by_cases h2 : k = 2
  · subst h2
    have eN : norN 2 n = ((n : Int) % 2) := by simp [norN]
    have eS : norS 2 s = ⟨#[]⟩ := by simp [norS]
    rw [eN, eS]
    go_enter Try.func20, Try.ntmps20
    go_wp2
    all_goals exact bodyPost_ret (v := .agg #[.int .i64 2, .int .i64 l, .int .u64 (((n : Int) % 2)), .string (⟨#[]⟩)]) (by simp [results, Try.results20, go_sem]) rfl ⟨rfl, (((Below.refl _ _).alloc (Nat.le_refl _) _).alloc (by simp) _).alloc (by simp; omega) _⟩
  by_cases h3 : k = 3
  · subst h3
    have eN : norN 3 n = 0 := by simp [norN]
    have eS : norS 3 s = s := by simp [norS]
    rw [eN, eS]
    go_enter Try.func20, Try.ntmps20
    go_wp2
    all_goals exact bodyPost_ret (v := .agg #[.int .i64 3, .int .i64 l, .int .u64 (0), .string (s)]) (by simp [results, Try.results20, go_sem]) rfl ⟨rfl, (((Below.refl _ _).alloc (Nat.le_refl _) _).alloc (by simp) _).alloc (by simp; omega) _⟩
  by_cases h4 : k = 4
  · subst h4
    have eN : norN 4 n = 0 := by simp [norN]
    have eS : norS 4 s = s := by simp [norS]
    rw [eN, eS]
    go_enter Try.func20, Try.ntmps20
    go_wp2
    all_goals exact bodyPost_ret (v := .agg #[.int .i64 4, .int .i64 l, .int .u64 (0), .string (s)]) (by simp [results, Try.results20, go_sem]) rfl ⟨rfl, (((Below.refl _ _).alloc (Nat.le_refl _) _).alloc (by simp) _).alloc (by simp; omega) _⟩
  · have eN : norN k n = (n : Int) := by simp [norN, h2, h3, h4]
    have eS : norS k s = ⟨#[]⟩ := by simp [norS, h2, h3, h4]
    rw [eN, eS]
    go_enter Try.func20, Try.ntmps20
    go_wp2
    all_goals exact bodyPost_ret (v := .agg #[.int .i64 k, .int .i64 l, .int .u64 ((n : Int)), .string (⟨#[]⟩)]) (by simp [results, Try.results20, go_sem]) rfl ⟨rfl, (((Below.refl _ _).alloc (Nat.le_refl _) _).alloc (by simp) _).alloc (by simp; omega) _⟩
end Go.Proofs.Ytlbdlipdhhpgmaa
