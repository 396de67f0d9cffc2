/- The plain mathematics of package sha: bytes that are laid into the block at once are as if laid one by one. -/
import Derived.Test.YtlliijodilnlgaaDoorShPure
namespace Go.Proofs.YtlliijodilnlgaaDoor

theorem over_one (blk : List UInt8) (o : Nat) (a : UInt8) (h : o < blk.length) : over blk o [a] = blk.set o a := by
  rw [over, List.set_eq_take_append_cons_drop, if_pos h]; simp
theorem over_cons (blk : List UInt8) (o : Nat) (a : UInt8) (as : List UInt8) (h : o < blk.length) : over blk o (a :: as) = over (blk.set o a) (o + 1) as := by
  have h1 : (blk.set o a).take (o + 1) = blk.take o ++ [a] := by
    rw [List.take_add_one, List.take_set_of_le (Nat.le_refl _)]
    simp [h]
  have h2 : (blk.set o a).drop (o + 1 + as.length) = blk.drop (o + (a :: as).length) := by
    rw [List.drop_set_of_lt (by omega)]
    congr 1
    simp; omega
  rw [over, over, h1, h2]; simp
theorem advL_shift (len : Nat) (st : List (BitVec 32)) (blk : List UInt8) (k : Nat) : advL ⟨len, st, blk⟩ (k + 1) = advL ⟨len + 1, st, blk⟩ k := by
  have e : len + (k + 1) = len + 1 + k := by omega
  unfold advL
  simp only [e]
theorem chunk : ∀ (as : List UInt8) (h : H), h.Ok → as ≠ [] → h.len % 64 + as.length ≤ 64 → advL ⟨h.len, h.st, over h.blk (h.len % 64) as⟩ as.length = putN h as
  | [], _, _, hne, _ => absurd rfl hne
  | [a], h, hok, _, _ => by
    have hb : h.len % 64 < h.blk.length := by rw [hok.blk]; omega
    rw [over_one _ _ _ hb]; rfl
  | a :: b :: r, h, hok, _, hl => by
    have hb : h.len % 64 < h.blk.length := by rw [hok.blk]; omega
    have hl' : h.len % 64 + (r.length + 1 + 1) ≤ 64 := hl
    have hp : putL h a = ⟨h.len + 1, h.st, h.blk.set (h.len % 64) a⟩ := by
      rw [putL, advL, if_neg (by dsimp only; omega)]
    have hm : (h.len + 1) % 64 = h.len % 64 + 1 := by omega
    have ih := chunk (b :: r) ⟨h.len + 1, h.st, h.blk.set (h.len % 64) a⟩ ⟨hok.st, by simpa using hok.blk⟩ (by simp) (by dsimp only; rw [hm, List.length_cons]; omega)
    dsimp only at ih
    rw [hm, ← over_cons _ _ _ _ hb] at ih
    show _ = putN (putL h a) (b :: r)
    rw [hp, ← ih]
    exact advL_shift _ _ _ _
end Go.Proofs.YtlliijodilnlgaaDoor
