/- The plain mathematics: the document's sum, block by block, is the hash's. -/
import Derived.Test.YtlliijodilnlgaaDoorShPureB
namespace Go.Proofs.YtlliijodilnlgaaDoor

/-- Block number k of a text. -/
def blockAt (m : List UInt8) (k : Nat) : List UInt8 := (m.drop (64 * k)).take 64
/-- The state behind k blocks. -/
def stAt (m : List UInt8) : Nat → List (BitVec 32)
  | 0 => Hs
  | k + 1 => mixL (stAt m k) (blockAt m k)
theorem stAt_length (m : List UInt8) : ∀ k, (stAt m k).length = 8
  | 0 => rfl
  | k + 1 => mixL_length _ _ (stAt_length m k)
theorem pad_mod (n : Nat) : (n + (zeros n + 9)) % 64 = 0 := by unfold zeros; omega
/-- The document's sum. -/
def refSum (l : List UInt8) : List UInt8 := spreadL (stAt (l ++ padding l.length) ((l ++ padding l.length).length / 64))

theorem over_all (blk c : List UInt8) (h : c.length = blk.length) : over blk 0 c = c := by
  simp [over, h]
theorem put_block (k : Nat) (st : List (BitVec 32)) (blk c : List UInt8) (hst : st.length = 8) (hb : blk.length = 64) (hc : c.length = 64) :
    putN ⟨64 * k, st, blk⟩ c = ⟨64 * (k + 1), mixL (if k = 0 then Hs else st) c, c⟩ := by
  have h := chunk c ⟨64 * k, st, blk⟩ ⟨hst, hb⟩ (by intro e; rw [e] at hc; simp at hc) (by dsimp only; omega)
  dsimp only at h
  rw [show 64 * k % 64 = 0 by omega, over_all _ _ (by omega), hc] at h
  rw [← h, advL]
  dsimp only
  rw [if_pos (by omega)]
  have e : 64 * k + 64 = 64 * (k + 1) := by omega
  by_cases hk : k = 0
  · subst hk; rfl
  · rw [if_neg hk, if_neg (by omega), e]
theorem put_blocks (m : List UInt8) : ∀ (k : Nat), 64 * k ≤ m.length → 0 < k → ∃ blk : List UInt8, blk.length = 64 ∧ putN newL (m.take (64 * k)) = ⟨64 * k, stAt m k, blk⟩
  | 0, _, h => absurd h (by omega)
  | k + 1, hl, _ => by
    have e : m.take (64 * (k + 1)) = m.take (64 * k) ++ blockAt m k := by
      rw [show 64 * (k + 1) = 64 * k + 64 by omega, List.take_add, blockAt]
    have hc : (blockAt m k).length = 64 := by simp [blockAt]; omega
    rw [e, putN_append]
    by_cases hk : k = 0
    · subst hk
      refine ⟨blockAt m 0, hc, ?_⟩
      exact put_block 0 newL.st newL.blk (blockAt m 0) rfl rfl hc
    · obtain ⟨blk, hb, hp⟩ := put_blocks m k (by omega) (by omega)
      rw [hp, put_block k _ _ _ (stAt_length m k) hb hc, if_neg hk]
      exact ⟨blockAt m k, hc, rfl⟩
/-- The hash's sum is the document's. -/
theorem sum_ref (l : List UInt8) : sumL (putN newL l) = refSum l := by
  have hlen : (putN newL l).len = l.length := by rw [putN_len]; simp [newL]
  rw [sumL, padL, hlen, ← putN_append]
  have hm : (l ++ padding l.length).length = l.length + (zeros l.length + 9) := by rw [List.length_append, padding_length]
  have h64 := pad_mod l.length
  have hk : 64 * ((l ++ padding l.length).length / 64) = (l ++ padding l.length).length := by omega
  obtain ⟨blk, _, hp⟩ := put_blocks (l ++ padding l.length) ((l ++ padding l.length).length / 64) (by omega) (by omega)
  rw [hk, List.take_length] at hp
  rw [hp, refSum]
end Go.Proofs.YtlliijodilnlgaaDoor
