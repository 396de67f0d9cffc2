/- What package sha's put, pad and fill do to a hash. -/
import Derived.Test.YtlliijodilnlgaaDoorShHash
namespace Go.Proofs.YtlliijodilnlgaaDoor
open Go.RowKit
attribute [local go_sem ↓] Go.wp_at_zero Go.wp_at_succ

theorem hash_set_blk (len : Nat) (st : List (BitVec 32)) (blk : List UInt8) (h : st.length = 8) (i : Nat) (c : UInt8) : (hashV ⟨len, st, blk⟩).set (9 + i) (byteV c) = hashV ⟨len, st, blk.set i c⟩ := by
  rw [hashV, hashV, show 9 + i = (8 + i) + 1 by omega, List.set_cons_succ, List.set_append_right _ _ (by simp [h])]
  simp [h, List.map_set]

set_option maxHeartbeats 400000 in
set_option maxRecDepth 100000 in
theorem put_any (h : H) (hok : h.Ok) (c : UInt8) (hlen : h.len + 64 < 1152921504606846976) (b : Nat) (hb2 : 2 ≤ b) (w : World) (hL : Laid w) (hh : Holds w b (hashV h) 78) :
    Calls Tryd.prog 55 #[.pointer (some ⟨b, 0, none⟩), .int .u8 (c.toNat : Int)] w fun e w' => e = .returned (.tuple #[]) ∧ Holds w' b (hashV (putL h c)) 78 ∧ Upd b w w' := by
  obtain ⟨len, st, blk⟩ := h
  have hst := hok.st
  have hbl := hok.blk
  dsimp only at *
  have c0 : w.cell? ⟨b, 0, none⟩ = some (.int .u64 (len : Int)) := hh.at 0 _ rfl
  have hm : len % 64 < 64 := by omega
  have hi : 9 + len % 64 < (hashV ⟨len, st, blk⟩).length := by rw [hashV_len _ hok]; omega
  have c1 : w.cell? ⟨b, 9 + len % 64, none⟩ = some ((hashV ⟨len, st, blk⟩)[9 + len % 64]) := hh.at _ _ (List.getElem?_eq_getElem hi)
  have f1 : w.frozen? ⟨b, 9 + len % 64, none⟩ = false := hh.frozen _
  have i0 : (0 : Int) ≤ (len : Int) % 64 := by omega
  have i1 : (len : Int) % 64 < 64 := by omega
  have n1 : ((len : Int) % 64).toNat = len % 64 := by omega
  generalize (hashV ⟨len, st, blk⟩)[9 + len % 64] = v1 at c1
  have hcall : Hid (∀ W, Laid W → Holds W b (hashV ⟨len, st, blk.set (len % 64) c⟩) 78 → Calls Tryd.prog 54 #[.pointer (some ⟨b, 0, none⟩), .int .i64 1] W fun e w' => e = .returned (.tuple #[]) ∧ Holds w' b (hashV (putL ⟨len, st, blk⟩ c)) 78 ∧ Upd b W w') :=
    fun W hW hH => advance_any ⟨len, st, blk.set (len % 64) c⟩ ⟨hst, by simpa using hbl⟩ 1 (by omega) (by dsimp only; omega) b hb2 W hW hH
  go_enter Tryd.func55, Tryd.ntmps55
  go_wp2_with fail
  go_region
  have hu1 := ((Upd.refl b w).setCell (9 + len % 64) (.int .u8 (c.toNat : Int))).drew
  have hh1 : Holds (w.setCell ⟨b, 9 + len % 64, none⟩ (.int .u8 (c.toNat : Int))).drew b (hashV ⟨len, st, blk.set (len % 64) c⟩) 78 := by
    have := (hh.set (9 + len % 64) (byteV c)).drew
    rw [hash_set_blk _ _ _ hst] at this
    exact this
  generalize (w.setCell ⟨b, 9 + len % 64, none⟩ (.int .u8 (c.toNat : Int))).drew = w1 at *
  go_wp2_with (go_at_call 54; refine (hcall.out _ (hL.upd hu1 hb2) hh1).mono ?_; rintro e w2 ⟨rfl, h2, u2⟩)
  exact bodyPost_end (results_none (by kernel_rfl) _ _ _) rfl ⟨rfl, h2, hu1.trans u2⟩

/-- What a hash in memory says of its length. -/
def lenOf (w : World) (b : Nat) : Nat := match w.cell? ⟨b, 0, none⟩ with | some (.int _ q) => q.toNat | _ => 0
theorem lenOf_holds {w : World} {b : Nat} {h : H} {t : TypeId} (hh : Holds w b (hashV h) t) : lenOf w b = h.len := by
  unfold lenOf
  rw [hh.at 0 (.int .u64 (h.len : Int)) rfl]; simp

set_option maxHeartbeats 400000 in
set_option maxRecDepth 100000 in
theorem pad_any (h : H) (hok : h.Ok) (hlen : h.len + 200 < 1152921504606846976) (b : Nat) (hb2 : 2 ≤ b) (w : World) (hL : Laid w) (hh : Holds w b (hashV h) 78) :
    Calls Tryd.prog 47 #[.pointer (some ⟨b, 0, none⟩)] w fun e w' => e = .returned (.tuple #[]) ∧ Holds w' b (hashV (padL h)) 78 ∧ Upd b w w' := by
  have c0 : w.cell? ⟨b, 0, none⟩ = some (.int .u64 (h.len : Int)) := hh.at 0 _ rfl
  have hz : zeros h.len < 64 := by unfold zeros; omega
  go_enter Tryd.func47, Tryd.ntmps47
  go_wp2_with (go_at_call 55; refine (put_any h hok 0x80 (by omega) b hb2 _ hL hh).mono ?_; rintro e w1 ⟨rfl, h1, u1⟩)
  go_loopw [] (fun wr => ∃ k : Nat, k ≤ zeros h.len ∧ Holds wr b (hashV (putN h (0x80 :: List.replicate k 0))) 78 ∧ Upd b w wr) (fun wr => h.len + 65 - lenOf wr b)
  case atStart => exact ⟨0, by omega, h1, u1⟩
  case round =>
    obtain ⟨k, hk, hk1, hu⟩ := hrel
    have hl1 : (putN h (0x80 :: List.replicate k 0)).len = h.len + (k + 1) := by rw [putN_len]; simp
    have c1 : wr.cell? ⟨b, 0, none⟩ = some (.int .u64 ((h.len + (k + 1) : Nat) : Int)) := hl1 ▸ hk1.at 0 _ rfl
    by_cases hlt : k < zeros h.len
    · have hne : (h.len + (k + 1)) % 64 ≠ 56 := by unfold zeros at hlt; omega
      go_wp2_with (go_at_call 55; refine (put_any _ (putN_ok _ _ hok) 0 (by rw [hl1]; omega) b hb2 _ (hL.upd hu hb2) hk1).mono ?_; rintro e w2 ⟨rfl, h2, u2⟩)
      have hl2 := lenOf_holds h2
      rw [putL_len, hl1] at hl2
      refine ⟨⟨k + 1, by omega, ?_, hu.trans u2⟩, by rw [hl2, lenOf_holds hk1, hl1]; omega⟩
      rw [List.replicate_succ', ← List.cons_append, putN_snoc]
      exact h2
    · have hne : (h.len + (k + 1)) % 64 = 56 := by unfold zeros at hlt hk; omega
      have hk2 : Holds wr b (hashV (putN h (0x80 :: (List.replicate (zeros h.len) 0 ++ numBytes (h.len * 8) 0)))) 78 := by
        rw [show numBytes (h.len * 8) 0 = [] from rfl, List.append_nil, ← show k = zeros h.len by omega]; exact hk1
      go_wp2_with fail
      rename_i hq
      clear hq hne
      go_loopw [3] (fun s wr => ∃ i : Nat, i ≤ 8 ∧ s = .int .i64 (56 - 8 * (i : Int)) ∧ Holds wr b (hashV (putN h (0x80 :: (List.replicate (zeros h.len) 0 ++ numBytes (h.len * 8) i)))) 78 ∧ Upd b w wr) (fun s _ => (intOf s + 8).toNat)
      case atStart => exact ⟨0, by omega, rfl, hk2, hu⟩
      case round =>
        clear hk1 hk2 hu c1 hl1
        obtain ⟨i, hi, rfl, hk1, hu⟩ := hrel
        by_cases hlt : i < 8
        · have i0 : (0 : Int) ≤ 56 - 8 * (i : Int) := by omega
          have i1 : (56 - 8 * (i : Int)).toNat = 56 - 8 * i := by omega
          have i2 : min (56 - 8 * i) 64 = 56 - 8 * i := by omega
          have hl1 : (putN h (0x80 :: (List.replicate (zeros h.len) 0 ++ numBytes (h.len * 8) i))).len = h.len + (zeros h.len + i + 1) := by rw [putN_len]; simp [numBytes]
          have hcall : Hid (∀ W, Laid W → Holds W b (hashV (putN h (0x80 :: (List.replicate (zeros h.len) 0 ++ numBytes (h.len * 8) i)))) 78 → Calls Tryd.prog 55 #[.pointer (some ⟨b, 0, none⟩), .int .u8 ((h.len : Int) * 8 / 2 ^ (56 - 8 * i) % 256)] W fun e w' => e = .returned (.tuple #[]) ∧ Holds w' b (hashV (putN h (0x80 :: (List.replicate (zeros h.len) 0 ++ numBytes (h.len * 8) (i + 1))))) 78 ∧ Upd b W w') := fun W hW hH => by
            have := put_any _ (putN_ok (0x80 :: (List.replicate (zeros h.len) 0 ++ numBytes (h.len * 8) i)) h hok) (UInt8.ofNat (h.len * 8 / 2 ^ (56 - 8 * i))) (by rw [hl1]; omega) b hb2 W hW hH
            rw [← putN_snoc, List.cons_append, List.append_assoc, ← numBytes_succ] at this
            rw [show ((h.len : Int) * 8 / 2 ^ (56 - 8 * i) % 256) = ((UInt8.ofNat (h.len * 8 / 2 ^ (56 - 8 * i))).toNat : Int) by simp]
            exact this
          clear hl1
          go_wp2_with (go_at_call 55; refine (hcall.out _ (hL.upd hu hb2) hk1).mono ?_; rintro e w2 ⟨rfl, h2, u2⟩)
          refine ⟨⟨i + 1, by omega, by go_num, h2, hu.trans u2⟩, by simp [intOf]; omega⟩
        · have hk1 : Holds wr b (hashV (padL h)) 78 := by rw [show i = 8 by omega] at hk1; exact hk1
          go_wp2
          exact bodyPost_end (results_none (by kernel_rfl) _ _ _) rfl ⟨rfl, hk1, hu⟩
end Go.Proofs.YtlliijodilnlgaaDoor
