/- What package sha's fill does to a hash: as if the text's bytes were put one by one. -/
import Derived.Test.YtlliijodilnlgaaDoorShPut
import Derived.Test.YtlliijodilnlgaaDoorShPureB
import Derived.Test.YtlliijodilnlgaaDoorLaws
namespace Go.Proofs.YtlliijodilnlgaaDoor
open Go.RowKit
attribute [local go_sem ↓] Go.wp_at_zero Go.wp_at_succ
theorem und81 : Tryd.prog.underlying 81 = some (.slice 5) := by kernel_rfl
/-- How long a text in a slot is. -/
def sizeV : Value → Nat | .string q => q.size | _ => 0
theorem hash_over_blk (len : Nat) (st : List (BitVec 32)) (blk : List UInt8) (h : st.length = 8) (o : Nat) (xs : List UInt8) : overV (hashV ⟨len, st, blk⟩) (9 + o) (xs.map byteV) = hashV ⟨len, st, over blk o xs⟩ := by
  have h1 : (hashV ⟨len, st, blk⟩).take (9 + o) = .int .u64 (len : Int) :: (st.map wordV ++ (blk.take o).map byteV) := by
    rw [hashV, show 9 + o = (8 + o) + 1 by omega, List.take_succ_cons, List.take_append]
    simp [h, List.take_of_length_le, List.map_take]
  have h2 : (hashV ⟨len, st, blk⟩).drop (9 + o + (xs.map byteV).length) = (blk.drop (o + xs.length)).map byteV := by
    rw [hashV, show 9 + o + (xs.map byteV).length = (8 + (o + xs.length)) + 1 by simp; omega, List.drop_succ_cons, List.drop_append]
    simp [h, List.map_drop]
  rw [overV, h1, h2, hashV, over]; simp

set_option maxHeartbeats 400000 in
set_option maxRecDepth 100000 in
theorem fill_any (h : H) (s : ByteArray) (hs : s.size ≤ maxLen) (hok : h.Ok) (hlen : h.len + s.size + 64 < 1152921504606846976) (b : Nat) (hb2 : 2 ≤ b) (w : World) (hL : Laid w) (hh : Holds w b (hashV h) 78) :
    Calls Tryd.prog 46 #[.pointer (some ⟨b, 0, none⟩), .string s] w fun e w' => e = .returned (.tuple #[]) ∧ Holds w' b (hashV (putN h s.data.toList)) 78 ∧ Upd b w w' := by
  unfold maxLen at hs
  go_enter Tryd.func46, Tryd.ntmps46
  go_wp2_with fail
  go_loopw [1] (fun p wr => ∃ k : Nat, k ≤ s.size ∧ p = .string (s.extract k s.size) ∧ Holds wr b (hashV (putN h (s.data.toList.take k))) 78 ∧ Upd b w wr) (fun p _ => sizeV p)
  case atStart => exact ⟨0, by omega, by simp, hh, Upd.refl _ _⟩
  case round =>
    obtain ⟨k, hk, rfl, hk1, hu⟩ := hrel
    have hsz : (s.extract k s.size).size = s.size - k := by simp
    have hbytes : Hid ((s.extract k s.size).data.toList = s.data.toList.drop k) := by simp [Hid, List.take_of_length_le]
    have hl1 : (putN h (s.data.toList.take k)).len = h.len + k := by rw [putN_len]; simp; omega
    have hok1 := putN_ok (s.data.toList.take k) h hok
    obtain ⟨g, G⟩ : ∃ g, Hid (putN h (s.data.toList.take k) = g) := ⟨_, rfl⟩
    obtain ⟨q, Eq⟩ : ∃ q, Hid (s.extract k s.size = q) := ⟨_, rfl⟩
    rw [G.out] at hk1 hl1 hok1
    rw [Eq.out] at hsz hbytes
    rw [show Value.string (s.extract k s.size) = .string q from congrArg _ Eq.out]
    obtain ⟨len, st, blk⟩ := g
    dsimp only at hl1
    have hlb : len + q.size + 64 < 1152921504606846976 := by omega
    have HL : Hid (len = h.len + k) := hl1
    have HZ : Hid (q.size = s.size - k) := hsz
    have hq0 : k < s.size → 0 < q.size := by omega
    clear hl1 hsz
    have c0 : wr.cell? ⟨b, 0, none⟩ = some (.int .u64 (len : Int)) := hk1.at 0 _ rfl
    by_cases hlt : k < s.size
    · have hq0 := hq0 hlt
      obtain ⟨o, O⟩ : ∃ o, Hid (len % 64 = o) := ⟨_, rfl⟩
      have ho : o < 64 := by rw [← O.out]; omega
      obtain ⟨n, hn⟩ : ∃ n, Nat.min q.size (64 - o) = n := ⟨_, rfl⟩
      have hn0 : 0 < n ∧ n ≤ q.size ∧ o + n ≤ 64 := by
        rw [← hn]
        have e : Nat.min q.size (64 - o) = min q.size (64 - o) := rfl
        omega
      obtain ⟨hn1, hn2, hn3⟩ := hn0
      have p1 : (0 : Int) < (q.size : Int) := by omega
      have e1 : (len : Int) % 64 = (o : Int) := by rw [← O.out]; omega
      have ht : wr.drew.there b (9 + o) n := hk1.drew.there _ _ (by rw [hashV_len _ hok1]; omega)
      have hsl : ∀ W, (Instr.sliceAt 76 (.pointer (some ⟨b, 9, none⟩)) (some (.int .u64 (o : Int))) none none).run Tryd.prog W = .ok (.slice (some ⟨b, 9 + o, none⟩) (64 - o) (64 - o)) W := fun W => run_sliceAt_from W 76 5 64 und76 siz5 b 9 o ho
      have hcp : (Builtin.copy_ #[81, 9] 3 #[.slice (some ⟨b, 9 + o, none⟩) (64 - o) (64 - o), .string q]).run Tryd.prog wr.drew = .ok (.int .i64 (n : Int)) (wr.drew.setCells b (9 + o) ((q.data.toList.take n).map byteV)) :=
        run_copy_string wr.drew 81 9 3 5 b (9 + o) (64 - o) (64 - o) q und81 siz5 n hn _ (by rw [← List.map_take]; rfl) ht
      clear hn
      go_wp2_with fail
      go_region
      have hlx : (q.data.toList.take n).length = n := by simp; omega
      have hT := turned_setCells (t := 78) b ((q.data.toList.take n).map byteV) (9 + o) wr.drew _ hk1.drew (by rw [hashV_len _ hok1, List.length_map, hlx]; omega)
      rw [hash_over_blk _ _ _ hok1.st, List.map_take] at hT
      generalize wr.drew.setCells b (9 + o) (List.take n (List.map byteV q.data.toList)) = w1 at *
      have hu1 : Upd b w w1 := hu.drew.trans (Upd.ofTurned hT)
      have hh1 := hT.holds
      have g1 : (n : Int) ≤ (q.size : Int) := by omega
      have hok2 : H.Ok ⟨len, st, over blk o (q.data.toList.take n)⟩ := ⟨hok1.st, by dsimp only; rw [over_length _ _ _ (by rw [hlx, hok1.blk]; omega)]; exact hok1.blk⟩
      clear hT hcp hsl c0 ht
      go_wp2_with (go_at_call 54; refine (advance_any _ hok2 n (by omega) (by dsimp only; omega) b hb2 _ (hL.upd hu1 hb2) hh1).mono ?_; rintro e w2 ⟨rfl, h2, u2⟩)
      have hq := HZ.out
      refine ⟨⟨k + n, by omega, ?_, ?_, hu1.trans u2⟩, ?_⟩
      · refine congrArg Value.string ?_
        rw [← Eq.out]
        apply ByteArray.ext
        apply Array.ext'
        simp [List.take_of_length_le]
        exact List.take_of_length_le (by simp; omega)
      · have hc := chunk (q.data.toList.take n) ⟨len, st, blk⟩ hok1 (by intro e; rw [e] at hlx; simp at hlx; omega) (by dsimp only; rw [O.out, hlx]; omega)
        dsimp only at hc
        rw [O.out, hlx, ← G.out, hbytes.out, ← putN_append, ← List.take_add] at hc
        rw [hbytes.out, hc] at h2
        exact h2
      · simp [sizeV]; omega
    · have hz : q.size = 0 := by rw [HZ.out]; omega
      have hz1 : (q.size : Int) = 0 := by omega
      go_wp2
      refine bodyPost_end (results_none (by kernel_rfl) _ _ _) rfl ⟨rfl, ?_, hu⟩
      rw [← G.out, List.take_of_length_le (by simp; omega)] at hk1
      exact hk1
end Go.Proofs.YtlliijodilnlgaaDoor
