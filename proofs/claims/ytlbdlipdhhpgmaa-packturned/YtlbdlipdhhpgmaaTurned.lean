/- The function of the statement PackTurned, called with whatever body, place and byte, answers true; nothing that was there is turned. -/
import Derived.Test.YtlbdlipdhhpgmaaTurn
import Derived.Test.YtlbdlipdhhpgmaaAwake
import Derived.Deep.RegionWith
import Derived.Deep.RegionLaw
namespace Go.Proofs.Ytlbdlipdhhpgmaa
open Go.RowKit

theorem xor_u8 (a b : Nat) (ha : a < 256) (hb : b < 256) : bits .xor .u8 (a : Int) (b : Int) = ((a ^^^ b : Nat) : Int) := by
  show IntKind.u8.wrap ((BitVec.ofInt 8 (a : Int) ^^^ BitVec.ofInt 8 (b : Int)).toNat : Int) = _
  rw [BitVec.toNat_xor, ofInt_nat 8 a ha, ofInt_nat 8 b hb, wrap_u8]
  have : a ^^^ b < 2 ^ 8 := Nat.xor_lt_two_pow ha hb
  omega
/-- A byte, turned. -/
theorem turned_byte (x : UInt8) (b : Nat) (hb : b < 256) (h0 : b ≠ 0) : ∃ y : UInt8, bits .xor .u8 (x.toNat : Int) (b : Int) = (y.toNat : Int) ∧ y ≠ x := by
  have hx := x.toNat_lt
  have hlt : x.toNat ^^^ b < 2 ^ 8 := Nat.xor_lt_two_pow hx hb
  refine ⟨UInt8.ofNat (x.toNat ^^^ b), ?_, fun e => ?_⟩
  · rw [xor_u8 _ _ hx hb, UInt8.toNat_ofNat', Nat.mod_eq_of_lt hlt]
  · have e := congrArg UInt8.toNat e
    rw [UInt8.toNat_ofNat', Nat.mod_eq_of_lt hlt] at e
    have : x.toNat ^^^ (x.toNat ^^^ b) = x.toNat ^^^ x.toNat := by rw [e]
    rw [← Nat.xor_assoc, Nat.xor_self, Nat.zero_xor] at this
    exact h0 this
set_option maxRecDepth 100000 in
theorem packTurned_big (s : ByteArray) (h : (65536 : Int) < (s.size : Int)) (at_ by_ : Int) (w : World) :
    Calls Try.prog 6 #[.string s, .int .i64 at_, .int .u8 by_] w fun e w' => e = .returned (.bool true) ∧ Below w.heap.size w w' := by
  go_enter Try.func6, Try.ntmps6
  go_wp2_with (first
    | (go_at_call 9; refine (awake_any _).mono ?_; rintro e w1 ⟨rfl, b1⟩)
    | (go_at_call 23; refine (frame_big s h _).mono ?_; rintro e w2 ⟨rfl, rfl⟩))
  go_ret
  exact ⟨rfl, b1⟩

set_option maxHeartbeats 1600000 in
set_option maxRecDepth 100000 in
theorem packTurned_pp (s : ByteArray) (h : (s.size : Int) ≤ (65536 : Int)) (kn : Nat) (hkn : kn < 9223372036854775808) (by_ : Nat) (hby : by_ < 256) (hb0 : ¬ (by_ : Int) = 0) (w : World) :
    Calls Try.prog 6 #[.string s, .int .i64 (kn : Int), .int .u8 (by_ : Int)] w fun e w' => e = .returned (.bool true) ∧ Below w.heap.size w w' := by
  obtain ⟨m, hm⟩ : ∃ m, w.heap.size = m := ⟨_, rfl⟩
  have c23 : Hid (∀ W, Calls Try.prog 23 #[.string s] W fun e w' => e = .returned (.tuple #[.string (strL (frameL s)), .int .i64 0]) ∧ Below W.heap.size W w') := fun W => frame_ok s h W
  have hFz : (strL (frameL s)).size = (numL s.size).length + s.size + 4 := by
    rw [strL_size, frameL, textL, List.length_append, List.length_append]; rfl
  have hH := numL_len10 s.size (by omega)
  have hH0 : 0 < (numL s.size).length := by
    by_cases hq : s.size < 128
    · rw [numL_small hq]; simp
    · rw [numL_big hq]; simp
  have hcut : ∀ j, j < (strL (frameL s)).size → uE ((strL (frameL s)).extract 0 j) = 10 := fun j hj => cut_err s (by omega) _ j hj (by rw [ext_head, strL_list])
  have hturn : Hid (∀ (t : ByteArray) (i : Nat), i < s.size + 4 → ∀ (y x : UInt8), (strL (frameL s)).data.toList[(numL s.size).length + i]? = some x → y ≠ x →
      t.data.toList = (strL (frameL s)).data.toList.take ((numL s.size).length + i) ++ y :: (strL (frameL s)).data.toList.drop ((numL s.size).length + i + 1) → uE t = 13) := fun t i hi y x hx hy ht => turn_err s (by omega) t i hi y x hx hy ht
  obtain ⟨F, hF⟩ : ∃ F, strL (frameL s) = F := ⟨_, rfl⟩
  rw [hF] at c23 hFz hcut hturn
  generalize (numL s.size).length = H at *
  obtain ⟨j, hj⟩ : ∃ j, kn % F.size = j := ⟨_, rfl⟩
  have hj1 : (kn : Int) % (F.size : Int) = (j : Int) := by rw [← hj]; simp
  have hj2 : j < F.size := by rw [← hj]; exact Nat.mod_lt _ (by omega)
  have c24 : Hid (∀ W, Calls Try.prog 24 #[.string (F.extract 0 j)] W (UnP 10 W)) := fun W => by
    have := unframe_any (F.extract 0 j) (by simp; omega) W
    rw [hcut j hj2] at this
    exact this
  clear hcut
  have hj3 : (kn : Int).tmod (F.size : Int) = (j : Int) := by rw [Int.tmod_eq_emod_of_nonneg (by omega)]; exact hj1
  obtain ⟨i, hi⟩ : ∃ i, kn % (s.size + 4) = i := ⟨_, rfl⟩
  have hi1 : (kn : Int) % ((s.size : Int) + 4) = (i : Int) := by rw [← hi]; simp
  have hi2 : i < s.size + 4 := by rw [← hi]; exact Nat.mod_lt _ (by omega)
  have hi3 : (kn : Int).tmod ((s.size : Int) + 4) = (i : Int) := by rw [Int.tmod_eq_emod_of_nonneg (by omega)]; exact hi1
  have hf0 : ¬ (F.size : Int) = 0 := by omega
  have hs0 : ¬ (s.size : Int) + 4 = 0 := by omega
  have hA : (s.size : Int) + 5 ≤ (F.size : Int) := by omega
  have hHd : (F.size : Int) - (s.size : Int) - 4 = (H : Int) := by omega
  have hF2 : (F.size : Int) ≤ 70000 := by omega
  obtain ⟨kk, hkk⟩ : ∃ kk, H + i = kk := ⟨_, rfl⟩
  have hk0 : (H : Int) + (i : Int) = (kk : Int) := by omega
  have hk1 : (kk : Int) < (F.size : Int) := by omega
  have hk2 : (kk : Int) ≤ (F.size : Int) := by omega
  have hFz' : Hid (F.size = H + s.size + 4) := hFz
  clear hFz hj hi hj1 hi1 hF hH hH0
  have hj4 : (j : Int) < (F.size : Int) := by omega
  rw [hm]
  go_enter Try.func6, Try.ntmps6
  go_wp2_with (first
    | (go_at_call 9; refine (awake_any _).mono ?_; rintro e w1 ⟨rfl, b1⟩)
    | (go_at_call 23; refine (c23.out _).mono ?_; rintro e w2 ⟨rfl, b2⟩))
  refine (c24.out _).mono ?_
  rintro e w3 ⟨B3, n3, rfl, b3⟩
  have hkb : kk < F.size := by omega
  obtain ⟨xb, hxb⟩ : ∃ xb, F[kk]'hkb = xb := ⟨_, rfl⟩
  have hx256 : xb.toNat < 256 := xb.toNat_lt
  obtain ⟨n3', hn3⟩ : ∃ n3', w3.heap.size = n3' := ⟨_, rfl⟩
  have hk4 : (kk : Int) + 1 ≤ (F.size : Int) := by omega
  have hk6 : (0 : Int) ≤ (kk : Int) + 1 := by omega
  have hk5 : ((kk : Int) + 1).toNat = kk + 1 := by omega
  have hk7 : (kk : Int) ≤ 70000 := by omega
  have hk8 : IntKind.i64.wrap ((kk : Int) + 1) = (kk : Int) + 1 := by rw [wrap_i64]; omega
  obtain ⟨yb, hyb, hyx⟩ := turned_byte xb by_ hby (by omega)
  have hcv : (convert 27 9 (.slice (some ⟨n3', 0, none⟩) 1 1)).run Try.prog (w3.alloc (.cells #[.int .u8 (yb.toNat : Int)] 5)).drew = .ok (.string (strL [yb])) (w3.alloc (.cells #[.int .u8 (yb.toNat : Int)] 5)).drew := by
    subst hn3
    refine convert_own (B := 0) (bs := [yb]) ⟨by simp, .inr ⟨w3.heap.size, 1, _, rfl, by omega, heap_alloc_new w3 _, Nat.le_refl _, by unfold maxLen; omega, rfl, rfl⟩⟩
  have hy1 : (strL [yb]).size = 1 := rfl
  have ht13 : uE (F.extract 0 kk ++ strL [yb] ++ F.extract (kk + 1) F.size) = 13 := by
    refine hturn.out _ i hi2 yb xb (by rw [hkk, get_list F kk hkb, hxb]) hyx ?_
    rw [hkk, ByteArray.data_append, ByteArray.data_append, Array.toList_append, Array.toList_append, ext_head, ext_tail, strL_list]
    simp
  have c24b : Hid (∀ W, Calls Try.prog 24 #[.string (F.extract 0 kk ++ strL [yb] ++ F.extract (kk + 1) F.size)] W (UnP 13 W)) := fun W => by
    have := unframe_any (F.extract 0 kk ++ strL [yb] ++ F.extract (kk + 1) F.size) (by rw [ByteArray.size_append, ByteArray.size_append, ByteArray.size_extract, ByteArray.size_extract, hy1]; omega) W
    rw [ht13] at this
    exact this
  clear ht13
  generalize strL [yb] = Ys at *
  go_wp2_with fail
  go_region_with (go_at_call 24; refine (c24b.out _).mono ?_; rintro e w5 ⟨B5, n5, rfl, b5⟩)
  all_goals
    go_wp2
    go_ret
    have z1 := b1.size
    have z2 := b2.size
    have z3 := b3.size
    have bb : Below m w w3 := ((b1.mono (by omega)).trans (b2.mono (by omega))).trans (b3.mono (by omega))
    have b5' : Below m _ w5 := b5.mono (by show m ≤ (w3.alloc _).heap.size; simp; omega)
    exact ⟨rfl, ((bb.alloc (by omega) _).drew).trans b5'⟩
set_option maxHeartbeats 1600000 in
set_option maxRecDepth 100000 in
theorem packTurned_pz (s : ByteArray) (h : (s.size : Int) ≤ (65536 : Int)) (kn : Nat) (hkn : kn < 9223372036854775808) (w : World) :
    Calls Try.prog 6 #[.string s, .int .i64 (kn : Int), .int .u8 0] w fun e w' => e = .returned (.bool true) ∧ Below w.heap.size w w' := by
  obtain ⟨m, hm⟩ : ∃ m, w.heap.size = m := ⟨_, rfl⟩
  have c23 : Hid (∀ W, Calls Try.prog 23 #[.string s] W fun e w' => e = .returned (.tuple #[.string (strL (frameL s)), .int .i64 0]) ∧ Below W.heap.size W w') := fun W => frame_ok s h W
  have hFz : (strL (frameL s)).size = (numL s.size).length + s.size + 4 := by
    rw [strL_size, frameL, textL, List.length_append, List.length_append]; rfl
  have hH := numL_len10 s.size (by omega)
  have hH0 : 0 < (numL s.size).length := by
    by_cases hq : s.size < 128
    · rw [numL_small hq]; simp
    · rw [numL_big hq]; simp
  have hcut : ∀ j, j < (strL (frameL s)).size → uE ((strL (frameL s)).extract 0 j) = 10 := fun j hj => cut_err s (by omega) _ j hj (by rw [ext_head, strL_list])
  have hturn : Hid (∀ (t : ByteArray) (i : Nat), i < s.size + 4 → ∀ (y x : UInt8), (strL (frameL s)).data.toList[(numL s.size).length + i]? = some x → y ≠ x →
      t.data.toList = (strL (frameL s)).data.toList.take ((numL s.size).length + i) ++ y :: (strL (frameL s)).data.toList.drop ((numL s.size).length + i + 1) → uE t = 13) := fun t i hi y x hx hy ht => turn_err s (by omega) t i hi y x hx hy ht
  obtain ⟨F, hF⟩ : ∃ F, strL (frameL s) = F := ⟨_, rfl⟩
  rw [hF] at c23 hFz hcut hturn
  generalize (numL s.size).length = H at *
  obtain ⟨j, hj⟩ : ∃ j, kn % F.size = j := ⟨_, rfl⟩
  have hj1 : (kn : Int) % (F.size : Int) = (j : Int) := by rw [← hj]; simp
  have hj2 : j < F.size := by rw [← hj]; exact Nat.mod_lt _ (by omega)
  have c24 : Hid (∀ W, Calls Try.prog 24 #[.string (F.extract 0 j)] W (UnP 10 W)) := fun W => by
    have := unframe_any (F.extract 0 j) (by simp; omega) W
    rw [hcut j hj2] at this
    exact this
  clear hcut
  have hj3 : (kn : Int).tmod (F.size : Int) = (j : Int) := by rw [Int.tmod_eq_emod_of_nonneg (by omega)]; exact hj1
  obtain ⟨i, hi⟩ : ∃ i, kn % (s.size + 4) = i := ⟨_, rfl⟩
  have hi1 : (kn : Int) % ((s.size : Int) + 4) = (i : Int) := by rw [← hi]; simp
  have hi2 : i < s.size + 4 := by rw [← hi]; exact Nat.mod_lt _ (by omega)
  have hi3 : (kn : Int).tmod ((s.size : Int) + 4) = (i : Int) := by rw [Int.tmod_eq_emod_of_nonneg (by omega)]; exact hi1
  have hf0 : ¬ (F.size : Int) = 0 := by omega
  have hs0 : ¬ (s.size : Int) + 4 = 0 := by omega
  have hA : (s.size : Int) + 5 ≤ (F.size : Int) := by omega
  have hHd : (F.size : Int) - (s.size : Int) - 4 = (H : Int) := by omega
  have hF2 : (F.size : Int) ≤ 70000 := by omega
  obtain ⟨kk, hkk⟩ : ∃ kk, H + i = kk := ⟨_, rfl⟩
  have hk0 : (H : Int) + (i : Int) = (kk : Int) := by omega
  have hk1 : (kk : Int) < (F.size : Int) := by omega
  have hk2 : (kk : Int) ≤ (F.size : Int) := by omega
  have hFz' : Hid (F.size = H + s.size + 4) := hFz
  clear hFz hj hi hj1 hi1 hF hH hH0
  have hj4 : (j : Int) < (F.size : Int) := by omega
  rw [hm]
  go_enter Try.func6, Try.ntmps6
  go_wp2_with (first
    | (go_at_call 9; refine (awake_any _).mono ?_; rintro e w1 ⟨rfl, b1⟩)
    | (go_at_call 23; refine (c23.out _).mono ?_; rintro e w2 ⟨rfl, b2⟩))
  refine (c24.out _).mono ?_
  rintro e w3 ⟨B3, n3, rfl, b3⟩
  have hkb : kk < F.size := by omega
  obtain ⟨xb, hxb⟩ : ∃ xb, F[kk]'hkb = xb := ⟨_, rfl⟩
  have hx256 : xb.toNat < 256 := xb.toNat_lt
  obtain ⟨n3', hn3⟩ : ∃ n3', w3.heap.size = n3' := ⟨_, rfl⟩
  have hk4 : (kk : Int) + 1 ≤ (F.size : Int) := by omega
  have hk6 : (0 : Int) ≤ (kk : Int) + 1 := by omega
  have hk5 : ((kk : Int) + 1).toNat = kk + 1 := by omega
  have hk7 : (kk : Int) ≤ 70000 := by omega
  have hk8 : IntKind.i64.wrap ((kk : Int) + 1) = (kk : Int) + 1 := by rw [wrap_i64]; omega
  obtain ⟨yb, hyb, hyx⟩ := turned_byte xb 1 (by omega) (by omega)
  rw [show ((1 : Nat) : Int) = 1 from rfl] at hyb
  have hcv : (convert 27 9 (.slice (some ⟨n3', 0, none⟩) 1 1)).run Try.prog (w3.alloc (.cells #[.int .u8 (yb.toNat : Int)] 5)).drew = .ok (.string (strL [yb])) (w3.alloc (.cells #[.int .u8 (yb.toNat : Int)] 5)).drew := by
    subst hn3
    refine convert_own (B := 0) (bs := [yb]) ⟨by simp, .inr ⟨w3.heap.size, 1, _, rfl, by omega, heap_alloc_new w3 _, Nat.le_refl _, by unfold maxLen; omega, rfl, rfl⟩⟩
  have hy1 : (strL [yb]).size = 1 := rfl
  have ht13 : uE (F.extract 0 kk ++ strL [yb] ++ F.extract (kk + 1) F.size) = 13 := by
    refine hturn.out _ i hi2 yb xb (by rw [hkk, get_list F kk hkb, hxb]) hyx ?_
    rw [hkk, ByteArray.data_append, ByteArray.data_append, Array.toList_append, Array.toList_append, ext_head, ext_tail, strL_list]
    simp
  have c24b : Hid (∀ W, Calls Try.prog 24 #[.string (F.extract 0 kk ++ strL [yb] ++ F.extract (kk + 1) F.size)] W (UnP 13 W)) := fun W => by
    have := unframe_any (F.extract 0 kk ++ strL [yb] ++ F.extract (kk + 1) F.size) (by rw [ByteArray.size_append, ByteArray.size_append, ByteArray.size_extract, ByteArray.size_extract, hy1]; omega) W
    rw [ht13] at this
    exact this
  clear ht13
  generalize strL [yb] = Ys at *
  go_wp2_with fail
  go_region_with (go_at_call 24; refine (c24b.out _).mono ?_; rintro e w5 ⟨B5, n5, rfl, b5⟩)
  all_goals
    go_wp2
    go_ret
    have z1 := b1.size
    have z2 := b2.size
    have z3 := b3.size
    have bb : Below m w w3 := ((b1.mono (by omega)).trans (b2.mono (by omega))).trans (b3.mono (by omega))
    have b5' : Below m _ w5 := b5.mono (by show m ≤ (w3.alloc _).heap.size; simp; omega)
    exact ⟨rfl, ((bb.alloc (by omega) _).drew).trans b5'⟩
set_option maxHeartbeats 1600000 in
set_option maxRecDepth 100000 in
theorem packTurned_np (s : ByteArray) (h : (s.size : Int) ≤ (65536 : Int)) (at_ : Int) (hneg : at_ < 0) (kn : Nat) (hk : -(at_ + 1) = (kn : Int)) (hkn : kn < 9223372036854775808) (by_ : Nat) (hby : by_ < 256) (hb0 : ¬ (by_ : Int) = 0) (w : World) :
    Calls Try.prog 6 #[.string s, .int .i64 at_, .int .u8 (by_ : Int)] w fun e w' => e = .returned (.bool true) ∧ Below w.heap.size w w' := by
  obtain ⟨m, hm⟩ : ∃ m, w.heap.size = m := ⟨_, rfl⟩
  have c23 : Hid (∀ W, Calls Try.prog 23 #[.string s] W fun e w' => e = .returned (.tuple #[.string (strL (frameL s)), .int .i64 0]) ∧ Below W.heap.size W w') := fun W => frame_ok s h W
  have hFz : (strL (frameL s)).size = (numL s.size).length + s.size + 4 := by
    rw [strL_size, frameL, textL, List.length_append, List.length_append]; rfl
  have hH := numL_len10 s.size (by omega)
  have hH0 : 0 < (numL s.size).length := by
    by_cases hq : s.size < 128
    · rw [numL_small hq]; simp
    · rw [numL_big hq]; simp
  have hcut : ∀ j, j < (strL (frameL s)).size → uE ((strL (frameL s)).extract 0 j) = 10 := fun j hj => cut_err s (by omega) _ j hj (by rw [ext_head, strL_list])
  have hturn : Hid (∀ (t : ByteArray) (i : Nat), i < s.size + 4 → ∀ (y x : UInt8), (strL (frameL s)).data.toList[(numL s.size).length + i]? = some x → y ≠ x →
      t.data.toList = (strL (frameL s)).data.toList.take ((numL s.size).length + i) ++ y :: (strL (frameL s)).data.toList.drop ((numL s.size).length + i + 1) → uE t = 13) := fun t i hi y x hx hy ht => turn_err s (by omega) t i hi y x hx hy ht
  obtain ⟨F, hF⟩ : ∃ F, strL (frameL s) = F := ⟨_, rfl⟩
  rw [hF] at c23 hFz hcut hturn
  generalize (numL s.size).length = H at *
  obtain ⟨j, hj⟩ : ∃ j, kn % F.size = j := ⟨_, rfl⟩
  have hj1 : (kn : Int) % (F.size : Int) = (j : Int) := by rw [← hj]; simp
  have hj2 : j < F.size := by rw [← hj]; exact Nat.mod_lt _ (by omega)
  have c24 : Hid (∀ W, Calls Try.prog 24 #[.string (F.extract 0 j)] W (UnP 10 W)) := fun W => by
    have := unframe_any (F.extract 0 j) (by simp; omega) W
    rw [hcut j hj2] at this
    exact this
  clear hcut
  have hj3 : (kn : Int).tmod (F.size : Int) = (j : Int) := by rw [Int.tmod_eq_emod_of_nonneg (by omega)]; exact hj1
  obtain ⟨i, hi⟩ : ∃ i, kn % (s.size + 4) = i := ⟨_, rfl⟩
  have hi1 : (kn : Int) % ((s.size : Int) + 4) = (i : Int) := by rw [← hi]; simp
  have hi2 : i < s.size + 4 := by rw [← hi]; exact Nat.mod_lt _ (by omega)
  have hi3 : (kn : Int).tmod ((s.size : Int) + 4) = (i : Int) := by rw [Int.tmod_eq_emod_of_nonneg (by omega)]; exact hi1
  have hf0 : ¬ (F.size : Int) = 0 := by omega
  have hs0 : ¬ (s.size : Int) + 4 = 0 := by omega
  have hA : (s.size : Int) + 5 ≤ (F.size : Int) := by omega
  have hHd : (F.size : Int) - (s.size : Int) - 4 = (H : Int) := by omega
  have hF2 : (F.size : Int) ≤ 70000 := by omega
  obtain ⟨kk, hkk⟩ : ∃ kk, H + i = kk := ⟨_, rfl⟩
  have hk0 : (H : Int) + (i : Int) = (kk : Int) := by omega
  have hk1 : (kk : Int) < (F.size : Int) := by omega
  have hk2 : (kk : Int) ≤ (F.size : Int) := by omega
  have hFz' : Hid (F.size = H + s.size + 4) := hFz
  clear hFz hj hi hj1 hi1 hF hH hH0
  have hj4 : (j : Int) < (F.size : Int) := by omega
  have hat1 : -9223372036854775808 ≤ at_ := by omega
  rw [hm]
  go_enter Try.func6, Try.ntmps6
  go_wp2_with (first
    | (go_at_call 9; refine (awake_any _).mono ?_; rintro e w1 ⟨rfl, b1⟩)
    | (go_at_call 23; refine (c23.out _).mono ?_; rintro e w2 ⟨rfl, b2⟩))
  refine (c24.out _).mono ?_
  rintro e w3 ⟨B3, n3, rfl, b3⟩
  have hkb : kk < F.size := by omega
  obtain ⟨xb, hxb⟩ : ∃ xb, F[kk]'hkb = xb := ⟨_, rfl⟩
  have hx256 : xb.toNat < 256 := xb.toNat_lt
  obtain ⟨n3', hn3⟩ : ∃ n3', w3.heap.size = n3' := ⟨_, rfl⟩
  have hk4 : (kk : Int) + 1 ≤ (F.size : Int) := by omega
  have hk6 : (0 : Int) ≤ (kk : Int) + 1 := by omega
  have hk5 : ((kk : Int) + 1).toNat = kk + 1 := by omega
  have hk7 : (kk : Int) ≤ 70000 := by omega
  have hk8 : IntKind.i64.wrap ((kk : Int) + 1) = (kk : Int) + 1 := by rw [wrap_i64]; omega
  obtain ⟨yb, hyb, hyx⟩ := turned_byte xb by_ hby (by omega)
  have hcv : (convert 27 9 (.slice (some ⟨n3', 0, none⟩) 1 1)).run Try.prog (w3.alloc (.cells #[.int .u8 (yb.toNat : Int)] 5)).drew = .ok (.string (strL [yb])) (w3.alloc (.cells #[.int .u8 (yb.toNat : Int)] 5)).drew := by
    subst hn3
    refine convert_own (B := 0) (bs := [yb]) ⟨by simp, .inr ⟨w3.heap.size, 1, _, rfl, by omega, heap_alloc_new w3 _, Nat.le_refl _, by unfold maxLen; omega, rfl, rfl⟩⟩
  have hy1 : (strL [yb]).size = 1 := rfl
  have ht13 : uE (F.extract 0 kk ++ strL [yb] ++ F.extract (kk + 1) F.size) = 13 := by
    refine hturn.out _ i hi2 yb xb (by rw [hkk, get_list F kk hkb, hxb]) hyx ?_
    rw [hkk, ByteArray.data_append, ByteArray.data_append, Array.toList_append, Array.toList_append, ext_head, ext_tail, strL_list]
    simp
  have c24b : Hid (∀ W, Calls Try.prog 24 #[.string (F.extract 0 kk ++ strL [yb] ++ F.extract (kk + 1) F.size)] W (UnP 13 W)) := fun W => by
    have := unframe_any (F.extract 0 kk ++ strL [yb] ++ F.extract (kk + 1) F.size) (by rw [ByteArray.size_append, ByteArray.size_append, ByteArray.size_extract, ByteArray.size_extract, hy1]; omega) W
    rw [ht13] at this
    exact this
  clear ht13
  generalize strL [yb] = Ys at *
  go_wp2_with fail
  go_region_with (go_at_call 24; refine (c24b.out _).mono ?_; rintro e w5 ⟨B5, n5, rfl, b5⟩)
  all_goals
    go_wp2
    go_ret
    have z1 := b1.size
    have z2 := b2.size
    have z3 := b3.size
    have bb : Below m w w3 := ((b1.mono (by omega)).trans (b2.mono (by omega))).trans (b3.mono (by omega))
    have b5' : Below m _ w5 := b5.mono (by show m ≤ (w3.alloc _).heap.size; simp; omega)
    exact ⟨rfl, ((bb.alloc (by omega) _).drew).trans b5'⟩
set_option maxHeartbeats 1600000 in
set_option maxRecDepth 100000 in
theorem packTurned_nz (s : ByteArray) (h : (s.size : Int) ≤ (65536 : Int)) (at_ : Int) (hneg : at_ < 0) (kn : Nat) (hk : -(at_ + 1) = (kn : Int)) (hkn : kn < 9223372036854775808) (w : World) :
    Calls Try.prog 6 #[.string s, .int .i64 at_, .int .u8 0] w fun e w' => e = .returned (.bool true) ∧ Below w.heap.size w w' := by
  obtain ⟨m, hm⟩ : ∃ m, w.heap.size = m := ⟨_, rfl⟩
  have c23 : Hid (∀ W, Calls Try.prog 23 #[.string s] W fun e w' => e = .returned (.tuple #[.string (strL (frameL s)), .int .i64 0]) ∧ Below W.heap.size W w') := fun W => frame_ok s h W
  have hFz : (strL (frameL s)).size = (numL s.size).length + s.size + 4 := by
    rw [strL_size, frameL, textL, List.length_append, List.length_append]; rfl
  have hH := numL_len10 s.size (by omega)
  have hH0 : 0 < (numL s.size).length := by
    by_cases hq : s.size < 128
    · rw [numL_small hq]; simp
    · rw [numL_big hq]; simp
  have hcut : ∀ j, j < (strL (frameL s)).size → uE ((strL (frameL s)).extract 0 j) = 10 := fun j hj => cut_err s (by omega) _ j hj (by rw [ext_head, strL_list])
  have hturn : Hid (∀ (t : ByteArray) (i : Nat), i < s.size + 4 → ∀ (y x : UInt8), (strL (frameL s)).data.toList[(numL s.size).length + i]? = some x → y ≠ x →
      t.data.toList = (strL (frameL s)).data.toList.take ((numL s.size).length + i) ++ y :: (strL (frameL s)).data.toList.drop ((numL s.size).length + i + 1) → uE t = 13) := fun t i hi y x hx hy ht => turn_err s (by omega) t i hi y x hx hy ht
  obtain ⟨F, hF⟩ : ∃ F, strL (frameL s) = F := ⟨_, rfl⟩
  rw [hF] at c23 hFz hcut hturn
  generalize (numL s.size).length = H at *
  obtain ⟨j, hj⟩ : ∃ j, kn % F.size = j := ⟨_, rfl⟩
  have hj1 : (kn : Int) % (F.size : Int) = (j : Int) := by rw [← hj]; simp
  have hj2 : j < F.size := by rw [← hj]; exact Nat.mod_lt _ (by omega)
  have c24 : Hid (∀ W, Calls Try.prog 24 #[.string (F.extract 0 j)] W (UnP 10 W)) := fun W => by
    have := unframe_any (F.extract 0 j) (by simp; omega) W
    rw [hcut j hj2] at this
    exact this
  clear hcut
  have hj3 : (kn : Int).tmod (F.size : Int) = (j : Int) := by rw [Int.tmod_eq_emod_of_nonneg (by omega)]; exact hj1
  obtain ⟨i, hi⟩ : ∃ i, kn % (s.size + 4) = i := ⟨_, rfl⟩
  have hi1 : (kn : Int) % ((s.size : Int) + 4) = (i : Int) := by rw [← hi]; simp
  have hi2 : i < s.size + 4 := by rw [← hi]; exact Nat.mod_lt _ (by omega)
  have hi3 : (kn : Int).tmod ((s.size : Int) + 4) = (i : Int) := by rw [Int.tmod_eq_emod_of_nonneg (by omega)]; exact hi1
  have hf0 : ¬ (F.size : Int) = 0 := by omega
  have hs0 : ¬ (s.size : Int) + 4 = 0 := by omega
  have hA : (s.size : Int) + 5 ≤ (F.size : Int) := by omega
  have hHd : (F.size : Int) - (s.size : Int) - 4 = (H : Int) := by omega
  have hF2 : (F.size : Int) ≤ 70000 := by omega
  obtain ⟨kk, hkk⟩ : ∃ kk, H + i = kk := ⟨_, rfl⟩
  have hk0 : (H : Int) + (i : Int) = (kk : Int) := by omega
  have hk1 : (kk : Int) < (F.size : Int) := by omega
  have hk2 : (kk : Int) ≤ (F.size : Int) := by omega
  have hFz' : Hid (F.size = H + s.size + 4) := hFz
  clear hFz hj hi hj1 hi1 hF hH hH0
  have hj4 : (j : Int) < (F.size : Int) := by omega
  have hat1 : -9223372036854775808 ≤ at_ := by omega
  rw [hm]
  go_enter Try.func6, Try.ntmps6
  go_wp2_with (first
    | (go_at_call 9; refine (awake_any _).mono ?_; rintro e w1 ⟨rfl, b1⟩)
    | (go_at_call 23; refine (c23.out _).mono ?_; rintro e w2 ⟨rfl, b2⟩))
  refine (c24.out _).mono ?_
  rintro e w3 ⟨B3, n3, rfl, b3⟩
  have hkb : kk < F.size := by omega
  obtain ⟨xb, hxb⟩ : ∃ xb, F[kk]'hkb = xb := ⟨_, rfl⟩
  have hx256 : xb.toNat < 256 := xb.toNat_lt
  obtain ⟨n3', hn3⟩ : ∃ n3', w3.heap.size = n3' := ⟨_, rfl⟩
  have hk4 : (kk : Int) + 1 ≤ (F.size : Int) := by omega
  have hk6 : (0 : Int) ≤ (kk : Int) + 1 := by omega
  have hk5 : ((kk : Int) + 1).toNat = kk + 1 := by omega
  have hk7 : (kk : Int) ≤ 70000 := by omega
  have hk8 : IntKind.i64.wrap ((kk : Int) + 1) = (kk : Int) + 1 := by rw [wrap_i64]; omega
  obtain ⟨yb, hyb, hyx⟩ := turned_byte xb 1 (by omega) (by omega)
  rw [show ((1 : Nat) : Int) = 1 from rfl] at hyb
  have hcv : (convert 27 9 (.slice (some ⟨n3', 0, none⟩) 1 1)).run Try.prog (w3.alloc (.cells #[.int .u8 (yb.toNat : Int)] 5)).drew = .ok (.string (strL [yb])) (w3.alloc (.cells #[.int .u8 (yb.toNat : Int)] 5)).drew := by
    subst hn3
    refine convert_own (B := 0) (bs := [yb]) ⟨by simp, .inr ⟨w3.heap.size, 1, _, rfl, by omega, heap_alloc_new w3 _, Nat.le_refl _, by unfold maxLen; omega, rfl, rfl⟩⟩
  have hy1 : (strL [yb]).size = 1 := rfl
  have ht13 : uE (F.extract 0 kk ++ strL [yb] ++ F.extract (kk + 1) F.size) = 13 := by
    refine hturn.out _ i hi2 yb xb (by rw [hkk, get_list F kk hkb, hxb]) hyx ?_
    rw [hkk, ByteArray.data_append, ByteArray.data_append, Array.toList_append, Array.toList_append, ext_head, ext_tail, strL_list]
    simp
  have c24b : Hid (∀ W, Calls Try.prog 24 #[.string (F.extract 0 kk ++ strL [yb] ++ F.extract (kk + 1) F.size)] W (UnP 13 W)) := fun W => by
    have := unframe_any (F.extract 0 kk ++ strL [yb] ++ F.extract (kk + 1) F.size) (by rw [ByteArray.size_append, ByteArray.size_append, ByteArray.size_extract, ByteArray.size_extract, hy1]; omega) W
    rw [ht13] at this
    exact this
  clear ht13
  generalize strL [yb] = Ys at *
  go_wp2_with fail
  go_region_with (go_at_call 24; refine (c24b.out _).mono ?_; rintro e w5 ⟨B5, n5, rfl, b5⟩)
  all_goals
    go_wp2
    go_ret
    have z1 := b1.size
    have z2 := b2.size
    have z3 := b3.size
    have bb : Below m w w3 := ((b1.mono (by omega)).trans (b2.mono (by omega))).trans (b3.mono (by omega))
    have b5' : Below m _ w5 := b5.mono (by show m ≤ (w3.alloc _).heap.size; simp; omega)
    exact ⟨rfl, ((bb.alloc (by omega) _).drew).trans b5'⟩
end Go.Proofs.Ytlbdlipdhhpgmaa
