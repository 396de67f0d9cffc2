/- What the document's own Num, Int, Flag, Text and Bytes answer. -/
import Derived.Test.YtlbdlipdhhpgmaaLaid
namespace Go.Proofs.Ytlbdlipdhhpgmaa
open Go.RowKit

theorem str_ext' {a b : ByteArray} (h : a.data.toList = b.data.toList) : a = b := by
  obtain ⟨⟨x⟩⟩ := a
  obtain ⟨⟨y⟩⟩ := b
  have : x = y := h
  rw [this]
theorem below_grown {B : Nat} {w0 w w' : World} {v : Value} {e : TypeId} {size k : Nat} {xs : List Value} (h : Below B w0 w) (hg : w.grownBy w' v.ownBlock) (hB : B ≤ w.heap.size) (ho : w.ownsRow B e size v k xs) : Below B w0 w' :=
  h.grown hg hB (fun j hj => by
    rcases ho.2 with ⟨rfl, _⟩ | ⟨g, cap, cur, rfl, hb, _⟩
    · cases hj
    · simp [Value.ownBlock] at hj; omega)

set_option maxHeartbeats 800000 in
set_option maxRecDepth 100000 in
theorem rnum_any (n : Nat) (hn : n < 18446744073709551616) (w : World) :
    Calls Try.prog 14 #[.int .u64 (n : Int)] w fun e w' => e = .returned (.string (strL (numL n))) ∧ Below w.heap.size w w' := by
  obtain ⟨i5, hi5, hz5, hs5, hb5⟩ := inf5
  have F5 : Hid (Try.prog.info? 5 = some i5) := hi5
  clear hi5
  obtain ⟨N, hN⟩ : ∃ N, w.heap.size = N := ⟨_, rfl⟩
  rw [hN]
  have h10 := numL_len10 n hn
  obtain ⟨Q, hQ⟩ : ∃ Q, strL (numL n) = Q := ⟨_, rfl⟩
  rw [hQ]
  have HQ : Hid (strL (numL n) = Q) := hQ
  clear hQ
  go_enter Try.func14, Try.ntmps14
  go_wp2_with fail
  go_loopw [0, 3] (fun v b wr => ∃ (m : Nat) (p : List UInt8), m ≤ n ∧ v = .int .u64 (m : Int) ∧ numL n = p ++ numL m ∧ wr.ownsRow N 5 1 b p.length (p.map byteV) ∧ N ≤ wr.heap.size ∧ Below N w wr) (fun v _ _ => (intOf v).toNat)
  case atStart => exact ⟨n, [], Nat.le_refl _, rfl, rfl, World.ownsRow_nil _ _ _ _, by omega, Below.refl _ _⟩
  case round =>
    obtain ⟨m, p, hm, rfl, hp, hown, hsz, hb⟩ := hrel
    have hpl : p.length ≤ 10 := by rw [hp] at h10; simp at h10; omega
    have hP : Hid (numL n = p ++ numL m) := hp
    clear hp h10
    generalize hL : p.length = L at hown hpl
    by_cases hlt : (127 : Int) < (m : Int)
    · have hm2 : ¬ m < 128 := by omega
      have hv : ((128 : Int) + (m : Int) % 128) % 256 = (128 : Int) + (m : Int) % 128 := by omega
      have hnews : Hid (∀ (k : Nat) (u : Value), [Value.int .u8 ((128 : Int) + (m : Int) % 128)][k]? = some u → (wr.alloc (.cells #[.int .u8 ((128 : Int) + (m : Int) % 128)] 5)).cell? ((⟨wr.heap.size, 0, none⟩ : Addr).add k) = some u) := World.news_of_block (heap_alloc_new wr _)
      have hbase : N ≤ (wr.alloc (.cells #[.int .u8 ((128 : Int) + (m : Int) % 128)] 5)).heap.size := by simp; omega
      go_wp2_with (first
        | (at_builtin; refine wpList_append_lies _ rfl (.tmp 6) (.tmp 11) 27 rfl N 5 i5 (.int .u8 0) 1 1 und27 F5.out hz5 hs5 hb5 rfl (by omega) u3 L (p.map byteV) rfl (hown.alloc _) ⟨wr.heap.size, 0, none⟩ 1 1 [.int .u8 ((128 : Int) + (m : Int) % 128)] rfl rfl hnews.out (by intro u hu; simp at hu; subst hu; rfl) (by omega) (by unfold maxLen; omega) (by omega) hbase (wr.heap.size + 1) (by simp) ?_; intro g cap w3 hown3 hgrow hat hlt3))
      have b3 : Below N w w3 := below_grown (hb.alloc (by omega) _) hgrow hbase (hown.alloc _)
      refine ⟨⟨m / 128, p ++ [UInt8.ofNat (m % 128 + 128)], by omega, rfl, ?_, ?_, (by have := b3.size; omega), b3⟩, by simp; omega⟩
      · rw [hP.out, numL_big hm2]; simp
      · have hx : Value.int .u8 ((128 : Int) + (m : Int) % 128) = byteV (UInt8.ofNat (m % 128 + 128)) := by
          rw [byteV_ofNat]; congr 1; omega
        rw [hx] at hown3
        rw [List.length_append, hL, List.map_append]
        exact hown3
    · have hm2 : m < 128 := by omega
      have hme : (m : Int) % 256 = (m : Int) := by omega
      have hnews : Hid (∀ (k : Nat) (u : Value), [Value.int .u8 (m : Int)][k]? = some u → (wr.alloc (.cells #[.int .u8 (m : Int)] 5)).cell? ((⟨wr.heap.size, 0, none⟩ : Addr).add k) = some u) := World.news_of_block (heap_alloc_new wr _)
      have hbase : N ≤ (wr.alloc (.cells #[.int .u8 (m : Int)] 5)).heap.size := by simp; omega
      have hx : Hid (Value.int .u8 (m : Int) = byteV (UInt8.ofNat m)) := by
        show Value.int .u8 (m : Int) = byteV (UInt8.ofNat m)
        rw [byteV_ofNat, hme]
      have hfin : Hid (∀ (W : World) (g cap : Nat), W.ownsRow N 5 1 (.slice (some ⟨g, 0, none⟩) (L + 1) cap) (L + 1) (p.map byteV ++ [Value.int .u8 (m : Int)]) → (convert 27 9 (.slice (some ⟨g, 0, none⟩) (L + 1) cap)).run Try.prog W = .ok (.string Q) W) := fun W g cap ho => by
        rw [hx.out] at ho
        have e : p.map byteV ++ [byteV (UInt8.ofNat m)] = (numL n).map byteV := by rw [hP.out, numL_small hm2]; simp
        have e2 : L + 1 = (numL n).length := by rw [hP.out, numL_small hm2, List.length_append, hL]; rfl
        rw [e, e2] at ho
        have := convert_own ho
        rw [HQ.out] at this
        rw [e2]
        exact this
      go_wp2_with (first
        | (at_builtin; refine wpList_append_lies _ rfl (.tmp 15) (.tmp 18) 27 rfl N 5 i5 (.int .u8 0) 1 1 und27 F5.out hz5 hs5 hb5 rfl (by omega) u3 L (p.map byteV) rfl (hown.alloc _) ⟨wr.heap.size, 0, none⟩ 1 1 [.int .u8 (m : Int)] rfl rfl hnews.out (by intro u hu; simp at hu; subst hu; rfl) (by omega) (by unfold maxLen; omega) (by omega) hbase (wr.heap.size + 1) (by simp) ?_; intro g cap w3 hown3 hgrow hat hlt3; have hcv := hfin.out w3 g cap hown3))
      have b3 : Below N w w3 := below_grown (hb.alloc (by omega) _) hgrow hbase (hown.alloc _)
      go_ret
      exact ⟨rfl, b3⟩

set_option maxRecDepth 100000 in
theorem rtext_any (s : ByteArray) (hs : s.size ≤ 1000000000) (w : World) :
    Calls Try.prog 15 #[.string s] w fun e w' => e = .returned (.string (strL (textL s))) ∧ Below w.heap.size w w' := by
  have hr : Hid (Calls Try.prog 14 #[.int .u64 (s.size : Int)] w fun e w' => e = .returned (.string (strL (numL s.size))) ∧ Below w.heap.size w w') := rnum_any s.size (by omega) w
  have hz := numL_len10 s.size (by omega)
  have hq : (strL (numL s.size)).size = (numL s.size).length := rfl
  have he : strL (numL s.size) ++ s = strL (textL s) := by
    apply str_ext'
    rw [ByteArray.data_append, Array.toList_append, strL_list, strL_list, textL]
  have HE : Hid (strL (numL s.size) ++ s = strL (textL s)) := he
  clear he
  generalize strL (numL s.size) = q at *
  generalize strL (textL s) = t at *
  rw [← hq] at hz
  clear hq
  go_enter Try.func15, Try.ntmps15
  go_wp2_with (go_at_call 14; refine hr.out.mono ?_; rintro e w1 ⟨rfl, b1⟩)
  go_ret
  exact ⟨by rw [← HE.out]; rfl, b1⟩

set_option maxRecDepth 100000 in
theorem rint_any (n : Int) (h : -9223372036854775808 ≤ n ∧ n < 9223372036854775808) (w : World) :
    Calls Try.prog 31 #[.int .i64 n] w fun e w' => e = .returned (.string (strL (numL (zig n)))) ∧ Below w.heap.size w w' := by
  have hr : Hid (Calls Try.prog 14 #[.int .u64 (zig n : Int)] w fun e w' => e = .returned (.string (strL (numL (zig n)))) ∧ Below w.heap.size w w') := rnum_any (zig n) (zig_lt n h) w
  by_cases h0 : n < 0
  · have e : (zig n : Int) = 2 * -(n + 1) + 1 := by rw [zig, if_pos h0]; omega
    rw [e] at hr
    generalize strL (numL (zig n)) = q at *
    clear e
    go_enter Try.func31, Try.ntmps31
    go_wp2_with (go_at_call 14; refine hr.out.mono ?_; rintro e w1 ⟨rfl, b1⟩)
    go_ret
    exact ⟨rfl, b1⟩
  · have e : (zig n : Int) = 2 * n := by rw [zig, if_neg h0]; omega
    rw [e] at hr
    generalize strL (numL (zig n)) = q at *
    clear e
    go_enter Try.func31, Try.ntmps31
    go_wp2_with (go_at_call 14; refine hr.out.mono ?_; rintro e w1 ⟨rfl, b1⟩)
    go_ret
    exact ⟨rfl, b1⟩
theorem rflag_any (b : Bool) (w : World) : Calls Try.prog 32 #[.bool b] w fun e w' => e = .returned (.string (strL (flagL b))) ∧ w' = w := by
  cases b
  all_goals
    go_enter Try.func32, Try.ntmps32
    go_wp2
    go_ret
    exact ⟨rfl, rfl⟩

set_option maxHeartbeats 1600000 in
set_option maxRecDepth 100000 in
theorem rbytes_any (k l : Int) (n : Nat) (hn : n < 18446744073709551616) (s : ByteArray) (hs : s.size ≤ 1000000000) (w : World) :
    Calls Try.prog 11 #[.agg #[.int .i64 k, .int .i64 l, .int .u64 (n : Int), .string s]] w fun e w' => e = .returned (.string (strL (thL k n s))) ∧ Below w.heap.size w w' := by
  by_cases h1 : k = 1
  · subst h1
    rw [thL, if_pos rfl]
    have con : Hid (∀ W, Calls Try.prog 31 #[.int .i64 (wrap64 (n : Int))] W fun e w' => e = .returned (.string (strL (numL (zig (wrap64 (n : Int)))))) ∧ Below W.heap.size W w') := fun W => rint_any (wrap64 (n : Int)) (wrap64_fits _) W
    generalize strL (numL (zig (wrap64 (n : Int)))) = q at *
    go_enter Try.func11, Try.ntmps11
    go_wp2_with (go_at_call 31; refine (con.out _).mono ?_; rintro e w1 ⟨rfl, b1⟩)
    go_ret
    exact ⟨rfl, ((Below.refl _ _).alloc (Nat.le_refl _) _).trans (b1.mono (by simp))⟩
  by_cases h2 : k = 2
  · subst h2
    rw [thL, if_neg (by decide), if_pos rfl]
    have con : Hid (∀ W, Calls Try.prog 32 #[.bool ((n : Int) % 2 == 1)] W fun e w' => e = .returned (.string (strL (flagL ((n : Int) % 2 == 1)))) ∧ w' = W) := fun W => rflag_any ((n : Int) % 2 == 1) W
    generalize strL (flagL ((n : Int) % 2 == 1)) = q at *
    go_enter Try.func11, Try.ntmps11
    go_wp2_with (go_at_call 32; refine (con.out _).mono ?_; rintro e w1 ⟨rfl, rfl⟩)
    go_ret
    exact ⟨rfl, (Below.refl _ _).alloc (Nat.le_refl _) _⟩
  by_cases h3 : k = 3
  · subst h3
    rw [thL, if_neg (by decide), if_neg (by decide), if_pos rfl]
    have con : Hid (∀ W, Calls Try.prog 15 #[.string s] W fun e w' => e = .returned (.string (strL (textL s))) ∧ Below W.heap.size W w') := fun W => rtext_any s hs W
    generalize strL (textL s) = q at *
    go_enter Try.func11, Try.ntmps11
    go_wp2_with (go_at_call 15; refine (con.out _).mono ?_; rintro e w1 ⟨rfl, b1⟩)
    go_ret
    exact ⟨rfl, ((Below.refl _ _).alloc (Nat.le_refl _) _).trans (b1.mono (by simp))⟩
  by_cases h4 : k = 4
  · subst h4
    rw [thL, if_neg (by decide), if_neg (by decide), if_neg (by decide), if_pos rfl]
    have hq : strL (rawL s) = s := str_ext' rfl
    rw [hq]
    go_enter Try.func11, Try.ntmps11
    go_wp2
    go_ret
    exact ⟨rfl, (Below.refl _ _).alloc (Nat.le_refl _) _⟩
  · rw [thL, if_neg h1, if_neg h2, if_neg h3, if_neg h4]
    have con : Hid (∀ W, Calls Try.prog 14 #[.int .u64 (n : Int)] W fun e w' => e = .returned (.string (strL (numL n))) ∧ Below W.heap.size W w') := fun W => rnum_any n hn W
    generalize strL (numL n) = q at *
    go_enter Try.func11, Try.ntmps11
    go_wp2_with (go_at_call 14; refine (con.out _).mono ?_; rintro e w1 ⟨rfl, b1⟩)
    go_ret
    exact ⟨rfl, ((Below.refl _ _).alloc (Nat.le_refl _) _).trans (b1.mono (by simp))⟩
end Go.Proofs.Ytlbdlipdhhpgmaa
