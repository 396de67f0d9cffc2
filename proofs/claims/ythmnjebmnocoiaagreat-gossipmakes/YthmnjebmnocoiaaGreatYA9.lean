/- GsNum, GsInt, GsNewer. -/
import Derived.Laws.BytesString
import Derived.Test.YthmnjebmnocoiaaGreatYGsMem
/- The document's own Num and Int: a number's bytes. -/
namespace Go.Proofs.YthmnjebmnocoiaaGreat
open Go.RowKit

def numL (n : Nat) : List UInt8 := if n < 128 then [UInt8.ofNat n] else UInt8.ofNat (n % 128 + 128) :: numL (n / 128)
termination_by n
theorem numL_small {n : Nat} (h : n < 128) : numL n = [UInt8.ofNat n] := by rw [numL, if_pos h]
theorem numL_big {n : Nat} (h : ¬ n < 128) : numL n = UInt8.ofNat (n % 128 + 128) :: numL (n / 128) := by rw [numL, if_neg h]
theorem numL_len : ∀ (k n : Nat), n < 2 ^ (7 * (k + 1)) → (numL n).length ≤ k + 1
  | 0, n, h => by rw [numL_small (by omega)]; simp
  | k + 1, n, h => by
    by_cases hn : n < 128
    · rw [numL_small hn]; simp
    · rw [numL_big hn]
      have := numL_len k (n / 128) (by rw [show 7 * (k + 1 + 1) = 7 * (k + 1) + 7 by omega, Nat.pow_add] at h; omega)
      simp; omega
theorem numL_len10 (n : Nat) (h : n < 18446744073709551616) : (numL n).length ≤ 10 :=
  numL_len 9 n (Nat.lt_of_lt_of_le h (by decide))
def byteV (c : UInt8) : Value := .int .u8 (c.toNat : Int)
theorem und85 : Tryz.prog.underlying 70 = some (.slice 5) := by kernel_rfl
theorem und9 : Tryz.prog.underlying 9 = some .string := by kernel_rfl
theorem full5 : (Tryz.prog.info? 5).map (fun i => (i.zero, i.size, i.bytes)) = some (some (.int .u8 0), 1, 1) := by kernel_rfl
theorem inf5 : ∃ i, Tryz.prog.info? 5 = some i ∧ i.zero = some (.int .u8 0) ∧ i.size = 1 ∧ i.bytes = 1 := by
  have := full5
  cases h : Tryz.prog.info? 5 with
  | none => simp [h] at this
  | some i =>
    simp [h] at this
    exact ⟨i, rfl, this.1, this.2.1, this.2.2⟩

theorem byteV_ofNat (m : Nat) : byteV (UInt8.ofNat m) = .int .u8 ((m : Int) % 256) := by
  unfold byteV; simp

def strL (l : List UInt8) : ByteArray := ⟨l.toArray⟩
theorem str_nums (l : List UInt8) : strOfNums (l.map fun c => (c.toNat : Int)) = strL l := by
  unfold strOfNums strL
  rw [List.map_map]
  congr 2
  have : ((fun n : Int => UInt8.ofNat n.toNat) ∘ fun c : UInt8 => (c.toNat : Int)) = id := by
    funext c
    simp
  rw [this, List.map_id]
theorem conv_none (w : World) : (convert 70 9 (.slice none 0 0)).run Tryz.prog w = .ok (.string (strL [])) w := by kernel_rfl
theorem und5 : Tryz.prog.underlying 5 = some (.int .u8) := by kernel_rfl
theorem convert_own {w : World} {B : Nat} {v : Value} {bs : List UInt8} (h : w.ownsRow B 5 1 v bs.length (bs.map byteV)) : (convert 70 9 v).run Tryz.prog w = .ok (.string (strL bs)) w := by
  rcases h.2 with ⟨rfl, h0⟩ | ⟨g, cap, cur, rfl, hg, hcur, hcap, hcm, hcz, htk⟩
  · have : bs = [] := List.eq_nil_of_length_eq_zero h0
    subst this
    exact conv_none w
  · have := run_convert_bytes_arg (P := Tryz.prog) w 70 5 und85 und5 g 0 bs.length cap (bs.map fun c => (c.toNat : Int)) (by simp) (fun i hi => by
      have hl : i < bs.length := by simpa using hi
      rw [Nat.zero_add, cell_of_row w g i cur 5 (0, 0) hcur]
      have h3 : (cur.toList.take (bs.length * 1))[i]? = (bs.map byteV)[i]? := by rw [htk]
      rw [List.getElem?_take_of_lt (by omega), Array.getElem?_toList] at h3
      rw [h3]
      simp [hl]; rfl) 9 und9
    rw [str_nums] at this
    exact this

set_option maxRecDepth 100000 in
set_option maxHeartbeats 4000000 in
theorem refNum_any (n : Nat) (hn : n < 18446744073709551616) (w : World) :
    Calls Tryz.prog 51 #[.int .u64 (n : Int)] w fun e w' => e = .returned (.string (strL (numL n))) ∧ Below w.heap.size w w' := by
  obtain ⟨i5, hi5, hz5, hs5, hb5⟩ := inf5
  have F5 : Hid (Tryz.prog.info? 5 = some i5) := hi5
  clear hi5
  have h10 := numL_len10 n hn
  go_enter Tryz.func51, Tryz.ntmps51
  go_wp2_with fail
  go_loopw [0, 3] (fun x v wr => ∃ (m : Nat) (p : List UInt8), m ≤ n ∧ x = .int .u64 (m : Int) ∧ numL n = p ++ numL m ∧ wr.ownsRow w.heap.size 5 1 v p.length (p.map byteV) ∧ Below w.heap.size w wr) (fun x _ _ => (intOf x).toNat)
  case atStart => exact ⟨n, [], Nat.le_refl _, rfl, rfl, World.ownsRow_nil _ _ _ _, Below.refl _ _⟩
  case round =>
    obtain ⟨m, p, hm, rfl, hp, hown, hB⟩ := hrel
    have hpl : p.length ≤ 10 := by rw [hp] at h10; simp at h10; omega
    have hle := hB.size
    have hP : Hid (numL n = p ++ numL m) := hp
    clear hp h10
    generalize hN : p.length = N at hown hpl
    by_cases hlt : (127 : Int) < (m : Int)
    · have hm2 : ¬ m < 128 := by omega
      have hwr : IntKind.u8.wrap (128 + (m : Int) % 128) = 128 + (m : Int) % 128 := by rw [wrap_u8]; omega
      have hwr2 : (128 + (m : Int) % 128) % 256 = 128 + (m : Int) % 128 := by omega
      have hw64 : IntKind.u64.wrap (128 + (m : Int) % 128) = 128 + (m : Int) % 128 := by rw [wrap_u64]; omega
      have htm : (m : Int).tmod 128 = (m : Int) % 128 := Int.tmod_eq_emod_of_nonneg (by omega)
      have htd : (m : Int).tdiv 128 = ((m / 128 : Nat) : Int) := by rw [Int.tdiv_eq_ediv_of_nonneg (by omega)]; omega
      have hnews : Hid (∀ (k : Nat) (u : Value), [Value.int .u8 (128 + (m : Int) % 128)][k]? = some u → (wr.alloc (.cells #[.int .u8 (128 + (m : Int) % 128)] 5)).cell? ((⟨wr.heap.size, 0, none⟩ : Addr).add k) = some u) := World.news_of_block (heap_alloc_new wr _)
      go_wp2_with (first
        | (at_builtin; refine wpList_append_lies _ rfl (.tmp 6) (.tmp 11) 70 rfl w.heap.size 5 i5 (.int .u8 0) 1 1 und85 F5.out hz5 hs5 hb5 rfl (by omega) u3 N (p.map byteV) rfl (hown.alloc _) ⟨wr.heap.size, 0, none⟩ 1 1 [.int .u8 (128 + (m : Int) % 128)] rfl rfl hnews.out (by intro u hu; simp at hu; subst hu; rfl) (by omega) (by unfold maxLen; omega) (by omega) (by simp; omega) (wr.heap.size + 1) (by simp) ?_; intro g cap' w5 hown5 hgrow hat hlt5))
      have hbv : Value.int .u8 (128 + (m : Int) % 128) = byteV (UInt8.ofNat (m % 128 + 128)) := by rw [byteV_ofNat]; congr 1; omega
      go_roundw
      case rel =>
        refine ⟨m / 128, p ++ [UInt8.ofNat (m % 128 + 128)], by omega, rfl, ?_, ?_, (hB.alloc hle _).grown hgrow (by simp; omega) (fun j e => own3_base hown j e)⟩
        · rw [hP.out, numL_big hm2]; simp
        · rw [hbv] at hown5
          have e1 : (p ++ [UInt8.ofNat (m % 128 + 128)]).map byteV = p.map byteV ++ [byteV (UInt8.ofNat (m % 128 + 128))] := by simp
          have e2 : (p ++ [UInt8.ofNat (m % 128 + 128)]).length = N + 1 := by simp [hN]
          rw [e1, e2]
          exact hown5
      case measure => simp; omega
    · have hm2 : m < 128 := by omega
      have hwr : IntKind.u8.wrap (m : Int) = (m : Int) := by rw [wrap_u8]; omega
      have hme : (m : Int) % 256 = (m : Int) := by omega
      have hnews : Hid (∀ (k : Nat) (u : Value), [Value.int .u8 (m : Int)][k]? = some u → (wr.alloc (.cells #[.int .u8 (m : Int)] 5)).cell? ((⟨wr.heap.size, 0, none⟩ : Addr).add k) = some u) := World.news_of_block (heap_alloc_new wr _)
      have hbv2 : ∀ w5 v', w5.ownsRow w.heap.size 5 1 v' (N + 1) (p.map byteV ++ [.int .u8 (m : Int)]) → (convert 70 9 v').run Tryz.prog w5 = .ok (.string (strL (numL n))) w5 := fun w5 v' h => by
        have hx : Value.int .u8 (m : Int) = byteV (UInt8.ofNat m) := by rw [byteV_ofNat, hme]
        have e1 : (numL n).map byteV = p.map byteV ++ [.int .u8 (m : Int)] := by rw [hP.out, numL_small hm2, hx]; simp
        have e2 : (numL n).length = N + 1 := by rw [hP.out, numL_small hm2]; simp [hN]
        rw [← e1, ← e2] at h
        exact convert_own h
      go_wp2_with (first
        | (at_builtin; refine wpList_append_lies _ rfl (.tmp 15) (.tmp 18) 70 rfl w.heap.size 5 i5 (.int .u8 0) 1 1 und85 F5.out hz5 hs5 hb5 rfl (by omega) u3 N (p.map byteV) rfl (hown.alloc _) ⟨wr.heap.size, 0, none⟩ 1 1 [.int .u8 (m : Int)] rfl rfl hnews.out (by intro u hu; simp at hu; subst hu; rfl) (by omega) (by unfold maxLen; omega) (by omega) (by simp; omega) (wr.heap.size + 1) (by simp) ?_; intro g cap' w5 hown5 hgrow hat hlt5; have hcv := hbv2 w5 _ hown5))
      go_ret
      exact ⟨rfl, (hB.alloc hle _).grown hgrow (by simp; omega) (fun j e => own3_base hown j e)⟩

end Go.Proofs.YthmnjebmnocoiaaGreat

/- The document's own Int. -/
namespace Go.Proofs.YthmnjebmnocoiaaGreat
open Go.RowKit

def intN (n : Int) : Nat := if 0 ≤ n then (2 * n).toNat else (2 * (-(n + 1)) + 1).toNat
theorem intN_lt {n : Int} (h : I64 n) : intN n < 18446744073709551616 := by
  obtain ⟨h1, h2⟩ := h
  unfold intN
  split <;> omega
set_option maxRecDepth 100000 in
set_option maxHeartbeats 1000000 in
theorem refInt_any (n : Int) (hn : I64 n) (w : World) : Calls Tryz.prog 52 #[.int .i64 n] w fun e w' => e = .returned (.string (strL (numL (intN n)))) ∧ Below w.heap.size w w' := by
  have hlt := intN_lt hn
  have hN : Hid (Calls Tryz.prog 51 #[.int .u64 (intN n : Int)] w fun e w' => e = .returned (.string (strL (numL (intN n)))) ∧ Below w.heap.size w w') := refNum_any (intN n) hlt w
  obtain ⟨h1, h2⟩ := hn
  generalize strL (numL (intN n)) = st at *
  by_cases h : 0 ≤ n
  · have e : (intN n : Int) = 2 * n := by unfold intN; rw [if_pos h]; omega
    rw [e] at hN
    have w1 : IntKind.u64.wrap n = n := by rw [wrap_u64]; omega
    have w2 : IntKind.u64.wrap (2 * n) = 2 * n := by rw [wrap_u64]; omega
    have m1 : n % 18446744073709551616 = n := by omega
    have m2 : 2 * n % 18446744073709551616 = 2 * n := by omega
    go_enter Tryz.func52, Tryz.ntmps52
    go_wp2_with (go_at_call 51; refine hN.out.mono ?_; rintro e w1 ⟨rfl, b1⟩)
    go_ret
    exact ⟨rfl, b1⟩
  · have e : (intN n : Int) = 2 * (-(n + 1)) + 1 := by unfold intN; rw [if_neg h]; omega
    rw [e] at hN
    have h' : decide (0 ≤ n) = false := by simpa using h
    have m1 : (-(n + 1)) % 18446744073709551616 = -(n + 1) := by omega
    have m2 : 2 * (-(n + 1)) % 18446744073709551616 = 2 * (-(n + 1)) := by omega
    have m3 : (2 * (-(n + 1)) + 1) % 18446744073709551616 = 2 * (-(n + 1)) + 1 := by omega
    have w1 : IntKind.u64.wrap (-(n + 1)) = -(n + 1) := by rw [wrap_u64]; omega
    have w2 : IntKind.u64.wrap (2 * (-(n + 1))) = 2 * (-(n + 1)) := by rw [wrap_u64]; omega
    have w3 : IntKind.u64.wrap (2 * (-(n + 1)) + 1) = 2 * (-(n + 1)) + 1 := by rw [wrap_u64]; omega
    have g1 : -9223372036854775808 ≤ n + 1 ∧ n + 1 ≤ 9223372036854775807 := by omega
    have g2 : -9223372036854775808 ≤ -(n + 1) ∧ -(n + 1) ≤ 9223372036854775807 := by omega
    go_enter Tryz.func52, Tryz.ntmps52
    go_wp2_with (go_at_call 51; refine hN.out.mono ?_; rintro e w1 ⟨rfl, b1⟩)
    go_ret
    exact ⟨rfl, b1⟩
end Go.Proofs.YthmnjebmnocoiaaGreat

/- Which of two members is newer. -/
namespace Go.Proofs.YthmnjebmnocoiaaGreat
open Go.RowKit

set_option maxRecDepth 100000 in
set_option maxHeartbeats 1000000 in
theorem refNewer_any (m o : Mb) (w : World) : Calls Tryz.prog 33 #[.agg (mbV m).toArray, .agg (mbV o).toArray] w fun e w' => e = .returned (.bool (newM m o)) ∧ Below w.heap.size w w' := by
  obtain ⟨m1, m2, m3⟩ := m
  obtain ⟨o1, o2, o3⟩ := o
  have x1 := ((holds_new w (mbV (m1, m2, m3)) 53).alloc (.cells (mbV (o1, o2, o3)).toArray 53)).at 1 _ rfl
  have x2 := ((holds_new w (mbV (m1, m2, m3)) 53).alloc (.cells (mbV (o1, o2, o3)).toArray 53)).at 2 _ rfl
  have y1 := (holds_new (w.alloc (.cells (mbV (m1, m2, m3)).toArray 53)) (mbV (o1, o2, o3)) 53).at 1 _ rfl
  have y2 := (holds_new (w.alloc (.cells (mbV (m1, m2, m3)).toArray 53)) (mbV (o1, o2, o3)) 53).at 2 _ rfl
  rw [World.size_alloc] at y1 y2
  have hb : Hid (newM (m1, m2, m3) (o1, o2, o3) = (decide (o3 < m3) || (decide (o3 = m3) && decide (o2 < m2)))) := rfl
  generalize newM (m1, m2, m3) (o1, o2, o3) = nb at *
  by_cases h1 : o3 < m3
  · have hnb : Hid (nb = true) := by show nb = true; rw [hb.out]; simp [h1]
    have g1 : (o3 : Int) < (m3 : Int) := by omega
    clear h1
    go_enter Tryz.func33, Tryz.ntmps33
    go_wp2
    go_ret
    refine ⟨?_, ?_⟩
    · rw [hnb.out]; rfl
    · exact ((Below.refl _ w).alloc (Nat.le_refl _) _).alloc (by simp) _
  · have g1 : decide ((o3 : Int) < (m3 : Int)) = false := by simp; omega
    have g1' : ¬ (o3 : Int) < (m3 : Int) := by omega
    by_cases h2 : o3 = m3
    · subst h2
      have hnb : Hid (nb = decide (o2 < m2)) := by show nb = _; rw [hb.out]; simp
      clear h1
      go_enter Tryz.func33, Tryz.ntmps33
      go_wp2
      go_ret
      refine ⟨?_, ?_⟩
      · rw [hnb.out]; rfl
      · exact ((Below.refl _ w).alloc (Nat.le_refl _) _).alloc (by simp) _
    · have hnb : Hid (nb = false) := by show nb = _; rw [hb.out]; simp [h1, h2]
      have g2 : ((m3 : Int) == (o3 : Int)) = false := by simp; omega
      have g3 : ¬ (m3 : Int) = (o3 : Int) := by omega
      clear h1 h2
      go_enter Tryz.func33, Tryz.ntmps33
      go_wp2
      go_ret
      refine ⟨?_, ?_⟩
      · rw [hnb.out]; rfl
      · exact ((Below.refl _ w).alloc (Nat.le_refl _) _).alloc (by simp) _
end Go.Proofs.YthmnjebmnocoiaaGreat
