/- What the document's own words answers: the 64 words of whatever block of 64 bytes. -/
import Derived.Test.YtlliijodilnlgaaDoorShRefA
namespace Go.Proofs.YtlliijodilnlgaaDoor
open Go.RowKit
attribute [local go_sem ↓] Go.wp_at_zero Go.wp_at_succ

theorem shl_and_bw (x : BitVec 32) (b : UInt8) : (x <<< 8) &&& bw b = 0#32 := by
  apply BitVec.eq_of_getLsbD_eq
  intro i hi
  rw [BitVec.getLsbD_and, BitVec.getLsbD_shiftLeft]
  by_cases h : i < 8
  · simp [h]
  · have : (bw b).getLsbD i = false := by
      unfold bw
      rw [BitVec.getLsbD_ofNat]
      have hb := b.toNat_lt
      rw [Nat.testBit_lt_two_pow (Nat.lt_of_lt_of_le hb (Nat.pow_le_pow_right (by omega) (by omega)))]
      simp
    simp [this]
theorem add_byte (x : BitVec 32) (b : UInt8) : (x <<< 8) + bw b = (x <<< 8) ||| bw b := BitVec.add_eq_or_of_and_eq_zero _ _ (shl_and_bw x b)

theorem sum_byte (x : BitVec 32) (b : UInt8) : Value.int .u32 (((x.toNat : Int) * 256 + (b.toNat : Int)) % 4294967296) = wordV ((x <<< 8) + bw b) := by
  unfold wordV
  congr 1
  have h1 : (x <<< 8).toNat = x.toNat * 256 % 4294967296 := by rw [BitVec.toNat_shiftLeft, Nat.shiftLeft_eq]
  have h2 : (bw b).toNat = b.toNat := by
    have := b.toNat_lt
    unfold bw; rw [BitVec.toNat_ofNat]; omega
  rw [BitVec.toNat_add, h1, h2]
  omega

theorem sum_four (a b c d : BitVec 32) : Value.int .u32 (((a.toNat : Int) + (b.toNat : Int) + (c.toNat : Int) + (d.toNat : Int)) % 4294967296) = wordV (a + b + c + d) := by
  unfold wordV
  congr 1
  simp only [BitVec.toNat_add]
  omega

set_option maxHeartbeats 400000 in
set_option maxRecDepth 100000 in
theorem words_any (q : ByteArray) (hq : q.size = 64) (w : World) :
    Calls Tryd.prog 39 #[.string q] w fun e w' => e = .returned (.agg ((words q.data.toList).map wordV).toArray) ∧ Below w.heap.size w w' := by
  have hl : q.data.toList.length = 64 := hq
  obtain ⟨n, hn⟩ : ∃ n, w.heap.size = n := ⟨_, rfl⟩
  rw [hn]
  go_enter Tryd.func39, Tryd.ntmps39
  go_wp2_with (first
    | (refine wpList_alloc_new 2 rfl rfl 64 rfl n hn _ (zero_of_info info64).1 ?_; intro w1 h1)
    | (refine wpList_alloc_new 3 rfl rfl 64 rfl (n + 1) h1.size _ (zero_of_info info64).1 ?_; intro w2 h2))
  go_loopw [4] (fun c wr => ∃ k : Nat, k ≤ 64 ∧ c = .int .i64 k ∧ wr.heap.size = n + 2 ∧ Below (n + 1) w2 wr ∧ Holds wr (n + 1) ((ex1 q.data.toList k).map wordV) 64) (fun c _ => 64 - (intOf c).toNat)
  case atStart => exact ⟨0, by omega, rfl, h2.size, Below.refl _ _, h2.holds⟩
  case round =>
    obtain ⟨k, hk, rfl, hz, hb, hh⟩ := hrel
    by_cases hlt : k < 64
    · have hx4 : k / 4 < (ex1 q.data.toList k).length := by rw [ex1_length]; omega
      obtain ⟨x, X⟩ : ∃ x, Hid ((ex1 q.data.toList k).getD (k / 4) 0 = x) := ⟨_, rfl⟩
      have hcl : wr.cell? ⟨n + 1, k / 4, none⟩ = some (.int .u32 x.toNat) := X.out ▸ hh.word (k / 4) _ rfl hx4
      have hfr : wr.frozen? ⟨n + 1, k / 4, none⟩ = false := hh.frozen _
      have i0 : (0 : Int) ≤ (k : Int) := by omega
      have i1 : (k : Int) < (q.size : Int) := by omega
      have i2 : (k : Int) / 4 < 64 := by omega
      have i3 : (k : Int) < 64 := by omega
      go_wp2_with fail
      go_region
      go_wp2
      refine ⟨⟨k + 1, by omega, by go_num, by simpa using hz, (hb.setCell (by simp) _).drew, ?_⟩, by simp [intOf]; omega⟩
      have := (hh.set (k / 4) (wordV ((x <<< 8) ||| bw (q.data.toList.getD k 0)))).drew
      rw [← List.map_set] at this
      rw [ex1, X.out, sum_byte, add_byte, show q[k] = q.data.toList.getD k 0 by simp [hl, hlt]; rfl]
      exact this
    · have hh : Holds wr (n + 1) ((ex1 q.data.toList 64).map wordV) 64 := (show k = 64 by omega) ▸ hh
      go_wp2_with fail
      go_loopw [5] (fun c wr => ∃ t : Nat, 16 ≤ t ∧ t ≤ 64 ∧ c = .int .i64 (t : Int) ∧ wr.heap.size = n + 2 ∧ Below (n + 1) w2 wr ∧ Holds wr (n + 1) ((ex2 q.data.toList (t - 16)).map wordV) 64) (fun c _ => 64 - (intOf c).toNat)
      case atStart => exact ⟨16, by omega, by omega, rfl, hz, hb, hh⟩
      case round =>
        clear hb hz hh hk hlt
        obtain ⟨t, ht, ht', rfl, hz, hb, hh⟩ := hrel
        by_cases hlt : t < 64
        · have hlen := ex2_length q.data.toList (t - 16)
          obtain ⟨x2, E2⟩ : ∃ x, Hid ((ex2 q.data.toList (t - 16)).getD (t - 2) 0 = x) := ⟨_, rfl⟩
          obtain ⟨x7, E7⟩ : ∃ x, Hid ((ex2 q.data.toList (t - 16)).getD (t - 7) 0 = x) := ⟨_, rfl⟩
          obtain ⟨x15, E15⟩ : ∃ x, Hid ((ex2 q.data.toList (t - 16)).getD (t - 15) 0 = x) := ⟨_, rfl⟩
          obtain ⟨x16, E16⟩ : ∃ x, Hid ((ex2 q.data.toList (t - 16)).getD (t - 16) 0 = x) := ⟨_, rfl⟩
          have c2 : wr.cell? ⟨n + 1, t - 2, none⟩ = some (.int .u32 x2.toNat) := E2.out ▸ hh.word (t - 2) _ (by omega) (by omega)
          have c7 : wr.cell? ⟨n + 1, t - 7, none⟩ = some (.int .u32 x7.toNat) := E7.out ▸ hh.word (t - 7) _ (by omega) (by omega)
          have c15 : wr.cell? ⟨n + 1, t - 15, none⟩ = some (.int .u32 x15.toNat) := E15.out ▸ hh.word (t - 15) _ (by omega) (by omega)
          have c16 : wr.cell? ⟨n + 1, t - 16, none⟩ = some (.int .u32 x16.toNat) := E16.out ▸ hh.word (t - 16) _ (by omega) (by omega)
          obtain ⟨x0, E0⟩ : ∃ x, Hid ((ex2 q.data.toList (t - 16)).getD t 0 = x) := ⟨_, rfl⟩
          have c0 : wr.cell? ⟨n + 1, t, none⟩ = some (.int .u32 x0.toNat) := E0.out ▸ hh.word (t) _ (by omega) (by omega)
          have hfr : wr.frozen? ⟨n + 1, t, none⟩ = false := hh.frozen _
          have g2 : (2 : Int) ≤ (t : Int) := by omega
          have g7 : (7 : Int) ≤ (t : Int) := by omega
          have g15 : (15 : Int) ≤ (t : Int) := by omega
          have g16 : (16 : Int) ≤ (t : Int) := by omega
          have b2 : (t : Int) - 2 < 64 := by omega
          have b7 : (t : Int) - 7 < 64 := by omega
          have b15 : (t : Int) - 15 < 64 := by omega
          have b16 : (t : Int) - 16 < 64 := by omega
          have n2 : ((t : Int) - 2).toNat = t - 2 := by omega
          have n7 : ((t : Int) - 7).toNat = t - 7 := by omega
          have n15 : ((t : Int) - 15).toNat = t - 15 := by omega
          have n16 : ((t : Int) - 16).toNat = t - 16 := by omega
          have i0 : (0 : Int) ≤ (t : Int) := by omega
          have i1 : (t : Int) < 64 := by omega
          have z2 : IntKind.i64.wrap ((t : Int) - 2) = (t : Int) - 2 := by simp [IntKind.wrap, IntKind.bits, IntKind.signed]; omega
          have z7 : IntKind.i64.wrap ((t : Int) - 7) = (t : Int) - 7 := by simp [IntKind.wrap, IntKind.bits, IntKind.signed]; omega
          have z15 : IntKind.i64.wrap ((t : Int) - 15) = (t : Int) - 15 := by simp [IntKind.wrap, IntKind.bits, IntKind.signed]; omega
          have z16 : IntKind.i64.wrap ((t : Int) - 16) = (t : Int) - 16 := by simp [IntKind.wrap, IntKind.bits, IntKind.signed]; omega
          go_wp2_with (go_at_call 40; refine (rrot_int _ _ _ (by omega) (by omega)).mono ?_; rintro e w' ⟨rfl, rfl⟩)
          go_region
          go_wp2
          refine ⟨⟨t + 1, by omega, by omega, by go_num, by simpa using hz, (hb.setCell (by simp) _).drew, ?_⟩, by simp [intOf]; omega⟩
          have := (hh.set t (wordV (sig1 x2 + x7 + sig0 x15 + x16))).drew
          rw [← List.map_set] at this
          have e : ex2 q.data.toList (t + 1 - 16) = (ex2 q.data.toList (t - 16)).set t (sig1 x2 + x7 + sig0 x15 + x16) := by
            rw [show t + 1 - 16 = (t - 16) + 1 by omega, ex2, exStep, show 16 + (t - 16) = t by omega, show 14 + (t - 16) = t - 2 by omega, show 9 + (t - 16) = t - 7 by omega, show 1 + (t - 16) = t - 15 by omega, E2.out, E7.out, E15.out, E16.out]
          rw [e, u_shr10, u_shr3, u_xor, u_xor, u_xor, u_xor, sum_four]
          exact this
        · have hh : Holds wr (n + 1) ((words q.data.toList).map wordV) 64 := by rw [show t = 64 by omega] at hh; exact hh
          have hh1 : Holds wr n ((List.replicate 64 (0 : BitVec 32)).map wordV) 64 := (h1.holds.below h2.below (by omega)).below hb (by omega)
          have hr : Below n w wr := (h1.below.trans (h2.below.mono (by omega))).trans (hb.mono (by omega))
          go_wp2_with (first
            | (refine wpList_load_all rfl 64 (.tmp 3) rfl (n + 1) rfl 64 ((words q.data.toList).map wordV) 64 62 hh und64 (by rw [(zero_of_info info64).2]; simp [words_length]) ?_)
            | (refine wpList_store_all rfl 64 (.tmp 2) (.tmp 70) rfl n rfl ((words q.data.toList).map wordV) rfl 64 _ hh1 (by rw [(zero_of_info info64).2]; simp [words_length]) (by simp [words_length]) (wordV_one _) ?_; intro w4 h4))
          exact bodyPost_ret (results_cell_row (p := 2) (by kernel_rfl) _ w4 n 64 ((words q.data.toList).map wordV).toArray (0, 0) _ rfl h4.holds und64 rfl (by rw [(zero_of_info info64).2]; simp [words_length])) rfl ⟨rfl, hr.trans (h4.below (by omega))⟩
end Go.Proofs.YtlliijodilnlgaaDoor
