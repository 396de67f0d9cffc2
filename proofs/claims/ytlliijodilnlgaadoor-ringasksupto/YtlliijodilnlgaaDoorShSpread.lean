/- What package sha's spread answers: the bytes of the words, the highest first. -/
import Derived.Test.YtlliijodilnlgaaDoorShHash
import Derived.Test.YtlliijodilnlgaaDoorLaws
namespace Go.Proofs.YtlliijodilnlgaaDoor
open Go.RowKit

theorem info49 : (Tryd.prog.info? 49).map (fun i => (i.zero, i.size)) = some (some (.agg ((List.replicate 32 (0 : UInt8)).map byteV).toArray), 32) := by kernel_rfl
theorem und49 : Tryd.prog.underlying 49 = some (.array 32 5) := by kernel_rfl
/-- The bytes, i words being spread. -/
def sp (st : List (BitVec 32)) : Nat → List UInt8
  | 0 => List.replicate 32 0
  | i + 1 => ((((sp st i).set (4 * i) (UInt8.ofNat ((st.getD i 0).toNat / 16777216))).set (4 * i + 1) (UInt8.ofNat ((st.getD i 0).toNat / 65536))).set (4 * i + 2) (UInt8.ofNat ((st.getD i 0).toNat / 256))).set (4 * i + 3) (UInt8.ofNat (st.getD i 0).toNat)
theorem sp_length (st : List (BitVec 32)) : ∀ i, (sp st i).length = 32
  | 0 => by simp [sp]
  | i + 1 => by simp [sp, sp_length st i]
theorem sp_eight (s0 s1 s2 s3 s4 s5 s6 s7 : BitVec 32) : sp [s0, s1, s2, s3, s4, s5, s6, s7] 8 = spreadL [s0, s1, s2, s3, s4, s5, s6, s7] := by kernel_rfl
theorem byte_of (n : Nat) : Value.int .u8 ((n : Int) % 256) = byteV (UInt8.ofNat n) := by
  unfold byteV
  congr 1
theorem byte_shr2 (x : BitVec 32) : Value.int .u8 ((x.toNat : Int) / (65536 : Int) % 256) = byteV (UInt8.ofNat (x.toNat / 65536)) := by rw [← byte_of]; simp
theorem byte_shr1 (x : BitVec 32) : Value.int .u8 ((x.toNat : Int) / (256 : Int) % 256) = byteV (UInt8.ofNat (x.toNat / 256)) := by rw [← byte_of]; simp
theorem byte_hi (x : BitVec 32) : Value.int .u8 ((x.toNat : Int) / (16777216 : Int)) = byteV (UInt8.ofNat (x.toNat / 16777216)) := by
  have := x.isLt
  rw [← byte_of]
  congr 1
  omega

set_option maxHeartbeats 400000 in
set_option maxRecDepth 100000 in
theorem spread_any (st : List (BitVec 32)) (hst : st.length = 8) (w : World) :
    Calls Tryd.prog 48 #[.agg (st.map wordV).toArray] w fun e w' => e = .returned (.agg ((spreadL st).map byteV).toArray) ∧ Below w.heap.size w w' := by
  have hend : Hid (sp st 8 = spreadL st) := by
    obtain ⟨s0, s1, s2, s3, s4, s5, s6, s7, rfl⟩ := eight_of st hst
    exact sp_eight s0 s1 s2 s3 s4 s5 s6 s7
  obtain ⟨n, hn⟩ : ∃ n, w.heap.size = n := ⟨_, rfl⟩
  rw [hn]
  go_enter Tryd.func48, Tryd.ntmps48
  go_wp2_with (first
    | (refine wpList_box_new 1 rfl rfl 63 _ rfl n hn _ rfl ?_; intro w1 h1)
    | (refine wpList_alloc_new 2 rfl rfl 49 rfl (n + 1) h1.size _ (zero_of_info info49).1 ?_; intro w2 h2)
    | (refine wpList_alloc_new 3 rfl rfl 49 rfl (n + 2) h2.size _ (zero_of_info info49).1 ?_; intro w3 h3)
    | (refine wpList_load_all rfl 63 _ rfl _ rfl 63 (st.map wordV) 8 62 ((h1.holds.below h2.below (by omega)).below h3.below (by omega)) und63 (by rw [(zero_of_info info63).2]; simp [hst]) ?_))
  go_loopw [7] (fun c wr => ∃ k : Nat, k ≤ 8 ∧ c = .int .i64 k ∧ wr.heap.size = n + 3 ∧ Below (n + 2) w3 wr ∧ Holds wr (n + 2) ((sp st k).map byteV) 49) (fun c _ => 8 - (intOf c).toNat)
  case atStart => exact ⟨0, by omega, rfl, h3.size, Below.refl _ _, h3.holds⟩
  case round =>
    obtain ⟨k, hk, rfl, hz, hb, hh⟩ := hrel
    by_cases hlt : k < 8
    · obtain ⟨x, X⟩ : ∃ x, Hid (st.getD k 0 = x) := ⟨_, rfl⟩
      have hix : (Instr.index 63 (.agg (st.map wordV).toArray) (.int .i64 (k : Int))).run Tryd.prog wr = .ok (.int .u32 (x.toNat : Int)) wr :=
        run_index_array (P := Tryd.prog) wr 63 62 8 .u32 und63 und62 siz62 (st.map wordV) k hlt (wordV x) (by rw [← X.out]; simp [hst, hlt])
      have hl0 : 4 * k + 3 < ((sp st k).map byteV).length := by simp [sp_length]; omega
      clear hend
      have i0 : (0 : Int) ≤ 4 * (k : Int) := by omega
      have i1 : 4 * (k : Int) < 32 := by omega
      have j1 : 4 * (k : Int) + 1 < 32 := by omega
      have j2 : 4 * (k : Int) + 2 < 32 := by omega
      have j3 : 4 * (k : Int) + 3 < 32 := by omega
      have m0 : (4 * (k : Int)).toNat = 4 * k := by omega
      have m1 : (4 * (k : Int) + 1).toNat = 4 * k + 1 := by omega
      have m2 : (4 * (k : Int) + 2).toNat = 4 * k + 2 := by omega
      have m3 : (4 * (k : Int) + 3).toNat = 4 * k + 3 := by omega
      go_wp2_with (first
        | (refine wpList_store_int rfl 5 (.tmp 16) (.tmp 15) rfl siz5 (n + 2) (4 * k) rfl .u8 _ rfl _ 49 hh (by omega) ?_; intro wa ha)
        | (refine wpList_store_int rfl 5 (.tmp 23) (.tmp 22) rfl siz5 (n + 2) (4 * k + 1) rfl .u8 _ rfl _ 49 ha.holds (by simp [sp_length]; omega) ?_; intro wb hb')
        | (refine wpList_store_int rfl 5 (.tmp 30) (.tmp 29) rfl siz5 (n + 2) (4 * k + 2) rfl .u8 _ rfl _ 49 hb'.holds (by simp [sp_length]; omega) ?_; intro wc hc')
        | (refine wpList_store_int rfl 5 (.tmp 36) (.tmp 35) rfl siz5 (n + 2) (4 * k + 3) rfl .u8 _ rfl _ 49 hc'.holds (by simp [sp_length]; omega) ?_; intro wd hd'))
      refine ⟨⟨k + 1, by omega, by go_num, ?_, ?_, ?_⟩, by simp [intOf]; omega⟩
      · rw [hd'.size, hc'.size, hb'.size, ha.size, hz]
      · exact (((hb.trans (ha.below (by omega))).trans (hb'.below (by omega))).trans (hc'.below (by omega))).trans (hd'.below (by omega))
      · have := hd'.holds
        rw [byte_hi, byte_shr2, byte_shr1, byte_of, ← List.map_set, ← List.map_set, ← List.map_set, ← List.map_set] at this
        rw [sp, X.out]
        exact this
    · have hh : Holds wr (n + 2) ((spreadL st).map byteV) 49 := by rw [show k = 8 by omega, hend.out] at hh; exact hh
      have hlen : (spreadL st).length = 32 := by rw [← hend.out]; exact sp_length st 8
      clear hend
      have hh2 : Holds wr (n + 1) ((List.replicate 32 (0 : UInt8)).map byteV) 49 := (h2.holds.below h3.below (by omega)).below hb (by omega)
      have hr : Below n w wr := ((h1.below.trans (h2.below.mono (by omega))).trans (h3.below.mono (by omega))).trans (hb.mono (by omega))
      go_wp2_with (first
        | (refine wpList_load_all rfl 49 (.tmp 3) rfl (n + 2) rfl 49 ((spreadL st).map byteV) 32 5 hh und49 (by rw [(zero_of_info info49).2]; simp [hlen]) ?_)
        | (refine wpList_store_all rfl 49 (.tmp 2) (.tmp 38) rfl (n + 1) rfl ((spreadL st).map byteV) rfl 49 _ hh2 (by rw [(zero_of_info info49).2]; simp [hlen]) (by simp [hlen]) (byteV_one _) ?_; intro w4 h4))
      exact bodyPost_ret (results_cell_row (p := 2) (by kernel_rfl) _ w4 (n + 1) 49 ((spreadL st).map byteV).toArray (0, 0) _ rfl h4.holds und49 rfl (by rw [(zero_of_info info49).2]; simp [hlen])) rfl ⟨rfl, hr.trans (h4.below (by omega))⟩
end Go.Proofs.YtlliijodilnlgaaDoor
