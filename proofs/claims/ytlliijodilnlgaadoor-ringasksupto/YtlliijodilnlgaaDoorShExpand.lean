/- What package sha's expand answers: the 64 words of whatever block of 64 bytes; nothing that was there is turned. -/
import Derived.Test.YtlliijodilnlgaaDoorShBits
import Derived.Test.YtlliijodilnlgaaDoorLaws
import Derived.Deep.RegionHeld3
import Derived.Deep.DrawnRows
namespace Go.Proofs.YtlliijodilnlgaaDoor
open Go.RowKit
attribute [local go_sem ↓] Go.wp_at_zero Go.wp_at_succ

def byteV (b : UInt8) : Value := .int .u8 b.toNat
def wordV (x : BitVec 32) : Value := .int .u32 x.toNat

theorem info64 : (Tryd.prog.info? 64).map (fun i => (i.zero, i.size)) = some (some (.agg ((List.replicate 64 (0 : BitVec 32)).map wordV).toArray), 64) := by kernel_rfl
theorem und64 : Tryd.prog.underlying 64 = some (.array 64 62) := by kernel_rfl
theorem info76 : (Tryd.prog.info? 76).map (fun i => (i.zero, i.size)) = some (some (.agg ((List.replicate 64 (0 : UInt8)).map byteV).toArray), 64) := by kernel_rfl
theorem und76 : Tryd.prog.underlying 76 = some (.array 64 5) := by kernel_rfl

theorem or_byte (x : BitVec 32) (b : UInt8) : Value.int .u32 (bits .or .u32 ((x.toNat : Int) * 256 % 4294967296) ((b.toNat : Int) % 4294967296)) = wordV ((x <<< 8) ||| bw b) := by
  have h1 : (x.toNat : Int) * (256 : Int) % (4294967296 : Int) = ((x <<< 8).toNat : Int) := by
    have := u_shl x 8
    rw [wrap_u32] at this
    simpa using this
  have h2 : (b.toNat : Int) % (4294967296 : Int) = ((bw b).toNat : Int) := by
    have := b.toNat_lt
    have e : (bw b).toNat = b.toNat := by unfold bw; rw [BitVec.toNat_ofNat]; omega
    rw [e]; omega
  rw [h1, h2, u_or]; rfl
theorem und5 : Tryd.prog.underlying 5 = some (.int .u8) := by kernel_rfl
theorem siz5 : (Tryd.prog.info? 5).map (·.size) = some 1 := by kernel_rfl

theorem cell_past {w : World} {b i j : Nat} {v : Value} {x : Option Value} (h : w.cell? ⟨b, j, none⟩ = x) (hne : i ≠ j) : (w.setCell ⟨b, i, none⟩ v).drew.cell? ⟨b, j, none⟩ = x := by
  have hn : (⟨b, i, none⟩ : Addr) ≠ ⟨b, j, none⟩ := fun e => hne (Addr.mk.inj e).2.1
  rw [World.cell?_drew, World.cell?_setCell_other _ _ _ _ hn, h]
theorem wordV_one (ws : List (BitVec 32)) : ∀ v ∈ ws.map wordV, v.oneCell' = true := by
  intro v hv
  obtain ⟨x, _, rfl⟩ := List.mem_map.1 hv
  rfl
theorem byteV_one (ws : List UInt8) : ∀ v ∈ ws.map byteV, v.oneCell' = true := by
  intro v hv
  obtain ⟨x, _, rfl⟩ := List.mem_map.1 hv
  rfl
theorem Holds.word {w : World} {b : Nat} {ws : List (BitVec 32)} {t : TypeId} (h : Holds w b (ws.map wordV) t) (i m : Nat) (hm : m = i) (hi : i < ws.length) : w.cell? ⟨b, m, none⟩ = some (.int .u32 (ws.getD i 0).toNat) := by
  subst hm
  exact h.at _ _ (by simp [hi]; rfl)

set_option maxHeartbeats 400000 in
set_option maxRecDepth 100000 in
theorem expand_any (blk : List UInt8) (hl : blk.length = 64) (w : World) :
    Calls Tryd.prog 76 #[.agg (blk.map byteV).toArray] w fun e w' => e = .returned (.agg ((words blk).map wordV).toArray) ∧ Below w.heap.size w w' := by
  obtain ⟨n, hn⟩ : ∃ n, w.heap.size = n := ⟨_, rfl⟩
  rw [hn]
  go_enter Tryd.func76, Tryd.ntmps76
  go_wp2_with (first
    | (refine wpList_box_new 1 rfl rfl 76 _ rfl n hn _ rfl ?_; intro w1 h1)
    | (refine wpList_alloc_new 2 rfl rfl 64 rfl (n + 1) h1.size _ (zero_of_info info64).1 ?_; intro w2 h2)
    | (refine wpList_alloc_new 3 rfl rfl 64 rfl (n + 1 + 1) h2.size _ (zero_of_info info64).1 ?_; intro w3 h3)
    | (refine wpList_load_all rfl 76 _ rfl _ rfl 76 (blk.map byteV) 64 5 ((h1.holds.below h2.below (by omega)).below h3.below (by omega)) und76 (by rw [(zero_of_info info76).2]; simp [hl]) ?_))
  go_loopw [8] (fun c wr => ∃ k : Nat, k ≤ 64 ∧ c = .int .i64 k ∧ wr.heap.size = n + 3 ∧ Below (n + 2) w3 wr ∧ Holds wr (n + 2) ((ex1 blk k).map wordV) 64) (fun c _ => 64 - (intOf c).toNat)
  case atStart => exact ⟨0, by omega, rfl, h3.size, Below.refl _ _, h3.holds⟩
  case round =>
    obtain ⟨k, hk, rfl, hz, hb, hh⟩ := hrel
    by_cases hlt : k < 64
    · have hix : (Instr.index 76 (.agg (blk.map byteV).toArray) (.int .i64 (k : Int))).run Tryd.prog wr = .ok (.int .u8 (blk[k].toNat : Int)) wr :=
        run_index_array (P := Tryd.prog) wr 76 5 64 .u8 und76 und5 siz5 (blk.map byteV) k hlt (byteV blk[k]) (by simp [hl, hlt])
      have hx4 : k / 4 < (ex1 blk k).length := by rw [ex1_length]; omega
      have hcl : wr.cell? ⟨n + 1 + 1, k / 4, none⟩ = some (.int .u32 ((ex1 blk k)[k / 4]).toNat) := hh.at _ _ (by simp [hx4]; rfl)
      have hfr : wr.frozen? ⟨n + 1 + 1, k / 4, none⟩ = false := hh.frozen _
      go_wp2
      refine ⟨⟨k + 1, by omega, by go_num, by simpa using hz, hb.setCell (by simp) _, ?_⟩, by simp [intOf]; omega⟩
      have := hh.set (k / 4) (wordV (((ex1 blk k).getD (k / 4) 0 <<< 8) ||| bw (blk.getD k 0)))
      rw [← List.map_set] at this
      rw [or_byte, show (ex1 blk k)[k / 4] = (ex1 blk k).getD (k / 4) 0 by simp [hx4], show blk[k] = blk.getD k 0 by simp [hl, hlt]]
      exact this
    · have hh : Holds wr (n + 2) ((ex1 blk 64).map wordV) 64 := (show k = 64 by omega) ▸ hh
      go_wp2_with fail
      go_loopw [6] (fun c wr => ∃ t : Nat, 16 ≤ t ∧ t ≤ 64 ∧ c = .int .i64 (t : Int) ∧ wr.heap.size = n + 3 ∧ Below (n + 2) w3 wr ∧ Holds wr (n + 2) ((ex2 blk (t - 16)).map wordV) 64) (fun c _ => 64 - (intOf c).toNat)
      case atStart => exact ⟨16, by omega, by omega, rfl, hz, hb, hh⟩
      case round =>
        clear hb hz hh hk hlt
        obtain ⟨t, ht, ht', rfl, hz, hb, hh⟩ := hrel
        by_cases hlt : t < 64
        · have hlen := ex2_length blk (t - 16)
          obtain ⟨x2, E2⟩ : ∃ x, Hid ((ex2 blk (t - 16)).getD (t - 2) 0 = x) := ⟨_, rfl⟩
          obtain ⟨x7, E7⟩ : ∃ x, Hid ((ex2 blk (t - 16)).getD (t - 7) 0 = x) := ⟨_, rfl⟩
          obtain ⟨x15, E15⟩ : ∃ x, Hid ((ex2 blk (t - 16)).getD (t - 15) 0 = x) := ⟨_, rfl⟩
          obtain ⟨x16, E16⟩ : ∃ x, Hid ((ex2 blk (t - 16)).getD (t - 16) 0 = x) := ⟨_, rfl⟩
          have c2 : wr.cell? ⟨n + 1 + 1, t - 2, none⟩ = some (.int .u32 x2.toNat) := E2.out ▸ hh.word (t - 2) _ (by omega) (by omega)
          have C2 : Hid (wr.cell? ⟨n + 1 + 1, t - 2, none⟩ = some (.int .u32 x2.toNat)) := c2
          have c7 : wr.cell? ⟨n + 1 + 1, t - 7, none⟩ = some (.int .u32 x7.toNat) := E7.out ▸ hh.word (t - 7) _ (by omega) (by omega)
          have C7 : Hid (wr.cell? ⟨n + 1 + 1, t - 7, none⟩ = some (.int .u32 x7.toNat)) := c7
          have c15 : wr.cell? ⟨n + 1 + 1, t - 15, none⟩ = some (.int .u32 x15.toNat) := E15.out ▸ hh.word (t - 15) _ (by omega) (by omega)
          have C15 : Hid (wr.cell? ⟨n + 1 + 1, t - 15, none⟩ = some (.int .u32 x15.toNat)) := c15
          have c16 : wr.cell? ⟨n + 1 + 1, t - 16, none⟩ = some (.int .u32 x16.toNat) := E16.out ▸ hh.word (t - 16) _ (by omega) (by omega)
          have C16 : Hid (wr.cell? ⟨n + 1 + 1, t - 16, none⟩ = some (.int .u32 x16.toNat)) := c16
          have c0 : wr.cell? ⟨n + 1 + 1, t, none⟩ = some (.int .u32 ((ex2 blk (t - 16)).getD t 0).toNat) := hh.word (t) _ (by omega) (by omega)
          have hfr : wr.frozen? ⟨n + 1 + 1, t, none⟩ = false := hh.frozen _
          have g2 : (2 : Int) ≤ (t : Int) := by omega
          have g7 : (7 : Int) ≤ (t : Int) := by omega
          have g15 : (15 : Int) ≤ (t : Int) := by omega
          have g16 : (16 : Int) ≤ (t : Int) := by omega
          have b2 : (t : Int) - 2 < 64 := by omega
          have b7 : (t : Int) - 7 < 64 := by omega
          have b15 : (t : Int) - 15 < 64 := by omega
          have b16 : (t : Int) - 16 < 64 := by omega
          have n2 : ((t : Int) - 2).toNat = t - 2 := by omega
          have n7 : ((t : Int) - 7).toNat = t - 7 := by omega
          have n15 : ((t : Int) - 15).toNat = t - 15 := by omega
          have n16 : ((t : Int) - 16).toNat = t - 16 := by omega
          have i0 : (0 : Int) ≤ (t : Int) := by omega
          have i1 : (t : Int) < 64 := by omega
          have z2 : IntKind.i64.wrap ((t : Int) - 2) = (t : Int) - 2 := by simp [IntKind.wrap, IntKind.bits, IntKind.signed]; omega
          have z7 : IntKind.i64.wrap ((t : Int) - 7) = (t : Int) - 7 := by simp [IntKind.wrap, IntKind.bits, IntKind.signed]; omega
          have z15 : IntKind.i64.wrap ((t : Int) - 15) = (t : Int) - 15 := by simp [IntKind.wrap, IntKind.bits, IntKind.signed]; omega
          have z16 : IntKind.i64.wrap ((t : Int) - 16) = (t : Int) - 16 := by simp [IntKind.wrap, IntKind.bits, IntKind.signed]; omega
          go_wp2_with fail
          go_region_held3 (fun w' => w'.cell? ⟨n + 1 + 1, t - 2, none⟩ = some (.int .u32 x2.toNat) ∧ w'.cell? ⟨n + 1 + 1, t - 7, none⟩ = some (.int .u32 x7.toNat) ∧ w'.cell? ⟨n + 1 + 1, t - 15, none⟩ = some (.int .u32 x15.toNat) ∧ w'.cell? ⟨n + 1 + 1, t - 16, none⟩ = some (.int .u32 x16.toNat))
            (first | exact ⟨cell_past C2.out (by omega), cell_past C7.out (by omega), cell_past C15.out (by omega), cell_past C16.out (by omega)⟩ | exact ⟨C2.out, C7.out, C15.out, C16.out⟩ | go_loud (exact ⟨cell_past C2.out (by omega), cell_past C7.out (by omega), cell_past C15.out (by omega), cell_past C16.out (by omega)⟩))
            (first | (go_at_call 83; refine (smallSigma1_any _ _).mono ?_; rintro e w' ⟨rfl, rfl⟩) | (go_at_call 84; refine (smallSigma0_any _ _).mono ?_; rintro e w' ⟨rfl, rfl⟩))
          go_wp2
          refine ⟨⟨t + 1, by omega, by omega, by go_num, by simpa using hz, (hb.setCell (by simp) _).drew, ?_⟩, by simp [intOf]; omega⟩
          have := (hh.set t (wordV (sig1 x2 + x7 + sig0 x15 + x16))).drew
          rw [← List.map_set] at this
          rw [u_addm, u_addm, u_addm]
          have e : ex2 blk (t + 1 - 16) = (ex2 blk (t - 16)).set t (sig1 x2 + x7 + sig0 x15 + x16) := by
            rw [show t + 1 - 16 = (t - 16) + 1 by omega, ex2, exStep, show 16 + (t - 16) = t by omega, show 14 + (t - 16) = t - 2 by omega, show 9 + (t - 16) = t - 7 by omega, show 1 + (t - 16) = t - 15 by omega, E2.out, E7.out, E15.out, E16.out]
          rw [e]
          exact this
        · obtain rfl : t = 64 := by omega
          have hh2 : Holds wr (n + 1) ((List.replicate 64 (0 : BitVec 32)).map wordV) 64 := (h2.holds.below h3.below (by omega)).below hb (by omega)
          have hr : Below n w wr := ((h1.below.trans (h2.below.mono (by omega))).trans (h3.below.mono (by omega))).trans (hb.mono (by omega))
          go_wp2_with (first
            | (refine wpList_load_all rfl 64 _ rfl _ rfl 64 _ 64 62 hh und64 (by rw [(zero_of_info info64).2]; simp [ex2_length]) ?_)
            | (refine wpList_store_all rfl 64 _ _ rfl _ rfl _ rfl 64 _ hh2 (by rw [(zero_of_info info64).2]; simp [ex2_length]) (by simp [ex2_length]) (wordV_one _) ?_; intro w4 h4))
          exact bodyPost_ret (results_cell_row (p := 2) (by kernel_rfl) _ w4 (n + 1) 64 ((words blk).map wordV).toArray (0, 0) _ rfl h4.holds und64 rfl (by rw [(zero_of_info info64).2]; simp [words_length])) rfl ⟨rfl, hr.trans (h4.below (by omega))⟩
end Go.Proofs.YtlliijodilnlgaaDoor
