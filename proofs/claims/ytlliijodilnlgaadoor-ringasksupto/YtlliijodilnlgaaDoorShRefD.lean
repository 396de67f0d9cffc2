/- What the document's own Sum answers: the sum by its definition, of whatever text below 2^40 bytes. -/
import Derived.Test.YtlliijodilnlgaaDoorShRefB
import Derived.Test.YtlliijodilnlgaaDoorShRefC
import Derived.Test.YtlliijodilnlgaaDoorShPureC
import Derived.Test.YtlliijodilnlgaaDoorShSpread
import Derived.Deep.Light
namespace Go.Proofs.YtlliijodilnlgaaDoor
open Go.RowKit
attribute [local go_sem ↓] Go.wp_at_zero Go.wp_at_succ

/- The words' operations, under names that the walk leaves closed. -/
def xorW (x y : BitVec 32) : BitVec 32 := x ^^^ y
def andW (x y : BitVec 32) : BitVec 32 := x &&& y
def notW (x : BitVec 32) : BitVec 32 := ~~~x
def addW (x y : BitVec 32) : BitVec 32 := x + y
theorem w_xor (x y : BitVec 32) : bits .xor .u32 (x.toNat : Int) (y.toNat : Int) = ((xorW x y).toNat : Int) := u_xor x y
theorem w_and (x y : BitVec 32) : bits .and .u32 (x.toNat : Int) (y.toNat : Int) = ((andW x y).toNat : Int) := u_and x y
theorem w_not (x : BitVec 32) : bits .xor .u32 IntKind.u32.max (x.toNat : Int) = ((notW x).toNat : Int) := u_not x
theorem w_not' (x : BitVec 32) : bits .xor .u32 (if IntKind.u32.signed = true then -1 else IntKind.u32.max) (x.toNat : Int) = ((notW x).toNat : Int) := u_not x
theorem w_add (x y : BitVec 32) : IntKind.u32.wrap ((x.toNat : Int) + (y.toNat : Int)) = ((addW x y).toNat : Int) := u_add x y
theorem w_addm (x y : BitVec 32) : ((x.toNat : Int) + (y.toNat : Int)) % (4294967296 : Int) = ((addW x y).toNat : Int) := u_addm x y
attribute [local go_sem] w_xor w_and w_not w_not' w_add w_addm

/-- The sum's bytes, i of them being told. -/
def outN (st : List (BitVec 32)) : Nat → List UInt8
  | 0 => List.replicate 32 0
  | i + 1 => (outN st i).set i (UInt8.ofNat ((st.getD (i / 4) 0).toNat / 2 ^ (24 - 8 * (i % 4))))
theorem outN_length (st : List (BitVec 32)) : ∀ i, (outN st i).length = 32
  | 0 => by simp [outN]
  | i + 1 => by simp [outN, outN_length st i]
def wbp (x : BitVec 32) : List UInt8 := [UInt8.ofNat (x.toNat / 2 ^ 24), UInt8.ofNat (x.toNat / 2 ^ 16), UInt8.ofNat (x.toNat / 2 ^ 8), UInt8.ofNat (x.toNat / 2 ^ 0)]
theorem wbp_wb : wbp = wb := funext fun x => by simp [wbp, wb]
theorem out_wbp (s0 s1 s2 s3 s4 s5 s6 s7 : BitVec 32) : outN [s0, s1, s2, s3, s4, s5, s6, s7] 32 = [s0, s1, s2, s3, s4, s5, s6, s7].flatMap wbp := by kernel_rfl
theorem out_eight (s0 s1 s2 s3 s4 s5 s6 s7 : BitVec 32) : outN [s0, s1, s2, s3, s4, s5, s6, s7] 32 = spreadL [s0, s1, s2, s3, s4, s5, s6, s7] := by rw [out_wbp, wbp_wb]; rfl
theorem byte_pow (x : BitVec 32) (d : Nat) : Value.int .u8 ((x.toNat : Int) / 2 ^ d % 256) = byteV (UInt8.ofNat (x.toNat / 2 ^ d)) := by rw [← byte_of]; simp
theorem out_spread (st : List (BitVec 32)) (h : st.length = 8) : outN st 32 = spreadL st := by
  obtain ⟨s0, s1, s2, s3, s4, s5, s6, s7, rfl⟩ := eight_of st h
  exact out_eight s0 s1 s2 s3 s4 s5 s6 s7
theorem add_eight (st : List (BitVec 32)) (v0 v1 v2 v3 v4 v5 v6 v7 : BitVec 32) (h : st.length = 8) : addN st [v0, v1, v2, v3, v4, v5, v6, v7] 8 = List.zipWith (· + ·) st [v0, v1, v2, v3, v4, v5, v6, v7] := by
  obtain ⟨s0, s1, s2, s3, s4, s5, s6, s7, rfl⟩ := eight_of st h
  rfl
theorem eight_list (st : List (BitVec 32)) (h : st.length = 8) : (Eight.of st).list = st := by
  obtain ⟨s0, s1, s2, s3, s4, s5, s6, s7, rfl⟩ := eight_of st h
  rfl
theorem bytes_extract (p : ByteArray) (L : Nat) : (p.extract L (L + 64)).data.toList = (p.data.toList.drop L).take 64 := by
  simp [ByteArray.data_extract]

set_option maxHeartbeats 8000000 in
set_option maxRecDepth 100000 in
theorem rsum_any (s : ByteArray) (hs : s.size < 1099511627776) (w : World) :
    Calls Tryd.prog 25 #[.string s] w fun e w' => e = .returned (.agg ((refSum s.data.toList).map byteV).toArray) ∧ Below w.heap.size w w' := by
  obtain ⟨n, hn⟩ : ∃ n, w.heap.size = n := ⟨_, rfl⟩
  rw [hn]
  go_enter Tryd.func25, Tryd.ntmps25
  go_wp2_with (first
    | (refine wpList_alloc_new 2 rfl rfl 49 rfl n hn _ (zero_of_info info49).1 ?_; intro w1 h1)
    | (refine wpList_build_sh rfl 63 _ rfl (Hs.map wordV).toArray (by kernel_rfl) ?_)
    | (refine wpList_alloc_new 3 rfl rfl 63 rfl (n + 1) h1.size _ (zero_of_info info63).1 ?_; intro w2 h2)
    | (refine wpList_store_all rfl 63 (.tmp 3) (.tmp 17) rfl (n + 1) rfl (Hs.map wordV) rfl 63 _ h2.holds (by rw [(zero_of_info info63).2]; rfl) (by rfl) (wordV_one _) ?_; intro w3 h3)
    | (go_at_call 37; refine (table_any _).mono ?_; rintro e w4 ⟨rfl, h4⟩; obtain ⟨m, hm⟩ : ∃ m, w4.heap.size = m := ⟨_, rfl⟩)
    | (refine wpList_alloc_new 4 rfl rfl 64 rfl m hm _ (zero_of_info info64).1 ?_; intro w5 h5)
    | (refine wpList_store_all rfl 64 (.tmp 4) (.tmp 18) rfl m rfl (Ks.map wordV) rfl 64 _ h5.holds (by rw [(zero_of_info info64).2]; rfl) (by rfl) (wordV_one _) ?_; intro w6 h6)
    | (go_at_call 38; refine (padded_any s hs _).mono ?_; rintro e w7 ⟨p, rfl, hp, h7⟩))
  have z3 : w3.heap.size = n + 2 := by rw [h3.size, h2.size]
  rw [z3] at h4
  have hm2 : n + 2 ≤ m := by rw [← hm]; have := h4.size; omega
  have z6 : w6.heap.size = m + 1 := by rw [h6.size, h5.size]
  rw [z6] at h7
  have b3 : Below n w w3 := (h1.below.trans (h2.below.mono (by omega))).trans (h3.below (by omega))
  have b37 : Below (n + 2) w3 w7 := ((h4.trans (h5.below.mono (by omega))).trans (h6.below (by omega))).trans (h7.mono (by omega))
  have b7 : Below n w w7 := b3.trans (b37.mono (by omega))
  have hR7 : Holds w7 n ((List.replicate 32 (0 : UInt8)).map byteV) 49 := ((h1.holds.below h2.below (by omega)).below (h3.below (B := n + 1) (by omega)) (by omega)).below b37 (by omega)
  have hS7 : Holds w7 (n + 1) (Hs.map wordV) 63 := h3.holds.below b37 (by omega)
  have hK7 : Holds w7 m (Ks.map wordV) 64 := h6.holds.below h7 (by omega)
  have hpl : p.size = s.size + (zeros s.size + 9) := by
    have : p.data.toList.length = _ := congrArg List.length hp
    rw [List.length_append, padding_length] at this
    exact this
  have hz : zeros s.size < 64 := by unfold zeros; omega
  have hpm : p.size % 64 = 0 := by rw [hpl]; exact pad_mod _
  have hps : p.size < 2199023255552 := by omega
  have HP : Hid (p.data.toList = s.data.toList ++ padding s.size) := hp
  have HM : Hid (p.size % 64 = 0) := hpm
  clear hp hpl hz hpm h1 h2 h3 h4 h5 h6 h7 z3 z6 b3 b37 hm
  go_loopw [6] (fun c wr => ∃ k : Nat, 64 * k ≤ p.size ∧ c = .int .i64 ((64 * k : Nat) : Int) ∧ Holds wr n ((List.replicate 32 (0 : UInt8)).map byteV) 49 ∧ Holds wr (n + 1) ((stAt p.data.toList k).map wordV) 63 ∧ Holds wr m (Ks.map wordV) 64 ∧ Below n w wr) (fun c _ => p.size - (intOf c).toNat)
  case atStart => exact ⟨0, by omega, rfl, hR7, hS7, hK7, b7⟩
  case round =>
    clear hR7 hS7 hK7 b7
    obtain ⟨k, hk, rfl, hR, hS, hK, hb⟩ := hrel
    by_cases hlt : 64 * k < p.size
    · obtain ⟨L, hL⟩ : ∃ L, 64 * k = L := ⟨_, rfl⟩
      rw [hL] at hk hlt ⊢
      have HL : Hid (64 * k = L) := hL
      have hL64 : L + 64 ≤ p.size := by have := HM.out; omega
      clear hL
      obtain ⟨ws, W⟩ : ∃ ws, Hid (words (blockAt p.data.toList k) = ws) := ⟨_, rfl⟩
      have hwl : ws.length = 64 := by rw [← W.out]; exact words_length _
      have hqs : (p.extract L (L + 64)).size = 64 := by rw [ByteArray.size_extract]; omega
      have hqd : (p.extract L (L + 64)).data.toList = blockAt p.data.toList k := by rw [bytes_extract, blockAt, HL.out]
      have hwords : Hid (∀ W', Calls Tryd.prog 39 #[.string (p.extract L (L + 64))] W' fun e w' => e = .returned (.agg (ws.map wordV).toArray) ∧ Below W'.heap.size W' w') := fun W' => by
        have := words_any _ hqs W'
        rw [hqd, W.out] at this
        exact this
      clear hqs hqd
      obtain ⟨st, ST⟩ : ∃ st, Hid (stAt p.data.toList k = st) := ⟨_, rfl⟩
      rw [ST.out] at hS
      have hstl : st.length = 8 := by rw [← ST.out]; exact stAt_length _ _
      have i0 : (0 : Int) ≤ (L : Int) := by omega
      have i1 : (L : Int) < (p.size : Int) := by omega
      have i2 : (L : Int) + 64 ≤ (p.size : Int) := by omega
      have i3 : ((L : Int) + 64).toNat = L + 64 := by omega
      go_wp2_with (first
        | (go_at_call 39; refine (hwords.out _).mono ?_; rintro e w8 ⟨rfl, h8⟩; obtain ⟨a, ha⟩ : ∃ a, w8.heap.size = a := ⟨_, rfl⟩; have hna : n + 1 < a := (by have := hS.lt; have := h8.size; omega); have hma : m < a := (by have := hK.lt; have := h8.size; omega))
        | (refine wpList_alloc_new 7 rfl rfl 64 rfl a ha _ (zero_of_info info64).1 ?_; intro w9 h9)
        | (refine wpList_store_all rfl 64 (.tmp 7) (.tmp 32) rfl a rfl (ws.map wordV) rfl 64 _ h9.holds (by rw [(zero_of_info info64).2]; simp [hwl]) (by simp [hwl]) (wordV_one _) ?_; intro w10 h10)
        | (refine wpList_load_all rfl 63 (.tmp 3) rfl (n + 1) rfl 63 (st.map wordV) 8 62 (((hS.below h8 hS.lt).below h9.below (by omega)).below (h10.below (B := a) (by omega)) (by omega)) und63 (by rw [(zero_of_info info63).2]; simp [hstl]) ?_)
        | (refine wpList_alloc_new 8 rfl rfl 63 rfl (a + 1) (by rw [h10.size, h9.size]) _ (zero_of_info info63).1 ?_; intro w11 h11)
        | (refine wpList_store_all rfl 63 (.tmp 8) (.tmp 33) rfl (a + 1) rfl (st.map wordV) rfl 63 _ h11.holds (by rw [(zero_of_info info63).2]; simp [hstl]) (by simp [hstl]) (wordV_one _) ?_; intro w12 h12))
      have h8a : Below (m + 1) wr w8 := h8.mono hK.lt
      have h8b : Below (n + 2) wr w8 := h8.mono hS.lt
      have b9 : Below a w8 w12 := ((h9.below.trans (h10.below (by omega))).trans (h11.below.mono (by omega))).trans (h12.below (by omega))
      have hR12 := (hR.below h8b (by omega)).below b9 (by omega)
      have hS12 := (hS.below h8b (by omega)).below b9 (by omega)
      have hK12 := (hK.below h8a (by omega)).below b9 (by omega)
      have hW12 : Holds w12 a (ws.map wordV) 64 := (h10.holds.below h11.below (by omega)).below (h12.below (B := a + 1) (by omega)) (by omega)
      have b12 : Below n w w12 := (hb.trans (h8b.mono (by omega))).trans (b9.mono (by omega))
      have z12 : w12.heap.size = a + 2 := by rw [h12.size, h11.size]
      obtain ⟨E0, HE⟩ : ∃ E, Hid (Eight.of st = E) := ⟨_, rfl⟩
      have hV12 : Holds w12 (a + 1) (E0.list.map wordV) 63 := by rw [← HE.out, eight_list st hstl]; exact h12.holds
      clear h8 h9 h10 h11 h12 h8a h8b b9 hR hS hK hb hwords ha
      go_loopw [9] (fun c wr' => ∃ (t : Nat) (v : Eight), t ≤ 64 ∧ c = .int .i64 (t : Int) ∧ v = runs ws E0 t ∧ wr'.heap.size = a + 2 ∧ Below (a + 1) w12 wr' ∧ Holds wr' (a + 1) (v.list.map wordV) 63) (fun c _ => 64 - (intOf c).toNat)
      case atStart => exact ⟨0, E0, by omega, rfl, rfl, z12, Below.refl _ _, hV12⟩
      case round =>
        clear hV12
        obtain ⟨t, ⟨v0, v1, v2, v3, v4, v5, v6, v7⟩, ht, rfl, hv, hz, hbt, hV⟩ := hrel
        have HV : Hid (Eight.mk v0 v1 v2 v3 v4 v5 v6 v7 = runs ws E0 t) := hv
        clear hv
        by_cases hlt64 : t < 64
        · obtain ⟨x, X⟩ : ∃ x, Hid (ws.getD t 0 = x) := ⟨_, rfl⟩
          obtain ⟨y, Y⟩ : ∃ y, Hid (Ks.getD t 0 = y) := ⟨_, rfl⟩
          have e1 : wr.cell? ⟨a, t, none⟩ = some (.int .u32 x.toNat) := X.out ▸ (hW12.below hbt (by omega)).word t _ rfl (by omega)
          have e2 : wr.cell? ⟨m, t, none⟩ = some (.int .u32 y.toNat) := Y.out ▸ (hK12.below hbt (by omega)).word t _ rfl (show t < 64 from hlt64)
          have k0 : wr.cell? ⟨a + 1, 0, none⟩ = some (.int .u32 v0.toNat) := hV.at 0 _ rfl
          have k1 : wr.cell? ⟨a + 1, 1, none⟩ = some (.int .u32 v1.toNat) := hV.at 1 _ rfl
          have k2 : wr.cell? ⟨a + 1, 2, none⟩ = some (.int .u32 v2.toNat) := hV.at 2 _ rfl
          have k3 : wr.cell? ⟨a + 1, 3, none⟩ = some (.int .u32 v3.toNat) := hV.at 3 _ rfl
          have k4 : wr.cell? ⟨a + 1, 4, none⟩ = some (.int .u32 v4.toNat) := hV.at 4 _ rfl
          have k5 : wr.cell? ⟨a + 1, 5, none⟩ = some (.int .u32 v5.toNat) := hV.at 5 _ rfl
          have k6 : wr.cell? ⟨a + 1, 6, none⟩ = some (.int .u32 v6.toNat) := hV.at 6 _ rfl
          have k7 : wr.cell? ⟨a + 1, 7, none⟩ = some (.int .u32 v7.toNat) := hV.at 7 _ rfl
          have j0 : (0 : Int) ≤ (t : Int) := by omega
          have j1 : (t : Int) < 64 := by omega
          go_wp2_with fail
          go_quiet ((go_at_call 40; exact Calls.quiet_of_same (rrot_int _ _ _ (by omega) (by omega))))
          obtain ⟨T1, HT1⟩ : ∃ T, addW (addW (addW (addW v7 (xorW (xorW (rotr v4 6) (rotr v4 11)) (rotr v4 25))) (xorW (andW v4 v5) (andW (notW v4) v6))) y) x = T := ⟨_, rfl⟩
          rw [HT1]
          have HT1' : Hid (addW (addW (addW (addW v7 (xorW (xorW (rotr v4 6) (rotr v4 11)) (rotr v4 25))) (xorW (andW v4 v5) (andW (notW v4) v6))) y) x = T1) := HT1
          clear HT1 e1 e2 k0 k1 k2 k3 k4 k5 k6 k7
          have s2 := Still.drewN wr nq
          have hz2 : (wr.drewN nq).heap.size = a + 2 := hz
          have hbt2 := hbt.trans (s2.below (a + 1))
          have hV2 := s2.holds hV
          clear s2 hz hbt hV
          generalize wr.drewN nq = wr2 at *
          have k0 : wr2.cell? ⟨a + 1, 0, none⟩ = some (.int .u32 v0.toNat) := hV2.at 0 _ rfl
          have k1 : wr2.cell? ⟨a + 1, 1, none⟩ = some (.int .u32 v1.toNat) := hV2.at 1 _ rfl
          have k2 : wr2.cell? ⟨a + 1, 2, none⟩ = some (.int .u32 v2.toNat) := hV2.at 2 _ rfl
          go_wp2_with fail
          go_quiet ((go_at_call 40; exact Calls.quiet_of_same (rrot_int _ _ _ (by omega) (by omega))))
          obtain ⟨T2, HT2⟩ : ∃ T, addW (xorW (xorW (rotr v0 2) (rotr v0 13)) (rotr v0 22)) (xorW (xorW (andW v0 v1) (andW v0 v2)) (andW v1 v2)) = T := ⟨_, rfl⟩
          rw [HT2]
          have HT2' : Hid (addW (xorW (xorW (rotr v0 2) (rotr v0 13)) (rotr v0 22)) (xorW (xorW (andW v0 v1) (andW v0 v2)) (andW v1 v2)) = T2) := HT2
          clear HT2 k0 k1 k2
          have s3 := Still.drewN wr2 nq
          have hz3 : (wr2.drewN nq).heap.size = a + 2 := hz2
          have hbt3 := hbt2.trans (s3.below (a + 1))
          have hV3 := s3.holds hV2
          clear s3 hz2 hbt2 hV2
          generalize wr2.drewN nq = wr3 at *
          have k0 : wr3.cell? ⟨a + 1, 0, none⟩ = some (.int .u32 v0.toNat) := hV3.at 0 _ rfl
          have k1 : wr3.cell? ⟨a + 1, 1, none⟩ = some (.int .u32 v1.toNat) := hV3.at 1 _ rfl
          have k2 : wr3.cell? ⟨a + 1, 2, none⟩ = some (.int .u32 v2.toNat) := hV3.at 2 _ rfl
          have k3 : wr3.cell? ⟨a + 1, 3, none⟩ = some (.int .u32 v3.toNat) := hV3.at 3 _ rfl
          have k4 : wr3.cell? ⟨a + 1, 4, none⟩ = some (.int .u32 v4.toNat) := hV3.at 4 _ rfl
          have k5 : wr3.cell? ⟨a + 1, 5, none⟩ = some (.int .u32 v5.toNat) := hV3.at 5 _ rfl
          have k6 : wr3.cell? ⟨a + 1, 6, none⟩ = some (.int .u32 v6.toNat) := hV3.at 6 _ rfl
          go_wp2_with (refine wpList_store_all rfl 63 (.tmp 8) (.tmp 115) rfl (a + 1) rfl ((Eight.mk (addW T1 T2) v0 v1 v2 (addW v3 T1) v4 v5 v6).list.map wordV) rfl 63 _ hV3 (by rw [(zero_of_info info63).2]; rfl) (by rfl) (wordV_one _) ?_; intro wr4 h4)
          refine ⟨⟨t + 1, _, by omega, by go_num, ?_, by rw [h4.size, hz3], hbt3.trans (h4.below (by omega)), h4.holds⟩, by simp [intOf]; omega⟩
          rw [runs, ← HV.out, X.out, Y.out, ← HT1'.out, ← HT2'.out]
          rfl
        · have hge : ¬ (t : Int) < 64 := by omega
          have hR1 := hR12.below hbt (by omega)
          have hS1 := hS12.below hbt (by omega)
          have hK1 := hK12.below hbt (by omega)
          have b1 : Below n w wr := b12.trans (hbt.mono (by omega))
          have HV64 : Hid (Eight.mk v0 v1 v2 v3 v4 v5 v6 v7 = runs ws E0 64) := by rw [show 64 = t by omega]; exact HV
          clear hbt HV hR12 hS12 hK12 hW12 b12 z12
          go_wp2_with fail
          go_loopw [14] (fun c wr' => ∃ i : Nat, i ≤ 8 ∧ c = .int .i64 (i : Int) ∧ Below n w wr' ∧ Holds wr' n ((List.replicate 32 (0 : UInt8)).map byteV) 49 ∧ Holds wr' m (Ks.map wordV) 64 ∧ Holds wr' (a + 1) ([v0, v1, v2, v3, v4, v5, v6, v7].map wordV) 63 ∧ Holds wr' (n + 1) ((addN st [v0, v1, v2, v3, v4, v5, v6, v7] i).map wordV) 63) (fun c _ => 8 - (intOf c).toNat)
          case atStart => exact ⟨0, by omega, rfl, b1, hR1, hK1, hV, hS1⟩
          case round =>
            clear b1 hR1 hK1 hV hS1 hge hz
            obtain ⟨i, hi, rfl, hbi, hR1, hK1, hV, hS1⟩ := hrel
            by_cases hli : i < 8
            · obtain ⟨x, X⟩ : ∃ x, Hid ((addN st [v0, v1, v2, v3, v4, v5, v6, v7] i).getD i 0 = x) := ⟨_, rfl⟩
              obtain ⟨y, Y⟩ : ∃ y, Hid ([v0, v1, v2, v3, v4, v5, v6, v7].getD i 0 = y) := ⟨_, rfl⟩
              have c1 : wr.cell? ⟨n + 1, i, none⟩ = some (.int .u32 x.toNat) := X.out ▸ hS1.word i _ rfl (by rw [addN_length, hstl]; exact hli)
              have c2 : wr.cell? ⟨a + 1, i, none⟩ = some (.int .u32 y.toNat) := Y.out ▸ hV.word i _ rfl hli
              have hfr : wr.frozen? ⟨n + 1, i, none⟩ = false := hS1.frozen _
              have j0 : (0 : Int) ≤ (i : Int) := by omega
              have j1 : (i : Int) < 8 := by omega
              go_wp2_with fail
              go_region
              go_wp2
              refine ⟨⟨i + 1, by omega, by go_num, (hbi.setCell (by simp) _).drew, (hR1.setOther _ _ _ (by omega)).drew, (hK1.setOther _ _ _ (by omega)).drew, (hV.setOther _ _ _ (by omega)).drew, ?_⟩, by simp [intOf]; omega⟩
              have := (hS1.set i (wordV (x + y))).drew
              rw [← List.map_set] at this
              rw [addN, X.out, Y.out]
              exact this
            · have hni : ¬ (i : Int) < 8 := by omega
              have hnext : (addN st [v0, v1, v2, v3, v4, v5, v6, v7] i) = stAt p.data.toList (k + 1) := by
                rw [show i = 8 by omega, add_eight _ _ _ _ _ _ _ _ _ hstl, stAt, mixL, W.out, ST.out, HE.out, ← HV64.out]; rfl
              rw [hnext] at hS1
              have hL1 : ((64 * (k + 1) : Nat) : Int) = (L : Int) + 64 := by have := HL.out; omega
              have hL2 : 64 * (k + 1) ≤ p.size := by have := HL.out; omega
              clear hnext
              have HL1 : Hid (((64 * (k + 1) : Nat) : Int) = (L : Int) + 64) := hL1
              clear hL1
              go_wp2_with fail
              exact ⟨⟨k + 1, hL2, by rw [HL1.out], hR1, hS1, hK1, hbi⟩, by simp [intOf]; omega⟩
    · have hend : Hid (spreadL (stAt p.data.toList k) = refSum s.data.toList) := by
        have e : 64 * k = p.size := by omega
        have e2 : p.data.toList.length = p.size := rfl
        have e3 : s.data.toList.length = s.size := rfl
        show _ = spreadL (stAt (s.data.toList ++ padding s.data.toList.length) ((s.data.toList ++ padding s.data.toList.length).length / 64))
        rw [e3, ← HP.out, e2, show p.size / 64 = k by omega]
      obtain ⟨st, ST⟩ : ∃ st, Hid (stAt p.data.toList k = st) := ⟨_, rfl⟩
      rw [ST.out] at hS
      have hstl : st.length = 8 := by rw [← ST.out]; exact stAt_length _ _
      have hend2 : Hid (spreadL st = refSum s.data.toList) := by rw [← ST.out]; exact hend
      have hge : ¬ ((64 * k : Nat) : Int) < (p.size : Int) := by omega
      clear hend ST hK
      obtain ⟨c0, hc0⟩ : ∃ c0, wr.heap.size = c0 := ⟨_, rfl⟩
      have hnc : n + 1 < c0 := by rw [← hc0]; exact hS.lt
      go_wp2_with (refine wpList_alloc_new 15 rfl rfl 49 rfl c0 hc0 _ (zero_of_info info49).1 ?_; intro w8 h8)
      have hR8 := hR.below h8.below (by omega)
      have hS8 := hS.below h8.below (by omega)
      have b8 : Below n w w8 := hb.trans (h8.below.mono (by omega))
      have hO8 := h8.holds
      clear h8 hb hR hS hge hc0
      go_loopw [16] (fun c wr' => ∃ i : Nat, i ≤ 32 ∧ c = .int .i64 (i : Int) ∧ Below n w wr' ∧ Holds wr' n ((List.replicate 32 (0 : UInt8)).map byteV) 49 ∧ Holds wr' (n + 1) (st.map wordV) 63 ∧ Holds wr' c0 ((outN st i).map byteV) 49) (fun c _ => 32 - (intOf c).toNat)
      case atStart => exact ⟨0, by omega, rfl, b8, hR8, hS8, hO8⟩
      case round =>
        clear b8 hR8 hS8 hO8
        obtain ⟨i, hi, rfl, hbi, hR, hS, hO⟩ := hrel
        by_cases hli : i < 32
        · obtain ⟨x, X⟩ : ∃ x, Hid (st.getD (i / 4) 0 = x) := ⟨_, rfl⟩
          have c1 : wr.cell? ⟨n + 1, i / 4, none⟩ = some (.int .u32 x.toNat) := X.out ▸ hS.word (i / 4) _ rfl (by omega)
          have j0 : (0 : Int) ≤ (i : Int) := by omega
          have j1 : (i : Int) < 32 := by omega
          have j2 : (i : Int) / 4 < 8 := by omega
          have j3 : (0 : Int) ≤ 24 - 8 * ((i : Int) % 4) := by omega
          have j4 : (24 - 8 * ((i : Int) % 4)).toNat = 24 - 8 * (i % 4) := by omega
          have hol : i < ((outN st i).map byteV).length := by rw [List.length_map, outN_length]; exact hli
          go_wp2_with (refine wpList_store_int rfl 5 (.tmp 145) (.tmp 144) rfl siz5 c0 i rfl .u8 _ rfl _ 49 hO hol ?_; intro wr2 h2)
          refine ⟨⟨i + 1, by omega, by go_num, hbi.trans (h2.below (by omega)), hR.below (h2.below (B := c0) (by omega)) (by omega), hS.below (h2.below (B := c0) (by omega)) (by omega), ?_⟩, by simp [intOf]; omega⟩
          have := h2.holds
          rw [byte_pow, ← List.map_set] at this
          rw [outN, X.out]
          exact this
        · have hO : Holds wr c0 ((spreadL st).map byteV) 49 := by rw [show i = 32 by omega, out_spread st hstl] at hO; exact hO
          rw [hend2.out] at hO
          have hlen : (refSum s.data.toList).length = 32 := by rw [← hend2.out, ← out_spread st hstl, outN_length]
          have hni : ¬ (i : Int) < 32 := by omega
          go_wp2_with (first
            | (refine wpList_load_all rfl 49 (.tmp 15) rfl c0 rfl 49 ((refSum s.data.toList).map byteV) 32 5 hO und49 (by rw [(zero_of_info info49).2]; simp [hlen]) ?_)
            | (refine wpList_store_all rfl 49 (.tmp 2) (.tmp 146) rfl n rfl ((refSum s.data.toList).map byteV) rfl 49 _ hR (by rw [(zero_of_info info49).2]; simp [hlen]) (by simp [hlen]) (byteV_one _) ?_; intro w9 h9))
          exact bodyPost_ret (results_cell_row (p := 2) (by kernel_rfl) _ w9 n 49 ((refSum s.data.toList).map byteV).toArray (0, 0) _ rfl h9.holds und49 rfl (by rw [(zero_of_info info49).2]; simp [hlen])) rfl ⟨rfl, hbi.trans (h9.below (by omega))⟩
end Go.Proofs.YtlliijodilnlgaaDoor
