/- FilesFirm's walk. -/
import Derived.Test.YtfjmmeefobkkiaaFirm
namespace Go.Proofs.Ytfjmmeefobkkiaa
open Go.RowKit Go.Maps Go.WideMaps

def nmF : ByteArray := ⟨#[102]⟩
set_option maxHeartbeats 6400000 in
set_option maxRecDepth 100000 in
theorem filesFirm_walk (ps : List ByteArray) (hps : ∀ s ∈ ps, s.size ≤ 140737488355328) (hs ks : List Int) (hks : ∀ x ∈ ks, -9223372036854775808 ≤ x ∧ x < 9223372036854775808) (a0 a1 a2 : Option Addr) (c0 c1 c2 : Nat) (w : World)
    (h0 : StrsAt w w.heap.size a0 ps) (h1 : IntsAt w w.heap.size a1 hs) (h2 : IntsAt w w.heap.size a2 ks) (l0 : ps.length ≤ maxLen) :
    Calls Try.prog 3 #[.slice a0 ps.length c0, .slice a1 hs.length c1, .slice a2 ks.length c2] w fun e w' => e = .returned (.bool true) ∧ Below w.heap.size w w' := by
  obtain ⟨N, hN⟩ : ∃ N, w.heap.size = N := ⟨_, rfl⟩
  have HN : Hid (w.heap.size = N) := hN
  rw [hN] at h0 h1 h2 ⊢
  clear hN
  have A0 : Hid (∀ W, DUpd N w W → StrsAt W N a0 ps) := fun W hW => h0.dupd hW
  have A1 : Hid (∀ W, DUpd N w W → IntsAt W N a1 hs) := fun W hW => h1.dupd hW
  have A2 : Hid (∀ W, DUpd N w W → IntsAt W N a2 ks) := fun W hW => h2.dupd hW
  have Hps : Hid (∀ s ∈ ps, s.size ≤ 140737488355328) := hps
  have Hks : Hid (∀ x ∈ ks, -9223372036854775808 ≤ x ∧ x < 9223372036854775808) := hks
  obtain ⟨m0, hm0⟩ : ∃ m, ps.length = m := ⟨_, rfl⟩
  obtain ⟨m1, hm1⟩ : ∃ m, hs.length = m := ⟨_, rfl⟩
  obtain ⟨m2, hm2⟩ : ∃ m, ks.length = m := ⟨_, rfl⟩
  have M0 : Hid (ps.length = m0) := hm0
  have M1 : Hid (hs.length = m1) := hm1
  have M2 : Hid (ks.length = m2) := hm2
  rw [hm0] at l0 ⊢
  rw [hm1, hm2]
  unfold maxLen at l0
  clear hm0 hm1 hm2 h0 h1 h2 hps hks
  have kn : Hid (∀ W, N ≤ W.heap.size → Calls Try.prog 10 #[.int .i64 16777216] W fun e w' => ∃ d, e = .returned (.pointer (some ⟨d, 0, none⟩)) ∧ DiskAt w' N d st0 ∧ DUpd N W w') := fun W hW => by
    have := new_any N 16777216 W hW
    rw [new16] at this
    exact this.mono fun e w' ⟨x, y, z⟩ => ⟨_, x, y, z⟩
  go_enter Try.func3, Try.ntmps3
  go_wp2_with (first
    | (go_at_call 9; refine (awake_any _).mono ?_; rintro e w1 ⟨rfl, b1⟩; have up1 : DUpd N w w1 := DUpd.ofBelow b1; have z1 : N ≤ w1.heap.size := (by have := b1.size; have := HN.out; omega))
    | (go_at_call 10; refine (kn.out _ z1).mono ?_; rintro e w2 ⟨d, rfl, d2, up2⟩; have upa : DUpd N w w2 := up1.trans up2))
  go_loopw [9, 10, 11] (fun f v c wr => ∃ (i n : Nat) (Wh Fm : ByteArray), i ≤ m0 ∧ c = .int .i64 (i : Int) ∧ v = .string Wh ∧ f = .string Fm ∧ Fm.size = n ∧ n ≤ Wh.size ∧ Wh.size ≤ 1048576 ∧ DF wr N d nmF.data.toList Wh.data.toList n ∧ DUpd N w wr) (fun _ _ c _ => m0 - (intOf c).toNat)
  case atStart => exact ⟨0, 0, ⟨#[]⟩, ⟨#[]⟩, by omega, rfl, rfl, rfl, rfl, Nat.le_refl _, by decide, .inl ⟨rfl, rfl, d2⟩, upa⟩
  case round =>
    clear upa d2 up2 up1 b1
    obtain ⟨i, n, Wh, Fm, hi, rfl, rfl, rfl, hFm, hnW, hWb, hD, hU⟩ := hrel
    by_cases hlt : i < m0
    · by_cases h60 : (i : Int) < 60
      · obtain ⟨p, hp⟩ : ∃ p, ps[i]? = some p := ⟨ps[i]'(by have := M0.out; omega), List.getElem?_eq_getElem _⟩
        have hpz := Hps.out p (List.mem_of_getElem? hp)
        have e0 := A0.out wr hU
        rcases e0 with h | ⟨g0, o0, rfl, hg0, hs0, hc0⟩
        · have := M0.out; omega
        have cp := hc0 i p hp
        by_cases hbig : (1048576 : Int) < (Wh.size : Int) + (p.size : Int)
        · go_wp2
          go_ret
          exact ⟨rfl, hU.below (by have := HN.out; omega)⟩
        · have HP0 : Hid (∀ W, DUpd N wr W → W.cell? ⟨g0, o0 + i, none⟩ = some (.string p)) := fun W hW => (World.cell?_of_block (hW.block g0 hg0 hs0)).trans cp
          have kap : Hid (Calls Try.prog 11 #[.pointer (some ⟨d, 0, none⟩), .string ⟨#[102]⟩, .slice (some ⟨wr.heap.size, 0, none⟩) 1 1] (wr.alloc (.cells #[.string p] 9)) fun e w' => e = .returned (.int .i64 0) ∧ DiskAt w' N d (st1 nmF.data.toList (Wh ++ p).data.toList n) ∧ DUpd N wr w') := by
            have := df_append N d nmF p (by decide) Wh.data.toList n (by have : Wh.data.toList.length = Wh.size := rfl; omega) wr hD
            rw [show Wh.data.toList ++ p.data.toList = (Wh ++ p).data.toList by rw [ByteArray.data_append, Array.toList_append]] at this
            exact this
          have hWp : (Wh ++ p).size = Wh.size + p.size := ByteArray.size_append
          have HWp : Hid ((Wh ++ p).size = Wh.size + p.size) := hWp
          have kdf : Hid (∀ W, DiskAt W N d (st1 nmF.data.toList (Wh ++ p).data.toList n) → DF W N d nmF.data.toList (Wh ++ p).data.toList n) := fun W hW => .inr hW
          clear hD hWp hs0 hc0
          by_cases hih : (i : Int) < (m1 : Int)
          · obtain ⟨hv, hhv⟩ : ∃ hv, hs[i]? = some hv := ⟨hs[i]'(by have := M1.out; omega), List.getElem?_eq_getElem _⟩
            have HV : Hid (∀ W, DUpd N w W → ∃ g1 o1, a1 = some ⟨g1, o1, none⟩ ∧ W.cell? ⟨g1, o1 + i, none⟩ = some (.int .i64 hv)) := fun W hW => by
              rcases A1.out W hW with h | ⟨g1, o1, e, _, _, hc⟩
              · have := M1.out; omega
              · exact ⟨g1, o1, e, hc i hv hhv⟩
            obtain ⟨g1, o1, rfl, _⟩ := HV.out wr hU
            have HV2 : Hid (∀ W, DUpd N w W → W.cell? ⟨g1, o1 + i, none⟩ = some (.int .i64 hv)) := fun W hW => by
              obtain ⟨x, y, e, h⟩ := HV.out W hW
              obtain ⟨rfl, rfl⟩ : g1 = x ∧ o1 = y := by simpa using e
              exact h
            obtain ⟨c4, hc4⟩ : ∃ c4, hv.tmod 4 = c4 := ⟨_, rfl⟩
            clear hhv
            by_cases hk1 : c4 = 1
            · subst hk1
              have ksy : Hid (∀ W, DiskAt W N d (st1 nmF.data.toList (Wh ++ p).data.toList n) → Calls Try.prog 12 #[.pointer (some ⟨d, 0, none⟩), .slice (some ⟨W.heap.size, 0, none⟩) 1 1] (W.alloc (.cells #[.string ⟨#[102]⟩] 9)) fun e w' => e = .returned (.int .i64 0) ∧ DiskAt w' N d (st1 nmF.data.toList (Wh ++ p).data.toList (Wh ++ p).size) ∧ DUpd N W w') := fun W hW => df_sync N d nmF (by decide) _ n W hW
              go_wp2_with (first
                | (go_at_call 11; refine kap.out.mono ?_; rintro e w3 ⟨rfl, d3, up3⟩; have cp3 := HP0.out w3 up3; have ch3 := HV2.out w3 (hU.trans up3))
                | (go_at_call 12; refine (ksy.out _ d3).mono ?_; rintro e w4 ⟨rfl, d4, up4⟩))
              exact ⟨⟨i + 1, (Wh ++ p).size, Wh ++ p, Wh ++ p, by omega, rfl, rfl, rfl, rfl, Nat.le_refl _, by rw [HWp.out]; omega, .inr d4, (hU.trans up3).trans up4⟩, by simp; omega⟩
            · by_cases hk2 : c4 = 2
              · subst hk2
                have kcr : Hid (∀ W x, -9223372036854775808 ≤ x ∧ x < 9223372036854775808 → DiskAt W N d (st1 nmF.data.toList (Wh ++ p).data.toList n) → Calls Try.prog 13 #[.pointer (some ⟨d, 0, none⟩), .slice (some ⟨W.heap.size, 0, none⟩) 1 1] (W.alloc (.cells #[.int .i64 x] 3)) fun e w' => e = .returned (.tuple #[]) ∧ (∃ m, n ≤ m ∧ m ≤ (Wh ++ p).size ∧ DiskAt w' N d (st1 nmF.data.toList ((Wh ++ p).extract 0 m).data.toList m)) ∧ DUpd N W w') := fun W x hx hW => by
                  refine (df_crash N d nmF.data.toList (Wh ++ p).data.toList n (by have : (Wh ++ p).data.toList.length = (Wh ++ p).size := rfl; have := HWp.out; omega) x hx W hW).mono fun e w' ⟨q1, ⟨m, q2, q3, q4⟩, q5⟩ => ⟨q1, ⟨m, q2, q3, ?_⟩, q5⟩
                  rw [ext_head]; exact q4
                have krd : Hid (∀ W m, DiskAt W N d (st1 nmF.data.toList ((Wh ++ p).extract 0 m).data.toList m) → Calls Try.prog 14 #[.pointer (some ⟨d, 0, none⟩), .string ⟨#[102]⟩] W fun e w' => e = .returned (.tuple #[.string ((Wh ++ p).extract 0 m), .int .i64 0]) ∧ DiskAt w' N d (st1 nmF.data.toList ((Wh ++ p).extract 0 m).data.toList m) ∧ DUpd N W w') := fun W m hW => df_read N d nmF (by decide) _ m W hW
                by_cases hik : (i : Int) < (m2 : Int)
                · obtain ⟨kv, hkv⟩ : ∃ kv, ks[i]? = some kv := ⟨ks[i]'(by have := M2.out; omega), List.getElem?_eq_getElem _⟩
                  have hkr := Hks.out kv (List.mem_of_getElem? hkv)
                  have KV : Hid (∀ W, DUpd N w W → ∃ g2 o2, a2 = some ⟨g2, o2, none⟩ ∧ W.cell? ⟨g2, o2 + i, none⟩ = some (.int .i64 kv)) := fun W hW => by
                    rcases A2.out W hW with h | ⟨g2, o2, e, _, _, hc⟩
                    · have := M2.out; omega
                    · exact ⟨g2, o2, e, hc i kv hkv⟩
                  obtain ⟨g2, o2, rfl, _⟩ := KV.out wr hU
                  have KV2 : Hid (∀ W, DUpd N w W → W.cell? ⟨g2, o2 + i, none⟩ = some (.int .i64 kv)) := fun W hW => by
                    obtain ⟨x, y, e, h⟩ := KV.out W hW
                    obtain ⟨rfl, rfl⟩ : g2 = x ∧ o2 = y := by simpa using e
                    exact h
                  have HKR : Hid (-9223372036854775808 ≤ kv ∧ kv < 9223372036854775808) := hkr
                  clear hkv hkr
                  go_wp2_with (first
                    | (go_at_call 11; refine kap.out.mono ?_; rintro e w3 ⟨rfl, d3, up3⟩; have cp3 := HP0.out w3 up3; have ch3 := HV2.out w3 (hU.trans up3); have ck3 := KV2.out w3 (hU.trans up3))
                    | (go_at_call 13; refine (kcr.out _ _ HKR.out d3).mono ?_; rintro e w4 ⟨rfl, ⟨m, hm1', hm2', d4⟩, up4⟩; have hsz : ((Wh ++ p).extract 0 m).size = m := (by rw [ByteArray.size_extract]; omega); have hq1 : ¬ (m : Int) < (n : Int) := (by omega); have hq2 : (m : Int) ≤ (Wh.size : Int) + (p.size : Int) := (by have := HWp.out; omega); have hq3 : m ≤ Wh.size + p.size := (by have := HWp.out; omega))
                    | (go_at_call 14; refine (krd.out _ m d4).mono ?_; rintro e w5 ⟨rfl, d5, up5⟩))
                  exact ⟨⟨i + 1, m, (Wh ++ p).extract 0 m, (Wh ++ p).extract 0 m, by omega, rfl, rfl, rfl, hsz, by rw [hsz]; exact Nat.le_refl _, by rw [hsz]; have := HWp.out; omega, .inr d5, ((hU.trans up3).trans up4).trans up5⟩, by simp; omega⟩
                · go_wp2_with (first
                    | (go_at_call 11; refine kap.out.mono ?_; rintro e w3 ⟨rfl, d3, up3⟩; have cp3 := HP0.out w3 up3; have ch3 := HV2.out w3 (hU.trans up3))
                    | (go_at_call 13; refine (kcr.out _ 0 (by decide) d3).mono ?_; rintro e w4 ⟨rfl, ⟨m, hm1', hm2', d4⟩, up4⟩; have hsz : ((Wh ++ p).extract 0 m).size = m := (by rw [ByteArray.size_extract]; omega); have hq1 : ¬ (m : Int) < (n : Int) := (by omega); have hq2 : (m : Int) ≤ (Wh.size : Int) + (p.size : Int) := (by have := HWp.out; omega); have hq3 : m ≤ Wh.size + p.size := (by have := HWp.out; omega))
                    | (go_at_call 14; refine (krd.out _ m d4).mono ?_; rintro e w5 ⟨rfl, d5, up5⟩))
                  exact ⟨⟨i + 1, m, (Wh ++ p).extract 0 m, (Wh ++ p).extract 0 m, by omega, rfl, rfl, rfl, hsz, by rw [hsz]; exact Nat.le_refl _, by rw [hsz]; have := HWp.out; omega, .inr d5, ((hU.trans up3).trans up4).trans up5⟩, by simp; omega⟩
              · go_wp2_with (first
                  | (go_at_call 11; refine kap.out.mono ?_; rintro e w3 ⟨rfl, d3, up3⟩; have cp3 := HP0.out w3 up3; have ch3 := HV2.out w3 (hU.trans up3)))
                exact ⟨⟨i + 1, n, Wh ++ p, Fm, by omega, rfl, rfl, rfl, hFm, by rw [HWp.out]; omega, by rw [HWp.out]; omega, .inr d3, hU.trans up3⟩, by simp; omega⟩
          · go_wp2_with (first
              | (go_at_call 11; refine kap.out.mono ?_; rintro e w3 ⟨rfl, d3, up3⟩; have cp3 := HP0.out w3 up3))
            exact ⟨⟨i + 1, n, Wh ++ p, Fm, by omega, rfl, rfl, rfl, hFm, by rw [HWp.out]; omega, by rw [HWp.out]; omega, .inr d3, hU.trans up3⟩, by simp; omega⟩
      · go_wp2
        go_ret
        exact ⟨rfl, hU.below (by have := HN.out; omega)⟩
    · go_wp2
      go_ret
      exact ⟨rfl, hU.below (by have := HN.out; omega)⟩
end Go.Proofs.Ytfjmmeefobkkiaa
