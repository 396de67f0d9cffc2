/- FilesSwaps' walk. -/
import Derived.Test.YtfjmmeefobkkiaaSwaps
namespace Go.Proofs.Ytfjmmeefobkkiaa
open Go.RowKit Go.Maps Go.WideMaps

def fstT : ByteArray := ⟨#[102, 105, 114, 115, 116]⟩
theorem str_ne {a b : ByteArray} (h : ¬ a = b) : (a.toList == b.toList) = false := by
  rw [Bool.eq_false_iff]
  intro hc
  rw [beq_iff_eq, Go.ByteArray.toList_eq, Go.ByteArray.toList_eq] at hc
  exact h (str_ext hc)
def armS (S : Dk) (r : Int) : Dk := { S with armed := decide (0 ≤ r), ahead := r }
theorem Sw.arm {S : Dk} {old : List UInt8} {nw : Fs} (h : Sw S old nw) (r : Int) : Sw (armS S r) old nw := ⟨h.room, h.fs⟩
set_option maxHeartbeats 12800000 in
set_option maxRecDepth 100000 in
theorem filesSwaps_walk (ps : List ByteArray) (hs ks : List Int) (hks : ∀ x ∈ ks, -9223372036854775808 ≤ x ∧ x < 9223372036854775808) (a0 a1 a2 : Option Addr) (c0 c1 c2 : Nat) (w : World)
    (h0 : StrsAt w w.heap.size a0 ps) (h1 : IntsAt w w.heap.size a1 hs) (h2 : IntsAt w w.heap.size a2 ks) (l0 : ps.length ≤ maxLen) (l1 : ks.length ≤ c2) (l2 : c2 ≤ maxLen) :
    Calls Try.prog 4 #[.slice a0 ps.length c0, .slice a1 hs.length c1, .slice a2 ks.length c2] w fun e w' => e = .returned (.bool true) ∧ Below w.heap.size w w' := by
  obtain ⟨N, hN⟩ : ∃ N, w.heap.size = N := ⟨_, rfl⟩
  have HN : Hid (w.heap.size = N) := hN
  rw [hN] at h0 h1 h2 ⊢
  clear hN
  have A0 : Hid (∀ W, DUpd N w W → StrsAt W N a0 ps) := fun W hW => h0.dupd hW
  have A1 : Hid (∀ W, DUpd N w W → IntsAt W N a1 hs) := fun W hW => h1.dupd hW
  have kcr : Hid (∀ W d S, DUpd N w W → DiskAt W N d S → Calls Try.prog 13 #[.pointer (some ⟨d, 0, none⟩), .slice a2 ks.length c2] W fun e w' => e = .returned (.tuple #[]) ∧ DiskAt w' N d (crashS S ks) ∧ DUpd N W w') := fun W d S hW hD => crash_some N d S ks hks a2 c2 l1 l2 W hD (h2.dupd hW)
  obtain ⟨m0, hm0⟩ : ∃ m, ps.length = m := ⟨_, rfl⟩
  obtain ⟨m1, hm1⟩ : ∃ m, hs.length = m := ⟨_, rfl⟩
  obtain ⟨m2, hm2⟩ : ∃ m, ks.length = m := ⟨_, rfl⟩
  have M0 : Hid (ps.length = m0) := hm0
  have M1 : Hid (hs.length = m1) := hm1
  rw [hm0] at l0 ⊢
  rw [hm1]
  rw [hm2] at kcr ⊢
  unfold maxLen at l0
  clear hm0 hm1 hm2 h0 h1 h2 hks l1 l2
  have kn : Hid (∀ W, N ≤ W.heap.size → Calls Try.prog 10 #[.int .i64 16777216] W fun e w' => ∃ d, e = .returned (.pointer (some ⟨d, 0, none⟩)) ∧ DiskAt w' N d st0 ∧ DUpd N W w') := fun W hW => by
    have := new_any N 16777216 W hW
    rw [new16] at this
    exact this.mono fun e w' ⟨x, y, z⟩ => ⟨_, x, y, z⟩
  have kf : Hid (∀ W d, DiskAt W N d st0 → Calls Try.prog 11 #[.pointer (some ⟨d, 0, none⟩), .string ⟨#[102]⟩, .slice (some ⟨W.heap.size, 0, none⟩) 1 1] (W.alloc (.cells #[.string ⟨#[102, 105, 114, 115, 116]⟩] 9)) fun e w' => e = .returned (.int .i64 0) ∧ DiskAt w' N d (st1 kyF fstT.data.toList 0) ∧ DUpd N W w') := fun W d hW => df_append N d nmO fstT (by decide) [] 0 (by decide) W (.inl ⟨rfl, rfl, hW⟩)
  have kg : Hid (∀ W d, DiskAt W N d (st1 kyF fstT.data.toList 0) → Calls Try.prog 12 #[.pointer (some ⟨d, 0, none⟩), .slice (some ⟨W.heap.size, 0, none⟩) 1 1] (W.alloc (.cells #[.string ⟨#[102]⟩] 9)) fun e w' => e = .returned (.int .i64 0) ∧ DiskAt w' N d (st1 kyF fstT.data.toList fstT.data.toList.length) ∧ DUpd N W w') := fun W d hW => df_sync N d nmO (by decide) _ 0 W hW
  go_enter Try.func4, Try.ntmps4
  go_wp2_with (first
    | (go_at_call 9; refine (awake_any _).mono ?_; rintro e w1 ⟨rfl, b1⟩; have up1 : DUpd N w w1 := DUpd.ofBelow b1; have z1 : N ≤ w1.heap.size := (by have := b1.size; have := HN.out; omega))
    | (go_at_call 10; refine (kn.out _ z1).mono ?_; rintro e w2 ⟨d, rfl, d2, up2⟩; have upa : DUpd N w w2 := up1.trans up2)
    | (go_at_call 11; refine (kf.out _ _ d2).mono ?_; rintro e w3 ⟨rfl, d3, up3⟩)
    | (go_at_call 12; refine (kg.out _ _ d3).mono ?_; rintro e w4 ⟨rfl, d4, up4⟩))
  go_loopw [9, 10] (fun v c wr => ∃ (i : Nat) (S : Dk) (nw : Fs) (old : ByteArray), i ≤ m0 ∧ c = .int .i64 (i : Int) ∧ v = .string old ∧ S.on = true ∧ Sw S old.data.toList nw ∧ NW nw ∧ old.size ≤ 100000 ∧ DiskAt wr N d S ∧ DUpd N w wr) (fun _ c _ => m0 - (intOf c).toNat)
  case atStart => exact ⟨0, st1 kyF fstT.data.toList fstT.data.toList.length, [], fstT, by omega, rfl, rfl, rfl, ⟨rfl, rfl⟩, .inl rfl, by decide, d4, (upa.trans up3).trans up4⟩
  case round =>
    clear upa d2 up2 up1 b1 d3 d4 up3 up4 kn kf kg
    obtain ⟨i, S, nw, old, hi, rfl, rfl, hon, hSw, hnw, hob, hD, hU⟩ := hrel
    by_cases hlt : i < m0
    · by_cases h40 : (i : Int) < 40
      · obtain ⟨p, hp⟩ : ∃ p, ps[i]? = some p := ⟨ps[i]'(by have := M0.out; omega), List.getElem?_eq_getElem _⟩
        have e0 := A0.out wr hU
        rcases e0 with h | ⟨g0, o0, rfl, hg0, hs0, hc0⟩
        · have := M0.out; omega
        have cp := hc0 i p hp
        have HP : Hid (∀ W, DUpd N w W → W.cell? ⟨g0, o0 + i, none⟩ = some (.string p)) := fun W hW => by
          rcases A0.out W hW with h | ⟨g1, o1, ee, hg1, hs1, hc1⟩
          · have := M0.out; omega
          · cases ee
            exact hc1 i p hp
        clear hc0 hs0 hg0 hp
        by_cases hbig : (p.size : Int) < 100000
        · have hpb : p.size ≤ 100000 := by omega
          have hol : old.data.toList.length ≤ 100000 := hob
          have HSw : Hid (Sw S old.data.toList nw) := hSw
          have HON : Hid (S.on = true) := hon
          have HD : Hid (DiskAt wr N d S) := hD
          clear hSw hon hD
          by_cases hat : (i : Int) < (m1 : Int)
          · obtain ⟨hv, hhv⟩ : ∃ hv, hs[i]? = some hv := ⟨hs[i]'(by have := M1.out; omega), List.getElem?_eq_getElem _⟩
            obtain ⟨g1, o1, rfl, ch⟩ : ∃ g1 o1, a1 = some ⟨g1, o1, none⟩ ∧ wr.cell? ⟨g1, o1 + i, none⟩ = some (.int .i64 hv) := by
              rcases A1.out wr hU with h | ⟨g1, o1, e, _, _, hc⟩
              · have := M1.out; omega
              · exact ⟨g1, o1, e, hc i hv hhv⟩
            obtain ⟨c6, hc6⟩ : ∃ c6, hv.tmod 6 = c6 := ⟨_, rfl⟩
            have hb6 : -6 < c6 ∧ c6 < 6 := by
              rw [← hc6]
              exact ⟨Int.lt_tmod_of_pos hv (by decide), Int.tmod_lt_of_pos hv (by decide)⟩
            obtain ⟨hb7, hb8⟩ := hb6
            have kar1 : Hid (∀ W, DiskAt W N d S → Calls Try.prog 15 #[.pointer (some ⟨d, 0, none⟩), .int .i64 (c6 - 1)] W fun e w' => e = .returned (.tuple #[]) ∧ DiskAt w' N d (armS S (c6 - 1)) ∧ DUpd N W w') := fun W hW => arm_some N d S (c6 - 1) (by omega) W hW
            clear hhv
            have HSw1 : Hid (Sw (armS S (c6 - 1)) old.data.toList nw) := HSw.out.arm _
            have HON1 : Hid ((armS S (c6 - 1)).on = true) := HON.out
            have kls' := fun W (hW : DiskAt W N d (armS S (c6 - 1))) => (list_some N d (armS S (c6 - 1)) HON1.out nmW W hW).mono (R' := fun e w' => ∃ a c, e = .returned (.slice a (listK (armS S (c6 - 1)) nmW).length c) ∧ DiskAt w' N d (armS S (c6 - 1)) ∧ DUpd N W w') fun e w' ⟨a, c, x, _, y⟩ => ⟨a, c, x, hW.below y, DUpd.ofBelow y⟩
            rcases hnw with rfl | ⟨gN, rfl, hgN⟩
            · rw [HSw1.out.list0] at kls'
              have kls : Hid (∀ W, DiskAt W N d (armS S (c6 - 1)) → Calls Try.prog 16 #[.pointer (some ⟨d, 0, none⟩), .string ⟨#[110, 101, 119]⟩] W fun e w' => ∃ a c, e = .returned (.slice a 0 c) ∧ DiskAt w' N d (armS S (c6 - 1)) ∧ DUpd N W w') := kls'
              clear kls'
              obtain ⟨S3, S4, S5, E1, E2, E3, kap', ksy', kre', hout⟩ := sw_ops N d p hpb hol (.inl ⟨HON1.out, HSw1.out⟩)
              have kap : Hid (Ap N d p _ E1 S3) := kap'
              have ksy : Hid (Sy N d S3 E2 S4) := ksy'
              have kre : Hid (Re N d S4 E3 S5) := kre'
              have kon' := fun W (hW : DiskAt W N d S5) => on_some N d S5 W hW
              clear kap' ksy' kre'
              rcases hout with ⟨rfl, rfl, rfl, hon5, hsw5⟩ | ⟨hE, rfl, hoff5, nw5, hsw5, hnw5⟩
              · rw [hon5] at kon'
                have kon : Hid (∀ W, DiskAt W N d S5 → Calls Try.prog 19 #[.pointer (some ⟨d, 0, none⟩)] W fun e w' => e = .returned (.bool true) ∧ w' = W) := kon'
                have kar2 : Hid (∀ W, DiskAt W N d S5 → Calls Try.prog 15 #[.pointer (some ⟨d, 0, none⟩), .int .i64 (-1)] W fun e w' => e = .returned (.tuple #[]) ∧ DiskAt w' N d (armS S5 (-1)) ∧ DUpd N W w') := fun W hW => arm_some N d S5 (-1) (by decide) W hW
                have HF : Hid ((armS S5 (-1)).on = true ∧ Sw (armS S5 (-1)) p.data.toList [] ∧ NW []) := ⟨hon5, hsw5.arm _, .inl rfl⟩
                have krd : Hid (∀ W, DiskAt W N d (armS S5 (-1)) → Calls Try.prog 14 #[.pointer (some ⟨d, 0, none⟩), .string ⟨#[102]⟩] W fun e w' => e = .returned (.tuple #[.string p, .int .i64 0]) ∧ DiskAt w' N d (armS S5 (-1)) ∧ DUpd N W w') := fun W hW => by
                  have := read_some N d _ nmO (by decide) W hW
                  rw [(HF.out.2.1.read HF.out.1).1, (HF.out.2.1.read HF.out.1).2] at this
                  exact this.mono fun e w' ⟨x, y⟩ => ⟨x, hW.below y, DUpd.ofBelow y⟩
                clear kon' hon5 hsw5
                by_cases hpo : p = old
                · subst hpo
                  go_wp2_with (first
                    | (go_at_call 14; refine (krd.out _ dA).mono ?_; rintro e wB ⟨rfl, dB, upB⟩; have kB := kA.trans upB; have cpB := HP.out wB kB)
                    | (go_at_call 15; refine (kar2.out _ d9).mono ?_; rintro e wA ⟨rfl, dA, upA⟩; have kA := k9.trans upA)
                    | (go_at_call 15; refine (kar1.out _ HD.out).mono ?_; rintro e w3 ⟨rfl, d3, up3⟩; have k3 := hU.trans up3)
                    | (go_at_call 16; refine (kls.out _ d3).mono ?_; rintro e w5 ⟨a4, c4, rfl, d5, up5⟩; have k5 := k3.trans up5; have cp5 := HP.out w5 k5)
                    | (go_at_call 11; refine (kap.out _ d5).mono ?_; rintro e w6 ⟨rfl, d6, up6⟩; have k6 := k5.trans up6)
                    | (go_at_call 12; refine (ksy.out _ d6).mono ?_; rintro e w7 ⟨rfl, d7, up7⟩; have k7 := k6.trans up7)
                    | (go_at_call 18; refine (kre.out _ d7).mono ?_; rintro e w8 ⟨rfl, d8, up8⟩; have k8 := k7.trans up8)
                    | (go_at_call 19; refine (kon.out _ d8).mono ?_; rintro e w9 ⟨rfl, e9⟩; subst e9; have d9 := d8; have k9 := k8))
                  exact ⟨⟨i + 1, _, [], p, by omega, by simp, rfl, HF.out.1, HF.out.2.1, HF.out.2.2, by omega, dB, kB⟩, by simp; omega⟩
                · have hq1 := str_ne hpo
                  have hq2 : (p.toList != old.toList) = true := by rw [bne, hq1]; rfl
                  clear hpo
                  go_wp2_with (first
                    | (go_at_call 14; refine (krd.out _ dA).mono ?_; rintro e wB ⟨rfl, dB, upB⟩; have kB := kA.trans upB; have cpB := HP.out wB kB)
                    | (go_at_call 15; refine (kar2.out _ d9).mono ?_; rintro e wA ⟨rfl, dA, upA⟩; have kA := k9.trans upA)
                    | (go_at_call 15; refine (kar1.out _ HD.out).mono ?_; rintro e w3 ⟨rfl, d3, up3⟩; have k3 := hU.trans up3)
                    | (go_at_call 16; refine (kls.out _ d3).mono ?_; rintro e w5 ⟨a4, c4, rfl, d5, up5⟩; have k5 := k3.trans up5; have cp5 := HP.out w5 k5)
                    | (go_at_call 11; refine (kap.out _ d5).mono ?_; rintro e w6 ⟨rfl, d6, up6⟩; have k6 := k5.trans up6)
                    | (go_at_call 12; refine (ksy.out _ d6).mono ?_; rintro e w7 ⟨rfl, d7, up7⟩; have k7 := k6.trans up7)
                    | (go_at_call 18; refine (kre.out _ d7).mono ?_; rintro e w8 ⟨rfl, d8, up8⟩; have k8 := k7.trans up8)
                    | (go_at_call 19; refine (kon.out _ d8).mono ?_; rintro e w9 ⟨rfl, e9⟩; subst e9; have d9 := d8; have k9 := k8))
                  exact ⟨⟨i + 1, _, [], p, by omega, by simp, rfl, HF.out.1, HF.out.2.1, HF.out.2.2, by omega, dB, kB⟩, by simp; omega⟩
              · rw [hoff5] at kon'
                have kon : Hid (∀ W, DiskAt W N d S5 → Calls Try.prog 19 #[.pointer (some ⟨d, 0, none⟩)] W fun e w' => e = .returned (.bool false) ∧ w' = W) := kon'
                obtain ⟨nw6, hsw6, hnw6⟩ := hsw5.crash hnw5 ks
                have kcr1 : Hid (∀ W, DUpd N w W → DiskAt W N d S5 → Calls Try.prog 13 #[.pointer (some ⟨d, 0, none⟩), .slice a2 m2 c2] W fun e w' => e = .returned (.tuple #[]) ∧ DiskAt w' N d (crashS S5 ks) ∧ DUpd N W w') := fun W h1 h2 => kcr.out W d S5 h1 h2
                have on6 : (crashS S5 ks).on = true := rfl
                generalize crashS S5 ks = S6 at *
                have kar2 : Hid (∀ W, DiskAt W N d S6 → Calls Try.prog 15 #[.pointer (some ⟨d, 0, none⟩), .int .i64 (-1)] W fun e w' => e = .returned (.tuple #[]) ∧ DiskAt w' N d (armS S6 (-1)) ∧ DUpd N W w') := fun W hW => arm_some N d S6 (-1) (by decide) W hW
                have HF : Hid ((armS S6 (-1)).on = true ∧ Sw (armS S6 (-1)) old.data.toList nw6 ∧ NW nw6) := ⟨on6, hsw6.arm _, hnw6⟩
                have krd : Hid (∀ W, DiskAt W N d (armS S6 (-1)) → Calls Try.prog 14 #[.pointer (some ⟨d, 0, none⟩), .string ⟨#[102]⟩] W fun e w' => e = .returned (.tuple #[.string old, .int .i64 0]) ∧ DiskAt w' N d (armS S6 (-1)) ∧ DUpd N W w') := fun W hW => by
                  have := read_some N d _ nmO (by decide) W hW
                  rw [(HF.out.2.1.read HF.out.1).1, (HF.out.2.1.read HF.out.1).2] at this
                  exact this.mono fun e w' ⟨x, y⟩ => ⟨x, hW.below y, DUpd.ofBelow y⟩
                clear kon' hoff5 hsw5 hsw6 hnw5 hnw6 on6
                rcases hE with ⟨rfl, rfl⟩ | ⟨rfl, rfl⟩ | ⟨rfl, rfl⟩
                · go_wp2_with (first
                    | (go_at_call 14; refine (krd.out _ dA).mono ?_; rintro e wB ⟨rfl, dB, upB⟩; have kB := kA.trans upB; have cpB := HP.out wB kB)
                    | (go_at_call 15; refine (kar2.out _ d9).mono ?_; rintro e wA ⟨rfl, dA, upA⟩; have kA := k9.trans upA)
                    | (go_at_call 15; refine (kar1.out _ HD.out).mono ?_; rintro e w3 ⟨rfl, d3, up3⟩; have k3 := hU.trans up3)
                    | (go_at_call 16; refine (kls.out _ d3).mono ?_; rintro e w5 ⟨a4, c4, rfl, d5, up5⟩; have k5 := k3.trans up5; have cp5 := HP.out w5 k5)
                    | (go_at_call 11; refine (kap.out _ d5).mono ?_; rintro e w6 ⟨rfl, d6, up6⟩; have k6 := k5.trans up6)
                    | (go_at_call 12; refine (ksy.out _ d6).mono ?_; rintro e w7 ⟨rfl, d7, up7⟩; have k7 := k6.trans up7)
                    | (go_at_call 18; refine (kre.out _ d7).mono ?_; rintro e w8 ⟨rfl, d8, up8⟩; have k8 := k7.trans up8)
                    | (go_at_call 13; refine (kcr1.out _ k8 d8).mono ?_; rintro e w9 ⟨rfl, d9, up9⟩; have k9 := k8.trans up9)
                    | (go_at_call 19; refine (kon.out _ d8).mono ?_; rintro e wO ⟨rfl, eO⟩; subst eO))
                  exact ⟨⟨i + 1, _, nw6, old, by omega, by simp, rfl, HF.out.1, HF.out.2.1, HF.out.2.2, by omega, dB, kB⟩, by simp; omega⟩
                · go_wp2_with (first
                    | (go_at_call 14; refine (krd.out _ dA).mono ?_; rintro e wB ⟨rfl, dB, upB⟩; have kB := kA.trans upB; have cpB := HP.out wB kB)
                    | (go_at_call 15; refine (kar2.out _ d9).mono ?_; rintro e wA ⟨rfl, dA, upA⟩; have kA := k9.trans upA)
                    | (go_at_call 15; refine (kar1.out _ HD.out).mono ?_; rintro e w3 ⟨rfl, d3, up3⟩; have k3 := hU.trans up3)
                    | (go_at_call 16; refine (kls.out _ d3).mono ?_; rintro e w5 ⟨a4, c4, rfl, d5, up5⟩; have k5 := k3.trans up5; have cp5 := HP.out w5 k5)
                    | (go_at_call 11; refine (kap.out _ d5).mono ?_; rintro e w6 ⟨rfl, d6, up6⟩; have k6 := k5.trans up6)
                    | (go_at_call 12; refine (ksy.out _ d6).mono ?_; rintro e w7 ⟨rfl, d7, up7⟩; have k7 := k6.trans up7)
                    | (go_at_call 18; refine (kre.out _ d7).mono ?_; rintro e w8 ⟨rfl, d8, up8⟩; have k8 := k7.trans up8)
                    | (go_at_call 13; refine (kcr1.out _ k8 d8).mono ?_; rintro e w9 ⟨rfl, d9, up9⟩; have k9 := k8.trans up9)
                    | (go_at_call 19; refine (kon.out _ d8).mono ?_; rintro e wO ⟨rfl, eO⟩; subst eO))
                  exact ⟨⟨i + 1, _, nw6, old, by omega, by simp, rfl, HF.out.1, HF.out.2.1, HF.out.2.2, by omega, dB, kB⟩, by simp; omega⟩
                · go_wp2_with (first
                    | (go_at_call 14; refine (krd.out _ dA).mono ?_; rintro e wB ⟨rfl, dB, upB⟩; have kB := kA.trans upB; have cpB := HP.out wB kB)
                    | (go_at_call 15; refine (kar2.out _ d9).mono ?_; rintro e wA ⟨rfl, dA, upA⟩; have kA := k9.trans upA)
                    | (go_at_call 15; refine (kar1.out _ HD.out).mono ?_; rintro e w3 ⟨rfl, d3, up3⟩; have k3 := hU.trans up3)
                    | (go_at_call 16; refine (kls.out _ d3).mono ?_; rintro e w5 ⟨a4, c4, rfl, d5, up5⟩; have k5 := k3.trans up5; have cp5 := HP.out w5 k5)
                    | (go_at_call 11; refine (kap.out _ d5).mono ?_; rintro e w6 ⟨rfl, d6, up6⟩; have k6 := k5.trans up6)
                    | (go_at_call 12; refine (ksy.out _ d6).mono ?_; rintro e w7 ⟨rfl, d7, up7⟩; have k7 := k6.trans up7)
                    | (go_at_call 18; refine (kre.out _ d7).mono ?_; rintro e w8 ⟨rfl, d8, up8⟩; have k8 := k7.trans up8)
                    | (go_at_call 13; refine (kcr1.out _ k8 d8).mono ?_; rintro e w9 ⟨rfl, d9, up9⟩; have k9 := k8.trans up9)
                    | (go_at_call 19; refine (kon.out _ d8).mono ?_; rintro e wO ⟨rfl, eO⟩; subst eO))
                  exact ⟨⟨i + 1, _, nw6, old, by omega, by simp, rfl, HF.out.1, HF.out.2.1, HF.out.2.2, by omega, dB, kB⟩, by simp; omega⟩
            · rw [HSw1.out.list1] at kls'
              have kls : Hid (∀ W, DiskAt W N d (armS S (c6 - 1)) → Calls Try.prog 16 #[.pointer (some ⟨d, 0, none⟩), .string ⟨#[110, 101, 119]⟩] W fun e w' => ∃ a c, e = .returned (.slice a 1 c) ∧ DiskAt w' N d (armS S (c6 - 1)) ∧ DUpd N W w') := kls'
              obtain ⟨ER, T2, krm', hT2⟩ := sw_rm N d hgN HSw1.out HON1.out
              have krm : Hid (Rm N d (armS S (c6 - 1)) ER T2) := krm'
              clear kls' krm'
              obtain ⟨S3, S4, S5, E1, E2, E3, kap', ksy', kre', hout⟩ := sw_ops N d p hpb hol hT2
              have kap : Hid (Ap N d p _ E1 S3) := kap'
              have ksy : Hid (Sy N d S3 E2 S4) := ksy'
              have kre : Hid (Re N d S4 E3 S5) := kre'
              have kon' := fun W (hW : DiskAt W N d S5) => on_some N d S5 W hW
              clear kap' ksy' kre'
              rcases hout with ⟨rfl, rfl, rfl, hon5, hsw5⟩ | ⟨hE, rfl, hoff5, nw5, hsw5, hnw5⟩
              · rw [hon5] at kon'
                have kon : Hid (∀ W, DiskAt W N d S5 → Calls Try.prog 19 #[.pointer (some ⟨d, 0, none⟩)] W fun e w' => e = .returned (.bool true) ∧ w' = W) := kon'
                have kar2 : Hid (∀ W, DiskAt W N d S5 → Calls Try.prog 15 #[.pointer (some ⟨d, 0, none⟩), .int .i64 (-1)] W fun e w' => e = .returned (.tuple #[]) ∧ DiskAt w' N d (armS S5 (-1)) ∧ DUpd N W w') := fun W hW => arm_some N d S5 (-1) (by decide) W hW
                have HF : Hid ((armS S5 (-1)).on = true ∧ Sw (armS S5 (-1)) p.data.toList [] ∧ NW []) := ⟨hon5, hsw5.arm _, .inl rfl⟩
                have krd : Hid (∀ W, DiskAt W N d (armS S5 (-1)) → Calls Try.prog 14 #[.pointer (some ⟨d, 0, none⟩), .string ⟨#[102]⟩] W fun e w' => e = .returned (.tuple #[.string p, .int .i64 0]) ∧ DiskAt w' N d (armS S5 (-1)) ∧ DUpd N W w') := fun W hW => by
                  have := read_some N d _ nmO (by decide) W hW
                  rw [(HF.out.2.1.read HF.out.1).1, (HF.out.2.1.read HF.out.1).2] at this
                  exact this.mono fun e w' ⟨x, y⟩ => ⟨x, hW.below y, DUpd.ofBelow y⟩
                clear kon' hon5 hsw5
                by_cases hpo : p = old
                · subst hpo
                  go_wp2_with (first
                    | (go_at_call 14; refine (krd.out _ dA).mono ?_; rintro e wB ⟨rfl, dB, upB⟩; have kB := kA.trans upB; have cpB := HP.out wB kB)
                    | (go_at_call 15; refine (kar2.out _ d9).mono ?_; rintro e wA ⟨rfl, dA, upA⟩; have kA := k9.trans upA)
                    | (go_at_call 15; refine (kar1.out _ HD.out).mono ?_; rintro e w3 ⟨rfl, d3, up3⟩; have k3 := hU.trans up3)
                    | (go_at_call 16; refine (kls.out _ d3).mono ?_; rintro e w4 ⟨a4, c4, rfl, d4, up4⟩; have k4 := k3.trans up4)
                    | (go_at_call 17; refine (krm.out _ d4).mono ?_; rintro e w5 ⟨rfl, d5, up5⟩; have k5 := k4.trans up5; have cp5 := HP.out w5 k5)
                    | (go_at_call 11; refine (kap.out _ d5).mono ?_; rintro e w6 ⟨rfl, d6, up6⟩; have k6 := k5.trans up6)
                    | (go_at_call 12; refine (ksy.out _ d6).mono ?_; rintro e w7 ⟨rfl, d7, up7⟩; have k7 := k6.trans up7)
                    | (go_at_call 18; refine (kre.out _ d7).mono ?_; rintro e w8 ⟨rfl, d8, up8⟩; have k8 := k7.trans up8)
                    | (go_at_call 19; refine (kon.out _ d8).mono ?_; rintro e w9 ⟨rfl, e9⟩; subst e9; have d9 := d8; have k9 := k8))
                  exact ⟨⟨i + 1, _, [], p, by omega, by simp, rfl, HF.out.1, HF.out.2.1, HF.out.2.2, by omega, dB, kB⟩, by simp; omega⟩
                · have hq1 := str_ne hpo
                  have hq2 : (p.toList != old.toList) = true := by rw [bne, hq1]; rfl
                  clear hpo
                  go_wp2_with (first
                    | (go_at_call 14; refine (krd.out _ dA).mono ?_; rintro e wB ⟨rfl, dB, upB⟩; have kB := kA.trans upB; have cpB := HP.out wB kB)
                    | (go_at_call 15; refine (kar2.out _ d9).mono ?_; rintro e wA ⟨rfl, dA, upA⟩; have kA := k9.trans upA)
                    | (go_at_call 15; refine (kar1.out _ HD.out).mono ?_; rintro e w3 ⟨rfl, d3, up3⟩; have k3 := hU.trans up3)
                    | (go_at_call 16; refine (kls.out _ d3).mono ?_; rintro e w4 ⟨a4, c4, rfl, d4, up4⟩; have k4 := k3.trans up4)
                    | (go_at_call 17; refine (krm.out _ d4).mono ?_; rintro e w5 ⟨rfl, d5, up5⟩; have k5 := k4.trans up5; have cp5 := HP.out w5 k5)
                    | (go_at_call 11; refine (kap.out _ d5).mono ?_; rintro e w6 ⟨rfl, d6, up6⟩; have k6 := k5.trans up6)
                    | (go_at_call 12; refine (ksy.out _ d6).mono ?_; rintro e w7 ⟨rfl, d7, up7⟩; have k7 := k6.trans up7)
                    | (go_at_call 18; refine (kre.out _ d7).mono ?_; rintro e w8 ⟨rfl, d8, up8⟩; have k8 := k7.trans up8)
                    | (go_at_call 19; refine (kon.out _ d8).mono ?_; rintro e w9 ⟨rfl, e9⟩; subst e9; have d9 := d8; have k9 := k8))
                  exact ⟨⟨i + 1, _, [], p, by omega, by simp, rfl, HF.out.1, HF.out.2.1, HF.out.2.2, by omega, dB, kB⟩, by simp; omega⟩
              · rw [hoff5] at kon'
                have kon : Hid (∀ W, DiskAt W N d S5 → Calls Try.prog 19 #[.pointer (some ⟨d, 0, none⟩)] W fun e w' => e = .returned (.bool false) ∧ w' = W) := kon'
                obtain ⟨nw6, hsw6, hnw6⟩ := hsw5.crash hnw5 ks
                have kcr1 : Hid (∀ W, DUpd N w W → DiskAt W N d S5 → Calls Try.prog 13 #[.pointer (some ⟨d, 0, none⟩), .slice a2 m2 c2] W fun e w' => e = .returned (.tuple #[]) ∧ DiskAt w' N d (crashS S5 ks) ∧ DUpd N W w') := fun W h1 h2 => kcr.out W d S5 h1 h2
                have on6 : (crashS S5 ks).on = true := rfl
                generalize crashS S5 ks = S6 at *
                have kar2 : Hid (∀ W, DiskAt W N d S6 → Calls Try.prog 15 #[.pointer (some ⟨d, 0, none⟩), .int .i64 (-1)] W fun e w' => e = .returned (.tuple #[]) ∧ DiskAt w' N d (armS S6 (-1)) ∧ DUpd N W w') := fun W hW => arm_some N d S6 (-1) (by decide) W hW
                have HF : Hid ((armS S6 (-1)).on = true ∧ Sw (armS S6 (-1)) old.data.toList nw6 ∧ NW nw6) := ⟨on6, hsw6.arm _, hnw6⟩
                have krd : Hid (∀ W, DiskAt W N d (armS S6 (-1)) → Calls Try.prog 14 #[.pointer (some ⟨d, 0, none⟩), .string ⟨#[102]⟩] W fun e w' => e = .returned (.tuple #[.string old, .int .i64 0]) ∧ DiskAt w' N d (armS S6 (-1)) ∧ DUpd N W w') := fun W hW => by
                  have := read_some N d _ nmO (by decide) W hW
                  rw [(HF.out.2.1.read HF.out.1).1, (HF.out.2.1.read HF.out.1).2] at this
                  exact this.mono fun e w' ⟨x, y⟩ => ⟨x, hW.below y, DUpd.ofBelow y⟩
                clear kon' hoff5 hsw5 hsw6 hnw5 hnw6 on6
                rcases hE with ⟨rfl, rfl⟩ | ⟨rfl, rfl⟩ | ⟨rfl, rfl⟩
                · go_wp2_with (first
                    | (go_at_call 14; refine (krd.out _ dA).mono ?_; rintro e wB ⟨rfl, dB, upB⟩; have kB := kA.trans upB; have cpB := HP.out wB kB)
                    | (go_at_call 15; refine (kar2.out _ d9).mono ?_; rintro e wA ⟨rfl, dA, upA⟩; have kA := k9.trans upA)
                    | (go_at_call 15; refine (kar1.out _ HD.out).mono ?_; rintro e w3 ⟨rfl, d3, up3⟩; have k3 := hU.trans up3)
                    | (go_at_call 16; refine (kls.out _ d3).mono ?_; rintro e w4 ⟨a4, c4, rfl, d4, up4⟩; have k4 := k3.trans up4)
                    | (go_at_call 17; refine (krm.out _ d4).mono ?_; rintro e w5 ⟨rfl, d5, up5⟩; have k5 := k4.trans up5; have cp5 := HP.out w5 k5)
                    | (go_at_call 11; refine (kap.out _ d5).mono ?_; rintro e w6 ⟨rfl, d6, up6⟩; have k6 := k5.trans up6)
                    | (go_at_call 12; refine (ksy.out _ d6).mono ?_; rintro e w7 ⟨rfl, d7, up7⟩; have k7 := k6.trans up7)
                    | (go_at_call 18; refine (kre.out _ d7).mono ?_; rintro e w8 ⟨rfl, d8, up8⟩; have k8 := k7.trans up8)
                    | (go_at_call 13; refine (kcr1.out _ k8 d8).mono ?_; rintro e w9 ⟨rfl, d9, up9⟩; have k9 := k8.trans up9)
                    | (go_at_call 19; refine (kon.out _ d8).mono ?_; rintro e wO ⟨rfl, eO⟩; subst eO))
                  exact ⟨⟨i + 1, _, nw6, old, by omega, by simp, rfl, HF.out.1, HF.out.2.1, HF.out.2.2, by omega, dB, kB⟩, by simp; omega⟩
                · go_wp2_with (first
                    | (go_at_call 14; refine (krd.out _ dA).mono ?_; rintro e wB ⟨rfl, dB, upB⟩; have kB := kA.trans upB; have cpB := HP.out wB kB)
                    | (go_at_call 15; refine (kar2.out _ d9).mono ?_; rintro e wA ⟨rfl, dA, upA⟩; have kA := k9.trans upA)
                    | (go_at_call 15; refine (kar1.out _ HD.out).mono ?_; rintro e w3 ⟨rfl, d3, up3⟩; have k3 := hU.trans up3)
                    | (go_at_call 16; refine (kls.out _ d3).mono ?_; rintro e w4 ⟨a4, c4, rfl, d4, up4⟩; have k4 := k3.trans up4)
                    | (go_at_call 17; refine (krm.out _ d4).mono ?_; rintro e w5 ⟨rfl, d5, up5⟩; have k5 := k4.trans up5; have cp5 := HP.out w5 k5)
                    | (go_at_call 11; refine (kap.out _ d5).mono ?_; rintro e w6 ⟨rfl, d6, up6⟩; have k6 := k5.trans up6)
                    | (go_at_call 12; refine (ksy.out _ d6).mono ?_; rintro e w7 ⟨rfl, d7, up7⟩; have k7 := k6.trans up7)
                    | (go_at_call 18; refine (kre.out _ d7).mono ?_; rintro e w8 ⟨rfl, d8, up8⟩; have k8 := k7.trans up8)
                    | (go_at_call 13; refine (kcr1.out _ k8 d8).mono ?_; rintro e w9 ⟨rfl, d9, up9⟩; have k9 := k8.trans up9)
                    | (go_at_call 19; refine (kon.out _ d8).mono ?_; rintro e wO ⟨rfl, eO⟩; subst eO))
                  exact ⟨⟨i + 1, _, nw6, old, by omega, by simp, rfl, HF.out.1, HF.out.2.1, HF.out.2.2, by omega, dB, kB⟩, by simp; omega⟩
                · go_wp2_with (first
                    | (go_at_call 14; refine (krd.out _ dA).mono ?_; rintro e wB ⟨rfl, dB, upB⟩; have kB := kA.trans upB; have cpB := HP.out wB kB)
                    | (go_at_call 15; refine (kar2.out _ d9).mono ?_; rintro e wA ⟨rfl, dA, upA⟩; have kA := k9.trans upA)
                    | (go_at_call 15; refine (kar1.out _ HD.out).mono ?_; rintro e w3 ⟨rfl, d3, up3⟩; have k3 := hU.trans up3)
                    | (go_at_call 16; refine (kls.out _ d3).mono ?_; rintro e w4 ⟨a4, c4, rfl, d4, up4⟩; have k4 := k3.trans up4)
                    | (go_at_call 17; refine (krm.out _ d4).mono ?_; rintro e w5 ⟨rfl, d5, up5⟩; have k5 := k4.trans up5; have cp5 := HP.out w5 k5)
                    | (go_at_call 11; refine (kap.out _ d5).mono ?_; rintro e w6 ⟨rfl, d6, up6⟩; have k6 := k5.trans up6)
                    | (go_at_call 12; refine (ksy.out _ d6).mono ?_; rintro e w7 ⟨rfl, d7, up7⟩; have k7 := k6.trans up7)
                    | (go_at_call 18; refine (kre.out _ d7).mono ?_; rintro e w8 ⟨rfl, d8, up8⟩; have k8 := k7.trans up8)
                    | (go_at_call 13; refine (kcr1.out _ k8 d8).mono ?_; rintro e w9 ⟨rfl, d9, up9⟩; have k9 := k8.trans up9)
                    | (go_at_call 19; refine (kon.out _ d8).mono ?_; rintro e wO ⟨rfl, eO⟩; subst eO))
                  exact ⟨⟨i + 1, _, nw6, old, by omega, by simp, rfl, HF.out.1, HF.out.2.1, HF.out.2.2, by omega, dB, kB⟩, by simp; omega⟩
          · have HSw1 : Hid (Sw S old.data.toList nw) := HSw.out
            have HON1 : Hid (S.on = true) := HON.out
            have kls' := fun W (hW : DiskAt W N d S) => (list_some N d S HON1.out nmW W hW).mono (R' := fun e w' => ∃ a c, e = .returned (.slice a (listK S nmW).length c) ∧ DiskAt w' N d S ∧ DUpd N W w') fun e w' ⟨a, c, x, _, y⟩ => ⟨a, c, x, hW.below y, DUpd.ofBelow y⟩
            rcases hnw with rfl | ⟨gN, rfl, hgN⟩
            · rw [HSw1.out.list0] at kls'
              have kls : Hid (∀ W, DiskAt W N d S → Calls Try.prog 16 #[.pointer (some ⟨d, 0, none⟩), .string ⟨#[110, 101, 119]⟩] W fun e w' => ∃ a c, e = .returned (.slice a 0 c) ∧ DiskAt w' N d S ∧ DUpd N W w') := kls'
              clear kls'
              obtain ⟨S3, S4, S5, E1, E2, E3, kap', ksy', kre', hout⟩ := sw_ops N d p hpb hol (.inl ⟨HON1.out, HSw1.out⟩)
              have kap : Hid (Ap N d p _ E1 S3) := kap'
              have ksy : Hid (Sy N d S3 E2 S4) := ksy'
              have kre : Hid (Re N d S4 E3 S5) := kre'
              have kon' := fun W (hW : DiskAt W N d S5) => on_some N d S5 W hW
              clear kap' ksy' kre'
              rcases hout with ⟨rfl, rfl, rfl, hon5, hsw5⟩ | ⟨hE, rfl, hoff5, nw5, hsw5, hnw5⟩
              · rw [hon5] at kon'
                have kon : Hid (∀ W, DiskAt W N d S5 → Calls Try.prog 19 #[.pointer (some ⟨d, 0, none⟩)] W fun e w' => e = .returned (.bool true) ∧ w' = W) := kon'
                have kar2 : Hid (∀ W, DiskAt W N d S5 → Calls Try.prog 15 #[.pointer (some ⟨d, 0, none⟩), .int .i64 (-1)] W fun e w' => e = .returned (.tuple #[]) ∧ DiskAt w' N d (armS S5 (-1)) ∧ DUpd N W w') := fun W hW => arm_some N d S5 (-1) (by decide) W hW
                have HF : Hid ((armS S5 (-1)).on = true ∧ Sw (armS S5 (-1)) p.data.toList [] ∧ NW []) := ⟨hon5, hsw5.arm _, .inl rfl⟩
                have krd : Hid (∀ W, DiskAt W N d (armS S5 (-1)) → Calls Try.prog 14 #[.pointer (some ⟨d, 0, none⟩), .string ⟨#[102]⟩] W fun e w' => e = .returned (.tuple #[.string p, .int .i64 0]) ∧ DiskAt w' N d (armS S5 (-1)) ∧ DUpd N W w') := fun W hW => by
                  have := read_some N d _ nmO (by decide) W hW
                  rw [(HF.out.2.1.read HF.out.1).1, (HF.out.2.1.read HF.out.1).2] at this
                  exact this.mono fun e w' ⟨x, y⟩ => ⟨x, hW.below y, DUpd.ofBelow y⟩
                clear kon' hon5 hsw5
                by_cases hpo : p = old
                · subst hpo
                  have d3 : DiskAt wr N d S := HD.out
                  have k3 : DUpd N w wr := hU
                  go_wp2_with (first
                    | (go_at_call 14; refine (krd.out _ dA).mono ?_; rintro e wB ⟨rfl, dB, upB⟩; have kB := kA.trans upB; have cpB := HP.out wB kB)
                    | (go_at_call 15; refine (kar2.out _ d9).mono ?_; rintro e wA ⟨rfl, dA, upA⟩; have kA := k9.trans upA)
                    | (go_at_call 16; refine (kls.out _ d3).mono ?_; rintro e w5 ⟨a4, c4, rfl, d5, up5⟩; have k5 := k3.trans up5; have cp5 := HP.out w5 k5)
                    | (go_at_call 11; refine (kap.out _ d5).mono ?_; rintro e w6 ⟨rfl, d6, up6⟩; have k6 := k5.trans up6)
                    | (go_at_call 12; refine (ksy.out _ d6).mono ?_; rintro e w7 ⟨rfl, d7, up7⟩; have k7 := k6.trans up7)
                    | (go_at_call 18; refine (kre.out _ d7).mono ?_; rintro e w8 ⟨rfl, d8, up8⟩; have k8 := k7.trans up8)
                    | (go_at_call 19; refine (kon.out _ d8).mono ?_; rintro e w9 ⟨rfl, e9⟩; subst e9; have d9 := d8; have k9 := k8))
                  exact ⟨⟨i + 1, _, [], p, by omega, by simp, rfl, HF.out.1, HF.out.2.1, HF.out.2.2, by omega, dB, kB⟩, by simp; omega⟩
                · have hq1 := str_ne hpo
                  have hq2 : (p.toList != old.toList) = true := by rw [bne, hq1]; rfl
                  clear hpo
                  have d3 : DiskAt wr N d S := HD.out
                  have k3 : DUpd N w wr := hU
                  go_wp2_with (first
                    | (go_at_call 14; refine (krd.out _ dA).mono ?_; rintro e wB ⟨rfl, dB, upB⟩; have kB := kA.trans upB; have cpB := HP.out wB kB)
                    | (go_at_call 15; refine (kar2.out _ d9).mono ?_; rintro e wA ⟨rfl, dA, upA⟩; have kA := k9.trans upA)
                    | (go_at_call 16; refine (kls.out _ d3).mono ?_; rintro e w5 ⟨a4, c4, rfl, d5, up5⟩; have k5 := k3.trans up5; have cp5 := HP.out w5 k5)
                    | (go_at_call 11; refine (kap.out _ d5).mono ?_; rintro e w6 ⟨rfl, d6, up6⟩; have k6 := k5.trans up6)
                    | (go_at_call 12; refine (ksy.out _ d6).mono ?_; rintro e w7 ⟨rfl, d7, up7⟩; have k7 := k6.trans up7)
                    | (go_at_call 18; refine (kre.out _ d7).mono ?_; rintro e w8 ⟨rfl, d8, up8⟩; have k8 := k7.trans up8)
                    | (go_at_call 19; refine (kon.out _ d8).mono ?_; rintro e w9 ⟨rfl, e9⟩; subst e9; have d9 := d8; have k9 := k8))
                  exact ⟨⟨i + 1, _, [], p, by omega, by simp, rfl, HF.out.1, HF.out.2.1, HF.out.2.2, by omega, dB, kB⟩, by simp; omega⟩
              · rw [hoff5] at kon'
                have kon : Hid (∀ W, DiskAt W N d S5 → Calls Try.prog 19 #[.pointer (some ⟨d, 0, none⟩)] W fun e w' => e = .returned (.bool false) ∧ w' = W) := kon'
                obtain ⟨nw6, hsw6, hnw6⟩ := hsw5.crash hnw5 ks
                have kcr1 : Hid (∀ W, DUpd N w W → DiskAt W N d S5 → Calls Try.prog 13 #[.pointer (some ⟨d, 0, none⟩), .slice a2 m2 c2] W fun e w' => e = .returned (.tuple #[]) ∧ DiskAt w' N d (crashS S5 ks) ∧ DUpd N W w') := fun W h1 h2 => kcr.out W d S5 h1 h2
                have on6 : (crashS S5 ks).on = true := rfl
                generalize crashS S5 ks = S6 at *
                have kar2 : Hid (∀ W, DiskAt W N d S6 → Calls Try.prog 15 #[.pointer (some ⟨d, 0, none⟩), .int .i64 (-1)] W fun e w' => e = .returned (.tuple #[]) ∧ DiskAt w' N d (armS S6 (-1)) ∧ DUpd N W w') := fun W hW => arm_some N d S6 (-1) (by decide) W hW
                have HF : Hid ((armS S6 (-1)).on = true ∧ Sw (armS S6 (-1)) old.data.toList nw6 ∧ NW nw6) := ⟨on6, hsw6.arm _, hnw6⟩
                have krd : Hid (∀ W, DiskAt W N d (armS S6 (-1)) → Calls Try.prog 14 #[.pointer (some ⟨d, 0, none⟩), .string ⟨#[102]⟩] W fun e w' => e = .returned (.tuple #[.string old, .int .i64 0]) ∧ DiskAt w' N d (armS S6 (-1)) ∧ DUpd N W w') := fun W hW => by
                  have := read_some N d _ nmO (by decide) W hW
                  rw [(HF.out.2.1.read HF.out.1).1, (HF.out.2.1.read HF.out.1).2] at this
                  exact this.mono fun e w' ⟨x, y⟩ => ⟨x, hW.below y, DUpd.ofBelow y⟩
                clear kon' hoff5 hsw5 hsw6 hnw5 hnw6 on6
                rcases hE with ⟨rfl, rfl⟩ | ⟨rfl, rfl⟩ | ⟨rfl, rfl⟩
                · have d3 : DiskAt wr N d S := HD.out
                  have k3 : DUpd N w wr := hU
                  go_wp2_with (first
                    | (go_at_call 14; refine (krd.out _ dA).mono ?_; rintro e wB ⟨rfl, dB, upB⟩; have kB := kA.trans upB; have cpB := HP.out wB kB)
                    | (go_at_call 15; refine (kar2.out _ d9).mono ?_; rintro e wA ⟨rfl, dA, upA⟩; have kA := k9.trans upA)
                    | (go_at_call 16; refine (kls.out _ d3).mono ?_; rintro e w5 ⟨a4, c4, rfl, d5, up5⟩; have k5 := k3.trans up5; have cp5 := HP.out w5 k5)
                    | (go_at_call 11; refine (kap.out _ d5).mono ?_; rintro e w6 ⟨rfl, d6, up6⟩; have k6 := k5.trans up6)
                    | (go_at_call 12; refine (ksy.out _ d6).mono ?_; rintro e w7 ⟨rfl, d7, up7⟩; have k7 := k6.trans up7)
                    | (go_at_call 18; refine (kre.out _ d7).mono ?_; rintro e w8 ⟨rfl, d8, up8⟩; have k8 := k7.trans up8)
                    | (go_at_call 13; refine (kcr1.out _ k8 d8).mono ?_; rintro e w9 ⟨rfl, d9, up9⟩; have k9 := k8.trans up9)
                    | (go_at_call 19; refine (kon.out _ d8).mono ?_; rintro e wO ⟨rfl, eO⟩; subst eO))
                  exact ⟨⟨i + 1, _, nw6, old, by omega, by simp, rfl, HF.out.1, HF.out.2.1, HF.out.2.2, by omega, dB, kB⟩, by simp; omega⟩
                · have d3 : DiskAt wr N d S := HD.out
                  have k3 : DUpd N w wr := hU
                  go_wp2_with (first
                    | (go_at_call 14; refine (krd.out _ dA).mono ?_; rintro e wB ⟨rfl, dB, upB⟩; have kB := kA.trans upB; have cpB := HP.out wB kB)
                    | (go_at_call 15; refine (kar2.out _ d9).mono ?_; rintro e wA ⟨rfl, dA, upA⟩; have kA := k9.trans upA)
                    | (go_at_call 16; refine (kls.out _ d3).mono ?_; rintro e w5 ⟨a4, c4, rfl, d5, up5⟩; have k5 := k3.trans up5; have cp5 := HP.out w5 k5)
                    | (go_at_call 11; refine (kap.out _ d5).mono ?_; rintro e w6 ⟨rfl, d6, up6⟩; have k6 := k5.trans up6)
                    | (go_at_call 12; refine (ksy.out _ d6).mono ?_; rintro e w7 ⟨rfl, d7, up7⟩; have k7 := k6.trans up7)
                    | (go_at_call 18; refine (kre.out _ d7).mono ?_; rintro e w8 ⟨rfl, d8, up8⟩; have k8 := k7.trans up8)
                    | (go_at_call 13; refine (kcr1.out _ k8 d8).mono ?_; rintro e w9 ⟨rfl, d9, up9⟩; have k9 := k8.trans up9)
                    | (go_at_call 19; refine (kon.out _ d8).mono ?_; rintro e wO ⟨rfl, eO⟩; subst eO))
                  exact ⟨⟨i + 1, _, nw6, old, by omega, by simp, rfl, HF.out.1, HF.out.2.1, HF.out.2.2, by omega, dB, kB⟩, by simp; omega⟩
                · have d3 : DiskAt wr N d S := HD.out
                  have k3 : DUpd N w wr := hU
                  go_wp2_with (first
                    | (go_at_call 14; refine (krd.out _ dA).mono ?_; rintro e wB ⟨rfl, dB, upB⟩; have kB := kA.trans upB; have cpB := HP.out wB kB)
                    | (go_at_call 15; refine (kar2.out _ d9).mono ?_; rintro e wA ⟨rfl, dA, upA⟩; have kA := k9.trans upA)
                    | (go_at_call 16; refine (kls.out _ d3).mono ?_; rintro e w5 ⟨a4, c4, rfl, d5, up5⟩; have k5 := k3.trans up5; have cp5 := HP.out w5 k5)
                    | (go_at_call 11; refine (kap.out _ d5).mono ?_; rintro e w6 ⟨rfl, d6, up6⟩; have k6 := k5.trans up6)
                    | (go_at_call 12; refine (ksy.out _ d6).mono ?_; rintro e w7 ⟨rfl, d7, up7⟩; have k7 := k6.trans up7)
                    | (go_at_call 18; refine (kre.out _ d7).mono ?_; rintro e w8 ⟨rfl, d8, up8⟩; have k8 := k7.trans up8)
                    | (go_at_call 13; refine (kcr1.out _ k8 d8).mono ?_; rintro e w9 ⟨rfl, d9, up9⟩; have k9 := k8.trans up9)
                    | (go_at_call 19; refine (kon.out _ d8).mono ?_; rintro e wO ⟨rfl, eO⟩; subst eO))
                  exact ⟨⟨i + 1, _, nw6, old, by omega, by simp, rfl, HF.out.1, HF.out.2.1, HF.out.2.2, by omega, dB, kB⟩, by simp; omega⟩
            · rw [HSw1.out.list1] at kls'
              have kls : Hid (∀ W, DiskAt W N d S → Calls Try.prog 16 #[.pointer (some ⟨d, 0, none⟩), .string ⟨#[110, 101, 119]⟩] W fun e w' => ∃ a c, e = .returned (.slice a 1 c) ∧ DiskAt w' N d S ∧ DUpd N W w') := kls'
              obtain ⟨ER, T2, krm', hT2⟩ := sw_rm N d hgN HSw1.out HON1.out
              have krm : Hid (Rm N d S ER T2) := krm'
              clear kls' krm'
              obtain ⟨S3, S4, S5, E1, E2, E3, kap', ksy', kre', hout⟩ := sw_ops N d p hpb hol hT2
              have kap : Hid (Ap N d p _ E1 S3) := kap'
              have ksy : Hid (Sy N d S3 E2 S4) := ksy'
              have kre : Hid (Re N d S4 E3 S5) := kre'
              have kon' := fun W (hW : DiskAt W N d S5) => on_some N d S5 W hW
              clear kap' ksy' kre'
              rcases hout with ⟨rfl, rfl, rfl, hon5, hsw5⟩ | ⟨hE, rfl, hoff5, nw5, hsw5, hnw5⟩
              · rw [hon5] at kon'
                have kon : Hid (∀ W, DiskAt W N d S5 → Calls Try.prog 19 #[.pointer (some ⟨d, 0, none⟩)] W fun e w' => e = .returned (.bool true) ∧ w' = W) := kon'
                have kar2 : Hid (∀ W, DiskAt W N d S5 → Calls Try.prog 15 #[.pointer (some ⟨d, 0, none⟩), .int .i64 (-1)] W fun e w' => e = .returned (.tuple #[]) ∧ DiskAt w' N d (armS S5 (-1)) ∧ DUpd N W w') := fun W hW => arm_some N d S5 (-1) (by decide) W hW
                have HF : Hid ((armS S5 (-1)).on = true ∧ Sw (armS S5 (-1)) p.data.toList [] ∧ NW []) := ⟨hon5, hsw5.arm _, .inl rfl⟩
                have krd : Hid (∀ W, DiskAt W N d (armS S5 (-1)) → Calls Try.prog 14 #[.pointer (some ⟨d, 0, none⟩), .string ⟨#[102]⟩] W fun e w' => e = .returned (.tuple #[.string p, .int .i64 0]) ∧ DiskAt w' N d (armS S5 (-1)) ∧ DUpd N W w') := fun W hW => by
                  have := read_some N d _ nmO (by decide) W hW
                  rw [(HF.out.2.1.read HF.out.1).1, (HF.out.2.1.read HF.out.1).2] at this
                  exact this.mono fun e w' ⟨x, y⟩ => ⟨x, hW.below y, DUpd.ofBelow y⟩
                clear kon' hon5 hsw5
                by_cases hpo : p = old
                · subst hpo
                  have d3 : DiskAt wr N d S := HD.out
                  have k3 : DUpd N w wr := hU
                  go_wp2_with (first
                    | (go_at_call 14; refine (krd.out _ dA).mono ?_; rintro e wB ⟨rfl, dB, upB⟩; have kB := kA.trans upB; have cpB := HP.out wB kB)
                    | (go_at_call 15; refine (kar2.out _ d9).mono ?_; rintro e wA ⟨rfl, dA, upA⟩; have kA := k9.trans upA)
                    | (go_at_call 16; refine (kls.out _ d3).mono ?_; rintro e w4 ⟨a4, c4, rfl, d4, up4⟩; have k4 := k3.trans up4)
                    | (go_at_call 17; refine (krm.out _ d4).mono ?_; rintro e w5 ⟨rfl, d5, up5⟩; have k5 := k4.trans up5; have cp5 := HP.out w5 k5)
                    | (go_at_call 11; refine (kap.out _ d5).mono ?_; rintro e w6 ⟨rfl, d6, up6⟩; have k6 := k5.trans up6)
                    | (go_at_call 12; refine (ksy.out _ d6).mono ?_; rintro e w7 ⟨rfl, d7, up7⟩; have k7 := k6.trans up7)
                    | (go_at_call 18; refine (kre.out _ d7).mono ?_; rintro e w8 ⟨rfl, d8, up8⟩; have k8 := k7.trans up8)
                    | (go_at_call 19; refine (kon.out _ d8).mono ?_; rintro e w9 ⟨rfl, e9⟩; subst e9; have d9 := d8; have k9 := k8))
                  exact ⟨⟨i + 1, _, [], p, by omega, by simp, rfl, HF.out.1, HF.out.2.1, HF.out.2.2, by omega, dB, kB⟩, by simp; omega⟩
                · have hq1 := str_ne hpo
                  have hq2 : (p.toList != old.toList) = true := by rw [bne, hq1]; rfl
                  clear hpo
                  have d3 : DiskAt wr N d S := HD.out
                  have k3 : DUpd N w wr := hU
                  go_wp2_with (first
                    | (go_at_call 14; refine (krd.out _ dA).mono ?_; rintro e wB ⟨rfl, dB, upB⟩; have kB := kA.trans upB; have cpB := HP.out wB kB)
                    | (go_at_call 15; refine (kar2.out _ d9).mono ?_; rintro e wA ⟨rfl, dA, upA⟩; have kA := k9.trans upA)
                    | (go_at_call 16; refine (kls.out _ d3).mono ?_; rintro e w4 ⟨a4, c4, rfl, d4, up4⟩; have k4 := k3.trans up4)
                    | (go_at_call 17; refine (krm.out _ d4).mono ?_; rintro e w5 ⟨rfl, d5, up5⟩; have k5 := k4.trans up5; have cp5 := HP.out w5 k5)
                    | (go_at_call 11; refine (kap.out _ d5).mono ?_; rintro e w6 ⟨rfl, d6, up6⟩; have k6 := k5.trans up6)
                    | (go_at_call 12; refine (ksy.out _ d6).mono ?_; rintro e w7 ⟨rfl, d7, up7⟩; have k7 := k6.trans up7)
                    | (go_at_call 18; refine (kre.out _ d7).mono ?_; rintro e w8 ⟨rfl, d8, up8⟩; have k8 := k7.trans up8)
                    | (go_at_call 19; refine (kon.out _ d8).mono ?_; rintro e w9 ⟨rfl, e9⟩; subst e9; have d9 := d8; have k9 := k8))
                  exact ⟨⟨i + 1, _, [], p, by omega, by simp, rfl, HF.out.1, HF.out.2.1, HF.out.2.2, by omega, dB, kB⟩, by simp; omega⟩
              · rw [hoff5] at kon'
                have kon : Hid (∀ W, DiskAt W N d S5 → Calls Try.prog 19 #[.pointer (some ⟨d, 0, none⟩)] W fun e w' => e = .returned (.bool false) ∧ w' = W) := kon'
                obtain ⟨nw6, hsw6, hnw6⟩ := hsw5.crash hnw5 ks
                have kcr1 : Hid (∀ W, DUpd N w W → DiskAt W N d S5 → Calls Try.prog 13 #[.pointer (some ⟨d, 0, none⟩), .slice a2 m2 c2] W fun e w' => e = .returned (.tuple #[]) ∧ DiskAt w' N d (crashS S5 ks) ∧ DUpd N W w') := fun W h1 h2 => kcr.out W d S5 h1 h2
                have on6 : (crashS S5 ks).on = true := rfl
                generalize crashS S5 ks = S6 at *
                have kar2 : Hid (∀ W, DiskAt W N d S6 → Calls Try.prog 15 #[.pointer (some ⟨d, 0, none⟩), .int .i64 (-1)] W fun e w' => e = .returned (.tuple #[]) ∧ DiskAt w' N d (armS S6 (-1)) ∧ DUpd N W w') := fun W hW => arm_some N d S6 (-1) (by decide) W hW
                have HF : Hid ((armS S6 (-1)).on = true ∧ Sw (armS S6 (-1)) old.data.toList nw6 ∧ NW nw6) := ⟨on6, hsw6.arm _, hnw6⟩
                have krd : Hid (∀ W, DiskAt W N d (armS S6 (-1)) → Calls Try.prog 14 #[.pointer (some ⟨d, 0, none⟩), .string ⟨#[102]⟩] W fun e w' => e = .returned (.tuple #[.string old, .int .i64 0]) ∧ DiskAt w' N d (armS S6 (-1)) ∧ DUpd N W w') := fun W hW => by
                  have := read_some N d _ nmO (by decide) W hW
                  rw [(HF.out.2.1.read HF.out.1).1, (HF.out.2.1.read HF.out.1).2] at this
                  exact this.mono fun e w' ⟨x, y⟩ => ⟨x, hW.below y, DUpd.ofBelow y⟩
                clear kon' hoff5 hsw5 hsw6 hnw5 hnw6 on6
                rcases hE with ⟨rfl, rfl⟩ | ⟨rfl, rfl⟩ | ⟨rfl, rfl⟩
                · have d3 : DiskAt wr N d S := HD.out
                  have k3 : DUpd N w wr := hU
                  go_wp2_with (first
                    | (go_at_call 14; refine (krd.out _ dA).mono ?_; rintro e wB ⟨rfl, dB, upB⟩; have kB := kA.trans upB; have cpB := HP.out wB kB)
                    | (go_at_call 15; refine (kar2.out _ d9).mono ?_; rintro e wA ⟨rfl, dA, upA⟩; have kA := k9.trans upA)
                    | (go_at_call 16; refine (kls.out _ d3).mono ?_; rintro e w4 ⟨a4, c4, rfl, d4, up4⟩; have k4 := k3.trans up4)
                    | (go_at_call 17; refine (krm.out _ d4).mono ?_; rintro e w5 ⟨rfl, d5, up5⟩; have k5 := k4.trans up5; have cp5 := HP.out w5 k5)
                    | (go_at_call 11; refine (kap.out _ d5).mono ?_; rintro e w6 ⟨rfl, d6, up6⟩; have k6 := k5.trans up6)
                    | (go_at_call 12; refine (ksy.out _ d6).mono ?_; rintro e w7 ⟨rfl, d7, up7⟩; have k7 := k6.trans up7)
                    | (go_at_call 18; refine (kre.out _ d7).mono ?_; rintro e w8 ⟨rfl, d8, up8⟩; have k8 := k7.trans up8)
                    | (go_at_call 13; refine (kcr1.out _ k8 d8).mono ?_; rintro e w9 ⟨rfl, d9, up9⟩; have k9 := k8.trans up9)
                    | (go_at_call 19; refine (kon.out _ d8).mono ?_; rintro e wO ⟨rfl, eO⟩; subst eO))
                  exact ⟨⟨i + 1, _, nw6, old, by omega, by simp, rfl, HF.out.1, HF.out.2.1, HF.out.2.2, by omega, dB, kB⟩, by simp; omega⟩
                · have d3 : DiskAt wr N d S := HD.out
                  have k3 : DUpd N w wr := hU
                  go_wp2_with (first
                    | (go_at_call 14; refine (krd.out _ dA).mono ?_; rintro e wB ⟨rfl, dB, upB⟩; have kB := kA.trans upB; have cpB := HP.out wB kB)
                    | (go_at_call 15; refine (kar2.out _ d9).mono ?_; rintro e wA ⟨rfl, dA, upA⟩; have kA := k9.trans upA)
                    | (go_at_call 16; refine (kls.out _ d3).mono ?_; rintro e w4 ⟨a4, c4, rfl, d4, up4⟩; have k4 := k3.trans up4)
                    | (go_at_call 17; refine (krm.out _ d4).mono ?_; rintro e w5 ⟨rfl, d5, up5⟩; have k5 := k4.trans up5; have cp5 := HP.out w5 k5)
                    | (go_at_call 11; refine (kap.out _ d5).mono ?_; rintro e w6 ⟨rfl, d6, up6⟩; have k6 := k5.trans up6)
                    | (go_at_call 12; refine (ksy.out _ d6).mono ?_; rintro e w7 ⟨rfl, d7, up7⟩; have k7 := k6.trans up7)
                    | (go_at_call 18; refine (kre.out _ d7).mono ?_; rintro e w8 ⟨rfl, d8, up8⟩; have k8 := k7.trans up8)
                    | (go_at_call 13; refine (kcr1.out _ k8 d8).mono ?_; rintro e w9 ⟨rfl, d9, up9⟩; have k9 := k8.trans up9)
                    | (go_at_call 19; refine (kon.out _ d8).mono ?_; rintro e wO ⟨rfl, eO⟩; subst eO))
                  exact ⟨⟨i + 1, _, nw6, old, by omega, by simp, rfl, HF.out.1, HF.out.2.1, HF.out.2.2, by omega, dB, kB⟩, by simp; omega⟩
                · have d3 : DiskAt wr N d S := HD.out
                  have k3 : DUpd N w wr := hU
                  go_wp2_with (first
                    | (go_at_call 14; refine (krd.out _ dA).mono ?_; rintro e wB ⟨rfl, dB, upB⟩; have kB := kA.trans upB; have cpB := HP.out wB kB)
                    | (go_at_call 15; refine (kar2.out _ d9).mono ?_; rintro e wA ⟨rfl, dA, upA⟩; have kA := k9.trans upA)
                    | (go_at_call 16; refine (kls.out _ d3).mono ?_; rintro e w4 ⟨a4, c4, rfl, d4, up4⟩; have k4 := k3.trans up4)
                    | (go_at_call 17; refine (krm.out _ d4).mono ?_; rintro e w5 ⟨rfl, d5, up5⟩; have k5 := k4.trans up5; have cp5 := HP.out w5 k5)
                    | (go_at_call 11; refine (kap.out _ d5).mono ?_; rintro e w6 ⟨rfl, d6, up6⟩; have k6 := k5.trans up6)
                    | (go_at_call 12; refine (ksy.out _ d6).mono ?_; rintro e w7 ⟨rfl, d7, up7⟩; have k7 := k6.trans up7)
                    | (go_at_call 18; refine (kre.out _ d7).mono ?_; rintro e w8 ⟨rfl, d8, up8⟩; have k8 := k7.trans up8)
                    | (go_at_call 13; refine (kcr1.out _ k8 d8).mono ?_; rintro e w9 ⟨rfl, d9, up9⟩; have k9 := k8.trans up9)
                    | (go_at_call 19; refine (kon.out _ d8).mono ?_; rintro e wO ⟨rfl, eO⟩; subst eO))
                  exact ⟨⟨i + 1, _, nw6, old, by omega, by simp, rfl, HF.out.1, HF.out.2.1, HF.out.2.2, by omega, dB, kB⟩, by simp; omega⟩
        · go_wp2
          go_ret
          exact ⟨rfl, hU.below (by have := HN.out; omega)⟩
      · go_wp2
        go_ret
        exact ⟨rfl, hU.below (by have := HN.out; omega)⟩
    · go_wp2
      go_ret
      exact ⟨rfl, hU.below (by have := HN.out; omega)⟩
end Go.Proofs.Ytfjmmeefobkkiaa
