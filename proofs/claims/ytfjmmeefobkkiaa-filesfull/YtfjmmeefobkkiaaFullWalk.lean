/- The walk of the statement FilesFull. -/
import Derived.Test.YtfjmmeefobkkiaaFull
namespace Go.Proofs.Ytfjmmeefobkkiaa
open Go.RowKit Go.Maps Go.WideMaps

set_option maxHeartbeats 6400000 in
set_option maxRecDepth 100000 in
theorem filesFull_walk (r : Int) (ps : List ByteArray) (hps : ∀ s ∈ ps, s.size ≤ 140737488355328) (a0 : Option Addr) (c0 : Nat) (w : World)
    (h0 : StrsAt w w.heap.size a0 ps) (l0 : ps.length ≤ maxLen) :
    Calls Try.prog 5 #[.int .i64 r, .slice a0 ps.length c0] w fun e w' => e = .returned (.bool true) ∧ Below w.heap.size w w' := by
  obtain ⟨N, hN⟩ : ∃ N, w.heap.size = N := ⟨_, rfl⟩
  have HN : Hid (w.heap.size = N) := hN
  rw [hN] at h0 ⊢
  clear hN
  have A0 : Hid (∀ W, DUpd N w W → StrsAt W N a0 ps) := fun W hW => h0.dupd hW
  have Hps : Hid (∀ s ∈ ps, s.size ≤ 140737488355328) := hps
  have kus : Hid (∀ W d S, DiskAt W N d S → Calls Try.prog 20 #[.pointer (some ⟨d, 0, none⟩)] W fun e w' => e = .returned (.int .i64 (used S.fs : Int)) ∧ DiskAt w' N d S ∧ DUpd N W w') := fun W d S hD => (used_some N d S W hD).mono fun e w' ⟨x, y⟩ => ⟨x, hD.below y, DUpd.ofBelow y⟩
  have krm : Hid (∀ W, Calls Try.prog 21 #[.int .i64 r] W fun e w' => e = .returned (.int .i64 (roomN r : Int)) ∧ w' = W) := fun W => refRoom_any r W
  obtain ⟨m0, hm0⟩ : ∃ m, ps.length = m := ⟨_, rfl⟩
  have M0 : Hid (ps.length = m0) := hm0
  rw [hm0] at l0 ⊢
  unfold maxLen at l0
  clear hm0 h0 hps
  have kn : Hid (∀ W, N ≤ W.heap.size → Calls Try.prog 10 #[.int .i64 r] W fun e w' => ∃ d, e = .returned (.pointer (some ⟨d, 0, none⟩)) ∧ DiskAt w' N d (newS r) ∧ DUpd N W w') := fun W hW => (new_any N r W hW).mono fun e w' ⟨x, y, z⟩ => ⟨_, x, y, z⟩
  obtain ⟨R, hR⟩ : ∃ R, roomN r = R := ⟨_, rfl⟩
  have HR : Hid (roomN r = R) := hR
  have hRl : R ≤ 16777216 := by rw [← hR]; exact roomN_le r
  rw [hR] at krm
  clear hR
  go_enter Try.func5, Try.ntmps5
  go_wp2_with (first
    | (go_at_call 9; refine (awake_any _).mono ?_; rintro e w1 ⟨rfl, b1⟩; have up1 : DUpd N w w1 := DUpd.ofBelow b1; have z1 : N ≤ w1.heap.size := (by have := b1.size; have := HN.out; omega))
    | (go_at_call 10; refine (kn.out _ z1).mono ?_; rintro e w2 ⟨d, rfl, d2, up2⟩; have upa : DUpd N w w2 := up1.trans up2))
  have upb : DUpd N w (w2.alloc (.cells #[.string ⟨#[97]⟩, .string ⟨#[98]⟩, .string ⟨#[99]⟩] 9)) := upa.alloc _
  have d3 := d2.alloc (.cells #[.string ⟨#[97]⟩, .string ⟨#[98]⟩, .string ⟨#[99]⟩] 9)
  have B0 : Hid (∀ W, DUpd N (w2.alloc (.cells #[.string ⟨#[97]⟩, .string ⟨#[98]⟩, .string ⟨#[99]⟩] 9)) W → StrsAt W N (some ⟨w2.heap.size, 0, none⟩) [nmA, nmB, nmC]) := fun W hW => (strs_abc w2 N).dupd hW
  go_loopw [8] (fun c wr => ∃ (i : Nat) (S : Dk), i ≤ m0 ∧ c = .int .i64 (i : Int) ∧ DiskAt wr N d S ∧ Three S r ∧ DUpd N w wr ∧ DUpd N (w2.alloc (.cells #[.string ⟨#[97]⟩, .string ⟨#[98]⟩, .string ⟨#[99]⟩] 9)) wr) (fun c _ => m0 - (intOf c).toNat)
  case atStart => exact ⟨0, newS r, by omega, rfl, d3, ⟨rfl, rfl, rfl, by simp [newS, used], by simp [newS]⟩, upb, DUpd.refl _ _⟩
  case round =>
    generalize w2.heap.size = g at B0 ⊢
    clear upa upb d2 d3 up2 up1 b1
    obtain ⟨i, S, hi, rfl, hD, hC, hU, hV⟩ := hrel
    by_cases hlt : i < m0
    · obtain ⟨p, hp⟩ : ∃ p, ps[i]? = some p := ⟨ps[i]'(by have := M0.out; omega), List.getElem?_eq_getElem _⟩
      have hpz := Hps.out p (List.mem_of_getElem? hp)
      have e0 := A0.out wr hU
      rcases e0 with h | ⟨g0, o0, rfl, hg0, hs0, hc0⟩
      · have := M0.out; omega
      have A1 : Hid (∀ W, DUpd N w W → W.cell? ⟨g0, o0 + i, none⟩ = some (.string p)) := fun W hW => by
        rcases A0.out W hW with h | ⟨g1, o1, ee, hg1, hs1, hc1⟩
        · have := M0.out; omega
        · cases ee
          exact hc1 i p hp
      obtain ⟨U, hUu⟩ : ∃ U, used S.fs = U := ⟨_, rfl⟩
      have HUu : Hid (used S.fs = U) := hUu
      have hUR : U ≤ R := by rw [← hUu, ← HR.out]; exact hC.used
      have HC : Hid (Three S r) := hC
      have kus1 : Hid (∀ W, DiskAt W N d S → Calls Try.prog 20 #[.pointer (some ⟨d, 0, none⟩)] W fun e w' => e = .returned (.int .i64 (U : Int)) ∧ DiskAt w' N d S ∧ DUpd N W w') := fun W hW => by
        have := kus.out W d S hW
        rw [hUu] at this
        exact this
      have h3 : (i : Int) % 3 = 0 ∨ (i : Int) % 3 = 1 ∨ (i : Int) % 3 = 2 := by omega
      clear hc0 hs0 hp hUu hg0 hC
      have hC := HC
      by_cases hfit : (p.size : Int) ≤ (R : Int) - (U : Int)
      · rcases h3 with h3 | h3 | h3
        · have kap : Hid (∀ W, DiskAt W N d S → Calls Try.prog 11 #[.pointer (some ⟨d, 0, none⟩), .string ⟨#[97]⟩, .slice (some ⟨W.heap.size, 0, none⟩) 1 1] (W.alloc (.cells #[.string p] 9)).drew fun e w' => e = .returned (.int .i64 0) ∧ (∃ T, DiskAt w' N d T ∧ Three T r ∧ used T.fs = U + p.size) ∧ DUpd N W w') := fun W hW => by
            have := full_fits N d S r hC.out nmA p (.inl rfl) (by omega) (by rw [HUu.out, HR.out]; omega) W.drew hW.drew
            rw [HUu.out] at this
            exact this.mono fun e w' ⟨x, y, z⟩ => ⟨x, y, (DUpd.refl N W).drew.trans z⟩
          have B1 : Hid (∀ W, DUpd N (w2.alloc (.cells #[.string ⟨#[97]⟩, .string ⟨#[98]⟩, .string ⟨#[99]⟩] 9)) W → W.cell? ⟨g, 0, none⟩ = some (.string ⟨#[97]⟩)) := fun W hW => by
            have e0 := B0.out W hW
            rcases e0 with h | ⟨g1, o1, ee, hg1, hs1, hc1⟩
            · cases h
            · cases ee
              exact hc1 0 nmA rfl
          have t1 : Int.tmod (i : Int) 3 = 0 := by rw [Int.tmod_eq_emod_of_nonneg (by omega)]; exact h3
          have t2 : IntKind.i64.wrap (Int.tmod (i : Int) 3) = 0 := by rw [t1]; rfl
          have t3 : IntKind.i64.wrap ((i : Int) % 3) = 0 := by rw [h3]; rfl
          clear B0 hC
          go_wp2_with (go_at_call 20; refine (kus1.out wr hD).mono ?_; rintro e w4 ⟨rfl, d4, up4⟩; have cp4 := A1.out w4.drew (hU.trans up4).drew; have cn4 := B1.out w4.drew (hV.trans up4).drew; have cn4a := B1.out (w4.alloc (.cells #[.string p] 9)).drew ((hV.trans up4).alloc _).drew; have cn4b := B1.out (w4.alloc (.cells #[.string p] 9)) ((hV.trans up4).alloc _))
          go_region_with (go_at_call 11; refine (kap.out w4 d4).mono ?_; rintro e w5 ⟨rfl, ⟨T, d5, cT, uT⟩, up5⟩; have up6 : DUpd N wr w5 := up4.trans up5; have cp5 := A1.out w5 (hU.trans up6); have kus5 : Hid (∀ W, DiskAt W N d T → Calls Try.prog 20 #[.pointer (some ⟨d, 0, none⟩)] W fun e w' => e = .returned (.int .i64 ((U + p.size : Nat) : Int)) ∧ DiskAt w' N d T ∧ DUpd N W w') := (fun W hW => by have := kus.out W d T hW; rw [uT] at this; exact this))
          all_goals
            go_wp2_with (first | (go_at_call 20; refine (kus5.out _ d5).mono ?_; rintro e w7 ⟨rfl, d7, up7⟩) | (go_at_call 21; refine (krm.out _).mono ?_; rintro e w6 ⟨rfl, rfl⟩))
            exact ⟨⟨i + 1, T, by omega, by simp, d7, cT, (hU.trans up6).trans up7, (hV.trans up6).trans up7⟩, by simp; omega⟩
        · have kap : Hid (∀ W, DiskAt W N d S → Calls Try.prog 11 #[.pointer (some ⟨d, 0, none⟩), .string ⟨#[98]⟩, .slice (some ⟨W.heap.size, 0, none⟩) 1 1] (W.alloc (.cells #[.string p] 9)).drew fun e w' => e = .returned (.int .i64 0) ∧ (∃ T, DiskAt w' N d T ∧ Three T r ∧ used T.fs = U + p.size) ∧ DUpd N W w') := fun W hW => by
            have := full_fits N d S r hC.out nmB p (.inr (.inl rfl)) (by omega) (by rw [HUu.out, HR.out]; omega) W.drew hW.drew
            rw [HUu.out] at this
            exact this.mono fun e w' ⟨x, y, z⟩ => ⟨x, y, (DUpd.refl N W).drew.trans z⟩
          have B1 : Hid (∀ W, DUpd N (w2.alloc (.cells #[.string ⟨#[97]⟩, .string ⟨#[98]⟩, .string ⟨#[99]⟩] 9)) W → W.cell? ⟨g, 1, none⟩ = some (.string ⟨#[98]⟩)) := fun W hW => by
            have e0 := B0.out W hW
            rcases e0 with h | ⟨g1, o1, ee, hg1, hs1, hc1⟩
            · cases h
            · cases ee
              exact hc1 1 nmB rfl
          have t1 : Int.tmod (i : Int) 3 = 1 := by rw [Int.tmod_eq_emod_of_nonneg (by omega)]; exact h3
          have t2 : IntKind.i64.wrap (Int.tmod (i : Int) 3) = 1 := by rw [t1]; rfl
          have t3 : IntKind.i64.wrap ((i : Int) % 3) = 1 := by rw [h3]; rfl
          clear B0 hC
          go_wp2_with (go_at_call 20; refine (kus1.out wr hD).mono ?_; rintro e w4 ⟨rfl, d4, up4⟩; have cp4 := A1.out w4.drew (hU.trans up4).drew; have cn4 := B1.out w4.drew (hV.trans up4).drew; have cn4a := B1.out (w4.alloc (.cells #[.string p] 9)).drew ((hV.trans up4).alloc _).drew; have cn4b := B1.out (w4.alloc (.cells #[.string p] 9)) ((hV.trans up4).alloc _))
          go_region_with (go_at_call 11; refine (kap.out w4 d4).mono ?_; rintro e w5 ⟨rfl, ⟨T, d5, cT, uT⟩, up5⟩; have up6 : DUpd N wr w5 := up4.trans up5; have cp5 := A1.out w5 (hU.trans up6); have kus5 : Hid (∀ W, DiskAt W N d T → Calls Try.prog 20 #[.pointer (some ⟨d, 0, none⟩)] W fun e w' => e = .returned (.int .i64 ((U + p.size : Nat) : Int)) ∧ DiskAt w' N d T ∧ DUpd N W w') := (fun W hW => by have := kus.out W d T hW; rw [uT] at this; exact this))
          all_goals
            go_wp2_with (first | (go_at_call 20; refine (kus5.out _ d5).mono ?_; rintro e w7 ⟨rfl, d7, up7⟩) | (go_at_call 21; refine (krm.out _).mono ?_; rintro e w6 ⟨rfl, rfl⟩))
            exact ⟨⟨i + 1, T, by omega, by simp, d7, cT, (hU.trans up6).trans up7, (hV.trans up6).trans up7⟩, by simp; omega⟩
        · have kap : Hid (∀ W, DiskAt W N d S → Calls Try.prog 11 #[.pointer (some ⟨d, 0, none⟩), .string ⟨#[99]⟩, .slice (some ⟨W.heap.size, 0, none⟩) 1 1] (W.alloc (.cells #[.string p] 9)).drew fun e w' => e = .returned (.int .i64 0) ∧ (∃ T, DiskAt w' N d T ∧ Three T r ∧ used T.fs = U + p.size) ∧ DUpd N W w') := fun W hW => by
            have := full_fits N d S r hC.out nmC p (.inr (.inr rfl)) (by omega) (by rw [HUu.out, HR.out]; omega) W.drew hW.drew
            rw [HUu.out] at this
            exact this.mono fun e w' ⟨x, y, z⟩ => ⟨x, y, (DUpd.refl N W).drew.trans z⟩
          have B1 : Hid (∀ W, DUpd N (w2.alloc (.cells #[.string ⟨#[97]⟩, .string ⟨#[98]⟩, .string ⟨#[99]⟩] 9)) W → W.cell? ⟨g, 2, none⟩ = some (.string ⟨#[99]⟩)) := fun W hW => by
            have e0 := B0.out W hW
            rcases e0 with h | ⟨g1, o1, ee, hg1, hs1, hc1⟩
            · cases h
            · cases ee
              exact hc1 2 nmC rfl
          have t1 : Int.tmod (i : Int) 3 = 2 := by rw [Int.tmod_eq_emod_of_nonneg (by omega)]; exact h3
          have t2 : IntKind.i64.wrap (Int.tmod (i : Int) 3) = 2 := by rw [t1]; rfl
          have t3 : IntKind.i64.wrap ((i : Int) % 3) = 2 := by rw [h3]; rfl
          clear B0 hC
          go_wp2_with (go_at_call 20; refine (kus1.out wr hD).mono ?_; rintro e w4 ⟨rfl, d4, up4⟩; have cp4 := A1.out w4.drew (hU.trans up4).drew; have cn4 := B1.out w4.drew (hV.trans up4).drew; have cn4a := B1.out (w4.alloc (.cells #[.string p] 9)).drew ((hV.trans up4).alloc _).drew; have cn4b := B1.out (w4.alloc (.cells #[.string p] 9)) ((hV.trans up4).alloc _))
          go_region_with (go_at_call 11; refine (kap.out w4 d4).mono ?_; rintro e w5 ⟨rfl, ⟨T, d5, cT, uT⟩, up5⟩; have up6 : DUpd N wr w5 := up4.trans up5; have cp5 := A1.out w5 (hU.trans up6); have kus5 : Hid (∀ W, DiskAt W N d T → Calls Try.prog 20 #[.pointer (some ⟨d, 0, none⟩)] W fun e w' => e = .returned (.int .i64 ((U + p.size : Nat) : Int)) ∧ DiskAt w' N d T ∧ DUpd N W w') := (fun W hW => by have := kus.out W d T hW; rw [uT] at this; exact this))
          all_goals
            go_wp2_with (first | (go_at_call 20; refine (kus5.out _ d5).mono ?_; rintro e w7 ⟨rfl, d7, up7⟩) | (go_at_call 21; refine (krm.out _).mono ?_; rintro e w6 ⟨rfl, rfl⟩))
            exact ⟨⟨i + 1, T, by omega, by simp, d7, cT, (hU.trans up6).trans up7, (hV.trans up6).trans up7⟩, by simp; omega⟩
      · rcases h3 with h3 | h3 | h3
        · have kap : Hid (∀ W, DiskAt W N d S → Calls Try.prog 11 #[.pointer (some ⟨d, 0, none⟩), .string ⟨#[97]⟩, .slice (some ⟨W.heap.size, 0, none⟩) 1 1] (W.alloc (.cells #[.string p] 9)).drew fun e w' => e = .returned (.int .i64 22) ∧ DiskAt w' N d S ∧ DUpd N W w') := fun W hW => by
            have := full_not N d S r hC.out nmA p (.inl rfl) (by omega) (by rw [HUu.out, HR.out]; omega) W.drew hW.drew
            exact this.mono fun e w' ⟨x, y, z⟩ => ⟨x, y, (DUpd.refl N W).drew.trans z⟩
          have B1 : Hid (∀ W, DUpd N (w2.alloc (.cells #[.string ⟨#[97]⟩, .string ⟨#[98]⟩, .string ⟨#[99]⟩] 9)) W → W.cell? ⟨g, 0, none⟩ = some (.string ⟨#[97]⟩)) := fun W hW => by
            have e0 := B0.out W hW
            rcases e0 with h | ⟨g1, o1, ee, hg1, hs1, hc1⟩
            · cases h
            · cases ee
              exact hc1 0 nmA rfl
          have t1 : Int.tmod (i : Int) 3 = 0 := by rw [Int.tmod_eq_emod_of_nonneg (by omega)]; exact h3
          have t2 : IntKind.i64.wrap (Int.tmod (i : Int) 3) = 0 := by rw [t1]; rfl
          have t3 : IntKind.i64.wrap ((i : Int) % 3) = 0 := by rw [h3]; rfl
          clear B0 hC
          go_wp2_with (go_at_call 20; refine (kus1.out wr hD).mono ?_; rintro e w4 ⟨rfl, d4, up4⟩; have cp4 := A1.out w4.drew (hU.trans up4).drew; have cn4 := B1.out w4.drew (hV.trans up4).drew; have cn4a := B1.out (w4.alloc (.cells #[.string p] 9)).drew ((hV.trans up4).alloc _).drew; have cn4b := B1.out (w4.alloc (.cells #[.string p] 9)) ((hV.trans up4).alloc _))
          go_region_with (go_at_call 11; refine (kap.out w4 d4).mono ?_; rintro e w5 ⟨rfl, d5, up5⟩; have up6 : DUpd N wr w5 := up4.trans up5; have cp5 := A1.out w5 (hU.trans up6))
          all_goals
            go_wp2_with (first | (go_at_call 20; refine (kus1.out _ d7).mono ?_; rintro e w8 ⟨rfl, d8, up8⟩) | (go_at_call 20; refine (kus1.out _ d5).mono ?_; rintro e w7 ⟨rfl, d7, up7⟩) | (go_at_call 21; refine (krm.out _).mono ?_; rintro e w6 ⟨rfl, rfl⟩))
            exact ⟨⟨i + 1, S, by omega, by simp, d8, HC.out, ((hU.trans up6).trans up7).trans up8, ((hV.trans up6).trans up7).trans up8⟩, by simp; omega⟩
        · have kap : Hid (∀ W, DiskAt W N d S → Calls Try.prog 11 #[.pointer (some ⟨d, 0, none⟩), .string ⟨#[98]⟩, .slice (some ⟨W.heap.size, 0, none⟩) 1 1] (W.alloc (.cells #[.string p] 9)).drew fun e w' => e = .returned (.int .i64 22) ∧ DiskAt w' N d S ∧ DUpd N W w') := fun W hW => by
            have := full_not N d S r hC.out nmB p (.inr (.inl rfl)) (by omega) (by rw [HUu.out, HR.out]; omega) W.drew hW.drew
            exact this.mono fun e w' ⟨x, y, z⟩ => ⟨x, y, (DUpd.refl N W).drew.trans z⟩
          have B1 : Hid (∀ W, DUpd N (w2.alloc (.cells #[.string ⟨#[97]⟩, .string ⟨#[98]⟩, .string ⟨#[99]⟩] 9)) W → W.cell? ⟨g, 1, none⟩ = some (.string ⟨#[98]⟩)) := fun W hW => by
            have e0 := B0.out W hW
            rcases e0 with h | ⟨g1, o1, ee, hg1, hs1, hc1⟩
            · cases h
            · cases ee
              exact hc1 1 nmB rfl
          have t1 : Int.tmod (i : Int) 3 = 1 := by rw [Int.tmod_eq_emod_of_nonneg (by omega)]; exact h3
          have t2 : IntKind.i64.wrap (Int.tmod (i : Int) 3) = 1 := by rw [t1]; rfl
          have t3 : IntKind.i64.wrap ((i : Int) % 3) = 1 := by rw [h3]; rfl
          clear B0 hC
          go_wp2_with (go_at_call 20; refine (kus1.out wr hD).mono ?_; rintro e w4 ⟨rfl, d4, up4⟩; have cp4 := A1.out w4.drew (hU.trans up4).drew; have cn4 := B1.out w4.drew (hV.trans up4).drew; have cn4a := B1.out (w4.alloc (.cells #[.string p] 9)).drew ((hV.trans up4).alloc _).drew; have cn4b := B1.out (w4.alloc (.cells #[.string p] 9)) ((hV.trans up4).alloc _))
          go_region_with (go_at_call 11; refine (kap.out w4 d4).mono ?_; rintro e w5 ⟨rfl, d5, up5⟩; have up6 : DUpd N wr w5 := up4.trans up5; have cp5 := A1.out w5 (hU.trans up6))
          all_goals
            go_wp2_with (first | (go_at_call 20; refine (kus1.out _ d7).mono ?_; rintro e w8 ⟨rfl, d8, up8⟩) | (go_at_call 20; refine (kus1.out _ d5).mono ?_; rintro e w7 ⟨rfl, d7, up7⟩) | (go_at_call 21; refine (krm.out _).mono ?_; rintro e w6 ⟨rfl, rfl⟩))
            exact ⟨⟨i + 1, S, by omega, by simp, d8, HC.out, ((hU.trans up6).trans up7).trans up8, ((hV.trans up6).trans up7).trans up8⟩, by simp; omega⟩
        · have kap : Hid (∀ W, DiskAt W N d S → Calls Try.prog 11 #[.pointer (some ⟨d, 0, none⟩), .string ⟨#[99]⟩, .slice (some ⟨W.heap.size, 0, none⟩) 1 1] (W.alloc (.cells #[.string p] 9)).drew fun e w' => e = .returned (.int .i64 22) ∧ DiskAt w' N d S ∧ DUpd N W w') := fun W hW => by
            have := full_not N d S r hC.out nmC p (.inr (.inr rfl)) (by omega) (by rw [HUu.out, HR.out]; omega) W.drew hW.drew
            exact this.mono fun e w' ⟨x, y, z⟩ => ⟨x, y, (DUpd.refl N W).drew.trans z⟩
          have B1 : Hid (∀ W, DUpd N (w2.alloc (.cells #[.string ⟨#[97]⟩, .string ⟨#[98]⟩, .string ⟨#[99]⟩] 9)) W → W.cell? ⟨g, 2, none⟩ = some (.string ⟨#[99]⟩)) := fun W hW => by
            have e0 := B0.out W hW
            rcases e0 with h | ⟨g1, o1, ee, hg1, hs1, hc1⟩
            · cases h
            · cases ee
              exact hc1 2 nmC rfl
          have t1 : Int.tmod (i : Int) 3 = 2 := by rw [Int.tmod_eq_emod_of_nonneg (by omega)]; exact h3
          have t2 : IntKind.i64.wrap (Int.tmod (i : Int) 3) = 2 := by rw [t1]; rfl
          have t3 : IntKind.i64.wrap ((i : Int) % 3) = 2 := by rw [h3]; rfl
          clear B0 hC
          go_wp2_with (go_at_call 20; refine (kus1.out wr hD).mono ?_; rintro e w4 ⟨rfl, d4, up4⟩; have cp4 := A1.out w4.drew (hU.trans up4).drew; have cn4 := B1.out w4.drew (hV.trans up4).drew; have cn4a := B1.out (w4.alloc (.cells #[.string p] 9)).drew ((hV.trans up4).alloc _).drew; have cn4b := B1.out (w4.alloc (.cells #[.string p] 9)) ((hV.trans up4).alloc _))
          go_region_with (go_at_call 11; refine (kap.out w4 d4).mono ?_; rintro e w5 ⟨rfl, d5, up5⟩; have up6 : DUpd N wr w5 := up4.trans up5; have cp5 := A1.out w5 (hU.trans up6))
          all_goals
            go_wp2_with (first | (go_at_call 20; refine (kus1.out _ d7).mono ?_; rintro e w8 ⟨rfl, d8, up8⟩) | (go_at_call 20; refine (kus1.out _ d5).mono ?_; rintro e w7 ⟨rfl, d7, up7⟩) | (go_at_call 21; refine (krm.out _).mono ?_; rintro e w6 ⟨rfl, rfl⟩))
            exact ⟨⟨i + 1, S, by omega, by simp, d8, HC.out, ((hU.trans up6).trans up7).trans up8, ((hV.trans up6).trans up7).trans up8⟩, by simp; omega⟩
    · go_wp2
      go_ret
      exact ⟨rfl, hU.below (by have := HN.out; omega)⟩
end Go.Proofs.Ytfjmmeefobkkiaa
