/- The function of the statement FilesTwice, called with whatever texts and numbers, answers true. -/
import Derived.Test.YtfjmmeefobkkiaaFirm
namespace Go.Proofs.Ytfjmmeefobkkiaa
open Go.RowKit Go.Maps Go.WideMaps

/-- A disk with power, with so much room, on which so much lies at most. -/
structure Calm (S : Dk) (u l : Nat) : Prop where
  on : S.on = true
  armed : S.armed = false
  room : S.room = 16777216
  used : used S.fs ≤ u
  len : S.fs.length ≤ l
theorem Calm.stepE {S : Dk} {u l : Nat} (h : Calm S u l) : stepE S = 0 := by rw [Ytfjmmeefobkkiaa.stepE, if_neg (by rw [h.armed]; decide)]
theorem Calm.stepS {S : Dk} {u l : Nat} (h : Calm S u l) : stepS S = S := by rw [Ytfjmmeefobkkiaa.stepS, if_neg (by rw [h.armed]; decide)]
theorem Calm.lay {S : Dk} {u l : Nat} (h : Calm S u l) (hf : S.Fine) (k : List UInt8) (p : ByteArray) : Calm (layS S k [p]) (u + p.size) (l + 1) ∧ ∃ f, get (layS S k [p]).fs k = some f := by
  have h1 := used_put hf.rise k ⟨(oldF S k).bytes ++ joins [p], (oldF S k).firm⟩
  have h2 := len_put_le S.fs k ⟨(oldF S k).bytes ++ joins [p], (oldF S k).firm⟩
  have h3 : lenAt S.fs k = (oldF S k).bytes.length := by
    unfold lenAt oldF
    cases get S.fs k <;> rfl
  have h4 : p.data.toList.length = p.size := rfl
  have h5 := h.used
  have h6 := h.len
  rw [h3] at h1
  simp only [List.length_append, joins_one, h4] at h1
  refine ⟨⟨h.on, h.armed, h.room, ?_, ?_⟩, _, by show get (put k _ S.fs) k = _; rw [get_put, if_pos rfl]⟩
  · show Ytfjmmeefobkkiaa.used (put k _ S.fs) ≤ _
    rw [joins_one]; omega
  · show (put k _ S.fs).length ≤ _
    omega
theorem Calm.sync {S : Dk} {u l : Nat} (h : Calm S u l) (hf : S.Fine) (k : List UInt8) (f : Fl) (hg : get S.fs k = some f) : Calm (syncS S k) u l := by
  have h1 := used_put hf.rise k ⟨f.bytes, f.bytes.length⟩
  rw [lenAt_some hg] at h1
  have h2 := len_put_old hf.rise k ⟨f.bytes, f.bytes.length⟩ f hg
  have h5 := h.used
  have h6 := h.len
  unfold syncS
  rw [oldF_some hg]
  refine ⟨h.on, h.armed, h.room, ?_, ?_⟩
  · show Ytfjmmeefobkkiaa.used (put k _ S.fs) ≤ _
    simp only at h1; omega
  · show (put k _ S.fs).length ≤ _
    omega
theorem calm_append (N d : Nat) (S : Dk) (u l : Nat) (hc : Calm S u l) (s p : ByteArray) (hok : nameOk s = true) (hu : u + p.size ≤ 16777216) (hl : l < 256) (W : World) (h : DiskAt W N d S) :
    Calls Try.prog 11 #[.pointer (some ⟨d, 0, none⟩), .string s, .slice (some ⟨W.heap.size, 0, none⟩) 1 1] (W.alloc (.cells #[.string p] 9)) fun e w' => e = .returned (.int .i64 0) ∧ (∃ T, DiskAt w' N d T ∧ Calm T (u + p.size) (l + 1) ∧ ∃ f, get T.fs s.data.toList = some f) ∧ DUpd N W w' := by
  obtain ⟨c1, c2⟩ := hc.lay h.fine s.data.toList p
  have := app1 N d S s p hc.on hok (by omega) (by
    have h1 := hc.used
    have h2 := hc.room
    show decide _ = true
    rw [decide_eq_true_eq, h2]
    simp only [lens]; omega) (by have := hc.len; omega) W h
  rw [hc.stepE, c1.stepS] at this
  exact this.mono fun e w' ⟨a, b, c⟩ => ⟨a, ⟨_, b, c1, c2⟩, c⟩
theorem calm_sync (N d : Nat) (S : Dk) (u l : Nat) (hc : Calm S u l) (s : ByteArray) (hok : nameOk s = true) (f : Fl) (hg : get S.fs s.data.toList = some f) (W : World) (h : DiskAt W N d S) :
    Calls Try.prog 12 #[.pointer (some ⟨d, 0, none⟩), .slice (some ⟨W.heap.size, 0, none⟩) 1 1] (W.alloc (.cells #[.string s] 9)) fun e w' => e = .returned (.int .i64 0) ∧ (∃ T, DiskAt w' N d T ∧ Calm T u l) ∧ DUpd N W w' := by
  have h0 : foundE S s = 0 := by rw [foundE, if_pos hc.on, if_pos hok, hg]; rfl
  have := sync1 N d S s (by have := nameOk_le hok; omega) W h
  rw [eachE, if_pos h0, eachS, if_pos h0, if_pos hc.stepE, hc.stepE, hc.stepS] at this
  exact this.mono fun e w' ⟨a, b, c⟩ => ⟨a, ⟨_, b, hc.sync h.fine _ f hg⟩, c⟩
/-- What a crash has left is firm. -/
theorem crash1_firm (f : Fl) (ps : List Int) : (crash1 f ps).1.firm = (crash1 f ps).1.bytes.length := by
  unfold crash1
  split <;> rfl
theorem crashD_again : ∀ (l : Fs), (∀ p ∈ l, p.2.firm = p.2.bytes.length) → crashD l [] = (l, [])
  | [], _ => rfl
  | p :: r, h => by
    have h0 := h p (List.mem_cons_self ..)
    have h1 : crash1 p.2 [] = (p.2, []) := by
      rw [crash1, if_pos (by omega), ← h0]
    rw [crashD, h1, crashD_again r (fun q hq => h q (List.mem_cons_of_mem _ hq))]
theorem crashD_firm : ∀ (l : Fs) (ps : List Int), ∀ p ∈ (crashD l ps).1, p.2.firm = p.2.bytes.length
  | [], _, p, h => by cases h
  | q :: r, ps, p, h => by
    rw [crashD] at h
    rcases List.mem_cons.1 h with rfl | h
    · exact crash1_firm _ _
    · exact crashD_firm r _ p h
theorem crash_again (S : Dk) (ps : List Int) : crashS (crashS S ps) [] = crashS S ps := by
  show (⟨(crashD (crashD S.fs ps).1 []).1, _, _, _, _⟩ : Dk) = _
  rw [crashD_again _ (crashD_firm S.fs ps)]
  rfl
set_option maxHeartbeats 6400000 in
set_option maxRecDepth 100000 in
theorem filesTwice_walk (ps : List ByteArray) (hps : ∀ s ∈ ps, s.size ≤ 140737488355328) (ks : List Int) (hks : ∀ x ∈ ks, -9223372036854775808 ≤ x ∧ x < 9223372036854775808) (a0 a1 : Option Addr) (c0 c1 : Nat) (w : World)
    (h0 : StrsAt w w.heap.size a0 ps) (h1 : IntsAt w w.heap.size a1 ks) (l0 : ps.length ≤ maxLen) (l1 : ks.length ≤ c1) (l2 : c1 ≤ maxLen) :
    Calls Try.prog 8 #[.slice a0 ps.length c0, .slice a1 ks.length c1] w fun e w' => e = .returned (.bool true) ∧ Below w.heap.size w w' := by
  obtain ⟨N, hN⟩ : ∃ N, w.heap.size = N := ⟨_, rfl⟩
  have HN : Hid (w.heap.size = N) := hN
  rw [hN] at h0 h1 ⊢
  clear hN
  have A0 : Hid (∀ W, DUpd N w W → StrsAt W N a0 ps) := fun W hW => h0.dupd hW
  have Hps : Hid (∀ s ∈ ps, s.size ≤ 140737488355328) := hps
  have kcr : Hid (∀ W d S, DUpd N w W → DiskAt W N d S → Calls Try.prog 13 #[.pointer (some ⟨d, 0, none⟩), .slice a1 ks.length c1] W fun e w' => e = .returned (.tuple #[]) ∧ DiskAt w' N d (crashS S ks) ∧ DUpd N W w') := fun W d S hW hD => crash_some N d S ks hks a1 c1 l1 l2 W hD (h1.dupd hW)
  have kcn : Hid (∀ W d S, DiskAt W N d (crashS S ks) → Calls Try.prog 13 #[.pointer (some ⟨d, 0, none⟩), .slice none 0 0] W fun e w' => e = .returned (.tuple #[]) ∧ DiskAt w' N d (crashS S ks) ∧ DUpd N W w') := fun W d S hD => by
    have := crashNone N d (crashS S ks) W hD
    rw [crash_again] at this
    exact this
  have kus : Hid (∀ W d S, DiskAt W N d S → Calls Try.prog 20 #[.pointer (some ⟨d, 0, none⟩)] W fun e w' => e = .returned (.int .i64 (used S.fs : Int)) ∧ DiskAt w' N d S ∧ DUpd N W w') := fun W d S hD => (used_some N d S W hD).mono fun e w' ⟨x, y⟩ => ⟨x, hD.below y, DUpd.ofBelow y⟩
  have krd : Hid (∀ W d S t, t.size < 9223372036854775808 → DiskAt W N d S → Calls Try.prog 14 #[.pointer (some ⟨d, 0, none⟩), .string t] W fun e w' => e = .returned (.tuple #[.string (readV S t), .int .i64 (foundE S t)]) ∧ DiskAt w' N d S ∧ DUpd N W w') := fun W d S t ht hD => (read_some N d S t ht W hD).mono fun e w' ⟨x, y⟩ => ⟨x, hD.below y, DUpd.ofBelow y⟩
  have kon : Hid (∀ W d S, DiskAt W N d (crashS S ks) → Calls Try.prog 19 #[.pointer (some ⟨d, 0, none⟩)] W fun e w' => e = .returned (.bool true) ∧ w' = W) := fun W d S hD => on_some N d (crashS S ks) W hD
  obtain ⟨m0, hm0⟩ : ∃ m, ps.length = m := ⟨_, rfl⟩
  obtain ⟨m1, hm1⟩ : ∃ m, ks.length = m := ⟨_, rfl⟩
  have M0 : Hid (ps.length = m0) := hm0
  rw [hm0] at l0 ⊢
  rw [hm1] at kcr ⊢
  unfold maxLen at l0
  clear hm0 hm1 h0 h1 hps hks l1 l2
  have kn : Hid (∀ W, N ≤ W.heap.size → Calls Try.prog 10 #[.int .i64 16777216] W fun e w' => ∃ d, e = .returned (.pointer (some ⟨d, 0, none⟩)) ∧ DiskAt w' N d st0 ∧ DUpd N W w') := fun W hW => by
    have := new_any N 16777216 W hW
    rw [new16] at this
    exact this.mono fun e w' ⟨x, y, z⟩ => ⟨_, x, y, z⟩
  go_enter Try.func8, Try.ntmps8
  go_wp2_with (first
    | (go_at_call 9; refine (awake_any _).mono ?_; rintro e w1 ⟨rfl, b1⟩; have up1 : DUpd N w w1 := DUpd.ofBelow b1; have z1 : N ≤ w1.heap.size := (by have := b1.size; have := HN.out; omega))
    | (go_at_call 10; refine (kn.out _ z1).mono ?_; rintro e w2 ⟨d, rfl, d2, up2⟩; have upa : DUpd N w w2 := up1.trans up2))
  go_loopw [7, 8] (fun v c wr => ∃ (i z : Nat) (S : Dk), i ≤ m0 ∧ i ≤ 30 ∧ c = .int .i64 (i : Int) ∧ v = .int .i64 (z : Int) ∧ z ≤ 1048576 ∧ DiskAt wr N d S ∧ Calm S z i ∧ DUpd N w wr) (fun _ c _ => m0 - (intOf c).toNat)
  case atStart => exact ⟨0, 0, st0, by omega, by omega, rfl, rfl, by omega, d2, ⟨rfl, rfl, rfl, by simp [st0, used], by simp [st0]⟩, upa⟩
  case round =>
    clear upa d2 up2 up1 b1
    obtain ⟨i, z, S, hi, h30, rfl, rfl, hz, hD, hC, hU⟩ := hrel
    by_cases hlt : i < m0
    · by_cases h60 : (i : Int) < 30
      · obtain ⟨p, hp⟩ : ∃ p, ps[i]? = some p := ⟨ps[i]'(by have := M0.out; omega), List.getElem?_eq_getElem _⟩
        have hpz := Hps.out p (List.mem_of_getElem? hp)
        have e0 := A0.out wr hU
        rcases e0 with h | ⟨g0, o0, rfl, hg0, hs0, hc0⟩
        · have := M0.out; omega
        have cp := hc0 i p hp
        clear hc0 hs0 hp
        by_cases hbig : (1048576 : Int) < (z : Int) + (p.size : Int)
        · have HD : Hid (DiskAt wr N d S) := hD
          generalize hu' : used (crashS S ks).fs = U at *
          have kus' : Hid (∀ W, DiskAt W N d (crashS S ks) → Calls Try.prog 20 #[.pointer (some ⟨d, 0, none⟩)] W fun e w' => e = .returned (.int .i64 (U : Int)) ∧ DiskAt w' N d (crashS S ks) ∧ DUpd N W w') := fun W hW => by
            have := kus.out W d (crashS S ks) hW
            rw [hu'] at this
            exact this
          have krA : Hid (∀ W, DiskAt W N d (crashS S ks) → Calls Try.prog 14 #[.pointer (some ⟨d, 0, none⟩), .string ⟨#[97]⟩] W fun e w' => e = .returned (.tuple #[.string (readV (crashS S ks) nmA), .int .i64 (foundE (crashS S ks) nmA)]) ∧ DiskAt w' N d (crashS S ks) ∧ DUpd N W w') := fun W hW => krd.out W d _ nmA (by decide) hW
          have krB : Hid (∀ W, DiskAt W N d (crashS S ks) → Calls Try.prog 14 #[.pointer (some ⟨d, 0, none⟩), .string ⟨#[98]⟩] W fun e w' => e = .returned (.tuple #[.string (readV (crashS S ks) nmB), .int .i64 (foundE (crashS S ks) nmB)]) ∧ DiskAt w' N d (crashS S ks) ∧ DUpd N W w') := fun W hW => krd.out W d _ nmB (by decide) hW
          have kcr' : Hid (Calls Try.prog 13 #[.pointer (some ⟨d, 0, none⟩), .slice a1 m1 c1] wr fun e w' => e = .returned (.tuple #[]) ∧ DiskAt w' N d (crashS S ks) ∧ DUpd N wr w') := kcr.out wr d S hU hD
          generalize readV (crashS S ks) nmA = rA at *
          generalize readV (crashS S ks) nmB = rB at *
          generalize foundE (crashS S ks) nmA = eA at *
          generalize foundE (crashS S ks) nmB = eB at *
          clear hD hC hu'
          go_wp2_with (first
            | (go_at_call 13; refine (kcn.out _ d S d6).mono ?_; rintro e w7 ⟨rfl, d7, up7⟩)
            | (go_at_call 13; refine kcr'.out.mono ?_; rintro e w3 ⟨rfl, d3, up3⟩)
            | (go_at_call 20; refine (kus'.out _ d9).mono ?_; rintro e w10 ⟨rfl, d10, up10⟩)
            | (go_at_call 20; refine (kus'.out _ d3).mono ?_; rintro e w4 ⟨rfl, d4, up4⟩)
            | (go_at_call 14; refine (krB.out _ d8).mono ?_; rintro e w9 ⟨rfl, d9, up9⟩)
            | (go_at_call 14; refine (krA.out _ d7).mono ?_; rintro e w8 ⟨rfl, d8, up8⟩)
            | (go_at_call 14; refine (krB.out _ d5).mono ?_; rintro e w6 ⟨rfl, d6, up6⟩)
            | (go_at_call 14; refine (krA.out _ d4).mono ?_; rintro e w5 ⟨rfl, d5, up5⟩)
            | (go_at_call 19; refine (kon.out _ d S d10).mono ?_; rintro e w11 ⟨rfl, rfl⟩))
          go_ret
          exact ⟨rfl, ((((((((hU.trans up3).trans up4).trans up5).trans up6).trans up7).trans up8).trans up9).trans up10).below (by have := HN.out; omega)⟩
        · by_cases hp2 : (i : Int) % 2 = 1
          · by_cases hp5 : (i : Int) % 5 = 4
            · have kap : Hid (Calls Try.prog 11 #[.pointer (some ⟨d, 0, none⟩), .string ⟨#[98]⟩, .slice (some ⟨wr.heap.size, 0, none⟩) 1 1] (wr.alloc (.cells #[.string p] 9)) fun e w' => e = .returned (.int .i64 0) ∧ (∃ T, DiskAt w' N d T ∧ Calm T (z + p.size) (i + 1) ∧ ∃ f, get T.fs nmB.data.toList = some f) ∧ DUpd N wr w') := calm_append N d S z i hC nmB p (by decide) (by omega) (by omega) wr hD
              clear hD hC
              go_wp2_with (first
                | (go_at_call 11; refine kap.out.mono ?_; rintro e w3 ⟨rfl, ⟨T, d3, cT, f, hg⟩, up3⟩; have ksy := calm_sync N d T _ _ cT nmB (by decide) f hg w3 d3)
                | (go_at_call 12; refine ksy.mono ?_; rintro e w4 ⟨rfl, ⟨T2, d4, cT2⟩, up4⟩))
              exact ⟨⟨i + 1, z + p.size, T2, by omega, by omega, rfl, by simp, by omega, d4, cT2, (hU.trans up3).trans up4⟩, by simp; omega⟩
            · have kap : Hid (Calls Try.prog 11 #[.pointer (some ⟨d, 0, none⟩), .string ⟨#[98]⟩, .slice (some ⟨wr.heap.size, 0, none⟩) 1 1] (wr.alloc (.cells #[.string p] 9)) fun e w' => e = .returned (.int .i64 0) ∧ (∃ T, DiskAt w' N d T ∧ Calm T (z + p.size) (i + 1) ∧ ∃ f, get T.fs nmB.data.toList = some f) ∧ DUpd N wr w') := calm_append N d S z i hC nmB p (by decide) (by omega) (by omega) wr hD
              clear hD hC
              go_wp2_with (first
                | (go_at_call 11; refine kap.out.mono ?_; rintro e w3 ⟨rfl, ⟨T, d3, cT, f, hg⟩, up3⟩))
              exact ⟨⟨i + 1, z + p.size, T, by omega, by omega, rfl, by simp, by omega, d3, cT, hU.trans up3⟩, by simp; omega⟩
          · by_cases hp5 : (i : Int) % 5 = 4
            · have kap : Hid (Calls Try.prog 11 #[.pointer (some ⟨d, 0, none⟩), .string ⟨#[97]⟩, .slice (some ⟨wr.heap.size, 0, none⟩) 1 1] (wr.alloc (.cells #[.string p] 9)) fun e w' => e = .returned (.int .i64 0) ∧ (∃ T, DiskAt w' N d T ∧ Calm T (z + p.size) (i + 1) ∧ ∃ f, get T.fs nmA.data.toList = some f) ∧ DUpd N wr w') := calm_append N d S z i hC nmA p (by decide) (by omega) (by omega) wr hD
              clear hD hC
              go_wp2_with (first
                | (go_at_call 11; refine kap.out.mono ?_; rintro e w3 ⟨rfl, ⟨T, d3, cT, f, hg⟩, up3⟩; have ksy := calm_sync N d T _ _ cT nmA (by decide) f hg w3 d3)
                | (go_at_call 12; refine ksy.mono ?_; rintro e w4 ⟨rfl, ⟨T2, d4, cT2⟩, up4⟩))
              exact ⟨⟨i + 1, z + p.size, T2, by omega, by omega, rfl, by simp, by omega, d4, cT2, (hU.trans up3).trans up4⟩, by simp; omega⟩
            · have kap : Hid (Calls Try.prog 11 #[.pointer (some ⟨d, 0, none⟩), .string ⟨#[97]⟩, .slice (some ⟨wr.heap.size, 0, none⟩) 1 1] (wr.alloc (.cells #[.string p] 9)) fun e w' => e = .returned (.int .i64 0) ∧ (∃ T, DiskAt w' N d T ∧ Calm T (z + p.size) (i + 1) ∧ ∃ f, get T.fs nmA.data.toList = some f) ∧ DUpd N wr w') := calm_append N d S z i hC nmA p (by decide) (by omega) (by omega) wr hD
              clear hD hC
              go_wp2_with (first
                | (go_at_call 11; refine kap.out.mono ?_; rintro e w3 ⟨rfl, ⟨T, d3, cT, f, hg⟩, up3⟩))
              exact ⟨⟨i + 1, z + p.size, T, by omega, by omega, rfl, by simp, by omega, d3, cT, hU.trans up3⟩, by simp; omega⟩
      · have HD : Hid (DiskAt wr N d S) := hD
        generalize hu' : used (crashS S ks).fs = U at *
        have kus' : Hid (∀ W, DiskAt W N d (crashS S ks) → Calls Try.prog 20 #[.pointer (some ⟨d, 0, none⟩)] W fun e w' => e = .returned (.int .i64 (U : Int)) ∧ DiskAt w' N d (crashS S ks) ∧ DUpd N W w') := fun W hW => by
          have := kus.out W d (crashS S ks) hW
          rw [hu'] at this
          exact this
        have krA : Hid (∀ W, DiskAt W N d (crashS S ks) → Calls Try.prog 14 #[.pointer (some ⟨d, 0, none⟩), .string ⟨#[97]⟩] W fun e w' => e = .returned (.tuple #[.string (readV (crashS S ks) nmA), .int .i64 (foundE (crashS S ks) nmA)]) ∧ DiskAt w' N d (crashS S ks) ∧ DUpd N W w') := fun W hW => krd.out W d _ nmA (by decide) hW
        have krB : Hid (∀ W, DiskAt W N d (crashS S ks) → Calls Try.prog 14 #[.pointer (some ⟨d, 0, none⟩), .string ⟨#[98]⟩] W fun e w' => e = .returned (.tuple #[.string (readV (crashS S ks) nmB), .int .i64 (foundE (crashS S ks) nmB)]) ∧ DiskAt w' N d (crashS S ks) ∧ DUpd N W w') := fun W hW => krd.out W d _ nmB (by decide) hW
        have kcr' : Hid (Calls Try.prog 13 #[.pointer (some ⟨d, 0, none⟩), .slice a1 m1 c1] wr fun e w' => e = .returned (.tuple #[]) ∧ DiskAt w' N d (crashS S ks) ∧ DUpd N wr w') := kcr.out wr d S hU hD
        generalize readV (crashS S ks) nmA = rA at *
        generalize readV (crashS S ks) nmB = rB at *
        generalize foundE (crashS S ks) nmA = eA at *
        generalize foundE (crashS S ks) nmB = eB at *
        clear hD hC hu'
        go_wp2_with (first
          | (go_at_call 13; refine (kcn.out _ d S d6).mono ?_; rintro e w7 ⟨rfl, d7, up7⟩)
          | (go_at_call 13; refine kcr'.out.mono ?_; rintro e w3 ⟨rfl, d3, up3⟩)
          | (go_at_call 20; refine (kus'.out _ d9).mono ?_; rintro e w10 ⟨rfl, d10, up10⟩)
          | (go_at_call 20; refine (kus'.out _ d3).mono ?_; rintro e w4 ⟨rfl, d4, up4⟩)
          | (go_at_call 14; refine (krB.out _ d8).mono ?_; rintro e w9 ⟨rfl, d9, up9⟩)
          | (go_at_call 14; refine (krA.out _ d7).mono ?_; rintro e w8 ⟨rfl, d8, up8⟩)
          | (go_at_call 14; refine (krB.out _ d5).mono ?_; rintro e w6 ⟨rfl, d6, up6⟩)
          | (go_at_call 14; refine (krA.out _ d4).mono ?_; rintro e w5 ⟨rfl, d5, up5⟩)
          | (go_at_call 19; refine (kon.out _ d S d10).mono ?_; rintro e w11 ⟨rfl, rfl⟩))
        go_ret
        exact ⟨rfl, ((((((((hU.trans up3).trans up4).trans up5).trans up6).trans up7).trans up8).trans up9).trans up10).below (by have := HN.out; omega)⟩
    · have HD : Hid (DiskAt wr N d S) := hD
      generalize hu' : used (crashS S ks).fs = U at *
      have kus' : Hid (∀ W, DiskAt W N d (crashS S ks) → Calls Try.prog 20 #[.pointer (some ⟨d, 0, none⟩)] W fun e w' => e = .returned (.int .i64 (U : Int)) ∧ DiskAt w' N d (crashS S ks) ∧ DUpd N W w') := fun W hW => by
        have := kus.out W d (crashS S ks) hW
        rw [hu'] at this
        exact this
      have krA : Hid (∀ W, DiskAt W N d (crashS S ks) → Calls Try.prog 14 #[.pointer (some ⟨d, 0, none⟩), .string ⟨#[97]⟩] W fun e w' => e = .returned (.tuple #[.string (readV (crashS S ks) nmA), .int .i64 (foundE (crashS S ks) nmA)]) ∧ DiskAt w' N d (crashS S ks) ∧ DUpd N W w') := fun W hW => krd.out W d _ nmA (by decide) hW
      have krB : Hid (∀ W, DiskAt W N d (crashS S ks) → Calls Try.prog 14 #[.pointer (some ⟨d, 0, none⟩), .string ⟨#[98]⟩] W fun e w' => e = .returned (.tuple #[.string (readV (crashS S ks) nmB), .int .i64 (foundE (crashS S ks) nmB)]) ∧ DiskAt w' N d (crashS S ks) ∧ DUpd N W w') := fun W hW => krd.out W d _ nmB (by decide) hW
      have kcr' : Hid (Calls Try.prog 13 #[.pointer (some ⟨d, 0, none⟩), .slice a1 m1 c1] wr fun e w' => e = .returned (.tuple #[]) ∧ DiskAt w' N d (crashS S ks) ∧ DUpd N wr w') := kcr.out wr d S hU hD
      generalize readV (crashS S ks) nmA = rA at *
      generalize readV (crashS S ks) nmB = rB at *
      generalize foundE (crashS S ks) nmA = eA at *
      generalize foundE (crashS S ks) nmB = eB at *
      clear hD hC hu'
      go_wp2_with (first
        | (go_at_call 13; refine (kcn.out _ d S d6).mono ?_; rintro e w7 ⟨rfl, d7, up7⟩)
        | (go_at_call 13; refine kcr'.out.mono ?_; rintro e w3 ⟨rfl, d3, up3⟩)
        | (go_at_call 20; refine (kus'.out _ d9).mono ?_; rintro e w10 ⟨rfl, d10, up10⟩)
        | (go_at_call 20; refine (kus'.out _ d3).mono ?_; rintro e w4 ⟨rfl, d4, up4⟩)
        | (go_at_call 14; refine (krB.out _ d8).mono ?_; rintro e w9 ⟨rfl, d9, up9⟩)
        | (go_at_call 14; refine (krA.out _ d7).mono ?_; rintro e w8 ⟨rfl, d8, up8⟩)
        | (go_at_call 14; refine (krB.out _ d5).mono ?_; rintro e w6 ⟨rfl, d6, up6⟩)
        | (go_at_call 14; refine (krA.out _ d4).mono ?_; rintro e w5 ⟨rfl, d5, up5⟩)
        | (go_at_call 19; refine (kon.out _ d S d10).mono ?_; rintro e w11 ⟨rfl, rfl⟩))
      go_ret
      exact ⟨rfl, ((((((((hU.trans up3).trans up4).trans up5).trans up6).trans up7).trans up8).trans up9).trans up10).below (by have := HN.out; omega)⟩
end Go.Proofs.Ytfjmmeefobkkiaa
