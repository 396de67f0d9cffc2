/- The document's disk: Append. -/
import Derived.Test.YthaknjbcmflegaaRefLaidW
import Derived.Test.YthaknjbcmflegaaSync
import Derived.Deep.QuietTactic
namespace Go.Proofs.Ythaknjbcmflegaa
open Go.RowKit Go.Maps Go.WideMaps

/-- Bytes behind a file's. -/
def layD (S : Dk) (k : List UInt8) (d : List UInt8) : Dk := { S with fs := put k ⟨(oldF S k).bytes ++ d, (oldF S k).firm⟩ S.fs }
theorem layS_layD (S : Dk) (k : List UInt8) (ps : List ByteArray) : layS S k ps = layD S k (joins ps) := rfl
theorem step_lay (S : Dk) (k d : List UInt8) : stepS (layD S k d) = layD (stepS S) k d := by
  unfold stepS
  by_cases h1 : S.armed = true
  · rw [if_pos h1, if_pos (show (layD S k d).armed = true from h1)]
    by_cases h2 : 0 < S.ahead
    · rw [if_pos h2, if_pos (show 0 < (layD S k d).ahead from h2)]; rfl
    · rw [if_neg h2, if_neg (show ¬ 0 < (layD S k d).ahead from h2)]; rfl
  · rw [if_neg h1, if_neg (show ¬ (layD S k d).armed = true from h1)]; rfl
theorem stepE_lay (S : Dk) (k d : List UInt8) : stepE (layD S k d) = stepE S := rfl
/-- There is no room. -/
def FullAt (S : Dk) (k : List UInt8) (n : Nat) : Prop := (get S.fs k = none ∧ 256 ≤ S.fs.length) ∨ S.room < used S.fs + n
theorem Dk.Good.step {S : Dk} (h : S.Good) : (stepS S).Good := by
  have ha := h.ahead
  unfold stepS
  by_cases h1 : S.armed = true
  · rw [if_pos h1]
    have h0 := h.arm h1
    by_cases h2 : 0 < S.ahead
    · rw [if_pos h2]
      exact ⟨⟨h.rise, h.len, h.used, h.room, h.keys, ⟨by show _ ≤ S.ahead - 1; omega, by show S.ahead - 1 < _; omega⟩⟩, fun _ => by show 0 ≤ S.ahead - 1; omega, h.firm⟩
    · rw [if_neg h2]
      exact ⟨⟨h.rise, h.len, h.used, h.room, h.keys, h.ahead⟩, fun e => (by cases e), h.firm⟩
  · rw [if_neg h1]
    exact ⟨⟨h.rise, h.len, h.used, h.room, h.keys, h.ahead⟩, fun e => absurd e h1, h.firm⟩
theorem Dk.Good.put {S : Dk} (h : S.Good) (k : List UInt8) (f : Fl) (hl : (get S.fs k).isSome = true ∨ S.fs.length < 256) (hu : Ythaknjbcmflegaa.used (Ythaknjbcmflegaa.put k f S.fs) ≤ 16777216) (hk : k.length ≤ 32) (hf : f.firm ≤ f.bytes.length) : (putS S k f).Good := by
  refine ⟨⟨h.rise.put k f, ?_, hu, h.room, fun p hp => ?_, h.ahead⟩, h.arm, fun p hp => ?_⟩
  · show (Ythaknjbcmflegaa.put k f S.fs).length ≤ 256
    rcases hl with hl | hl
    · obtain ⟨g, hg⟩ := Option.isSome_iff_exists.1 hl
      rw [len_put_old h.rise k f g hg]; exact h.len
    · have := len_put_le S.fs k f; omega
  · rcases mem_put k f S.fs p hp with e | e
    · rw [e]; exact hk
    · exact h.keys p e
  · rcases keys_put k f S.fs p hp with e | e
    · rw [e]; exact hf
    · exact h.firm p e
theorem oldF_none {S : Dk} {k : List UInt8} (h : get S.fs k = none) : oldF S k = ⟨[], 0⟩ := by rw [oldF, h]
theorem Dk.Good.lay {S : Dk} (h : S.Good) (k d : List UInt8) (hk : k.length ≤ 32) (hf : ¬ FullAt S k d.length) : (layD S k d).Good := by
  unfold FullAt at hf
  refine h.put k _ ?_ ?_ hk ?_
  · cases hg : get S.fs k with
    | none => exact .inr (by by_cases h2 : S.fs.length < 256; exact h2; exact absurd (.inl ⟨hg, by omega⟩) hf)
    | some f => exact .inl rfl
  · have hup := used_put h.rise k ⟨(oldF S k).bytes ++ d, (oldF S k).firm⟩
    have hr := h.room
    have h2 : used S.fs + d.length ≤ S.room := by by_cases h2 : used S.fs + d.length ≤ S.room; exact h2; exact absurd (.inr (by omega)) hf
    cases hg : get S.fs k with
    | none => rw [lenAt_none hg, oldF_none hg] at hup; rw [oldF_none hg]; simp at hup ⊢; omega
    | some f => rw [lenAt_some hg, oldF_some hg] at hup; rw [oldF_some hg]; simp at hup ⊢; omega
  · cases hg : get S.fs k with
    | none => rw [oldF_none hg]; simp
    | some f => rw [oldF_some hg]; have := h.firm _ (get_mem hg); simp at this ⊢; omega
theorem RefAt.below {w W : World} {N r : Nat} {S : Dk} (h : RefAt w N r S) (hb : Below w.heap.size w W) : RefAt W N r S := h.keep hb.block
theorem RefAt.drewN {w : World} {N r : Nat} {S : Dk} (h : RefAt w N r S) (n : Nat) : RefAt (w.drewN n) N r S := h.keep (fun _ _ => rfl)
theorem wrapEq (x : Int) : IntKind.i64.wrap x = wrap64 x := by rw [IntKind.wrap_i64]; unfold wrap64; omega
theorem RefAt.fields {w : World} {N r : Nat} {S : Dk} (h : RefAt w N r S) : w.cell? ⟨r, 1, none⟩ = some (.int .i64 (S.room : Int)) := by
  obtain ⟨v, hH, _⟩ := h
  exact hH.at 1 _ rfl

theorem rappend_bad (N r : Nat) (S : Dk) (s d : ByteArray) (hs : s.size < 9223372036854775808) (w : World) (h : RefAt w N r S) (hE : ¬ namedE S [s] = 0) : Calls Try.prog 31 #[.pointer (some ⟨r, 0, none⟩), .string s, .string d] w fun e w' => e = .returned (.int .i64 (namedE S [s])) ∧ w' = w := by
  have ha : Hid (Calls Try.prog 44 #[.pointer (some ⟨r, 0, none⟩), .string s, .bool false] w fun e w' => e = .returned (.int .i64 (namedE S [s])) ∧ w' = w) := rask_some N r S s hs false w h
  have hne : ((namedE S [s]) == 0) = false := by simpa using hE
  have hne2 : ((namedE S [s]) != 0) = true := by simpa using hE
  generalize namedE S [s] = E at *
  clear h hE
  go_enter Try.func31, Try.ntmps31
  go_wp2_with (go_at_call 44; refine ha.out.mono ?_; rintro e w2 ⟨rfl, rfl⟩)
  go_ret
  exact ⟨rfl, rfl⟩

set_option maxHeartbeats 1600000 in
set_option maxRecDepth 100000 in
theorem rappend_full (N r : Nat) (S : Dk) (s d : ByteArray) (hon : S.on = true) (hok : nameOk s = true) (w : World) (h : RefAt w N r S) (hF : FullAt S s.data.toList d.size) : Calls Try.prog 31 #[.pointer (some ⟨r, 0, none⟩), .string s, .string d] w fun e w' => e = .returned (.int .i64 22) ∧ Below w.heap.size w w' := by
  have hs := nameOk_le hok
  have ha : Hid (Calls Try.prog 44 #[.pointer (some ⟨r, 0, none⟩), .string s, .bool false] w fun e w' => e = .returned (.int .i64 0) ∧ w' = w) := by
    have := rask_some N r S s (by omega) false w h
    rw [show askE S s false = 0 by rw [askE, if_neg (by decide)]; exact named_one hon hok] at this
    exact this
  have hat : Hid (Calls Try.prog 45 #[.pointer (some ⟨r, 0, none⟩), .string s] w fun e w' => e = .returned (.int .i64 (atI S.fs s.data.toList)) ∧ w' = w) := rat_some N r S s w h
  have hus : Hid (Calls Try.prog 10 #[.pointer (some ⟨r, 0, none⟩)] w fun e w' => e = .returned (.int .i64 (used S.fs : Int)) ∧ w' = w) := rused_some N r S w h
  have husd : Hid (∀ n, Calls Try.prog 10 #[.pointer (some ⟨r, 0, none⟩)] (w.drewN n) fun e w' => e = .returned (.int .i64 (used S.fs : Int)) ∧ w' = w.drewN n) := fun n => rused_some N r S _ (h.drewN n)
  have c1 := h.fields
  have hlen := h.good.len
  have hus2 := h.good.used
  have hrm := h.good.room
  have hbl : Hid (Below w.heap.size w w.drew) := (Below.refl _ _).drew
  obtain ⟨fs, a, c, hfs, c0, _⟩ := h.rows
  have hat2 : atI S.fs s.data.toList = -1 ∨ ∃ i : Nat, i < 256 ∧ atI S.fs s.data.toList = (i : Int) := by
    cases hg : get S.fs s.data.toList with
    | none => exact .inl (atI_of_none hg)
    | some f =>
      obtain ⟨i, h1, h2, _⟩ := atI_of_some h.good.rise hg
      exact .inr ⟨i, by omega, h2⟩
  have hF2 : (atI S.fs s.data.toList = -1 ∧ 256 ≤ fs.length) ∨ S.room < used S.fs + d.size := by
    rcases hF with ⟨h1, h2⟩ | h1
    · exact .inl ⟨atI_of_none h1, by rw [← hfs]; exact h2⟩
    · exact .inr h1
  rw [hfs] at hlen
  generalize atI S.fs s.data.toList = A at *
  generalize used S.fs = U at *
  generalize S.room = R at *
  generalize fs.length = m at *
  clear h hF hfs hon hok
  have hw1 : wrap64 ((R : Int) - (U : Int)) = (R : Int) - (U : Int) := by unfold wrap64; omega
  have hw2 : IntKind.i64.wrap ((R : Int) - (U : Int)) = (R : Int) - (U : Int) := by rw [wrapEq, hw1]
  by_cases hA : A = -1 ∧ 256 ≤ m
  · obtain ⟨rfl, hm⟩ := hA
    go_enter Try.func31, Try.ntmps31
    go_wp2_with (first
      | (go_at_call 44; refine ha.out.mono ?_; rintro e w2 ⟨rfl, rfl⟩)
      | (go_at_call 45; refine hat.out.mono ?_; rintro e w2 ⟨rfl, rfl⟩))
    have g1 : (256 : Int) ≤ (m : Int) := by omega
    go_region
    go_wp2
    go_ret
    exact ⟨rfl, hbl.out⟩
  · have hR : R < U + d.size := by
      rcases hF2 with h | h
      · exact absurd h hA
      · exact h
    have g2 : (d.size : Int) > (R : Int) - (U : Int) := by omega
    have g3 : (R : Int) - (U : Int) < (d.size : Int) := by omega
    rcases hat2 with rfl | ⟨i, hi, rfl⟩
    · have g1 : ¬ (256 : Int) ≤ (m : Int) := by omega
      have g4 : (m : Int) < 256 := by omega
      clear hF2 hA hR
      go_enter Try.func31, Try.ntmps31
      go_wp2_with (first
        | (go_at_call 44; refine ha.out.mono ?_; rintro e w2 ⟨rfl, rfl⟩)
        | (go_at_call 45; refine hat.out.mono ?_; rintro e w2 ⟨rfl, rfl⟩))
      go_quiet (first | (go_at_call 10; exact Calls.quiet_of_same (husd.out _)))
      go_wp2
      go_ret
      exact ⟨rfl, below_drewN (Below.refl _ _) _⟩
    · have g5 : decide ((i : Int) < 0) = false := by simp
      clear hF2 hA hR
      go_enter Try.func31, Try.ntmps31
      go_wp2_with (first
        | (go_at_call 44; refine ha.out.mono ?_; rintro e w2 ⟨rfl, rfl⟩)
        | (go_at_call 45; refine hat.out.mono ?_; rintro e w2 ⟨rfl, rfl⟩))
      go_quiet (first | (go_at_call 10; exact Calls.quiet_of_same (husd.out _)))
      go_wp2
      go_ret
      exact ⟨rfl, below_drewN (Below.refl _ _) _⟩

theorem cell_lt {w : World} {g o : Nat} {v : Value} (h : w.cell? ⟨g, o, none⟩ = some v) : g < w.heap.size := by
  unfold World.cell? at h
  cases hx : w.heap[g]? with
  | none => rw [hx] at h; cases h
  | some o => exact (Array.getElem?_eq_some_iff.1 hx).1
theorem strL_self (s : ByteArray) : strL s.data.toList = s := by
  cases s; rfl
theorem stepE_cases (S : Dk) : (stepB S = true ∧ stepE S = 0) ∨ (stepB S = false ∧ stepE S = 23) := by
  unfold stepB stepE
  split
  · split
    · exact .inl ⟨rfl, rfl⟩
    · exact .inr ⟨rfl, rfl⟩
  · exact .inl ⟨rfl, rfl⟩
theorem oldF_step (S : Dk) (k : List UInt8) : oldF (stepS S) k = oldF S k := by unfold oldF; rw [stepS_fs]
set_option maxHeartbeats 3200000 in
set_option maxRecDepth 100000 in
theorem rappend_ok (N r : Nat) (S : Dk) (s d : ByteArray) (hon : S.on = true) (hok : nameOk s = true) (w : World) (h : RefAt w N r S) (hF : ¬ FullAt S s.data.toList d.size) : Calls Try.prog 31 #[.pointer (some ⟨r, 0, none⟩), .string s, .string d] w fun e w' => e = .returned (.int .i64 (stepE S)) ∧ RefAt w' N r (layD (stepS S) s.data.toList d.data.toList) ∧ RUpd N w w' := by
  have hs := nameOk_le hok
  have ha : Hid (Calls Try.prog 44 #[.pointer (some ⟨r, 0, none⟩), .string s, .bool false] w fun e w' => e = .returned (.int .i64 0) ∧ w' = w) := by
    have := rask_some N r S s (by omega) false w h
    rw [show askE S s false = 0 by rw [askE, if_neg (by decide)]; exact named_one hon hok] at this
    exact this
  have hat : Hid (Calls Try.prog 45 #[.pointer (some ⟨r, 0, none⟩), .string s] w fun e w' => e = .returned (.int .i64 (atI S.fs s.data.toList)) ∧ w' = w) := rat_some N r S s w h
  have husd : Hid (∀ n, Calls Try.prog 10 #[.pointer (some ⟨r, 0, none⟩)] (w.drewN n) fun e w' => e = .returned (.int .i64 (used S.fs : Int)) ∧ w' = w.drewN n) := fun n => rused_some N r S _ (h.drewN n)
  have c1 := h.fields
  have hlen := h.good.len
  have hus2 := h.good.used
  have hrm := h.good.room
  have hG : (layD (stepS S) s.data.toList d.data.toList).Good := by
    rw [← step_lay]
    exact (h.good.lay _ _ hs hF).step
  have hst : Hid (∀ n, Calls Try.prog 55 #[.pointer (some ⟨r, 0, none⟩)] (w.drewN n) fun e w' => e = .returned (.bool (stepB S)) ∧ RUpd N w w' ∧ (∃ a c, w'.cell? ⟨r, 0, none⟩ = some (.slice a S.fs.length c) ∧ RowsAt w' a S.fs) ∧ ∀ W nm dt fm, nm = s → dt = strL ((oldF S s.data.toList).bytes ++ d.data.toList) → fm = ((oldF S s.data.toList).firm : Int) → Below w'.heap.size w' W →
      Calls Try.prog 57 #[.pointer (some ⟨r, 0, none⟩), .agg #[.string nm, .string dt, .int .i64 fm]] W fun e w'' => e = .returned (.tuple #[]) ∧ RefAt w'' N r (layD (stepS S) s.data.toList d.data.toList) ∧ RUpd N w w'') := fun n =>
    (rstep_some N r S _ (h.drewN n)).mono fun e w' ⟨h1, h2, h3⟩ => by
      have h4 : RUpd N w w' := (RUpd.ofBelow (below_drewN (Below.refl _ _) n)).trans h3
      refine ⟨h1, h4, ?_, fun W nm dt fm e1 e2 e3 hb => ?_⟩
      · obtain ⟨fs, a, c, e1, e2, e3⟩ := h2.rows
        rw [stepS_fs] at e1
        subst e1
        exact ⟨a, c, e2, e3⟩
      · have := rlaid_some N r (stepS S) s.data.toList ⟨(oldF S s.data.toList).bytes ++ d.data.toList, (oldF S s.data.toList).firm⟩ (by rw [← oldF_step]; exact hG) W (h2.below hb)
        rw [strL_self] at this
        rw [e1, e2, e3]
        refine this.mono fun e w'' ⟨k1, k2, k3⟩ => ⟨k1, ?_, (h4.trans (RUpd.ofBelow hb)).trans k3⟩
        rw [layD, oldF_step]; exact k2
  obtain ⟨fs, a, c, hfs, c0, hrow⟩ := h.rows
  have hA : (atI S.fs s.data.toList = -1 ∧ fs.length < 256 ∧ oldF S s.data.toList = ⟨[], 0⟩) ∨ ∃ (i : Nat) (f : Fl), i < fs.length ∧ atI S.fs s.data.toList = (i : Int) ∧ fs[i]? = some (s.data.toList, f) ∧ oldF S s.data.toList = f ∧ f.bytes.length ≤ 16777216 := by
    cases hg : get S.fs s.data.toList with
    | none => exact .inl ⟨atI_of_none hg, by rw [← hfs]; by_cases h2 : S.fs.length < 256; exact h2; exact absurd (.inl ⟨hg, by omega⟩) hF, oldF_none hg⟩
    | some f =>
      obtain ⟨i, h1, h2, h3⟩ := atI_of_some h.good.rise hg
      have := used_le_mem hg
      exact .inr ⟨i, f, by rw [← hfs]; exact h1, h2, by rw [← hfs]; exact h3, oldF_some hg, by omega⟩
  have hfit : used S.fs + d.size ≤ S.room := by by_cases h2 : used S.fs + d.size ≤ S.room; exact h2; exact absurd (.inr (by omega)) hF
  rw [hfs] at hlen hst
  have hse := stepE_cases S
  have hHF : Hid (RowsAt w a fs) := hrow
  have hlt := h.lt
  generalize layD (stepS S) s.data.toList d.data.toList = T at *
  generalize atI S.fs s.data.toList = A at *
  generalize used S.fs = U at *
  generalize S.room = R at *
  generalize stepE S = E at *
  generalize stepB S = B at *
  obtain ⟨m, hm⟩ : ∃ m, fs.length = m := ⟨_, rfl⟩
  rw [hm] at hlen hA c0 hst
  clear h hF hfs hon hok hG hrow hm
  have hw1 : wrap64 ((R : Int) - (U : Int)) = (R : Int) - (U : Int) := by unfold wrap64; omega
  have hw2 : IntKind.i64.wrap ((R : Int) - (U : Int)) = (R : Int) - (U : Int) := by rw [wrapEq, hw1]
  have g2 : decide ((d.size : Int) > (R : Int) - (U : Int)) = false := by simp; omega
  have g3 : decide ((R : Int) - (U : Int) < (d.size : Int)) = false := by simp; omega
  have g4 : ¬ ((R : Int) - (U : Int) < (d.size : Int)) := by omega
  rcases hA with ⟨rfl, hm, ho⟩ | ⟨i, f, hi, rfl, hp, ho, hfb⟩
  · rw [ho] at hst
    have g1 : ¬ (256 : Int) ≤ (m : Int) := by omega
    have g5 : (m : Int) < 256 := by omega
    have hdt : Hid (d = strL ([] ++ d.data.toList)) := (strL_self d).symm
    clear ho hHF
    rcases hse with ⟨rfl, rfl⟩ | ⟨rfl, rfl⟩
    all_goals
      go_enter Try.func31, Try.ntmps31
      go_wp2_with (first
        | (go_at_call 44; refine ha.out.mono ?_; rintro e w2 ⟨rfl, rfl⟩)
        | (go_at_call 45; refine hat.out.mono ?_; rintro e w2 ⟨rfl, rfl⟩))
      go_quiet (first | (go_at_call 10; exact Calls.quiet_of_same (husd.out _)))
      go_wp2_with (first
        | (go_at_call 57; refine (hla.out _ _ _ _ rfl hdt.out rfl ?_).mono ?_; (repeat (first | exact Below.refl _ _ | refine Below.setCell ?_ (Nat.le_of_eq rfl) _ | refine Below.alloc ?_ (Nat.le_refl _) _)); rintro e w4 ⟨rfl, h4, u4⟩)
        | (go_at_call 55; refine (hst.out _).mono ?_; rintro e w3 ⟨rfl, u3, _, hl3⟩; have hla : Hid (∀ W nm dt fm, nm = s → dt = strL ([] ++ d.data.toList) → fm = ((0 : Nat) : Int) → Below w3.heap.size w3 W → Calls Try.prog 57 #[.pointer (some ⟨r, 0, none⟩), .agg #[.string nm, .string dt, .int .i64 fm]] W fun e w'' => e = .returned (.tuple #[]) ∧ RefAt w'' N r T ∧ RUpd N w2 w'') := hl3; clear hl3))
      go_ret
      exact ⟨rfl, h4, u4⟩
  · rw [ho] at hst
    have g1 : decide ((i : Int) < 0) = false := by simp
    have g5 : (0 : Int) ≤ (i : Int) := by omega
    have g6 : (i : Int) < (m : Int) := by omega
    obtain ⟨q2, hq2⟩ : ∃ q, strL f.bytes = q := ⟨_, rfl⟩
    have hq2s : q2.size ≤ 16777216 := by rw [← hq2]; exact hfb
    have hcat : Hid (q2 ++ d = strL (f.bytes ++ d.data.toList)) := by
      show q2 ++ d = _
      rw [← hq2]
      apply ByteArray.ext
      apply Array.ext'
      simp [strL]
    obtain ⟨q3, hq3⟩ : ∃ q, (f.firm : Int) = q := ⟨_, rfl⟩
    have hgets : Hid (∀ W a, RowsAt W a fs → ∃ g, a = some ⟨g, 0, none⟩ ∧ W.cell? ⟨g, i * 3, none⟩ = some (.string s) ∧ W.cell? ⟨g, i * 3 + 1, none⟩ = some (.string q2) ∧ W.cell? ⟨g, i * 3 + 2, none⟩ = some (.int .i64 q3)) := fun W a hr => by
      obtain ⟨g, e, hc⟩ := hr i _ hp
      have z0 := hc 0 _ rfl
      have z1 := hc 1 _ rfl
      have z2 := hc 2 _ rfl
      simp only [Nat.add_zero] at z0
      refine ⟨g, e, ?_, ?_, ?_⟩
      · rw [z0]; show some (Value.string (strL s.data.toList)) = _; rw [strL_self]
      · rw [z1, ← hq2]
      · rw [z2, ← hq3]
    rw [hq3] at hst
    have HST := hst
    clear ho hHF hst hp hq2 hq3 hfb
    generalize strL (f.bytes ++ d.data.toList) = D at *
    rcases hse with ⟨rfl, rfl⟩ | ⟨rfl, rfl⟩
    all_goals
      go_enter Try.func31, Try.ntmps31
      go_wp2_with (first
        | (go_at_call 44; refine ha.out.mono ?_; rintro e w2 ⟨rfl, rfl⟩)
        | (go_at_call 45; refine hat.out.mono ?_; rintro e w2 ⟨rfl, rfl⟩))
      go_quiet (first | (go_at_call 10; exact Calls.quiet_of_same (husd.out _)))
      go_wp2_with (first
        | (go_at_call 57; refine (hla.out _ _ _ _ rfl hcat.out rfl ?_).mono ?_; (repeat (first | exact Below.refl _ _ | refine Below.setCell ?_ (Nat.le_of_eq rfl) _ | refine Below.alloc ?_ (Nat.le_refl _) _)); rintro e w4 ⟨rfl, h4, u4⟩)
        | (go_at_call 55; refine (HST.out _).mono ?_; rintro e w3 ⟨rfl, u3, ⟨ra, rc, z0, hr3⟩, hl3⟩; obtain ⟨g, rfl, z1, z2, z3⟩ := hgets.out _ _ hr3; have hba : ∀ o : Obj, Below w3.heap.size w3 (w3.alloc o) := (fun o => (Below.refl _ _).alloc (Nat.le_refl _) o); have y0 : (w3.alloc (.cells #[.string s, .string d, .int .i64 0] 63)).cell? ⟨r, 0, none⟩ = some (.slice (some ⟨g, 0, none⟩) m rc) := ((hba _).cell (cell_lt z0)).trans z0; have y1 : (w3.alloc (.cells #[.string s, .string d, .int .i64 0] 63)).cell? ⟨g, i * 3, none⟩ = some (.string s) := ((hba _).cell (cell_lt z1)).trans z1; have y2 : (w3.alloc (.cells #[.string s, .string d, .int .i64 0] 63)).cell? ⟨g, i * 3 + 1, none⟩ = some (.string q2) := ((hba _).cell (cell_lt z2)).trans z2; have y3 : (w3.alloc (.cells #[.string s, .string d, .int .i64 0] 63)).cell? ⟨g, i * 3 + 2, none⟩ = some (.int .i64 q3) := ((hba _).cell (cell_lt z3)).trans z3; clear hba; have hla : Hid (∀ W nm dt fm, nm = s → dt = D → fm = q3 → Below w3.heap.size w3 W → Calls Try.prog 57 #[.pointer (some ⟨r, 0, none⟩), .agg #[.string nm, .string dt, .int .i64 fm]] W fun e w'' => e = .returned (.tuple #[]) ∧ RefAt w'' N r T ∧ RUpd N w2 w'') := hl3; clear hl3 hr3))
      go_ret
      exact ⟨rfl, h4, u4⟩
end Go.Proofs.Ythaknjbcmflegaa
