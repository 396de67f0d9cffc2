/- A file is found, made, read. -/
import Derived.Test.YthaknjbcmflegaaFile
namespace Go.Proofs.Ythaknjbcmflegaa
open Go.RowKit Go.Maps Go.WideMaps

theorem strs_one (w : World) (N : Nat) (s : ByteArray) : StrsAt (w.alloc (.cells #[.string s] 9)) N (some ⟨w.heap.size, 0, none⟩) [s] := by
  have h : Holds (w.alloc (.cells #[.string s] 9)) w.heap.size [.string s] 9 := holds_new w [.string s] 9
  refine .inr ⟨w.heap.size, 0, rfl, h.lt, .inr (h.foreign (by decide) (by decide) (by decide)), fun i x hi => ?_⟩
  match i, hi with
  | 0, hi => simp at hi; subst hi; exact h.at 0 _ rfl
  | i + 1, hi => simp at hi
theorem strs_two (w : World) (N : Nat) (s t : ByteArray) : StrsAt (w.alloc (.cells #[.string s, .string t] 9)) N (some ⟨w.heap.size, 0, none⟩) [s, t] := by
  have h : Holds (w.alloc (.cells #[.string s, .string t] 9)) w.heap.size [.string s, .string t] 9 := holds_new w [.string s, .string t] 9
  refine .inr ⟨w.heap.size, 0, rfl, h.lt, .inr (h.foreign (by decide) (by decide) (by decide)), fun i x hi => ?_⟩
  match i, hi with
  | 0, hi => simp at hi; subst hi; exact h.at 0 _ rfl
  | 1, hi => simp at hi; subst hi; exact h.at 1 _ rfl
  | i + 2, hi => simp at hi
def foundE (S : Dk) (s : ByteArray) : Int := if S.on = true then (if nameOk s = true then (if (get S.fs s.data.toList).isSome = true then 0 else 21) else 20) else 23
theorem nameOk_le {s : ByteArray} (h : nameOk s = true) : s.size ≤ 32 := by
  simp [nameOk] at h
  omega
theorem found_nil (s : ByteArray) (w : World) : Calls Try.prog 42 #[.pointer none, .string s] w fun e w' => e = .returned (.int .i64 23) ∧ Below w.heap.size w w' := by
  go_enter Try.func42, Try.ntmps42
  go_wp2_with (go_at_call 46; refine (named_nil _ _ _ _).mono ?_; rintro e w2 ⟨rfl, rfl⟩)
  go_ret
  exact ⟨rfl, (Below.refl _ _).alloc (Nat.le_refl _) _⟩
set_option maxHeartbeats 800000 in
theorem found_some (N d : Nat) (S : Dk) (s : ByteArray) (hs : s.size < 9223372036854775808) (w : World) (h : DiskAt w N d S) :
    Calls Try.prog 42 #[.pointer (some ⟨d, 0, none⟩), .string s] w fun e w' => e = .returned (.int .i64 (foundE S s)) ∧ Below w.heap.size w w' := by
  have hna : Hid (Calls Try.prog 46 #[.pointer (some ⟨d, 0, none⟩), .slice (some ⟨w.heap.size, 0, none⟩) 1 1] (w.alloc (.cells #[.string s] 9)) fun e w' => e = .returned (.int .i64 (namedE S [s])) ∧ w' = w.alloc (.cells #[.string s] 9)) :=
    named_some N d S [s] (by simp; exact hs) (by simp) _ 1 _ (h.alloc _) (strs_one w N s)
  have hb : Hid (Below w.heap.size w (w.alloc (.cells #[.string s] 9))) := (Below.refl _ _).alloc (Nat.le_refl _) _
  by_cases hon : S.on = true
  · by_cases hok : nameOk s = true
    · have e1 : namedE S [s] = 0 := by rw [namedE, if_pos hon]; exact namE_ok (by simp [hok])
      rw [e1] at hna
      obtain ⟨mv, st, A, V, ho⟩ := (h.alloc (.cells #[.string s] 9)).open
      have c0 := ho.holds.at 0 _ rfl
      have hlk := ho.map.look s (by have := nameOk_le hok; unfold maxLen; omega)
      cases hg : get S.fs s.data.toList with
      | none =>
        have e2 : foundE S s = 21 := by rw [foundE, if_pos hon, if_pos hok, hg]; rfl
        rw [e2]
        rw [ho.files.gone _ hg] at hlk
        simp only [tokV] at hlk
        clear hg ho hok hon e1 e2
        go_enter Try.func42, Try.ntmps42
        go_wp2_with (go_at_call 46; refine hna.out.mono ?_; rintro e w2 ⟨rfl, rfl⟩)
        go_ret
        exact ⟨rfl, hb.out⟩
      | some f =>
        have e2 : foundE S s = 0 := by rw [foundE, if_pos hon, if_pos hok, hg]; rfl
        rw [e2]
        obtain ⟨b, hb0, _⟩ := ho.files.file _ f hg
        rw [hb0] at hlk
        simp only [tokV] at hlk
        clear hg ho hok hon e1 e2 hb0
        go_enter Try.func42, Try.ntmps42
        go_wp2_with (go_at_call 46; refine hna.out.mono ?_; rintro e w2 ⟨rfl, rfl⟩)
        go_ret
        exact ⟨rfl, hb.out⟩
    · have e1 : namedE S [s] = 20 := by rw [namedE, if_pos hon]; exact namE_no (by simp [hok])
      have e2 : foundE S s = 20 := by rw [foundE, if_pos hon, if_neg hok]
      rw [e1] at hna
      rw [e2]
      clear hok hon e1 e2
      go_enter Try.func42, Try.ntmps42
      go_wp2_with (go_at_call 46; refine hna.out.mono ?_; rintro e w2 ⟨rfl, rfl⟩)
      go_ret
      exact ⟨rfl, hb.out⟩
  · have e1 : namedE S [s] = 23 := by rw [namedE, if_neg hon]
    have e2 : foundE S s = 23 := by rw [foundE, if_neg hon]
    rw [e1] at hna
    rw [e2]
    clear hon e1 e2
    go_enter Try.func42, Try.ntmps42
    go_wp2_with (go_at_call 46; refine hna.out.mono ?_; rintro e w2 ⟨rfl, rfl⟩)
    go_ret
    exact ⟨rfl, hb.out⟩

/-- What Read tells. -/
def readV (S : Dk) (s : ByteArray) : ByteArray := if foundE S s = 0 then (match get S.fs s.data.toList with | some f => strL f.bytes | none => ⟨#[]⟩) else ⟨#[]⟩
theorem read_nil (s : ByteArray) (w : World) : Calls Try.prog 17 #[.pointer none, .string s] w fun e w' => e = .returned (.tuple #[.string ⟨#[]⟩, .int .i64 23]) ∧ Below w.heap.size w w' := by
  go_enter Try.func17, Try.ntmps17
  go_wp2_with (go_at_call 42; refine (found_nil s _).mono ?_; rintro e w2 ⟨rfl, b2⟩)
  go_ret2
  exact ⟨rfl, b2⟩
theorem found_zero {S : Dk} {s : ByteArray} (h : foundE S s = 0) : S.on = true ∧ nameOk s = true ∧ ∃ f, get S.fs s.data.toList = some f := by
  unfold foundE at h
  split at h
  · split at h
    · split at h
      · rename_i a b c
        exact ⟨a, b, Option.isSome_iff_exists.1 c⟩
      · cases h
    · cases h
  · cases h
set_option maxHeartbeats 800000 in
theorem read_some (N d : Nat) (S : Dk) (s : ByteArray) (hs : s.size < 9223372036854775808) (w : World) (h : DiskAt w N d S) :
    Calls Try.prog 17 #[.pointer (some ⟨d, 0, none⟩), .string s] w fun e w' => e = .returned (.tuple #[.string (readV S s), .int .i64 (foundE S s)]) ∧ Below w.heap.size w w' := by
  have hfo : Hid (Calls Try.prog 42 #[.pointer (some ⟨d, 0, none⟩), .string s] w fun e w' => e = .returned (.int .i64 (foundE S s)) ∧ Below w.heap.size w w') := found_some N d S s hs w h
  by_cases h0 : foundE S s = 0
  · obtain ⟨_, hok, f, hf⟩ := found_zero h0
    have hv : readV S s = strL f.bytes := by rw [readV, if_pos h0, hf]
    rw [hv, h0]
    rw [h0] at hfo
    have hD : Hid (DiskAt w N d S) := h
    have hF : Hid (get S.fs s.data.toList = some f) := hf
    have hok' := nameOk_le hok
    clear hv h h0 hf hok
    generalize hq : strL f.bytes = q
    have HQ : Hid (strL f.bytes = q) := hq
    clear hq
    go_enter Try.func17, Try.ntmps17
    go_wp2_with (first
      | (go_at_call 42; refine hfo.out.mono ?_; rintro e w2 ⟨rfl, b2⟩; obtain ⟨mv, st, A, V, ho⟩ := (hD.out.below b2).open; obtain ⟨b, hb0, _⟩ := ho.files.file _ f hF.out; have c0 := ho.holds.at 0 _ rfl; have hlk := ho.map.look s (by unfold maxLen; omega); rw [hb0] at hlk; simp only [tokV] at hlk; have hDF : Hid (DiskFile w2 N d S s.data.toList b) := ⟨mv, st, A, V, ho, hb0⟩; clear ho hb0)
      | (go_at_call 43; refine (text_file N d b S _ f _ hDF.out hF.out).mono ?_; rw [HQ.out]; rintro e w3 ⟨rfl, rfl⟩))
    go_ret2
    exact ⟨rfl, b2⟩
  · have hv : readV S s = ⟨#[]⟩ := by rw [readV, if_neg h0]
    rw [hv]
    have hne : ((foundE S s) == 0) = false := by simpa using h0
    generalize foundE S s = E at *
    clear h hv
    go_enter Try.func17, Try.ntmps17
    go_wp2_with (go_at_call 42; refine hfo.out.mono ?_; rintro e w2 ⟨rfl, b2⟩)
    go_ret2
    exact ⟨rfl, b2⟩
end Go.Proofs.Ythaknjbcmflegaa
