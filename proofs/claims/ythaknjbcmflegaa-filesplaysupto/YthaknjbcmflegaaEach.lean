/- A step with a file that is named, up to the first error. -/
import Derived.Test.YthaknjbcmflegaaMove
namespace Go.Proofs.Ythaknjbcmflegaa
open Go.RowKit Go.Maps Go.WideMaps

def eachE (S : Dk) (s : ByteArray) : Int := if foundE S s = 0 then stepE S else foundE S s
def eachS (T : Dk → Dk) (S : Dk) (s : ByteArray) : Dk := if foundE S s = 0 then (if stepE S = 0 then T (stepS S) else stepS S) else S

set_option maxHeartbeats 1600000 in
set_option maxRecDepth 100000 in
theorem each_sync (N d : Nat) (S : Dk) (T : Dk → Dk) (s : ByteArray) (hs : s.size < 9223372036854775808) (a : Option Addr) (c : Nat) (bx : Nat) (w : World) (h : DiskAt w N d S) (ha : StrsAt w N a [s])
    (hdo : foundE S s = 0 → ∀ W S', DiskAt W N d S' → S'.fs = S.fs → DUpd N w W → Calls Try.prog 52 #[.string s, .pointer (some ⟨bx, 0, none⟩)] W fun e w' => e = .returned (.tuple #[]) ∧ DiskAt w' N d (T S') ∧ DUpd N W w') :
    Calls Try.prog 51 #[.pointer (some ⟨d, 0, none⟩), .slice a 1 c, .func (.func 52) #[] #[.pointer (some ⟨bx, 0, none⟩)]] w fun e w' => e = .returned (.int .i64 (eachE S s)) ∧ DiskAt w' N d (eachS T S s) ∧ DUpd N w w' := by
  have HA : Hid (∀ W, DUpd N w W → StrsAt W N a [s]) := fun W hW => ha.dupd hW
  have hfo : Hid (∀ W, DiskAt W N d S → Calls Try.prog 42 #[.pointer (some ⟨d, 0, none⟩), .string s] W fun e w' => e = .returned (.int .i64 (foundE S s)) ∧ Below W.heap.size W w') := fun W hW => found_some N d S s hs W hW
  have hst : Hid (∀ W, DiskAt W N d S → Calls Try.prog 50 #[.pointer (some ⟨d, 0, none⟩)] W fun e w' => e = .returned (.int .i64 (stepE S)) ∧ DiskAt w' N d (stepS S) ∧ DUpd N W w') := fun W hW => step_some N d S W hW
  have HD : Hid (DiskAt w N d S) := h
  obtain ⟨g, o, rfl, hc⟩ : ∃ g o, a = some ⟨g, o, none⟩ ∧ w.cell? ⟨g, o, none⟩ = some (.string s) := by
    rcases ha with h0 | ⟨g, o, e, _, _, hc⟩
    · cases h0
    · exact ⟨g, o, e, hc 0 s rfl⟩
  by_cases h0 : foundE S s = 0
  · have hdo' : Hid (∀ W S', DiskAt W N d S' → S'.fs = S.fs → DUpd N w W → Calls Try.prog 52 #[.string s, .pointer (some ⟨bx, 0, none⟩)] W fun e w' => e = .returned (.tuple #[]) ∧ DiskAt w' N d (T S') ∧ DUpd N W w') := hdo h0
    rw [h0] at hfo
    by_cases h1 : stepE S = 0
    · have e1 : eachE S s = 0 := by rw [eachE, if_pos h0, h1]
      have e2 : eachS T S s = T (stepS S) := by rw [eachS, if_pos h0, if_pos h1]
      rw [e1, e2]
      rw [h1] at hst
      clear hdo h ha h0 h1 e1 e2
      go_enter Try.func51, Try.ntmps51
      go_wp2_with fail
      go_loopw [15] (fun c wr => (c = .int .i64 0 ∧ wr = w) ∨ (c = .int .i64 1 ∧ DiskAt wr N d (T (stepS S)) ∧ DUpd N w wr)) (fun c _ => 1 - (intOf c).toNat)
      case atStart => exact .inl ⟨rfl, rfl⟩
      case round =>
        rcases hrel with ⟨rfl, rfl⟩ | ⟨rfl, hD, hU⟩
        · go_wp2_with (first
            | (go_at_call 42; refine (hfo.out _ HD.out).mono ?_; rintro e w2 ⟨rfl, b2⟩; have d2 := HD.out.below b2; have u2 : DUpd N wr w2 := DUpd.ofBelow b2)
            | (go_at_call 50; refine (hst.out _ d2).mono ?_; rintro e w3 ⟨rfl, d3, u3⟩)
            | (go_at_call 52; refine (hdo'.out _ (stepS S) d3 (stepS_fs S) (u2.trans u3)).mono ?_; rintro e w4 ⟨rfl, d4, u4⟩))
          exact ⟨.inr ⟨rfl, d4, (u2.trans u3).trans u4⟩, by simp⟩
        · go_wp2
          go_ret
          exact ⟨rfl, hD, hU⟩
    · have e1 : eachE S s = stepE S := by rw [eachE, if_pos h0]
      have e2 : eachS T S s = stepS S := by rw [eachS, if_pos h0, if_neg h1]
      rw [e1, e2]
      have hne : ((stepE S) == 0) = false := by simpa using h1
      generalize stepE S = E at *
      clear hdo h ha h0 h1 e1 e2
      go_enter Try.func51, Try.ntmps51
      go_wp2_with fail
      go_loopw [15] (fun c wr => c = .int .i64 0 ∧ wr = w) (fun c _ => 0)
      case atStart => exact ⟨rfl, rfl⟩
      case round =>
        obtain ⟨rfl, rfl⟩ := hrel
        go_wp2_with (first
          | (go_at_call 42; refine (hfo.out _ HD.out).mono ?_; rintro e w2 ⟨rfl, b2⟩; have d2 := HD.out.below b2; have u2 : DUpd N wr w2 := DUpd.ofBelow b2)
          | (go_at_call 50; refine (hst.out _ d2).mono ?_; rintro e w3 ⟨rfl, d3, u3⟩))
        go_ret
        exact ⟨rfl, d3, u2.trans u3⟩
  · have e1 : eachE S s = foundE S s := by rw [eachE, if_neg h0]
    have e2 : eachS T S s = S := by rw [eachS, if_neg h0]
    rw [e1, e2]
    have hne : ((foundE S s) == 0) = false := by simpa using h0
    generalize foundE S s = E at *
    clear hdo h ha h0 e1 e2
    go_enter Try.func51, Try.ntmps51
    go_wp2_with fail
    go_loopw [15] (fun c wr => c = .int .i64 0 ∧ wr = w) (fun c _ => 0)
    case atStart => exact ⟨rfl, rfl⟩
    case round =>
      obtain ⟨rfl, rfl⟩ := hrel
      go_wp2_with (first
        | (go_at_call 42; refine (hfo.out _ HD.out).mono ?_; rintro e w2 ⟨rfl, b2⟩; have d2 := HD.out.below b2; have u2 : DUpd N wr w2 := DUpd.ofBelow b2))
      go_ret
      exact ⟨rfl, d2, u2⟩

set_option maxHeartbeats 1600000 in
set_option maxRecDepth 100000 in
theorem each_remove (N d : Nat) (S : Dk) (T : Dk → Dk) (s : ByteArray) (hs : s.size < 9223372036854775808) (a : Option Addr) (c : Nat) (bx : Nat) (w : World) (h : DiskAt w N d S) (ha : StrsAt w N a [s])
    (hdo : foundE S s = 0 → ∀ W S', DiskAt W N d S' → S'.fs = S.fs → DUpd N w W → Calls Try.prog 54 #[.string s, .pointer (some ⟨bx, 0, none⟩)] W fun e w' => e = .returned (.tuple #[]) ∧ DiskAt w' N d (T S') ∧ DUpd N W w') :
    Calls Try.prog 51 #[.pointer (some ⟨d, 0, none⟩), .slice a 1 c, .func (.func 54) #[] #[.pointer (some ⟨bx, 0, none⟩)]] w fun e w' => e = .returned (.int .i64 (eachE S s)) ∧ DiskAt w' N d (eachS T S s) ∧ DUpd N w w' := by
  have HA : Hid (∀ W, DUpd N w W → StrsAt W N a [s]) := fun W hW => ha.dupd hW
  have hfo : Hid (∀ W, DiskAt W N d S → Calls Try.prog 42 #[.pointer (some ⟨d, 0, none⟩), .string s] W fun e w' => e = .returned (.int .i64 (foundE S s)) ∧ Below W.heap.size W w') := fun W hW => found_some N d S s hs W hW
  have hst : Hid (∀ W, DiskAt W N d S → Calls Try.prog 50 #[.pointer (some ⟨d, 0, none⟩)] W fun e w' => e = .returned (.int .i64 (stepE S)) ∧ DiskAt w' N d (stepS S) ∧ DUpd N W w') := fun W hW => step_some N d S W hW
  have HD : Hid (DiskAt w N d S) := h
  obtain ⟨g, o, rfl, hc⟩ : ∃ g o, a = some ⟨g, o, none⟩ ∧ w.cell? ⟨g, o, none⟩ = some (.string s) := by
    rcases ha with h0 | ⟨g, o, e, _, _, hc⟩
    · cases h0
    · exact ⟨g, o, e, hc 0 s rfl⟩
  by_cases h0 : foundE S s = 0
  · have hdo' : Hid (∀ W S', DiskAt W N d S' → S'.fs = S.fs → DUpd N w W → Calls Try.prog 54 #[.string s, .pointer (some ⟨bx, 0, none⟩)] W fun e w' => e = .returned (.tuple #[]) ∧ DiskAt w' N d (T S') ∧ DUpd N W w') := hdo h0
    rw [h0] at hfo
    by_cases h1 : stepE S = 0
    · have e1 : eachE S s = 0 := by rw [eachE, if_pos h0, h1]
      have e2 : eachS T S s = T (stepS S) := by rw [eachS, if_pos h0, if_pos h1]
      rw [e1, e2]
      rw [h1] at hst
      clear hdo h ha h0 h1 e1 e2
      go_enter Try.func51, Try.ntmps51
      go_wp2_with fail
      go_loopw [15] (fun c wr => (c = .int .i64 0 ∧ wr = w) ∨ (c = .int .i64 1 ∧ DiskAt wr N d (T (stepS S)) ∧ DUpd N w wr)) (fun c _ => 1 - (intOf c).toNat)
      case atStart => exact .inl ⟨rfl, rfl⟩
      case round =>
        rcases hrel with ⟨rfl, rfl⟩ | ⟨rfl, hD, hU⟩
        · go_wp2_with (first
            | (go_at_call 42; refine (hfo.out _ HD.out).mono ?_; rintro e w2 ⟨rfl, b2⟩; have d2 := HD.out.below b2; have u2 : DUpd N wr w2 := DUpd.ofBelow b2)
            | (go_at_call 50; refine (hst.out _ d2).mono ?_; rintro e w3 ⟨rfl, d3, u3⟩)
            | (go_at_call 54; refine (hdo'.out _ (stepS S) d3 (stepS_fs S) (u2.trans u3)).mono ?_; rintro e w4 ⟨rfl, d4, u4⟩))
          exact ⟨.inr ⟨rfl, d4, (u2.trans u3).trans u4⟩, by simp⟩
        · go_wp2
          go_ret
          exact ⟨rfl, hD, hU⟩
    · have e1 : eachE S s = stepE S := by rw [eachE, if_pos h0]
      have e2 : eachS T S s = stepS S := by rw [eachS, if_pos h0, if_neg h1]
      rw [e1, e2]
      have hne : ((stepE S) == 0) = false := by simpa using h1
      generalize stepE S = E at *
      clear hdo h ha h0 h1 e1 e2
      go_enter Try.func51, Try.ntmps51
      go_wp2_with fail
      go_loopw [15] (fun c wr => c = .int .i64 0 ∧ wr = w) (fun c _ => 0)
      case atStart => exact ⟨rfl, rfl⟩
      case round =>
        obtain ⟨rfl, rfl⟩ := hrel
        go_wp2_with (first
          | (go_at_call 42; refine (hfo.out _ HD.out).mono ?_; rintro e w2 ⟨rfl, b2⟩; have d2 := HD.out.below b2; have u2 : DUpd N wr w2 := DUpd.ofBelow b2)
          | (go_at_call 50; refine (hst.out _ d2).mono ?_; rintro e w3 ⟨rfl, d3, u3⟩))
        go_ret
        exact ⟨rfl, d3, u2.trans u3⟩
  · have e1 : eachE S s = foundE S s := by rw [eachE, if_neg h0]
    have e2 : eachS T S s = S := by rw [eachS, if_neg h0]
    rw [e1, e2]
    have hne : ((foundE S s) == 0) = false := by simpa using h0
    generalize foundE S s = E at *
    clear hdo h ha h0 e1 e2
    go_enter Try.func51, Try.ntmps51
    go_wp2_with fail
    go_loopw [15] (fun c wr => c = .int .i64 0 ∧ wr = w) (fun c _ => 0)
    case atStart => exact ⟨rfl, rfl⟩
    case round =>
      obtain ⟨rfl, rfl⟩ := hrel
      go_wp2_with (first
        | (go_at_call 42; refine (hfo.out _ HD.out).mono ?_; rintro e w2 ⟨rfl, b2⟩; have d2 := HD.out.below b2; have u2 : DUpd N wr w2 := DUpd.ofBelow b2))
      go_ret
      exact ⟨rfl, d2, u2⟩

set_option maxHeartbeats 1600000 in
set_option maxRecDepth 100000 in
theorem each_move (N d : Nat) (S : Dk) (T : Dk → Dk) (s : ByteArray) (hs : s.size < 9223372036854775808) (a : Option Addr) (c : Nat) (bx bf bt : Nat) (w : World) (h : DiskAt w N d S) (ha : StrsAt w N a [s])
    (hdo : foundE S s = 0 → ∀ W S', DiskAt W N d S' → S'.fs = S.fs → DUpd N w W → Calls Try.prog 53 #[.string s, .pointer (some ⟨bx, 0, none⟩), .pointer (some ⟨bf, 0, none⟩), .pointer (some ⟨bt, 0, none⟩)] W fun e w' => e = .returned (.tuple #[]) ∧ DiskAt w' N d (T S') ∧ DUpd N W w') :
    Calls Try.prog 51 #[.pointer (some ⟨d, 0, none⟩), .slice a 1 c, .func (.func 53) #[] #[.pointer (some ⟨bx, 0, none⟩), .pointer (some ⟨bf, 0, none⟩), .pointer (some ⟨bt, 0, none⟩)]] w fun e w' => e = .returned (.int .i64 (eachE S s)) ∧ DiskAt w' N d (eachS T S s) ∧ DUpd N w w' := by
  have HA : Hid (∀ W, DUpd N w W → StrsAt W N a [s]) := fun W hW => ha.dupd hW
  have hfo : Hid (∀ W, DiskAt W N d S → Calls Try.prog 42 #[.pointer (some ⟨d, 0, none⟩), .string s] W fun e w' => e = .returned (.int .i64 (foundE S s)) ∧ Below W.heap.size W w') := fun W hW => found_some N d S s hs W hW
  have hst : Hid (∀ W, DiskAt W N d S → Calls Try.prog 50 #[.pointer (some ⟨d, 0, none⟩)] W fun e w' => e = .returned (.int .i64 (stepE S)) ∧ DiskAt w' N d (stepS S) ∧ DUpd N W w') := fun W hW => step_some N d S W hW
  have HD : Hid (DiskAt w N d S) := h
  obtain ⟨g, o, rfl, hc⟩ : ∃ g o, a = some ⟨g, o, none⟩ ∧ w.cell? ⟨g, o, none⟩ = some (.string s) := by
    rcases ha with h0 | ⟨g, o, e, _, _, hc⟩
    · cases h0
    · exact ⟨g, o, e, hc 0 s rfl⟩
  by_cases h0 : foundE S s = 0
  · have hdo' : Hid (∀ W S', DiskAt W N d S' → S'.fs = S.fs → DUpd N w W → Calls Try.prog 53 #[.string s, .pointer (some ⟨bx, 0, none⟩), .pointer (some ⟨bf, 0, none⟩), .pointer (some ⟨bt, 0, none⟩)] W fun e w' => e = .returned (.tuple #[]) ∧ DiskAt w' N d (T S') ∧ DUpd N W w') := hdo h0
    rw [h0] at hfo
    by_cases h1 : stepE S = 0
    · have e1 : eachE S s = 0 := by rw [eachE, if_pos h0, h1]
      have e2 : eachS T S s = T (stepS S) := by rw [eachS, if_pos h0, if_pos h1]
      rw [e1, e2]
      rw [h1] at hst
      clear hdo h ha h0 h1 e1 e2
      go_enter Try.func51, Try.ntmps51
      go_wp2_with fail
      go_loopw [15] (fun c wr => (c = .int .i64 0 ∧ wr = w) ∨ (c = .int .i64 1 ∧ DiskAt wr N d (T (stepS S)) ∧ DUpd N w wr)) (fun c _ => 1 - (intOf c).toNat)
      case atStart => exact .inl ⟨rfl, rfl⟩
      case round =>
        rcases hrel with ⟨rfl, rfl⟩ | ⟨rfl, hD, hU⟩
        · go_wp2_with (first
            | (go_at_call 42; refine (hfo.out _ HD.out).mono ?_; rintro e w2 ⟨rfl, b2⟩; have d2 := HD.out.below b2; have u2 : DUpd N wr w2 := DUpd.ofBelow b2)
            | (go_at_call 50; refine (hst.out _ d2).mono ?_; rintro e w3 ⟨rfl, d3, u3⟩)
            | (go_at_call 53; refine (hdo'.out _ (stepS S) d3 (stepS_fs S) (u2.trans u3)).mono ?_; rintro e w4 ⟨rfl, d4, u4⟩))
          exact ⟨.inr ⟨rfl, d4, (u2.trans u3).trans u4⟩, by simp⟩
        · go_wp2
          go_ret
          exact ⟨rfl, hD, hU⟩
    · have e1 : eachE S s = stepE S := by rw [eachE, if_pos h0]
      have e2 : eachS T S s = stepS S := by rw [eachS, if_pos h0, if_neg h1]
      rw [e1, e2]
      have hne : ((stepE S) == 0) = false := by simpa using h1
      generalize stepE S = E at *
      clear hdo h ha h0 h1 e1 e2
      go_enter Try.func51, Try.ntmps51
      go_wp2_with fail
      go_loopw [15] (fun c wr => c = .int .i64 0 ∧ wr = w) (fun c _ => 0)
      case atStart => exact ⟨rfl, rfl⟩
      case round =>
        obtain ⟨rfl, rfl⟩ := hrel
        go_wp2_with (first
          | (go_at_call 42; refine (hfo.out _ HD.out).mono ?_; rintro e w2 ⟨rfl, b2⟩; have d2 := HD.out.below b2; have u2 : DUpd N wr w2 := DUpd.ofBelow b2)
          | (go_at_call 50; refine (hst.out _ d2).mono ?_; rintro e w3 ⟨rfl, d3, u3⟩))
        go_ret
        exact ⟨rfl, d3, u2.trans u3⟩
  · have e1 : eachE S s = foundE S s := by rw [eachE, if_neg h0]
    have e2 : eachS T S s = S := by rw [eachS, if_neg h0]
    rw [e1, e2]
    have hne : ((foundE S s) == 0) = false := by simpa using h0
    generalize foundE S s = E at *
    clear hdo h ha h0 e1 e2
    go_enter Try.func51, Try.ntmps51
    go_wp2_with fail
    go_loopw [15] (fun c wr => c = .int .i64 0 ∧ wr = w) (fun c _ => 0)
    case atStart => exact ⟨rfl, rfl⟩
    case round =>
      obtain ⟨rfl, rfl⟩ := hrel
      go_wp2_with (first
        | (go_at_call 42; refine (hfo.out _ HD.out).mono ?_; rintro e w2 ⟨rfl, b2⟩; have d2 := HD.out.below b2; have u2 : DUpd N wr w2 := DUpd.ofBelow b2))
      go_ret
      exact ⟨rfl, d2, u2⟩
end Go.Proofs.Ythaknjbcmflegaa
