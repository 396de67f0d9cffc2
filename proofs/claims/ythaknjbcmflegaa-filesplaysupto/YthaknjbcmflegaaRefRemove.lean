/- The document's disk: Remove, of several names. -/
import Derived.Test.YthaknjbcmflegaaRefSync
namespace Go.Proofs.Ythaknjbcmflegaa
open Go.RowKit Go.Maps Go.WideMaps

set_option maxHeartbeats 3200000 in
set_option maxRecDepth 100000 in
theorem rremove_all (N r : Nat) (S : Dk) (ss : List ByteArray) (hss : ∀ s ∈ ss, s.size < 9223372036854775808) (hl : ss.length < 9223372036854775808) (a : Option Addr) (c : Nat) (w : World) (h : RefAt w N r S) (ha : LowStrs w N a ss) :
    Calls Try.prog 28 #[.pointer (some ⟨r, 0, none⟩), .slice a ss.length c] w fun e w' => e = .returned (.int .i64 (eachR dropS S ss).1) ∧ RefAt w' N r (eachR dropS S ss).2 ∧ RUpd N w w' := by
  have hNw := h.lt
  have HA : Hid (∀ W, RUpd N w W → LowStrs W N a ss) := fun W hW => ha.below (hW.below (by omega))
  have HSS : Hid (∀ s ∈ ss, s.size < 9223372036854775808) := hss
  obtain ⟨m, hm⟩ : ∃ m, ss.length = m := ⟨_, rfl⟩
  have M : Hid (ss.length = m) := hm
  obtain ⟨X, hX⟩ : ∃ X, eachR dropS S ss = X := ⟨_, rfl⟩
  have HX : Hid (eachR dropS S ss = X) := hX
  have H0 : Hid (RefAt w N r S) := h
  rw [hX, hm]
  rw [hm] at hl
  clear hss hm hX ha h hNw
  go_enter Try.func28, Try.ntmps28
  go_wp2_with fail
  go_loopw [5] (fun c wr => ∃ (k : Nat) (S' : Dk), k ≤ m ∧ c = .int .i64 (k : Int) ∧ Hid (RefAt wr N r S') ∧ Hid (RUpd N w wr) ∧ Hid (eachR dropS S' (ss.drop k) = X)) (fun c _ => m - (intOf c).toNat)
  case atStart => exact ⟨0, S, by omega, rfl, H0, RUpd.refl _ _, HX.out⟩
  case round =>
    obtain ⟨k, S', hk, rfl, hR, hU, hE⟩ := hrel
    by_cases hlt : k < m
    · obtain ⟨s, hs⟩ : ∃ s, ss[k]? = some s := ⟨ss[k]'(by have := M.out; omega), List.getElem?_eq_getElem _⟩
      have hsz := HSS.out s (List.mem_of_getElem? hs)
      obtain ⟨g, o, rfl, cs⟩ : ∃ g o, a = some ⟨g, o, none⟩ ∧ wr.cell? ⟨g, o + k, none⟩ = some (.string s) := by
        rcases HA.out wr hU.out with h0 | ⟨g, o, e, _, hc⟩
        · have := M.out; omega
        · exact ⟨g, o, e, hc k s hs⟩
      have hcs : Hid (∀ W, RUpd N w W → W.cell? ⟨g, o + k, none⟩ = some (.string s)) := fun W hW => by
        rcases HA.out W hW with h0 | ⟨g', o', e, _, hc⟩
        · have := M.out; omega
        · cases e; exact hc k s hs
      rw [drop_atB hs] at hE
      have hask : Hid (Calls Try.prog 44 #[.pointer (some ⟨r, 0, none⟩), .string s, .bool true] wr fun e w' => e = .returned (.int .i64 (foundE S' s)) ∧ w' = wr) := rask_some N r S' s hsz true wr hR.out
      by_cases h0 : foundE S' s = 0
      · have hst : Hid (Calls Try.prog 55 #[.pointer (some ⟨r, 0, none⟩)] wr fun e w' => e = .returned (.bool (stepB S')) ∧ RefAt w' N r (stepS S') ∧ RUpd N wr w') := rstep_some N r S' wr hR.out
        rw [h0] at hask
        by_cases h1 : stepE S' = 0
        · rw [eachR_on h0 h1] at hE
          rw [(stepB_of S').1 h1] at hst
          have hgo : Hid (∀ W, RefAt W N r (stepS S') → Calls Try.prog 56 #[.pointer (some ⟨r, 0, none⟩), .string s] W fun e w' => e = .returned (.tuple #[]) ∧ RefAt w' N r (dropS (stepS S') s.data.toList) ∧ RUpd N W w') := fun W hW => (rgone_some N r (stepS S') s W hW).mono fun e w' ⟨k1, k2, k3, _⟩ => ⟨k1, k2, k3⟩
          generalize dropS (stepS S') s.data.toList = S2 at *
          generalize stepS S' = S1 at *
          clear h0 h1
          go_wp2_with (first
            | (go_at_call 56; refine (hgo.out _ h3).mono ?_; rintro e w4 ⟨rfl, h4, u4⟩)
            | (go_at_call 44; refine hask.out.mono ?_; rintro e w2 ⟨rfl, rfl⟩)
            | (go_at_call 55; refine hst.out.mono ?_; rintro e w3 ⟨rfl, h3, u3⟩; have cs3 := hcs.out w3 (hU.out.trans u3)))
          exact ⟨⟨k + 1, S2, by omega, rfl, h4, (hU.out.trans u3).trans u4, hE⟩, by simp; omega⟩
        · rw [eachR_out h0 h1] at hE
          obtain ⟨b1, b2⟩ := (stepB_of S').2 h1
          rw [b1] at hst
          rw [b2] at hE
          have hx : X = (23, stepS S') := hE.out.symm
          generalize stepS S' = S1 at *
          clear h0 h1 b1 b2 hE
          go_wp2_with (first
            | (go_at_call 44; refine hask.out.mono ?_; rintro e w2 ⟨rfl, rfl⟩)
            | (go_at_call 55; refine hst.out.mono ?_; rintro e w3 ⟨rfl, h3, u3⟩))
          go_ret
          rw [hx]
          exact ⟨rfl, h3, hU.out.trans u3⟩
      · rw [eachR_none h0] at hE
        have hx : X = (foundE S' s, S') := hE.out.symm
        have hne : ((foundE S' s) == 0) = false := by simpa using h0
        have hne2 : ((foundE S' s) != 0) = true := by simpa using h0
        generalize foundE S' s = E at *
        clear h0 hE
        go_wp2_with (go_at_call 44; refine hask.out.mono ?_; rintro e w2 ⟨rfl, rfl⟩)
        go_ret
        rw [hx]
        exact ⟨rfl, hR.out, hU.out⟩
    · obtain rfl : k = m := by omega
      have hx : X = (0, S') := by
        have := hE.out
        rw [List.drop_eq_nil_of_le (by have := M.out; omega)] at this
        exact this.symm
      clear hE
      go_wp2
      go_ret
      rw [hx]
      exact ⟨rfl, hR.out, hU.out⟩
end Go.Proofs.Ythaknjbcmflegaa
