/- Sync and Remove of several files. -/
import Derived.Test.YthaknjbcmflegaaRefSync
namespace Go.Proofs.Ythaknjbcmflegaa
open Go.RowKit Go.Maps Go.WideMaps

set_option maxHeartbeats 1600000 in
set_option maxRecDepth 100000 in
theorem each_sync_all (N d : Nat) (S : Dk) (ss : List ByteArray) (hss : ∀ s ∈ ss, s.size < 9223372036854775808) (hl : ss.length < 9223372036854775808) (a : Option Addr) (c : Nat) (bx : Nat) (w : World) (h : DiskAt w N d S) (ha : StrsAt w N a ss)
    (hdo : ∀ W S' s f, DiskAt W N d S' → nameOk s = true → get S'.fs s.data.toList = some f → DUpd N w W → Calls Try.prog 52 #[.string s, .pointer (some ⟨bx, 0, none⟩)] W fun e w' => e = .returned (.tuple #[]) ∧ DiskAt w' N d (syncS S' s.data.toList) ∧ DUpd N W w') :
    Calls Try.prog 51 #[.pointer (some ⟨d, 0, none⟩), .slice a ss.length c, .func (.func 52) #[] #[.pointer (some ⟨bx, 0, none⟩)]] w fun e w' => e = .returned (.int .i64 (eachR syncS S ss).1) ∧ DiskAt w' N d (eachR syncS S ss).2 ∧ DUpd N w w' := by
  have HA : Hid (∀ W, DUpd N w W → StrsAt W N a ss) := fun W hW => ha.dupd hW
  have HSS : Hid (∀ s ∈ ss, s.size < 9223372036854775808) := hss
  have HDO : Hid (∀ W S' s f, DiskAt W N d S' → nameOk s = true → get S'.fs s.data.toList = some f → DUpd N w W → Calls Try.prog 52 #[.string s, .pointer (some ⟨bx, 0, none⟩)] W fun e w' => e = .returned (.tuple #[]) ∧ DiskAt w' N d (syncS S' s.data.toList) ∧ DUpd N W w') := hdo
  obtain ⟨m, hm⟩ : ∃ m, ss.length = m := ⟨_, rfl⟩
  have M : Hid (ss.length = m) := hm
  obtain ⟨X, hX⟩ : ∃ X, eachR syncS S ss = X := ⟨_, rfl⟩
  have HX : Hid (eachR syncS S ss = X) := hX
  have H0 : Hid (DiskAt w N d S) := h
  rw [hX, hm]
  rw [hm] at hl
  clear hss hm hX ha h hdo
  go_enter Try.func51, Try.ntmps51
  go_wp2_with fail
  go_loopw [15] (fun c wr => ∃ (k : Nat) (S' : Dk), k ≤ m ∧ c = .int .i64 (k : Int) ∧ Hid (DiskAt wr N d S') ∧ Hid (DUpd N w wr) ∧ Hid (eachR syncS S' (ss.drop k) = X)) (fun c _ => m - (intOf c).toNat)
  case atStart => exact ⟨0, S, by omega, rfl, H0, DUpd.refl _ _, HX.out⟩
  case round =>
    obtain ⟨k, S', hk, rfl, hR, hU, hE⟩ := hrel
    by_cases hlt : k < m
    · obtain ⟨s, hs⟩ : ∃ s, ss[k]? = some s := ⟨ss[k]'(by have := M.out; omega), List.getElem?_eq_getElem _⟩
      have hsz := HSS.out s (List.mem_of_getElem? hs)
      obtain ⟨g, o, rfl, cs⟩ : ∃ g o, a = some ⟨g, o, none⟩ ∧ wr.cell? ⟨g, o + k, none⟩ = some (.string s) := by
        rcases HA.out wr hU.out with h0 | ⟨g, o, e, _, _, hc⟩
        · have := M.out; omega
        · exact ⟨g, o, e, hc k s hs⟩
      rw [drop_atB hs] at hE
      have hfo : Hid (Calls Try.prog 42 #[.pointer (some ⟨d, 0, none⟩), .string s] wr fun e w' => e = .returned (.int .i64 (foundE S' s)) ∧ Below wr.heap.size wr w') := found_some N d S' s hsz wr hR.out
      have hst : Hid (∀ W, DiskAt W N d S' → Calls Try.prog 50 #[.pointer (some ⟨d, 0, none⟩)] W fun e w' => e = .returned (.int .i64 (stepE S')) ∧ DiskAt w' N d (stepS S') ∧ DUpd N W w') := fun W hW => step_some N d S' W hW
      by_cases h0 : foundE S' s = 0
      · rw [h0] at hfo
        by_cases h1 : stepE S' = 0
        · rw [eachR_on h0 h1] at hE
          rw [h1] at hst
          obtain ⟨_, hok, f, hf⟩ := found_zero h0
          have hdo' : Hid (∀ W, DiskAt W N d (stepS S') → DUpd N w W → Calls Try.prog 52 #[.string s, .pointer (some ⟨bx, 0, none⟩)] W fun e w' => e = .returned (.tuple #[]) ∧ DiskAt w' N d (syncS (stepS S') s.data.toList) ∧ DUpd N W w') := fun W hW hUW => HDO.out W (stepS S') s f hW hok (by rw [stepS_fs]; exact hf) hUW
          generalize syncS (stepS S') s.data.toList = S2 at *
          generalize stepS S' = S1 at *
          clear h0 h1 hf hok HDO
          go_wp2_with (first
            | (go_at_call 52; refine (hdo'.out _ d3 (hU.out.trans (u2.trans u3))).mono ?_; rintro e w4 ⟨rfl, d4, u4⟩)
            | (go_at_call 50; refine (hst.out _ d2).mono ?_; rintro e w3 ⟨rfl, d3, u3⟩)
            | (go_at_call 42; refine hfo.out.mono ?_; rintro e w2 ⟨rfl, b2⟩; have d2 := hR.out.below b2; have u2 : DUpd N wr w2 := DUpd.ofBelow b2))
          exact ⟨⟨k + 1, S2, by omega, rfl, d4, hU.out.trans ((u2.trans u3).trans u4), hE⟩, by simp; omega⟩
        · rw [eachR_out h0 h1] at hE
          have hx : X = (stepE S', stepS S') := hE.out.symm
          have hne : ((stepE S') == 0) = false := by simpa using h1
          have hne2 : ((stepE S') != 0) = true := by simpa using h1
          generalize stepS S' = S1 at *
          generalize stepE S' = E at *
          clear h0 h1 hE HDO
          go_wp2_with (first
            | (go_at_call 50; refine (hst.out _ d2).mono ?_; rintro e w3 ⟨rfl, d3, u3⟩)
            | (go_at_call 42; refine hfo.out.mono ?_; rintro e w2 ⟨rfl, b2⟩; have d2 := hR.out.below b2; have u2 : DUpd N wr w2 := DUpd.ofBelow b2))
          go_ret
          rw [hx]
          exact ⟨rfl, d3, hU.out.trans (u2.trans u3)⟩
      · rw [eachR_none h0] at hE
        have hx : X = (foundE S' s, S') := hE.out.symm
        have hne : ((foundE S' s) == 0) = false := by simpa using h0
        have hne2 : ((foundE S' s) != 0) = true := by simpa using h0
        generalize foundE S' s = E at *
        clear h0 hE HDO
        go_wp2_with (first
          | (go_at_call 42; refine hfo.out.mono ?_; rintro e w2 ⟨rfl, b2⟩; have d2 := hR.out.below b2; have u2 : DUpd N wr w2 := DUpd.ofBelow b2))
        go_ret
        rw [hx]
        exact ⟨rfl, d2, hU.out.trans u2⟩
    · obtain rfl : k = m := by omega
      have hx : X = (0, S') := by
        have := hE.out
        rw [List.drop_eq_nil_of_le (by have := M.out; omega)] at this
        exact this.symm
      clear hE HDO
      go_wp2
      go_ret
      rw [hx]
      exact ⟨rfl, hR.out, hU.out⟩

set_option maxHeartbeats 1600000 in
set_option maxRecDepth 100000 in
theorem each_remove_all (N d : Nat) (S : Dk) (ss : List ByteArray) (hss : ∀ s ∈ ss, s.size < 9223372036854775808) (hl : ss.length < 9223372036854775808) (a : Option Addr) (c : Nat) (bx : Nat) (w : World) (h : DiskAt w N d S) (ha : StrsAt w N a ss)
    (hdo : ∀ W S' s f, DiskAt W N d S' → nameOk s = true → get S'.fs s.data.toList = some f → DUpd N w W → Calls Try.prog 54 #[.string s, .pointer (some ⟨bx, 0, none⟩)] W fun e w' => e = .returned (.tuple #[]) ∧ DiskAt w' N d (dropS S' s.data.toList) ∧ DUpd N W w') :
    Calls Try.prog 51 #[.pointer (some ⟨d, 0, none⟩), .slice a ss.length c, .func (.func 54) #[] #[.pointer (some ⟨bx, 0, none⟩)]] w fun e w' => e = .returned (.int .i64 (eachR dropS S ss).1) ∧ DiskAt w' N d (eachR dropS S ss).2 ∧ DUpd N w w' := by
  have HA : Hid (∀ W, DUpd N w W → StrsAt W N a ss) := fun W hW => ha.dupd hW
  have HSS : Hid (∀ s ∈ ss, s.size < 9223372036854775808) := hss
  have HDO : Hid (∀ W S' s f, DiskAt W N d S' → nameOk s = true → get S'.fs s.data.toList = some f → DUpd N w W → Calls Try.prog 54 #[.string s, .pointer (some ⟨bx, 0, none⟩)] W fun e w' => e = .returned (.tuple #[]) ∧ DiskAt w' N d (dropS S' s.data.toList) ∧ DUpd N W w') := hdo
  obtain ⟨m, hm⟩ : ∃ m, ss.length = m := ⟨_, rfl⟩
  have M : Hid (ss.length = m) := hm
  obtain ⟨X, hX⟩ : ∃ X, eachR dropS S ss = X := ⟨_, rfl⟩
  have HX : Hid (eachR dropS S ss = X) := hX
  have H0 : Hid (DiskAt w N d S) := h
  rw [hX, hm]
  rw [hm] at hl
  clear hss hm hX ha h hdo
  go_enter Try.func51, Try.ntmps51
  go_wp2_with fail
  go_loopw [15] (fun c wr => ∃ (k : Nat) (S' : Dk), k ≤ m ∧ c = .int .i64 (k : Int) ∧ Hid (DiskAt wr N d S') ∧ Hid (DUpd N w wr) ∧ Hid (eachR dropS S' (ss.drop k) = X)) (fun c _ => m - (intOf c).toNat)
  case atStart => exact ⟨0, S, by omega, rfl, H0, DUpd.refl _ _, HX.out⟩
  case round =>
    obtain ⟨k, S', hk, rfl, hR, hU, hE⟩ := hrel
    by_cases hlt : k < m
    · obtain ⟨s, hs⟩ : ∃ s, ss[k]? = some s := ⟨ss[k]'(by have := M.out; omega), List.getElem?_eq_getElem _⟩
      have hsz := HSS.out s (List.mem_of_getElem? hs)
      obtain ⟨g, o, rfl, cs⟩ : ∃ g o, a = some ⟨g, o, none⟩ ∧ wr.cell? ⟨g, o + k, none⟩ = some (.string s) := by
        rcases HA.out wr hU.out with h0 | ⟨g, o, e, _, _, hc⟩
        · have := M.out; omega
        · exact ⟨g, o, e, hc k s hs⟩
      rw [drop_atB hs] at hE
      have hfo : Hid (Calls Try.prog 42 #[.pointer (some ⟨d, 0, none⟩), .string s] wr fun e w' => e = .returned (.int .i64 (foundE S' s)) ∧ Below wr.heap.size wr w') := found_some N d S' s hsz wr hR.out
      have hst : Hid (∀ W, DiskAt W N d S' → Calls Try.prog 50 #[.pointer (some ⟨d, 0, none⟩)] W fun e w' => e = .returned (.int .i64 (stepE S')) ∧ DiskAt w' N d (stepS S') ∧ DUpd N W w') := fun W hW => step_some N d S' W hW
      by_cases h0 : foundE S' s = 0
      · rw [h0] at hfo
        by_cases h1 : stepE S' = 0
        · rw [eachR_on h0 h1] at hE
          rw [h1] at hst
          obtain ⟨_, hok, f, hf⟩ := found_zero h0
          have hdo' : Hid (∀ W, DiskAt W N d (stepS S') → DUpd N w W → Calls Try.prog 54 #[.string s, .pointer (some ⟨bx, 0, none⟩)] W fun e w' => e = .returned (.tuple #[]) ∧ DiskAt w' N d (dropS (stepS S') s.data.toList) ∧ DUpd N W w') := fun W hW hUW => HDO.out W (stepS S') s f hW hok (by rw [stepS_fs]; exact hf) hUW
          generalize dropS (stepS S') s.data.toList = S2 at *
          generalize stepS S' = S1 at *
          clear h0 h1 hf hok HDO
          go_wp2_with (first
            | (go_at_call 54; refine (hdo'.out _ d3 (hU.out.trans (u2.trans u3))).mono ?_; rintro e w4 ⟨rfl, d4, u4⟩)
            | (go_at_call 50; refine (hst.out _ d2).mono ?_; rintro e w3 ⟨rfl, d3, u3⟩)
            | (go_at_call 42; refine hfo.out.mono ?_; rintro e w2 ⟨rfl, b2⟩; have d2 := hR.out.below b2; have u2 : DUpd N wr w2 := DUpd.ofBelow b2))
          exact ⟨⟨k + 1, S2, by omega, rfl, d4, hU.out.trans ((u2.trans u3).trans u4), hE⟩, by simp; omega⟩
        · rw [eachR_out h0 h1] at hE
          have hx : X = (stepE S', stepS S') := hE.out.symm
          have hne : ((stepE S') == 0) = false := by simpa using h1
          have hne2 : ((stepE S') != 0) = true := by simpa using h1
          generalize stepS S' = S1 at *
          generalize stepE S' = E at *
          clear h0 h1 hE HDO
          go_wp2_with (first
            | (go_at_call 50; refine (hst.out _ d2).mono ?_; rintro e w3 ⟨rfl, d3, u3⟩)
            | (go_at_call 42; refine hfo.out.mono ?_; rintro e w2 ⟨rfl, b2⟩; have d2 := hR.out.below b2; have u2 : DUpd N wr w2 := DUpd.ofBelow b2))
          go_ret
          rw [hx]
          exact ⟨rfl, d3, hU.out.trans (u2.trans u3)⟩
      · rw [eachR_none h0] at hE
        have hx : X = (foundE S' s, S') := hE.out.symm
        have hne : ((foundE S' s) == 0) = false := by simpa using h0
        have hne2 : ((foundE S' s) != 0) = true := by simpa using h0
        generalize foundE S' s = E at *
        clear h0 hE HDO
        go_wp2_with (first
          | (go_at_call 42; refine hfo.out.mono ?_; rintro e w2 ⟨rfl, b2⟩; have d2 := hR.out.below b2; have u2 : DUpd N wr w2 := DUpd.ofBelow b2))
        go_ret
        rw [hx]
        exact ⟨rfl, d2, hU.out.trans u2⟩
    · obtain rfl : k = m := by omega
      have hx : X = (0, S') := by
        have := hE.out
        rw [List.drop_eq_nil_of_le (by have := M.out; omega)] at this
        exact this.symm
      clear hE HDO
      go_wp2
      go_ret
      rw [hx]
      exact ⟨rfl, hR.out, hU.out⟩

theorem sync_all (N d : Nat) (S : Dk) (ss : List ByteArray) (hss : ∀ s ∈ ss, s.size < 9223372036854775808) (hl : ss.length < 9223372036854775808) (a : Option Addr) (c : Nat) (w : World) (h : DiskAt w N d S) (ha : StrsAt w N a ss) :
    Calls Try.prog 20 #[.pointer (some ⟨d, 0, none⟩), .slice a ss.length c] w fun e w' => e = .returned (.int .i64 (eachR syncS S ss).1) ∧ DiskAt w' N d (eachR syncS S ss).2 ∧ DUpd N w w' := by
  have hmf : ∀ (fn : Fn) (first cap : Array Value) (w : World), (Instr.makeFunc fn first cap).run Try.prog w = .ok (.func fn first cap) w := fun _ _ _ _ => rfl
  have hu : DUpd N w (w.alloc (.cells #[.pointer (some ⟨d, 0, none⟩)] 24)) := (DUpd.refl N w).alloc _
  have hx : Holds (w.alloc (.cells #[.pointer (some ⟨d, 0, none⟩)] 24)) w.heap.size [.pointer (some ⟨d, 0, none⟩)] 24 := holds_new w [.pointer (some ⟨d, 0, none⟩)] 24
  have he : Hid (Calls Try.prog 51 #[.pointer (some ⟨d, 0, none⟩), .slice a ss.length c, .func (.func 52) #[] #[.pointer (some ⟨w.heap.size, 0, none⟩)]] (w.alloc (.cells #[.pointer (some ⟨d, 0, none⟩)] 24)) fun e w' => e = .returned (.int .i64 (eachR syncS S ss).1) ∧ DiskAt w' N d (eachR syncS S ss).2 ∧ DUpd N (w.alloc (.cells #[.pointer (some ⟨d, 0, none⟩)] 24)) w') :=
    each_sync_all N d S ss hss hl a c w.heap.size _ (h.alloc _) (ha.dupd hu) (fun W S' s f hW hok hf hU =>
      sync_do N d S' s (nameOk_le hok) f hf _ W hW (hx.dupd hU (by decide) (by decide) (by decide)))
  have HU : Hid (DUpd N w (w.alloc (.cells #[.pointer (some ⟨d, 0, none⟩)] 24))) := hu
  generalize eachR syncS S ss = X at *
  generalize ss.length = m at *
  clear h ha hx hu
  go_enter Try.func20, Try.ntmps20
  go_wp2_with (go_at_call 51; refine he.out.mono ?_; rintro e w2 ⟨rfl, d2, u2⟩)
  go_ret
  exact ⟨rfl, d2, HU.out.trans u2⟩

theorem remove_all (N d : Nat) (S : Dk) (ss : List ByteArray) (hss : ∀ s ∈ ss, s.size < 9223372036854775808) (hl : ss.length < 9223372036854775808) (a : Option Addr) (c : Nat) (w : World) (h : DiskAt w N d S) (ha : StrsAt w N a ss) :
    Calls Try.prog 22 #[.pointer (some ⟨d, 0, none⟩), .slice a ss.length c] w fun e w' => e = .returned (.int .i64 (eachR dropS S ss).1) ∧ DiskAt w' N d (eachR dropS S ss).2 ∧ DUpd N w w' := by
  have hmf : ∀ (fn : Fn) (first cap : Array Value) (w : World), (Instr.makeFunc fn first cap).run Try.prog w = .ok (.func fn first cap) w := fun _ _ _ _ => rfl
  have hu : DUpd N w (w.alloc (.cells #[.pointer (some ⟨d, 0, none⟩)] 24)) := (DUpd.refl N w).alloc _
  have hx : Holds (w.alloc (.cells #[.pointer (some ⟨d, 0, none⟩)] 24)) w.heap.size [.pointer (some ⟨d, 0, none⟩)] 24 := holds_new w [.pointer (some ⟨d, 0, none⟩)] 24
  have he : Hid (Calls Try.prog 51 #[.pointer (some ⟨d, 0, none⟩), .slice a ss.length c, .func (.func 54) #[] #[.pointer (some ⟨w.heap.size, 0, none⟩)]] (w.alloc (.cells #[.pointer (some ⟨d, 0, none⟩)] 24)) fun e w' => e = .returned (.int .i64 (eachR dropS S ss).1) ∧ DiskAt w' N d (eachR dropS S ss).2 ∧ DUpd N (w.alloc (.cells #[.pointer (some ⟨d, 0, none⟩)] 24)) w') :=
    each_remove_all N d S ss hss hl a c w.heap.size _ (h.alloc _) (ha.dupd hu) (fun W S' s f hW hok hf hU =>
      remove_do N d S' s (nameOk_le hok) f hf _ W hW (hx.dupd hU (by decide) (by decide) (by decide)))
  have HU : Hid (DUpd N w (w.alloc (.cells #[.pointer (some ⟨d, 0, none⟩)] 24))) := hu
  generalize eachR dropS S ss = X at *
  generalize ss.length = m at *
  clear h ha hx hu
  go_enter Try.func22, Try.ntmps22
  go_wp2_with (go_at_call 51; refine he.out.mono ?_; rintro e w2 ⟨rfl, d2, u2⟩)
  go_ret
  exact ⟨rfl, d2, HU.out.trans u2⟩
end Go.Proofs.Ythaknjbcmflegaa
