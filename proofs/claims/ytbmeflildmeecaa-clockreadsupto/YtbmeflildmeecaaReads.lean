/- ClockReads (9): the law's call returns true. -/
import Derived.Test.YtbmeflildmeecaaMerges
import Derived.Test.YtbmeflildmeecaaClRefPp
namespace Go.Proofs.Ytbmeflildmeecaa
open Go.RowKit Go.Shelf Go.Sort Go.Lib Pk

theorem rd_two (s : ByteArray) : (rdE s = 0 ∧ strL (bytesC (rdV s)) = s) ∨ rdE s = 31 := by
  unfold rdE rdV
  cases h : rdOk s with
  | true => exact .inl ⟨rfl, of_decide_eq_true h⟩
  | false => exact .inr rfl
theorem ps_two (t : ByteArray) : (psE t = 0 ∧ strL (textC (psV t)) = t) ∨ psE t = 31 := by
  unfold psE psV
  cases h : psOk t with
  | true => exact .inl ⟨rfl, of_decide_eq_true h⟩
  | false => exact .inr rfl
theorem psV_fit (t : ByteArray) : Fit (psV t) := by
  unfold psV
  split
  · exact rdV_fit _
  · intro d hd; cases hd
theorem psV_len (t : ByteArray) : (psV t).length ≤ t.size := by
  unfold psV
  split
  · have := rdV_len (psB t); rw [psB_size] at this; omega
  · exact Nat.zero_le _
set_option maxRecDepth 100000 in
set_option maxHeartbeats 8000000 in
theorem reads_walk (s t : ByteArray) (hs : s.size ≤ 1048576) (ht : t.size ≤ 1048576) (w : World) :
    Calls Try.prog 9 #[.string s, .string t] w fun e w' => e = .returned (.bool true) ∧ Below w.heap.size w w' := by
  have h10 := awake_any w
  have h30 : Hid (∀ W : World, Calls Try.prog 30 #[.string s] W (MakesE W (rdV s) (rdE s))) := fun W => cread_any s (by omega) W
  have h36 : Hid (∀ W : World, Calls Try.prog 36 #[.string s] W (MakesE W (rdV s) (rdE s))) := fun W => refRead_any s (by omega) W
  have h31 : Hid (∀ W : World, Calls Try.prog 31 #[.string t] W (MakesE W (psV t) (psE t))) := fun W => parse_any t (by omega) W
  have h37 : Hid (∀ W : World, Calls Try.prog 37 #[.string t] W (MakesE W (psV t) (psE t))) := fun W => refParse_any t (by omega) W
  have l1 := rdV_len s
  have l2 := psV_len t
  have hlA : (rdV s).length < 9223372036854775807 := by omega
  have hlC : (psV t).length < 9223372036854775807 := by omega
  have h28' : ∀ W u, At W u (rdV s) → Calls Try.prog 28 #[u] W fun e w' => e = .returned (.string (strL (bytesC (rdV s)))) ∧ Below W.heap.size W w' := fun W u h => bytes_any u _ (by omega) (rdV_fit s) W (Hid.out h)
  have h29' : ∀ W u, At W u (psV t) → Calls Try.prog 29 #[u] W fun e w' => e = .returned (.string (strL (textC (psV t)))) ∧ Below W.heap.size W w' := fun W u h => text_any u _ (by omega) (psV_fit t) W (Hid.out h)
  have hr := rd_two s
  have hp := ps_two t
  clear l1 l2
  generalize rdV s = A at *
  generalize psV t = C at *
  generalize rdE s = E at *
  generalize psE t = F at *
  have HA : Hid (A.length < 9223372036854775807) := hlA
  have HC : Hid (C.length < 9223372036854775807) := hlC
  clear hlA hlC
  rcases hr with ⟨rfl, hb⟩ | rfl
  · rw [hb] at h28'
    have h28 : Hid (∀ W u, At W u A → Calls Try.prog 28 #[u] W fun e w' => e = .returned (.string s) ∧ Below W.heap.size W w') := h28'
    clear h28' hb
    rcases hp with ⟨rfl, hc⟩ | rfl
    · rw [hc] at h29'
      have h29 : Hid (∀ W u, At W u C → Calls Try.prog 29 #[u] W fun e w' => e = .returned (.string t) ∧ Below W.heap.size W w') := h29'
      clear h29' hc
      go_enter Try.func9, Try.ntmps9
      go_wp2_with (first
        | (go_at_call 29; refine (h29.out _ _ kC8).mono ?_; rintro e w9 ⟨rfl, b9⟩)
        | (go_at_call 28; refine (h28.out _ _ kA7).mono ?_; rintro e w8 ⟨rfl, b8⟩; have kC8 := kC7.up b8)
        | (go_at_call 18; refine (same2 kC6 kD6 rfl HC.out).mono ?_; rintro e w7 ⟨rfl, b7⟩; have kA7 := kA6.up b7; have kC7 := kC6.up b7; clear kA6 kC6 kD6)
        | (go_at_call 18; refine (same2 kA5 kB5 rfl HA.out).mono ?_; rintro e w6 ⟨rfl, b6⟩; have kA6 := kA5.up b6; have kC6 := kC5.up b6; have kD6 := kD5.up b6; clear kA5 kB5 kC5 kD5)
        | (go_at_call 37; refine (h37.out w4).mono ?_; rintro e w5 ⟨aD, cD, rfl, qD, b5⟩; have kD5 := Makes.at qD; clear qD; have kA5 := kA4.up b5; have kB5 := kB4.up b5; have kC5 := kC4.up b5; clear kA4 kB4 kC4)
        | (go_at_call 31; refine (h31.out w3).mono ?_; rintro e w4 ⟨aC, cC, rfl, qC, b4⟩; have kC4 := Makes.at qC; clear qC; have kA4 := kA3.up b4; have kB4 := kB3.up b4; clear kA3 kB3)
        | (go_at_call 36; refine (h36.out w2).mono ?_; rintro e w3 ⟨aB, cB, rfl, qB, b3⟩; have kB3 := Makes.at qB; clear qB; have kA3 := kA2.up b3; clear kA2)
        | (go_at_call 30; refine (h30.out w1).mono ?_; rintro e w2 ⟨aA, cA, rfl, qA, b2⟩; have kA2 := Makes.at qA; clear qA)
        | (go_at_call 10; refine h10.mono ?_; rintro e w1 ⟨rfl, b1⟩))
      go_ret
      exact ⟨rfl, (below_trans b1 (below_trans b2 (below_trans b3 (below_trans b4 (below_trans b5 (below_trans b6 (below_trans b7 (below_trans b8 b9))))))))⟩
    · clear h29'
      go_enter Try.func9, Try.ntmps9
      go_wp2_with (first
        | (go_at_call 28; refine (h28.out _ _ kA7).mono ?_; rintro e w8 ⟨rfl, b8⟩; have kC8 := kC7.up b8)
        | (go_at_call 18; refine (same2 kC6 kD6 rfl HC.out).mono ?_; rintro e w7 ⟨rfl, b7⟩; have kA7 := kA6.up b7; have kC7 := kC6.up b7; clear kA6 kC6 kD6)
        | (go_at_call 18; refine (same2 kA5 kB5 rfl HA.out).mono ?_; rintro e w6 ⟨rfl, b6⟩; have kA6 := kA5.up b6; have kC6 := kC5.up b6; have kD6 := kD5.up b6; clear kA5 kB5 kC5 kD5)
        | (go_at_call 37; refine (h37.out w4).mono ?_; rintro e w5 ⟨aD, cD, rfl, qD, b5⟩; have kD5 := Makes.at qD; clear qD; have kA5 := kA4.up b5; have kB5 := kB4.up b5; have kC5 := kC4.up b5; clear kA4 kB4 kC4)
        | (go_at_call 31; refine (h31.out w3).mono ?_; rintro e w4 ⟨aC, cC, rfl, qC, b4⟩; have kC4 := Makes.at qC; clear qC; have kA4 := kA3.up b4; have kB4 := kB3.up b4; clear kA3 kB3)
        | (go_at_call 36; refine (h36.out w2).mono ?_; rintro e w3 ⟨aB, cB, rfl, qB, b3⟩; have kB3 := Makes.at qB; clear qB; have kA3 := kA2.up b3; clear kA2)
        | (go_at_call 30; refine (h30.out w1).mono ?_; rintro e w2 ⟨aA, cA, rfl, qA, b2⟩; have kA2 := Makes.at qA; clear qA)
        | (go_at_call 10; refine h10.mono ?_; rintro e w1 ⟨rfl, b1⟩))
      go_ret
      exact ⟨rfl, (below_trans b1 (below_trans b2 (below_trans b3 (below_trans b4 (below_trans b5 (below_trans b6 (below_trans b7 b8)))))))⟩
  · clear h28'
    rcases hp with ⟨rfl, hc⟩ | rfl
    · rw [hc] at h29'
      have h29 : Hid (∀ W u, At W u C → Calls Try.prog 29 #[u] W fun e w' => e = .returned (.string t) ∧ Below W.heap.size W w') := h29'
      clear h29' hc
      go_enter Try.func9, Try.ntmps9
      go_wp2_with (first
        | (go_at_call 29; refine (h29.out _ _ kC7).mono ?_; rintro e w9 ⟨rfl, b9⟩)
        | (go_at_call 18; refine (same2 kC6 kD6 rfl HC.out).mono ?_; rintro e w7 ⟨rfl, b7⟩; have kA7 := kA6.up b7; have kC7 := kC6.up b7; clear kA6 kC6 kD6)
        | (go_at_call 18; refine (same2 kA5 kB5 rfl HA.out).mono ?_; rintro e w6 ⟨rfl, b6⟩; have kA6 := kA5.up b6; have kC6 := kC5.up b6; have kD6 := kD5.up b6; clear kA5 kB5 kC5 kD5)
        | (go_at_call 37; refine (h37.out w4).mono ?_; rintro e w5 ⟨aD, cD, rfl, qD, b5⟩; have kD5 := Makes.at qD; clear qD; have kA5 := kA4.up b5; have kB5 := kB4.up b5; have kC5 := kC4.up b5; clear kA4 kB4 kC4)
        | (go_at_call 31; refine (h31.out w3).mono ?_; rintro e w4 ⟨aC, cC, rfl, qC, b4⟩; have kC4 := Makes.at qC; clear qC; have kA4 := kA3.up b4; have kB4 := kB3.up b4; clear kA3 kB3)
        | (go_at_call 36; refine (h36.out w2).mono ?_; rintro e w3 ⟨aB, cB, rfl, qB, b3⟩; have kB3 := Makes.at qB; clear qB; have kA3 := kA2.up b3; clear kA2)
        | (go_at_call 30; refine (h30.out w1).mono ?_; rintro e w2 ⟨aA, cA, rfl, qA, b2⟩; have kA2 := Makes.at qA; clear qA)
        | (go_at_call 10; refine h10.mono ?_; rintro e w1 ⟨rfl, b1⟩))
      go_ret
      exact ⟨rfl, (below_trans b1 (below_trans b2 (below_trans b3 (below_trans b4 (below_trans b5 (below_trans b6 (below_trans b7 b9)))))))⟩
    · clear h29'
      go_enter Try.func9, Try.ntmps9
      go_wp2_with (first
        | (go_at_call 18; refine (same2 kC6 kD6 rfl HC.out).mono ?_; rintro e w7 ⟨rfl, b7⟩; have kA7 := kA6.up b7; have kC7 := kC6.up b7; clear kA6 kC6 kD6)
        | (go_at_call 18; refine (same2 kA5 kB5 rfl HA.out).mono ?_; rintro e w6 ⟨rfl, b6⟩; have kA6 := kA5.up b6; have kC6 := kC5.up b6; have kD6 := kD5.up b6; clear kA5 kB5 kC5 kD5)
        | (go_at_call 37; refine (h37.out w4).mono ?_; rintro e w5 ⟨aD, cD, rfl, qD, b5⟩; have kD5 := Makes.at qD; clear qD; have kA5 := kA4.up b5; have kB5 := kB4.up b5; have kC5 := kC4.up b5; clear kA4 kB4 kC4)
        | (go_at_call 31; refine (h31.out w3).mono ?_; rintro e w4 ⟨aC, cC, rfl, qC, b4⟩; have kC4 := Makes.at qC; clear qC; have kA4 := kA3.up b4; have kB4 := kB3.up b4; clear kA3 kB3)
        | (go_at_call 36; refine (h36.out w2).mono ?_; rintro e w3 ⟨aB, cB, rfl, qB, b3⟩; have kB3 := Makes.at qB; clear qB; have kA3 := kA2.up b3; clear kA2)
        | (go_at_call 30; refine (h30.out w1).mono ?_; rintro e w2 ⟨aA, cA, rfl, qA, b2⟩; have kA2 := Makes.at qA; clear qA)
        | (go_at_call 10; refine h10.mono ?_; rintro e w1 ⟨rfl, b1⟩))
      go_ret
      exact ⟨rfl, (below_trans b1 (below_trans b2 (below_trans b3 (below_trans b4 (below_trans b5 (below_trans b6 b7))))))⟩
end Go.Proofs.Ytbmeflildmeecaa
