/- A frame that is cut short, and one of which a byte was turned: which error Unframe tells. -/
import Derived.Test.YtlbdlipdhhpgmaaCrc
import Derived.Test.YtlbdlipdhhpgmaaUnframe
import Derived.Test.YtlbdlipdhhpgmaaSame
namespace Go.Proofs.Ytlbdlipdhhpgmaa

theorem chain_cut : ∀ (l : List UInt8), Chain l → ∀ j, j < l.length → lead (l.take j) = j
  | [], h, _, _ => h.elim
  | [x], _, j, hj => by
    have : j = 0 := by simpa using hj
    subst this; rfl
  | x :: y :: r, h, j, hj => by
    cases j with
    | zero => rfl
    | succ j =>
      rw [List.take_succ_cons, lead, if_pos h.1, chain_cut (y :: r) h.2 j (by simpa using hj)]
theorem behind (t : ByteArray) (n : Nat) (hn : n < 18446744073709551616) (r : List UInt8) (ht : t.data.toList = numL n ++ r) : nE t = 0 ∧ nV t = n ∧ (nR t).data.toList = r := by
  obtain ⟨h1, h2, h3⟩ := num_back n hn r
  refine ⟨by unfold nE; rw [ht]; exact h1, by unfold nV; rw [ht]; exact h2, ?_⟩
  rw [nR, ext_tail, ht, h3, List.drop_left]
/-- Cut short. -/
theorem cut_err (s : ByteArray) (hs : s.size ≤ 65536) (t : ByteArray) (j : Nat) (hj : j < (frameL s).length) (ht : t.data.toList = (frameL s).take j) : uE t = 10 := by
  have hf : frameL s = numL s.size ++ (s.data.toList ++ four (crc s.data.toList)) := by rw [frameL, textL, List.append_assoc]
  have hl : (s.data.toList ++ four (crc s.data.toList)).length = s.size + 4 := by rw [List.length_append]; rfl
  rw [hf] at hj ht
  rw [List.length_append, hl] at hj
  by_cases h : j < (numL s.size).length
  · obtain ⟨_, _, hc⟩ := lead_numL 9 s.size [] (by omega)
    have e : (numL s.size ++ (s.data.toList ++ four (crc s.data.toList))).take j = (numL s.size).take j := by
      rw [List.take_append_of_le_length (by omega)]
    rw [e] at ht
    have hE : nE t = 10 := by
      unfold nE numE
      rw [ht, chain_cut _ hc j h, if_pos (by rw [List.length_take]; omega)]
    rw [uE, if_neg (by rw [hE]; decide), hE]
  · have e : (numL s.size ++ (s.data.toList ++ four (crc s.data.toList))).take j = numL s.size ++ (s.data.toList ++ four (crc s.data.toList)).take (j - (numL s.size).length) := by
      rw [List.take_append, List.take_of_length_le (by omega)]
    rw [e] at ht
    obtain ⟨h1, h2, h3⟩ := behind t s.size (by omega) _ ht
    have hz : (nR t).size = j - (numL s.size).length := by
      show (nR t).data.toList.length = _
      rw [h3, List.length_take, hl]; omega
    rw [uE, if_pos h1, h2, if_neg (by omega), hz, if_pos (by omega)]
theorem cmp_false {a b : ByteArray} (h : a.data.toList ≠ b.data.toList) : (a.toList == b.toList) = false := by
  rw [Go.ByteArray.toList_eq, Go.ByteArray.toList_eq]
  simpa using h
theorem uE_13 (t : ByteArray) (n : Nat) (hn : n ≤ 65536) (b c : List UInt8) (hb : b.length = n) (hc : c.length = 4) (ht : t.data.toList = numL n ++ (b ++ c)) (hne : c ≠ four (crc b)) : uE t = 13 := by
  obtain ⟨h1, h2, h3⟩ := behind t n (by omega) _ ht
  have hz : (nR t).size = n + 4 := by
    show (nR t).data.toList.length = _
    rw [h3, List.length_append, hb, hc]
  have hB : (uB t).data.toList = b := by rw [uB, ext_head, h2, h3, ← hb, List.take_left]
  have hC : (uC t).data.toList = c := by
    rw [uC, ext_head, ext_tail, h2, h3, ← hb, List.drop_left, List.take_of_length_le (by omega)]
  rw [uE, if_pos h1, h2, if_neg (by omega), hz, if_neg (by omega), cmp_false (by rw [hC, strL_list, hB]; exact hne)]
  rfl
/-- One byte turned. -/
theorem turn_err (s : ByteArray) (hs : s.size ≤ 65536) (t : ByteArray) (i : Nat) (hi : i < s.size + 4) (y x : UInt8) (hx : (frameL s)[(numL s.size).length + i]? = some x) (hy : y ≠ x)
    (ht : t.data.toList = (frameL s).take ((numL s.size).length + i) ++ y :: (frameL s).drop ((numL s.size).length + i + 1)) : uE t = 13 := by
  have hf : frameL s = numL s.size ++ (s.data.toList ++ four (crc s.data.toList)) := by rw [frameL, textL, List.append_assoc]
  have hsl : s.data.toList.length = s.size := rfl
  rw [hf, List.getElem?_append_right (by omega), Nat.add_sub_cancel_left] at hx
  rw [hf, List.take_append, List.take_of_length_le (by omega), Nat.add_sub_cancel_left, List.drop_append, List.drop_eq_nil_of_le (by omega), List.nil_append, show (numL s.size).length + i + 1 - (numL s.size).length = i + 1 by omega, List.append_assoc] at ht
  have hset : (s.data.toList ++ four (crc s.data.toList)).take i ++ y :: (s.data.toList ++ four (crc s.data.toList)).drop (i + 1) = (s.data.toList ++ four (crc s.data.toList)).set i y := by
    rw [List.set_eq_take_append_cons_drop, if_pos (by rw [List.length_append, hsl]; exact hi)]
  rw [hset] at ht
  by_cases h : i < s.size
  · rw [List.set_append_left _ _ (by rw [hsl]; exact h)] at ht
    rw [List.getElem?_append_left (by rw [hsl]; exact h)] at hx
    refine uE_13 t s.size hs _ _ (by rw [List.length_set]; exact hsl) (four_length _) ht (fun e => ?_)
    have e := four_inj e
    have e1 : s.data.toList = s.data.toList.take i ++ x :: s.data.toList.drop (i + 1) := by
      have hxi : s.data.toList[i]'(by rw [hsl]; exact h) = x := (List.getElem?_eq_some_iff.1 hx).2
      rw [← hxi, List.getElem_cons_drop, List.take_append_drop]
    have e2 : s.data.toList.set i y = s.data.toList.take i ++ y :: s.data.toList.drop (i + 1) := by
      rw [List.set_eq_take_append_cons_drop, if_pos (by rw [hsl]; exact h)]
    rw [e2] at e
    have := crc_turn (s.data.toList.take i) x y (s.data.toList.drop (i + 1)) (fun e => hy e.symm)
    rw [← e1] at this
    exact this e
  · rw [List.set_append_right _ _ (by rw [hsl]; omega)] at ht
    rw [List.getElem?_append_right (by rw [hsl]; omega)] at hx
    rw [hsl] at ht hx
    refine uE_13 t s.size hs _ _ hsl (by rw [List.length_set]; exact four_length _) ht (fun e => ?_)
    have : ((four (crc s.data.toList)).set (i - s.size) y)[i - s.size]? = some y := by
      rw [List.getElem?_set_self (by rw [four_length]; omega)]
    rw [e, hx] at this
    exact hy (Option.some.inj this).symm
end Go.Proofs.Ytlbdlipdhhpgmaa
