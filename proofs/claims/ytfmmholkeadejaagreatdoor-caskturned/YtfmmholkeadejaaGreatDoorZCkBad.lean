/- A segment with a record that was turned: the pure fact, load and Open. -/
import Derived.Test.YtfmmholkeadejaaGreatDoorZC3
import Derived.Test.YtfmmholkeadejaaGreatDoorZP3
namespace Go.Proofs.YtfmmholkeadejaaGreatDoor.Pk

theorem uE_13r (t : ByteArray) (n : Nat) (hn : n ≤ 65536) (b c r : List UInt8) (hb : b.length = n) (hc : c.length = 4) (ht : t.data.toList = numL n ++ (b ++ (c ++ r))) (hne : c ≠ four (crc b)) : uE t = 13 := by
  obtain ⟨h1, h2, h3⟩ := behind t n (by omega) _ ht
  have hz : (nR t).size = n + (4 + r.length) := by
    show (nR t).data.toList.length = _
    rw [h3, List.length_append, List.length_append, hb, hc]
  have hB : (uB t).data.toList = b := by rw [uB, ext_head, h2, h3, ← hb, List.take_left]
  have hC : (uC t).data.toList = c := by
    rw [uC, ext_head, ext_tail, h2, h3, ← hb, List.drop_left, ← hc, List.take_left]
  rw [uE, if_pos h1, h2, if_neg (by omega), hz, if_neg (by omega), cmp_false (by rw [hC, strL_list, hB]; exact hne)]
  rfl
/-- One byte of a frame turned, whatever stands behind. -/
theorem turn_errR (s : ByteArray) (hs : s.size ≤ 65536) (t : ByteArray) (i : Nat) (hi : i < s.size + 4) (y x : UInt8) (hx : (frameL s)[(numL s.size).length + i]? = some x) (hy : y ≠ x) (r : List UInt8)
    (ht : t.data.toList = (frameL s).set ((numL s.size).length + i) y ++ r) : uE t = 13 := by
  have hf : frameL s = numL s.size ++ (s.data.toList ++ four (crc s.data.toList)) := by rw [frameL, textL, List.append_assoc]
  have hsl : s.data.toList.length = s.size := rfl
  rw [hf, List.getElem?_append_right (by omega), Nat.add_sub_cancel_left] at hx
  rw [hf, List.set_append_right _ _ (by omega), Nat.add_sub_cancel_left] at ht
  by_cases h : i < s.size
  · rw [List.set_append_left _ _ (by rw [hsl]; exact h), List.append_assoc, List.append_assoc] at ht
    rw [List.getElem?_append_left (by rw [hsl]; exact h)] at hx
    refine uE_13r t s.size hs _ _ r (by rw [List.length_set]; exact hsl) (four_length _) ht (fun e => ?_)
    have e := four_inj e
    have e1 : s.data.toList = s.data.toList.take i ++ x :: s.data.toList.drop (i + 1) := by
      have hxi : s.data.toList[i]'(by rw [hsl]; exact h) = x := (List.getElem?_eq_some_iff.1 hx).2
      rw [← hxi, List.getElem_cons_drop, List.take_append_drop]
    have e2 : s.data.toList.set i y = s.data.toList.take i ++ y :: s.data.toList.drop (i + 1) := by
      rw [List.set_eq_take_append_cons_drop, if_pos (by rw [hsl]; exact h)]
    rw [e2] at e
    have := crc_turn (s.data.toList.take i) x y (s.data.toList.drop (i + 1)) (fun e => hy e.symm)
    rw [← e1] at this
    exact this e
  · rw [List.set_append_right _ _ (by rw [hsl]; omega), List.append_assoc, List.append_assoc] at ht
    rw [List.getElem?_append_right (by rw [hsl]; omega)] at hx
    rw [hsl] at ht hx
    refine uE_13r t s.size hs _ _ r hsl (by rw [List.length_set]; exact four_length _) ht (fun e => ?_)
    have : ((four (crc s.data.toList)).set (i - s.size) y)[i - s.size]? = some y := by
      rw [List.getElem?_set_self (by rw [four_length]; omega)]
    rw [e, hx] at this
    exact hy (Option.some.inj this).symm
end Go.Proofs.YtfmmholkeadejaaGreatDoor.Pk
namespace Go.Proofs.YtfmmholkeadejaaGreatDoor
open Go.RowKit

/-- A spot of a record that is none of its length's bytes. -/
structure Spot (c : Ch) (k : Nat) : Prop where
  head : (Pk.numL (Pk.strL (bodyL c.k c.v c.dead)).size).length ≤ k
  lt : k < (chB c).length
theorem spot_err (c : Ch) (hc : c.Ok) (k : Nat) (h : Spot c k) (x y : UInt8) (hx : (chB c)[k]? = some x) (hy : y ≠ x) (r : List UInt8) : Pk.uE (Pk.strL ((chB c).set k y ++ r)) = 13 := by
  obtain ⟨i, rfl⟩ : ∃ i, k = (Pk.numL (Pk.strL (bodyL c.k c.v c.dead)).size).length + i := ⟨_, (Nat.add_sub_cancel' h.head).symm⟩
  refine Pk.turn_errR (Pk.strL (bodyL c.k c.v c.dead)) (rec_size c.k c.v c.dead hc) _ i ?_ y x hx hy r (Pk.strL_list _)
  have hl := h.lt
  have : (chB c).length = (Pk.numL (Pk.strL (bodyL c.k c.v c.dead)).size).length + ((Pk.strL (bodyL c.k c.v c.dead)).size + 4) := by
    show (Pk.frameL (Pk.strL (bodyL c.k c.v c.dead))).length = _
    rw [Pk.frameL, Pk.textL, List.length_append, List.length_append, Pk.four_length]
    show _ + (Pk.strL (bodyL c.k c.v c.dead)).size + 4 = _
    omega
  omega
/-- Records of which one was turned: those ahead of it, and a tail that is broken. -/
theorem turned_tail (A : List Ch) (c : Ch) (B : List Ch) (hc : c.Ok) (k : Nat) (h : Spot c k) (x y : UInt8) (hx : ((A ++ c :: B).flatMap chB)[(A.flatMap chB).length + k]? = some x) (hy : y ≠ x) :
    ∃ tl, ((A ++ c :: B).flatMap chB).set ((A.flatMap chB).length + k) y = A.flatMap chB ++ tl ∧ tl ≠ [] ∧ Pk.uE (Pk.strL tl) = 13 := by
  rw [List.flatMap_append, List.getElem?_append_right (by omega), Nat.add_sub_cancel_left, List.flatMap_cons, List.getElem?_append_left h.lt] at hx
  refine ⟨(chB c).set k y ++ B.flatMap chB, ?_, ?_, spot_err c hc k h x y hx hy _⟩
  · rw [List.flatMap_append, List.set_append_right _ _ (by omega), Nat.add_sub_cancel_left, List.flatMap_cons, List.set_append_left _ _ h.lt]
  · intro e
    have e2 := congrArg List.length e
    have := h.lt
    rw [List.length_append, List.length_set, List.length_nil] at e2
    omega
set_option maxHeartbeats 3200000 in
set_option maxRecDepth 100000 in
/-- load, where the first segment is broken. -/
theorem load_bad (N : Lo) (c d mb : Nat) (S : Dk) (hon : S.on = true) (nm : ByteArray) (n : Nat) (h1 : 1 ≤ n) (h2 : n ≤ 999999) (hL : listK S (nm ++ (⟨#[46]⟩ : ByteArray)) = [(fileB nm n).data.toList]) (f : Fl) (hf : get S.fs (fileB nm n).data.toList = some f) (cs : List Ch) (hok : ∀ c ∈ cs, c.Ok) (tl : List UInt8) (hne : tl ≠ []) (htl : Pk.uE (Pk.strL tl) = 13) (hb : f.bytes = cs.flatMap chB ++ tl) (w : World) (h : CaskOpen w N c d mb (.slice none 0 0) S (ldC nm [] [])) (hN : N ≤ w.heap.size) (hT : Tab N w) :
    Calls Tryz.prog 57 #[.pointer (some ⟨c, 0, none⟩)] w fun e w' => e = .returned (.int .i64 24) ∧ Below w.heap.size w w' := by
  have hnm : capOk nm = true := h.fine.nm
  have h261 : Hid (Calls Tryz.prog 261 #[.agg #[.pointer (some ⟨d, 0, none⟩), .string nm]] w fun e w' => ∃ g cp, e = .returned (.slice (some ⟨g, 0, none⟩) 1 cp) ∧ w'.cell? ⟨g, 0, none⟩ = some (.int .i64 (n : Int)) ∧ Below w.heap.size w w') := by
    refine (numbers_some N d S hon nm hnm [n] (fun m hm => by simp at hm; subst hm; exact ⟨h1, h2⟩) (by rw [hL]; rfl) (by simp) w h.disk hN hT).mono ?_
    rintro e w' ⟨v, rfl, hr, hB⟩
    obtain ⟨a, cp, rfl, hc⟩ := num_cells hr rfl
    obtain ⟨g, e, _, _, hg, hcl⟩ := hc 0 n rfl
    subst e
    exact ⟨g, cp, rfl, hcl, hB⟩
  have h259 : Hid (∀ W, Below w.heap.size w W → Calls Tryz.prog 259 #[.agg #[.pointer (some ⟨d, 0, none⟩), .string nm], .int .i64 (n : Int)] W fun e w' => ∃ a m cp, e = .returned (.tuple #[.slice a m cp, .int .i64 13]) ∧ Hid (Below w.heap.size w w')) := fun W hW => by
    refine (changes_some N d S hon nm hnm n h1 h2 f hf cs hok tl (fun _ => by rw [htl]; decide) hb W (h.disk.below hW) (Nat.le_trans hN hW.size) (hT.on (hW.mono hN))).mono ?_
    rintro e w' ⟨v, rfl, hr, hB⟩
    obtain ⟨a, cp, rfl, hc⟩ := chs_of hr
    exact ⟨a, _, cp, by rw [tlE, if_neg hne, htl], hW.trans (hB.mono hW.size)⟩
  have c0 : w.cell? ⟨c, 0, none⟩ = some (.iface 106 (.agg #[.pointer (some ⟨d, 0, none⟩), .string nm])) := h.holds.at 0 _ rfl
  have hc0 : Hid (∀ W, Below w.heap.size w W → W.cell? ⟨c, 0, none⟩ = some (.iface 106 (.agg #[.pointer (some ⟨d, 0, none⟩), .string nm]))) := fun W hW => (hW.cell (p := ⟨c, 0, none⟩) h.holds.lt).trans c0
  have hmt1 := @meth_numbers
  have hmt2 := @meth_changes
  clear h hT hN hL hf hok hb
  go_enter Tryz.func57, Tryz.ntmps57
  go_wp2_with (go_at_call 261; refine h261.out.mono ?_; rintro e w1 ⟨g, cp, rfl, hg, b1⟩)
  have B1 : Hid (Below w.heap.size w w1) := b1
  have d0 := hc0.out _ b1
  clear b1 c0
  go_loopw [15] (fun iv wr => iv = .int .i64 0 ∧ wr = w1) (fun _ _ => 0)
  case atStart => exact ⟨rfl, rfl⟩
  case round =>
    obtain ⟨rfl, rfl⟩ := hrel
    go_wp2_with (go_at_call 259; refine (h259.out _ B1.out).mono ?_; rintro e w2 ⟨a, m, cq, rfl, b2⟩)
    go_ret
    exact ⟨rfl, b2.out⟩
set_option maxHeartbeats 3200000 in
set_option maxRecDepth 100000 in
theorem open_bad (N : Lo) (d : Nat) (S : Dk) (hon : S.on = true) (nm : ByteArray) (hnm : capOk nm = true) (n : Nat) (h1 : 1 ≤ n) (h2 : n ≤ 999999) (hL : listK S (nm ++ (⟨#[46]⟩ : ByteArray)) = [(fileB nm n).data.toList]) (f : Fl) (hf : get S.fs (fileB nm n).data.toList = some f) (cs : List Ch) (hok : ∀ c ∈ cs, c.Ok) (tl : List UInt8) (hne : tl ≠ []) (htl : Pk.uE (Pk.strL tl) = 13) (hb : f.bytes = cs.flatMap chB ++ tl) (w : World) (h : DiskAt w N d S) (hN : N ≤ w.heap.size) (hT : Tab N w) (hG : ∀ i, N.G i → i < w.heap.size) :
    Calls Tryz.prog 16 #[.pointer (some ⟨d, 0, none⟩), .string nm] w fun e w' => e = .returned (.tuple #[.pointer none, .int .i64 24]) ∧ Below w.heap.size w w' := by
  have h36 : Hid (Calls Tryz.prog 36 #[.string nm, .int .i64 1] w fun e w' => e = .returned (.string (fileB nm 1)) ∧ Below w.heap.size w w') := file_ok N nm hnm 1 (by decide) (by decide) w hN hT
  have hne : (fileB nm 1).toList.isEmpty = false := emp_false (s := fileB nm 1) (by
    show (fileB nm 1).data.toList.length ≠ 0
    rw [fileB_list, List.length_append]
    simp [six])
  have h54 : Hid (∀ W, Below w.heap.size w W → Calls Tryz.prog 54 #[.pointer (some ⟨d, 0, none⟩)] W fun e w' => e = .returned (.bool true) ∧ w' = W) := fun W hW => by
    have q := on_some N d S W (h.below hW)
    rw [hon] at q
    exact q
  have h57 : Hid (∀ W, Below w.heap.size w W → Calls Tryz.prog 57 #[.pointer (some ⟨W.heap.size + 1, 0, none⟩)] ((W.alloc (.map #[] 0)).alloc (.cells #[shV d nm, .map (some W.heap.size), .int .i64 0, .slice none 0 0, .int .i64 0, .bool false, .bool false] 28)) fun e w' => e = .returned (.int .i64 24) ∧ Hid (Below w.heap.size w w')) := fun W hW => by
    have hNW : N ≤ W.heap.size := Nat.le_trans hN hW.size
    have hc := cask_made (nm := nm) (h.below hW) hNW (fun i hi => Nat.lt_of_lt_of_le (hG i hi) hW.size) hnm
    have hB := made_below W (.map #[] 0) (.cells #[shV d nm, .map (some W.heap.size), .int .i64 0, .slice none 0 0, .int .i64 0, .bool false, .bool false] 28)
    refine (load_bad (N.with W.heap.size) (W.heap.size + 1) d W.heap.size S hon nm n h1 h2 hL f hf cs hok tl (by assumption) htl hb _ hc (Nat.le_trans hNW hB.size) ((hT.on (hW.mono hN)).on (hB.mono hNW))).mono ?_
    rintro e w' ⟨q1, q2⟩
    have hb2 := hW.trans (hB.mono hW.size)
    exact ⟨q1, hb2.trans (q2.mono hb2.size)⟩
  unfold shV at h57
  generalize fileB nm 1 = F at *
  clear h hT hb hf hok hL hnm hon hN hG
  have hmm := @run_makeMap Tryz.prog
  go_enter Tryz.func16, Tryz.ntmps16
  go_wp2_with (first
    | (go_at_call 57; refine (h57.out w1 b1).mono ?_; rintro e w2 ⟨rfl, u2⟩)
    | (go_at_call 54; refine (h54.out w1 b1).mono ?_; rintro e w3 ⟨rfl, hw3⟩; have hw3 := hw3.symm; subst hw3)
    | (go_at_call 36; refine h36.out.mono ?_; rintro e w1 ⟨rfl, b1⟩))
  go_ret2
  exact ⟨rfl, u2.out⟩
end Go.Proofs.YtfmmholkeadejaaGreatDoor
