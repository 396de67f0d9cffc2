/- The document's disk: Rename. -/
import Derived.Test.YthaknjbcmflegaaRefRead
namespace Go.Proofs.Ythaknjbcmflegaa
open Go.RowKit Go.Maps Go.WideMaps

theorem named_two {S : Dk} {s t : ByteArray} (h : ¬ namedE S [s] = 0) : namedE S [s, t] = namedE S [s] := by
  unfold namedE at h ⊢
  by_cases hon : S.on = true
  · rw [if_pos hon] at h ⊢
    rw [if_pos hon]
    cases hs : nameOk s with
    | true => exact absurd (namE_ok (by simp [hs])) h
    | false => rw [namE_no (by simp [hs]), namE_no (by simp [hs])]
  · rw [if_neg hon, if_neg hon]
theorem named_two_no {S : Dk} {s t : ByteArray} (h : namedE S [s] = 0) (h2 : ¬ namedE S [t] = 0) : namedE S [s, t] = namedE S [t] := by
  unfold namedE at h h2 ⊢
  by_cases hon : S.on = true
  · rw [if_pos hon] at h h2 ⊢
    rw [if_pos hon]
    cases ht : nameOk t with
    | true => exact absurd (namE_ok (by simp [ht])) h2
    | false => rw [namE_no (by simp [ht]), namE_no (by simp [ht])]
  · rw [if_neg hon] at h; cases h
theorem named_ok {S : Dk} {s : ByteArray} (h : namedE S [s] = 0) : S.on = true ∧ nameOk s = true := by
  unfold namedE at h
  by_cases hon : S.on = true
  · rw [if_pos hon] at h
    refine ⟨hon, ?_⟩
    cases hs : nameOk s with
    | true => rfl
    | false => rw [namE_no (by simp [hs])] at h; cases h
  · rw [if_neg hon] at h; cases h
theorem named_two_ok {S : Dk} {s t : ByteArray} (h : namedE S [s] = 0) (h2 : namedE S [t] = 0) : namedE S [s, t] = 0 := by
  rw [namedE, if_pos (named_ok h).1]
  exact namE_ok (by simp [(named_ok h).2, (named_ok h2).2])
/-- What an error leaves as it was. -/
theorem rename_bad (N r : Nat) (S : Dk) (s t : ByteArray) (hs : s.size < 9223372036854775808) (ht : t.size < 9223372036854775808) (w : World) (h : RefAt w N r S) (hE : ¬ namedE S [s, t] = 0 ∨ ¬ foundE S s = 0) : Calls Try.prog 27 #[.pointer (some ⟨r, 0, none⟩), .string s, .string t] w fun e w' => e = .returned (.int .i64 (renE S s t)) ∧ renS S s t = S ∧ w' = w := by
  have h1 : Hid (Calls Try.prog 44 #[.pointer (some ⟨r, 0, none⟩), .string s, .bool false] w fun e w' => e = .returned (.int .i64 (namedE S [s])) ∧ w' = w) := rask_some N r S s hs false w h
  have h2 : Hid (Calls Try.prog 44 #[.pointer (some ⟨r, 0, none⟩), .string t, .bool false] w fun e w' => e = .returned (.int .i64 (namedE S [t])) ∧ w' = w) := rask_some N r S t ht false w h
  have h3 : Hid (Calls Try.prog 44 #[.pointer (some ⟨r, 0, none⟩), .string s, .bool true] w fun e w' => e = .returned (.int .i64 (foundE S s)) ∧ w' = w) := rask_some N r S s hs true w h
  by_cases e1 : namedE S [s] = 0
  · by_cases e2 : namedE S [t] = 0
    · have e3 : ¬ foundE S s = 0 := by
        rcases hE with hE | hE
        · exact absurd (named_two_ok e1 e2) hE
        · exact hE
      have x1 : renE S s t = foundE S s := by rw [renE, if_pos (named_two_ok e1 e2), eachE, if_neg e3]
      have x2 : Hid (renS S s t = S) := by show renS S s t = S; rw [renS, if_pos (named_two_ok e1 e2), eachS, if_neg e3]
      rw [x1]
      rw [e1] at h1
      rw [e2] at h2
      have hne : ((foundE S s) == 0) = false := by simpa using e3
      have hne2 : ((foundE S s) != 0) = true := by simpa using e3
      generalize foundE S s = E at *
      clear h hE e1 e2 e3 x1
      go_enter Try.func27, Try.ntmps27
      go_wp2_with (first
        | (go_at_call_of 44 (Value.bool true); refine h3.out.mono ?_; rintro e w2 ⟨rfl, rfl⟩)
        | (go_at_call_of 44 (Value.string t); refine h2.out.mono ?_; rintro e w2 ⟨rfl, rfl⟩)
        | (go_at_call 44; refine h1.out.mono ?_; rintro e w2 ⟨rfl, rfl⟩))
      go_ret
      exact ⟨rfl, x2.out, rfl⟩
    · have x1 : renE S s t = namedE S [t] := by rw [renE, named_two_no e1 e2, if_neg e2]
      have x2 : Hid (renS S s t = S) := by show renS S s t = S; rw [renS, named_two_no e1 e2, if_neg e2]
      rw [x1]
      rw [e1] at h1
      have hne : ((namedE S [t]) == 0) = false := by simpa using e2
      have hne2 : ((namedE S [t]) != 0) = true := by simpa using e2
      generalize namedE S [t] = E at *
      clear h hE e1 e2 x1 h3
      go_enter Try.func27, Try.ntmps27
      go_wp2_with (first
        | (go_at_call_of 44 (Value.string t); refine h2.out.mono ?_; rintro e w2 ⟨rfl, rfl⟩)
        | (go_at_call 44; refine h1.out.mono ?_; rintro e w2 ⟨rfl, rfl⟩))
      go_ret
      exact ⟨rfl, x2.out, rfl⟩
  · have x1 : renE S s t = namedE S [s] := by rw [renE, named_two e1, if_neg e1]
    have x2 : Hid (renS S s t = S) := by show renS S s t = S; rw [renS, named_two e1, if_neg e1]
    rw [x1]
    have hne : ((namedE S [s]) == 0) = false := by simpa using e1
    have hne2 : ((namedE S [s]) != 0) = true := by simpa using e1
    generalize namedE S [s] = E at *
    clear h hE e1 x1 h2 h3
    go_enter Try.func27, Try.ntmps27
    go_wp2_with (first
      | (go_at_call 44; refine h1.out.mono ?_; rintro e w2 ⟨rfl, rfl⟩))
    go_ret
    exact ⟨rfl, x2.out, rfl⟩

set_option maxHeartbeats 3200000 in
set_option maxRecDepth 100000 in
theorem rename_ok (N r : Nat) (S : Dk) (s t : ByteArray) (hs : s.size < 9223372036854775808) (ht : t.size < 9223372036854775808) (w : World) (h : RefAt w N r S) (hE : namedE S [s, t] = 0) (hf0 : foundE S s = 0) : Calls Try.prog 27 #[.pointer (some ⟨r, 0, none⟩), .string s, .string t] w fun e w' => e = .returned (.int .i64 (renE S s t)) ∧ RefAt w' N r (renS S s t) ∧ RUpd N w w' := by
  have h1 : Hid (Calls Try.prog 44 #[.pointer (some ⟨r, 0, none⟩), .string s, .bool false] w fun e w' => e = .returned (.int .i64 (namedE S [s])) ∧ w' = w) := rask_some N r S s hs false w h
  have h2 : Hid (Calls Try.prog 44 #[.pointer (some ⟨r, 0, none⟩), .string t, .bool false] w fun e w' => e = .returned (.int .i64 (namedE S [t])) ∧ w' = w) := rask_some N r S t ht false w h
  have h3 : Hid (Calls Try.prog 44 #[.pointer (some ⟨r, 0, none⟩), .string s, .bool true] w fun e w' => e = .returned (.int .i64 (foundE S s)) ∧ w' = w) := rask_some N r S s hs true w h
  have e1 : namedE S [s] = 0 := by
    by_cases e : namedE S [s] = 0
    · exact e
    · rw [named_two e] at hE; exact hE
  have e2 : namedE S [t] = 0 := by
    by_cases e : namedE S [t] = 0
    · exact e
    · rw [named_two_no e1 e] at hE; exact hE
  rw [e1] at h1
  rw [e2] at h2
  rw [hf0] at h3
  have hst : Hid (Calls Try.prog 55 #[.pointer (some ⟨r, 0, none⟩)] w fun e w' => e = .returned (.bool (stepB S)) ∧ RefAt w' N r (stepS S) ∧ RUpd N w w') := rstep_some N r S w h
  by_cases hs0 : stepE S = 0
  · have x1 : renE S s t = 0 := by rw [renE, if_pos hE, eachE, if_pos hf0, hs0]
    have x2 : renS S s t = moveS (stepS S) s.data.toList t.data.toList := by rw [renS, if_pos hE, eachS, if_pos hf0, if_pos hs0]
    rw [x1, x2]
    rw [(stepB_of S).1 hs0] at hst
    obtain ⟨_, _, f, hf⟩ := found_zero hf0
    have hf2 : get (stepS S).fs s.data.toList = some f := by rw [stepS_fs]; exact hf
    have hG1 : (stepS S).Good := h.good.step
    obtain ⟨i, hi, hai, hfi⟩ := atI_of_some hG1.rise hf2
    have hT : (moveS (stepS S) s.data.toList t.data.toList).Good := by
      have hfm := hG1.firm _ (get_mem hf2)
      refine ⟨(Dk.FineAt.move (st := (stepS S).steps) ⟨hG1.toFine, rfl⟩ _ _ f hf2 (nameOk_le (named_ok e2).2)).toFine, hG1.arm, fun p hp => ?_⟩
      rcases keys_put _ _ _ p hp with e | e
      · rw [e, oldF_some hf2]; exact hfm
      · exact hG1.firm p ((del_sub _ _).subset e)
    have HST : Hid (Calls Try.prog 55 #[.pointer (some ⟨r, 0, none⟩)] w fun e w' => e = .returned (.bool true) ∧ RUpd N w w' ∧ w.heap.size ≤ w'.heap.size ∧ r < w'.heap.size ∧
        (∃ g c, w'.cell? ⟨r, 0, none⟩ = some (.slice (some ⟨g, 0, none⟩) (stepS S).fs.length c) ∧ w'.cell? ⟨g, i * 3, none⟩ = some (.string s) ∧ w'.cell? ⟨g, i * 3 + 1, none⟩ = some (.string (strL f.bytes)) ∧ w'.cell? ⟨g, i * 3 + 2, none⟩ = some (.int .i64 (f.firm : Int))) ∧
        (∀ W, Below w'.heap.size w' W → Calls Try.prog 45 #[.pointer (some ⟨r, 0, none⟩), .string s] W fun e w2 => e = .returned (.int .i64 (i : Int)) ∧ w2 = W) ∧
        ∀ W, Below w'.heap.size w' W → Holds W w'.heap.size [.string s, .string (strL f.bytes), .int .i64 (f.firm : Int)] 63 → Calls Try.prog 56 #[.pointer (some ⟨r, 0, none⟩), .string s] W fun e w2 => e = .returned (.tuple #[]) ∧ Holds w2 w'.heap.size [.string s, .string (strL f.bytes), .int .i64 (f.firm : Int)] 63 ∧
          Calls Try.prog 57 #[.pointer (some ⟨r, 0, none⟩), .agg #[.string t, .string (strL f.bytes), .int .i64 (f.firm : Int)]] (w2.setCell ⟨w'.heap.size, 0, none⟩ (.string t)) fun e w3 => e = .returned (.tuple #[]) ∧ RefAt w3 N r (moveS (stepS S) s.data.toList t.data.toList) ∧ RUpd N w w3) := by
      refine hst.out.mono fun e w' ⟨k1, k2, k3⟩ => ⟨k1, k3, k3.size, by have := k2.lt; omega, ?_, fun W hb => ?_, fun W hb hbox => ?_⟩
      · obtain ⟨fs, a, c, hfs, c0, hrow⟩ := k2.rows
        rw [hfs] at hfi ⊢
        obtain ⟨g, rfl, hc⟩ := hrow i _ hfi
        have z0 := hc 0 _ rfl
        simp only [Nat.add_zero] at z0
        refine ⟨g, c, c0, ?_, hc 1 _ rfl, hc 2 _ rfl⟩
        rw [z0]; show some (Value.string (strL s.data.toList)) = _; rw [strL_self]
      · have := rat_some N r (stepS S) s W (k2.below hb)
        rw [hai] at this; exact this
      · have hbl := hb.size
        have hrl := k2.lt
        have hne : w'.heap.size ≠ r := by omega
        have hlt2 : w'.heap.size < W.heap.size := hbox.lt
        refine (rgone_some N r (stepS S) s W (k2.below hb)).mono fun e w2 ⟨q1, q2, q3, q4, q5⟩ => ⟨q1, ?_, ?_⟩
        · unfold Holds at hbox ⊢
          rw [q4 _ hlt2 hne]; exact hbox
        · have hR2 := q5 w'.heap.size 0 (.string t) hlt2 hne
          have := rlaid_some N r (dropS (stepS S) s.data.toList) t.data.toList f (by
            have e : putS (dropS (stepS S) s.data.toList) t.data.toList f = moveS (stepS S) s.data.toList t.data.toList := by rw [moveS, oldF_some hf2]; rfl
            rw [e]; exact hT) _ hR2
          rw [strL_self] at this
          refine this.mono fun e w3 ⟨j1, j2, j3⟩ => ⟨j1, ?_, ?_⟩
          · have e : putS (dropS (stepS S) s.data.toList) t.data.toList f = moveS (stepS S) s.data.toList t.data.toList := by rw [moveS, oldF_some hf2]; rfl
            rw [← e]; exact j2
          · have u1 : RUpd N w w2 := (k3.trans (RUpd.ofBelow hb)).trans q3
            have hs1 := k3.size
            have hs2 := q3.size
            have u2 : RUpd N w (w2.setCell ⟨w'.heap.size, 0, none⟩ (.string t)) := ⟨u1.os, u1.tape, u1.output, by simp; exact u1.size, fun j hj hc => by
              rw [heap_setCell_other w2 ⟨w'.heap.size, 0, none⟩ j _ (by show j ≠ w'.heap.size; omega)]
              exact u1.block j hj hc⟩
            exact u2.trans j3
    generalize moveS (stepS S) s.data.toList t.data.toList = T at *
    generalize (stepS S).fs.length = n at *
    have g1 : (i : Int) < (n : Int) := by omega
    have g2 : (0 : Int) ≤ (i : Int) := by omega
    have g3 : ((i : Int)).toNat = i := by omega
    generalize strL f.bytes = D at *
    generalize (f.firm : Int) = F at *
    clear h hE hf0 e1 e2 hs0 x1 x2 hst hf hf2 hfi hai hi hT hG1
    go_enter Try.func27, Try.ntmps27
    go_wp2_with (first
      | (go_at_call 55; refine HST.out.mono ?_; rintro e w3 ⟨rfl, u3, hsz3, hr3, ⟨g, c, z0, z1, z2, z3⟩, hat, hgo⟩; have hba : ∀ o : Obj, Below w3.heap.size w3 (w3.alloc o) := (fun o => (Below.refl _ _).alloc (Nat.le_refl _) o); have y0 : (w3.alloc (.cells #[.string ⟨#[]⟩, .string ⟨#[]⟩, .int .i64 0] 63)).cell? ⟨r, 0, none⟩ = some (.slice (some ⟨g, 0, none⟩) n c) := ((hba _).cell (cell_lt z0)).trans z0; have x0 : (w3.alloc (.cells #[.string ⟨#[]⟩, .string ⟨#[]⟩, .int .i64 0] 63)).drew.cell? ⟨r, 0, none⟩ = some (.slice (some ⟨g, 0, none⟩) n c) := y0; have v0 : w3.drew.cell? ⟨r, 0, none⟩ = some (.slice (some ⟨g, 0, none⟩) n c) := z0; have y1 : (w3.alloc (.cells #[.string ⟨#[]⟩, .string ⟨#[]⟩, .int .i64 0] 63)).cell? ⟨g, i * 3, none⟩ = some (.string s) := ((hba _).cell (cell_lt z1)).trans z1; have x1 : (w3.alloc (.cells #[.string ⟨#[]⟩, .string ⟨#[]⟩, .int .i64 0] 63)).drew.cell? ⟨g, i * 3, none⟩ = some (.string s) := y1; have v1 : w3.drew.cell? ⟨g, i * 3, none⟩ = some (.string s) := z1; have y2 : (w3.alloc (.cells #[.string ⟨#[]⟩, .string ⟨#[]⟩, .int .i64 0] 63)).cell? ⟨g, i * 3 + 1, none⟩ = some (.string D) := ((hba _).cell (cell_lt z2)).trans z2; have x2 : (w3.alloc (.cells #[.string ⟨#[]⟩, .string ⟨#[]⟩, .int .i64 0] 63)).drew.cell? ⟨g, i * 3 + 1, none⟩ = some (.string D) := y2; have v2 : w3.drew.cell? ⟨g, i * 3 + 1, none⟩ = some (.string D) := z2; have y3 : (w3.alloc (.cells #[.string ⟨#[]⟩, .string ⟨#[]⟩, .int .i64 0] 63)).cell? ⟨g, i * 3 + 2, none⟩ = some (.int .i64 F) := ((hba _).cell (cell_lt z3)).trans z3; have x3 : (w3.alloc (.cells #[.string ⟨#[]⟩, .string ⟨#[]⟩, .int .i64 0] 63)).drew.cell? ⟨g, i * 3 + 2, none⟩ = some (.int .i64 F) := y3; have v3 : w3.drew.cell? ⟨g, i * 3 + 2, none⟩ = some (.int .i64 F) := z3; clear hba; have HAT : Hid (∀ W, Below w3.heap.size w3 W → Calls Try.prog 45 #[.pointer (some ⟨r, 0, none⟩), .string s] W fun e w2 => e = .returned (.int .i64 (i : Int)) ∧ w2 = W) := hat; have HGO : Hid (∀ W, Below w3.heap.size w3 W → Holds W w3.heap.size [.string s, .string D, .int .i64 F] 63 → Calls Try.prog 56 #[.pointer (some ⟨r, 0, none⟩), .string s] W fun e x2 => e = .returned (.tuple #[]) ∧ Holds x2 w3.heap.size [.string s, .string D, .int .i64 F] 63 ∧ Calls Try.prog 57 #[.pointer (some ⟨r, 0, none⟩), .agg #[.string t, .string D, .int .i64 F]] (x2.setCell ⟨w3.heap.size, 0, none⟩ (.string t)) fun e w4 => e = .returned (.tuple #[]) ∧ RefAt w4 N r T ∧ RUpd N w2 w4) := hgo; clear hat hgo)
      | (go_at_call_of 44 (Value.bool true); refine h3.out.mono ?_; rintro e w2 ⟨rfl, rfl⟩)
      | (go_at_call_of 44 (Value.string t); refine h2.out.mono ?_; rintro e w2 ⟨rfl, rfl⟩)
      | (go_at_call 44; refine h1.out.mono ?_; rintro e w2 ⟨rfl, rfl⟩))
    go_region_with (first | (go_at_call 45; refine (HAT.out _ ?_).mono ?_; (repeat (first | exact Below.refl _ _ | refine Below.drew ?_ | refine Below.setCell ?_ (Nat.le_of_eq rfl) _ | refine Below.alloc ?_ (Nat.le_refl _) _)); rintro e w4 ⟨rfl, rfl⟩))
    all_goals
      have hbW : Below w3.heap.size w3 (w3.alloc (.cells #[.string s, .string D, .int .i64 F] 63)).drew := Below.drew ((Below.refl _ _).alloc (Nat.le_refl _) _)
      have hoW : Holds (w3.alloc (.cells #[.string s, .string D, .int .i64 F] 63)).drew w3.heap.size [.string s, .string D, .int .i64 F] 63 := holds_new w3 [.string s, .string D, .int .i64 F] 63
      have hcall := HGO.out _ hbW hoW
      clear x0 x1 x2 x3 y0 y1 y2 y3 v0 v1 v2 v3 z0 z1 z2 z3 HAT HGO hbW hoW h1 h2 h3 HST
      have HC : Hid (Calls Try.prog 56 #[.pointer (some ⟨r, 0, none⟩), .string s] (w3.alloc (.cells #[.string s, .string D, .int .i64 F] 63)).drew fun e x2 => e = .returned (.tuple #[]) ∧ Holds x2 w3.heap.size [.string s, .string D, .int .i64 F] 63 ∧ Calls Try.prog 57 #[.pointer (some ⟨r, 0, none⟩), .agg #[.string t, .string D, .int .i64 F]] (x2.setCell ⟨w3.heap.size, 0, none⟩ (.string t)) fun e w4 => e = .returned (.tuple #[]) ∧ RefAt w4 N r T ∧ RUpd N w2 w4) := hcall
      clear hcall
      go_wp2_with (first
        | (go_at_call 57; refine H57.out.mono ?_; rintro e w6 ⟨rfl, h6, u6⟩)
        | (go_at_call 56; refine HC.out.mono ?_; rintro e w5 ⟨rfl, hb5, h57⟩; have H57 : Hid (Calls Try.prog 57 #[.pointer (some ⟨r, 0, none⟩), .agg #[.string t, .string D, .int .i64 F]] (w5.setCell ⟨w3.heap.size, 0, none⟩ (.string t)) fun e w4 => e = .returned (.tuple #[]) ∧ RefAt w4 N r T ∧ RUpd N w2 w4) := h57; clear h57; have t0 := hb5.at 0 _ rfl; have t1 := hb5.at 1 _ rfl; have t2 := hb5.at 2 _ rfl; have t3 := hb5.frozen 0))
      go_ret
      exact ⟨rfl, h6, u6⟩
  · have x1 : renE S s t = 23 := by rw [renE, if_pos hE, eachE, if_pos hf0]; exact ((stepB_of S).2 hs0).2
    have x2 : renS S s t = stepS S := by rw [renS, if_pos hE, eachS, if_pos hf0, if_neg hs0]
    rw [x1, x2]
    rw [((stepB_of S).2 hs0).1] at hst
    generalize stepS S = S1 at *
    clear h hE hf0 e1 e2 hs0 x1 x2
    go_enter Try.func27, Try.ntmps27
    go_wp2_with (first
      | (go_at_call 55; refine hst.out.mono ?_; rintro e w3 ⟨rfl, h3, u3⟩)
      | (go_at_call_of 44 (Value.bool true); refine h3.out.mono ?_; rintro e w2 ⟨rfl, rfl⟩)
      | (go_at_call_of 44 (Value.string t); refine h2.out.mono ?_; rintro e w2 ⟨rfl, rfl⟩)
      | (go_at_call 44; refine h1.out.mono ?_; rintro e w2 ⟨rfl, rfl⟩))
    go_ret
    exact ⟨rfl, h3, u3⟩
end Go.Proofs.Ythaknjbcmflegaa
