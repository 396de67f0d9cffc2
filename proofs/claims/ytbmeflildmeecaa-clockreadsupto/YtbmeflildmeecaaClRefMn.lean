/- The document's reader: Num (68) in any state, Many (67), Done (53). -/
import Derived.Test.YtbmeflildmeecaaClRefRn
namespace Go.Proofs.Ytbmeflildmeecaa
open Go.RowKit Go.Shelf Go.Sort Go.Lib Pk

/-- The document's reader goes along with the program's: the same bytes left, an error just where that has one. -/
def Sim (w : World) (B : Nat) (st : ByteArray × Int) : Prop := ∃ E : Int, (E = 0 ↔ st.2 = 0) ∧ Rq w B st.1 E ∧ (st.2 ≠ 0 → st.1.size = 0)
set_option maxRecDepth 100000 in
set_option maxHeartbeats 1000000 in
theorem rnum_err (b : Nat) (s : ByteArray) (hs : s.size = 0) (E : Int) (hE : E ≠ 0) (w : World) (hr : Rq w b s E) :
    Calls Try.prog 68 #[.pointer (some ⟨b, 0, none⟩)] w fun e w' => e = .returned (.int .u64 0) ∧ w' = w := by
  have c1 : w.cell? ⟨b, 1, none⟩ = some (.int .i64 E) := hr.at 1 _ rfl
  have he' : (E == 0) = false := beq_eq_false_iff_ne.2 hE
  have h85 := raw_err b s hs E hE w hr
  go_enter Try.func68, Try.ntmps68
  go_wp2_with fail
  go_loop [4] (fun c => c = .int .i64 0) (fun _ => 0)
  case atStart => rfl
  case round =>
    obtain rfl := hrel
    go_wp2_with (go_at_call 85; refine h85.mono ?_; rintro e w1 ⟨rfl, hw1⟩; have hw1 := hw1.symm; subst hw1)
    go_ret
    exact ⟨rfl, rfl⟩
theorem rnum_sim (b : Nat) (st : ByteArray × Int) (w : World) (hr : Sim w b st) :
    Calls Try.prog 68 #[.pointer (some ⟨b, 0, none⟩)] w fun e w' => e = .returned (.int .u64 ((rdN st).1 : Int)) ∧ Sim w' b (rdN st).2 ∧ Upd b w w' := by
  obtain ⟨s, E0⟩ := st
  obtain ⟨E, hE, hq, hz⟩ := hr
  dsimp only at hE hq hz
  by_cases h : E0 = 0
  · subst h
    have hE0 : E = 0 := hE.2 rfl
    subst hE0
    have e : rdN (s, 0) = (nV s, (restR (nE s) (nR s), nE s)) := rfl
    rw [e]
    refine (rnum_ok b s w hq).mono ?_
    rintro x w' ⟨E', h1, rfl, h2, h3⟩
    refine ⟨rfl, ⟨E', h1, h2, fun h4 => ?_⟩, h3⟩
    show (restR (nE s) (nR s)).size = 0
    unfold restR
    rw [if_neg h4]
    rfl
  · have e : rdN (s, E0) = (0, (s, E0)) := by unfold rdN; rw [if_neg h]
    rw [e]
    refine (rnum_err b s (hz h) E (fun q => h (hE.1 q)) w hq).mono ?_
    rintro x w' ⟨rfl, rfl⟩
    exact ⟨rfl, ⟨E, hE, hq, hz⟩, Upd.refl _ _⟩
theorem tdiv2 (n : Nat) : (n : Int).tdiv 2 = ((n / 2 : Nat) : Int) := by rw [Int.tdiv_eq_ediv_of_nonneg (by omega)]; omega
theorem u64_small {n : Nat} (h : n < 9223372036854775808) : IntKind.u64.wrap (n : Int) = (n : Int) := by rw [wrap_u64]; omega
theorem wrap64_small {n : Nat} (h : n < 9223372036854775808) : wrap64 (n : Int) = (n : Int) := by unfold wrap64; omega
set_option maxRecDepth 100000 in
set_option maxHeartbeats 2000000 in
theorem rmany_two (b : Nat) (s : ByteArray) (hs : s.size < 9223372036854775808) (w : World) (hr : Rq w b s 0) :
    Calls Try.prog 67 #[.pointer (some ⟨b, 0, none⟩), .int .i64 2] w fun e w' => e = .returned (.int .i64 (mnV s 2 : Int)) ∧ Sim w' b (rdMany s) ∧ Upd b w w' := by
  have h68 := rnum_ok b s w hr
  have hsz := nR_size s
  have e2 : (max (2 : Int) 1).toNat = 2 := rfl
  by_cases hE : nE s = 0
  · rw [hE] at h68
    have h68' : Hid (Calls Try.prog 68 #[.pointer (some ⟨b, 0, none⟩)] w fun e w' => e = .returned (.int .u64 (nV s : Int)) ∧ Rq w' b (nR s) 0 ∧ Upd b w w') := h68.mono (by
      rintro x w' ⟨E, h1, rfl, h2, h3⟩
      obtain rfl := h1.2 rfl
      exact ⟨rfl, h2, h3⟩)
    clear h68
    have hv := nV_lt s
    by_cases hm : (nR s).size / 2 < nV s
    · have hE2 : manyE s 2 = 10 := by unfold manyE; rw [if_pos hE, e2, if_pos hm]
      have hM : mnV s 2 = 0 := by unfold mnV; rw [hE2]; rfl
      have hR : rdMany s = (⟨#[]⟩, 10) := by unfold rdMany; rw [hE2]; rfl
      rw [hM, hR]
      generalize nR s = R at *
      generalize nV s = V at *
      have h84 : Hid (∀ W, Rq W b R 0 → Calls Try.prog 84 #[.pointer (some ⟨b, 0, none⟩), .int .i64 10] W fun x w' => x = .returned (.tuple #[]) ∧ Rq w' b ⟨#[]⟩ 10 ∧ Upd b W w') := fun W h => rfail_new b R 10 (by decide) W h
      have hRs : R.size / 2 < 9223372036854775808 := Nat.lt_of_le_of_lt (Nat.div_le_self _ _) (Nat.lt_of_le_of_lt hsz hs)
      have hq1 : (R.size : Int).tdiv 2 = ((R.size / 2 : Nat) : Int) := tdiv2 R.size
      have hq2 : IntKind.u64.wrap ((R.size / 2 : Nat) : Int) = ((R.size / 2 : Nat) : Int) := u64_small hRs
      have hq3 : wrap64 ((R.size / 2 : Nat) : Int) = ((R.size / 2 : Nat) : Int) := wrap64_small hRs
      generalize hQ : R.size / 2 = Q at *
      have hlt : (Q : Int) < (V : Int) := Int.ofNat_lt.2 hm
      clear hE hE2 hM hR e2 hQ hRs hsz hs hv
      go_enter Try.func67, Try.ntmps67
      go_wp2_with (first
        | (go_at_call 84; refine (h84.out w1 r1).mono ?_; rintro e w2 ⟨rfl, r2, u2'⟩; have c3 : w2.cell? ⟨b, 1, none⟩ = some (.int .i64 10) := r2.at 1 _ rfl)
        | (go_at_call 68; refine h68'.out.mono ?_; rintro e w1 ⟨rfl, r1, u1⟩; have c1 : w1.cell? ⟨b, 1, none⟩ = some (.int .i64 0) := r1.at 1 _ rfl; have c0 : w1.cell? ⟨b, 0, none⟩ = some (.string R) := r1.at 0 _ rfl))
      go_ret
      exact ⟨rfl, ⟨10, by simp, r2, fun _ => rfl⟩, u1.trans u2'⟩
    · have hE2 : manyE s 2 = 0 := by unfold manyE; rw [if_pos hE, e2, if_neg hm]
      have hM : mnV s 2 = nV s := by unfold mnV; rw [hE2]; rfl
      have hR : rdMany s = (nR s, 0) := by unfold rdMany; rw [hE2]; rfl
      rw [hM, hR]
      generalize nR s = R at *
      generalize nV s = V at *
      have hRs : R.size / 2 < 9223372036854775808 := Nat.lt_of_le_of_lt (Nat.div_le_self _ _) (Nat.lt_of_le_of_lt hsz hs)
      have hq1 : (R.size : Int).tdiv 2 = ((R.size / 2 : Nat) : Int) := tdiv2 R.size
      have hq2 : IntKind.u64.wrap ((R.size / 2 : Nat) : Int) = ((R.size / 2 : Nat) : Int) := u64_small hRs
      have hq3 : wrap64 ((R.size / 2 : Nat) : Int) = ((R.size / 2 : Nat) : Int) := wrap64_small hRs
      have hVw : wrap64 (V : Int) = (V : Int) := wrap64_small (Nat.lt_of_le_of_lt (Nat.le_of_not_lt hm) hRs)
      generalize hQ : R.size / 2 = Q at *
      have hlt : ¬ (Q : Int) < (V : Int) := fun h => hm (Int.ofNat_lt.1 h)
      clear hE hE2 hM hR e2 hQ hRs hsz hs hv
      go_enter Try.func67, Try.ntmps67
      go_wp2_with (first
        | (go_at_call 68; refine h68'.out.mono ?_; rintro e w1 ⟨rfl, r1, u1⟩; have c1 : w1.cell? ⟨b, 1, none⟩ = some (.int .i64 0) := r1.at 1 _ rfl; have c0 : w1.cell? ⟨b, 0, none⟩ = some (.string R) := r1.at 0 _ rfl))
      go_ret
      refine ⟨?_, ⟨0, by simp, r1, fun h => absurd rfl h⟩, u1⟩
      show Ending.returned (.int .i64 (wrap64 (V : Int))) = _
      rw [hVw]
  · have hE2 : manyE s 2 = nE s := by unfold manyE; rw [if_neg hE]
    have hM : mnV s 2 = 0 := by unfold mnV; rw [hE2, if_neg hE]
    have hR : rdMany s = (⟨#[]⟩, nE s) := by unfold rdMany restR; rw [hE2, if_neg hE]
    rw [hM, hR]
    have h68' : Hid (Calls Try.prog 68 #[.pointer (some ⟨b, 0, none⟩)] w fun e w' => ∃ E : Int, (E ≠ 0) ∧ e = .returned (.int .u64 (nV s : Int)) ∧ Rq w' b ⟨#[]⟩ E ∧ Upd b w w') := h68.mono (by
      rintro x w' ⟨E, h1, rfl, h2, h3⟩
      unfold restR at h2
      rw [if_neg hE] at h2
      exact ⟨E, fun h => hE (h1.1 h), rfl, h2, h3⟩)
    clear h68
    generalize nV s = V at *
    have HE : Hid (nE s ≠ 0) := hE
    clear hE hE2 hM hR
    go_enter Try.func67, Try.ntmps67
    go_wp2_with (first
      | (go_at_call 68; refine h68'.out.mono ?_; rintro e w1 ⟨E, hE1, rfl, r1, u1⟩; have hEb : (E == 0) = false := beq_eq_false_iff_ne.2 hE1; have c1 : w1.cell? ⟨b, 1, none⟩ = some (.int .i64 E) := r1.at 1 _ rfl))
    go_ret
    exact ⟨rfl, ⟨E, ⟨fun h => absurd h hE1, fun h => absurd h HE.out⟩, r1, fun _ => rfl⟩, u1⟩
set_option maxRecDepth 100000 in
set_option maxHeartbeats 1000000 in
theorem rdone_sim (b : Nat) (st : ByteArray × Int) (w : World) (hr : Sim w b st) :
    Calls Try.prog 53 #[.pointer (some ⟨b, 0, none⟩)] w fun e w' => ∃ E : Int, (E = 0 ↔ st.2 = 0 ∧ st.1.size = 0) ∧ e = .returned (.int .i64 E) ∧ w' = w := by
  obtain ⟨s, E0⟩ := st
  obtain ⟨E, hE, hq, hz⟩ := hr
  dsimp only at hE hq hz ⊢
  have c0 : w.cell? ⟨b, 0, none⟩ = some (.string s) := hq.at 0 _ rfl
  have c1 : w.cell? ⟨b, 1, none⟩ = some (.int .i64 E) := hq.at 1 _ rfl
  by_cases h : E = 0
  · subst h
    have h0 : E0 = 0 := hE.1 rfl
    subst h0
    by_cases h2 : s.size = 0
    · have h3 := emp_true h2
      clear hE hz hq
      go_enter Try.func53, Try.ntmps53
      go_wp2
      go_ret
      exact ⟨0, by simp [h2], rfl, rfl⟩
    · have h3 := emp_false h2
      clear hE hz hq
      go_enter Try.func53, Try.ntmps53
      go_wp2
      go_ret
      exact ⟨11, by simp [h2], rfl, rfl⟩
  · have hEb : (E == 0) = false := beq_eq_false_iff_ne.2 h
    have H : Hid (¬ E0 = 0) := fun q => h (hE.2 q)
    clear hE hz hq
    go_enter Try.func53, Try.ntmps53
    go_wp2
    go_ret
    exact ⟨E, ⟨fun q => absurd q h, fun q => absurd q.1 H.out⟩, rfl, rfl⟩
end Go.Proofs.Ytbmeflildmeecaa
