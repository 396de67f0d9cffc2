/- GsRrC, GsRrD. -/
import Derived.Test.YthmnjebmnocoiaaGreatZR1
/- The document's reader: Num (68) in any state, Many (67), Done (53). -/
namespace Go.Proofs.YthmnjebmnocoiaaGreat.Rd
open Go.RowKit Pk

/-- The document's reader goes along with the program's: the same bytes left, an error just where that has one. -/
def Sim (w : World) (B : Nat) (st : ByteArray × Int) : Prop := ∃ E : Int, (E = 0 ↔ st.2 = 0) ∧ Rq w B st.1 E ∧ (st.2 ≠ 0 → st.1.size = 0)
set_option maxRecDepth 100000 in
set_option maxHeartbeats 1000000 in
theorem rnum_err (b : Nat) (s : ByteArray) (hs : s.size = 0) (E : Int) (hE : E ≠ 0) (w : World) (hr : Rq w b s E) :
    Calls Tryz.prog 59 #[.pointer (some ⟨b, 0, none⟩)] w fun e w' => e = .returned (.int .u64 0) ∧ w' = w := by
  have c1 : w.cell? ⟨b, 1, none⟩ = some (.int .i64 E) := hr.at 1 _ rfl
  have he' : (E == 0) = false := beq_eq_false_iff_ne.2 hE
  have h85 := raw_err b s hs E hE w hr
  go_enter Tryz.func59, Tryz.ntmps59
  go_wp2_with fail
  go_loop [4] (fun c => c = .int .i64 0) (fun _ => 0)
  case atStart => rfl
  case round =>
    obtain rfl := hrel
    go_wp2_with (go_at_call 86; refine h85.mono ?_; rintro e w1 ⟨rfl, hw1⟩; have hw1 := hw1.symm; subst hw1)
    go_ret
    exact ⟨rfl, rfl⟩
theorem rnum_sim (b : Nat) (st : ByteArray × Int) (w : World) (hr : Sim w b st) :
    Calls Tryz.prog 59 #[.pointer (some ⟨b, 0, none⟩)] w fun e w' => e = .returned (.int .u64 ((rdN st).1 : Int)) ∧ Sim w' b (rdN st).2 ∧ Upd b w w' := by
  obtain ⟨s, E0⟩ := st
  obtain ⟨E, hE, hq, hz⟩ := hr
  dsimp only at hE hq hz
  by_cases h : E0 = 0
  · subst h
    have hE0 : E = 0 := hE.2 rfl
    subst hE0
    have e : rdN (s, 0) = (nV s, (restR (nE s) (nR s), nE s)) := rfl
    rw [e]
    refine (rnum_ok b s w hq).mono ?_
    rintro x w' ⟨E', h1, rfl, h2, h3⟩
    refine ⟨rfl, ⟨E', h1, h2, fun h4 => ?_⟩, h3⟩
    show (restR (nE s) (nR s)).size = 0
    unfold restR
    rw [if_neg h4]
    rfl
  · have e : rdN (s, E0) = (0, (s, E0)) := by unfold rdN; rw [if_neg h]
    rw [e]
    refine (rnum_err b s (hz h) E (fun q => h (hE.1 q)) w hq).mono ?_
    rintro x w' ⟨rfl, rfl⟩
    exact ⟨rfl, ⟨E, hE, hq, hz⟩, Upd.refl _ _⟩
theorem tdiv3 (n : Nat) : (n : Int).tdiv 3 = ((n / 3 : Nat) : Int) := by rw [Int.tdiv_eq_ediv_of_nonneg (by omega)]; omega
theorem u64_small {n : Nat} (h : n < 9223372036854775808) : IntKind.u64.wrap (n : Int) = (n : Int) := by rw [wrap_u64]; omega
theorem wrap64_small {n : Nat} (h : n < 9223372036854775808) : wrap64 (n : Int) = (n : Int) := by unfold wrap64; omega
set_option maxRecDepth 100000 in
set_option maxHeartbeats 2000000 in
theorem rmany_three (b : Nat) (s : ByteArray) (hs : s.size < 9223372036854775808) (w : World) (hr : Rq w b s 0) :
    Calls Tryz.prog 57 #[.pointer (some ⟨b, 0, none⟩), .int .i64 3] w fun e w' => e = .returned (.int .i64 (mnV s 3 : Int)) ∧ Sim w' b (rdMany s) ∧ Upd b w w' := by
  have h68 := rnum_ok b s w hr
  have hsz := nR_size s
  have e2 : (max (3 : Int) 1).toNat = 3 := rfl
  by_cases hE : nE s = 0
  · rw [hE] at h68
    have h68' : Hid (Calls Tryz.prog 59 #[.pointer (some ⟨b, 0, none⟩)] w fun e w' => e = .returned (.int .u64 (nV s : Int)) ∧ Rq w' b (nR s) 0 ∧ Upd b w w') := h68.mono (by
      rintro x w' ⟨E, h1, rfl, h2, h3⟩
      obtain rfl := h1.2 rfl
      exact ⟨rfl, h2, h3⟩)
    clear h68
    have hv := nV_lt s
    by_cases hm : (nR s).size / 3 < nV s
    · have hE2 : manyE s 3 = 10 := by unfold manyE; rw [if_pos hE, e2, if_pos hm]
      have hM : mnV s 3 = 0 := by unfold mnV; rw [hE2]; rfl
      have hR : rdMany s = (⟨#[]⟩, 10) := by unfold rdMany; rw [hE2]; rfl
      rw [hM, hR]
      generalize nR s = R at *
      generalize nV s = V at *
      have h84 : Hid (∀ W, Rq W b R 0 → Calls Tryz.prog 85 #[.pointer (some ⟨b, 0, none⟩), .int .i64 10] W fun x w' => x = .returned (.tuple #[]) ∧ Rq w' b ⟨#[]⟩ 10 ∧ Upd b W w') := fun W h => rfail_new b R 10 (by decide) W h
      have hRs : R.size / 3 < 9223372036854775808 := Nat.lt_of_le_of_lt (Nat.div_le_self _ _) (Nat.lt_of_le_of_lt hsz hs)
      have hq1 : (R.size : Int).tdiv 3 = ((R.size / 3 : Nat) : Int) := tdiv3 R.size
      have hq2 : IntKind.u64.wrap ((R.size / 3 : Nat) : Int) = ((R.size / 3 : Nat) : Int) := u64_small hRs
      have hq3 : wrap64 ((R.size / 3 : Nat) : Int) = ((R.size / 3 : Nat) : Int) := wrap64_small hRs
      generalize hQ : R.size / 3 = Q at *
      have hlt : (Q : Int) < (V : Int) := Int.ofNat_lt.2 hm
      clear hE hE2 hM hR e2 hQ hRs hsz hs hv
      go_enter Tryz.func57, Tryz.ntmps57
      go_wp2_with (first
        | (go_at_call 85; refine (h84.out w1 r1).mono ?_; rintro e w2 ⟨rfl, r2, u2'⟩; have c3 : w2.cell? ⟨b, 1, none⟩ = some (.int .i64 10) := r2.at 1 _ rfl)
        | (go_at_call 59; refine h68'.out.mono ?_; rintro e w1 ⟨rfl, r1, u1⟩; have c1 : w1.cell? ⟨b, 1, none⟩ = some (.int .i64 0) := r1.at 1 _ rfl; have c0 : w1.cell? ⟨b, 0, none⟩ = some (.string R) := r1.at 0 _ rfl))
      go_ret
      exact ⟨rfl, ⟨10, by simp, r2, fun _ => rfl⟩, u1.trans u2'⟩
    · have hE2 : manyE s 3 = 0 := by unfold manyE; rw [if_pos hE, e2, if_neg hm]
      have hM : mnV s 3 = nV s := by unfold mnV; rw [hE2]; rfl
      have hR : rdMany s = (nR s, 0) := by unfold rdMany; rw [hE2]; rfl
      rw [hM, hR]
      generalize nR s = R at *
      generalize nV s = V at *
      have hRs : R.size / 3 < 9223372036854775808 := Nat.lt_of_le_of_lt (Nat.div_le_self _ _) (Nat.lt_of_le_of_lt hsz hs)
      have hq1 : (R.size : Int).tdiv 3 = ((R.size / 3 : Nat) : Int) := tdiv3 R.size
      have hq2 : IntKind.u64.wrap ((R.size / 3 : Nat) : Int) = ((R.size / 3 : Nat) : Int) := u64_small hRs
      have hq3 : wrap64 ((R.size / 3 : Nat) : Int) = ((R.size / 3 : Nat) : Int) := wrap64_small hRs
      have hVw : wrap64 (V : Int) = (V : Int) := wrap64_small (Nat.lt_of_le_of_lt (Nat.le_of_not_lt hm) hRs)
      generalize hQ : R.size / 3 = Q at *
      have hlt : ¬ (Q : Int) < (V : Int) := fun h => hm (Int.ofNat_lt.1 h)
      clear hE hE2 hM hR e2 hQ hRs hsz hs hv
      go_enter Tryz.func57, Tryz.ntmps57
      go_wp2_with (first
        | (go_at_call 59; refine h68'.out.mono ?_; rintro e w1 ⟨rfl, r1, u1⟩; have c1 : w1.cell? ⟨b, 1, none⟩ = some (.int .i64 0) := r1.at 1 _ rfl; have c0 : w1.cell? ⟨b, 0, none⟩ = some (.string R) := r1.at 0 _ rfl))
      go_ret
      refine ⟨?_, ⟨0, by simp, r1, fun h => absurd rfl h⟩, u1⟩
      show Ending.returned (.int .i64 (wrap64 (V : Int))) = _
      rw [hVw]
  · have hE2 : manyE s 3 = nE s := by unfold manyE; rw [if_neg hE]
    have hM : mnV s 3 = 0 := by unfold mnV; rw [hE2, if_neg hE]
    have hR : rdMany s = (⟨#[]⟩, nE s) := by unfold rdMany restR; rw [hE2, if_neg hE]
    rw [hM, hR]
    have h68' : Hid (Calls Tryz.prog 59 #[.pointer (some ⟨b, 0, none⟩)] w fun e w' => ∃ E : Int, (E ≠ 0) ∧ e = .returned (.int .u64 (nV s : Int)) ∧ Rq w' b ⟨#[]⟩ E ∧ Upd b w w') := h68.mono (by
      rintro x w' ⟨E, h1, rfl, h2, h3⟩
      unfold restR at h2
      rw [if_neg hE] at h2
      exact ⟨E, fun h => hE (h1.1 h), rfl, h2, h3⟩)
    clear h68
    generalize nV s = V at *
    have HE : Hid (nE s ≠ 0) := hE
    clear hE hE2 hM hR
    go_enter Tryz.func57, Tryz.ntmps57
    go_wp2_with (first
      | (go_at_call 59; refine h68'.out.mono ?_; rintro e w1 ⟨E, hE1, rfl, r1, u1⟩; have hEb : (E == 0) = false := beq_eq_false_iff_ne.2 hE1; have c1 : w1.cell? ⟨b, 1, none⟩ = some (.int .i64 E) := r1.at 1 _ rfl))
    go_ret
    exact ⟨rfl, ⟨E, ⟨fun h => absurd h hE1, fun h => absurd h HE.out⟩, r1, fun _ => rfl⟩, u1⟩
set_option maxRecDepth 100000 in
set_option maxHeartbeats 1000000 in
theorem rdone_sim (b : Nat) (st : ByteArray × Int) (w : World) (hr : Sim w b st) :
    Calls Tryz.prog 60 #[.pointer (some ⟨b, 0, none⟩)] w fun e w' => ∃ E : Int, (E = 0 ↔ st.2 = 0 ∧ st.1.size = 0) ∧ e = .returned (.int .i64 E) ∧ w' = w := by
  obtain ⟨s, E0⟩ := st
  obtain ⟨E, hE, hq, hz⟩ := hr
  dsimp only at hE hq hz ⊢
  have c0 : w.cell? ⟨b, 0, none⟩ = some (.string s) := hq.at 0 _ rfl
  have c1 : w.cell? ⟨b, 1, none⟩ = some (.int .i64 E) := hq.at 1 _ rfl
  by_cases h : E = 0
  · subst h
    have h0 : E0 = 0 := hE.1 rfl
    subst h0
    by_cases h2 : s.size = 0
    · have h3 := emp_true h2
      clear hE hz hq
      go_enter Tryz.func60, Tryz.ntmps60
      go_wp2
      go_ret
      exact ⟨0, by simp [h2], rfl, rfl⟩
    · have h3 := emp_false h2
      clear hE hz hq
      go_enter Tryz.func60, Tryz.ntmps60
      go_wp2
      go_ret
      exact ⟨11, by simp [h2], rfl, rfl⟩
  · have hEb : (E == 0) = false := beq_eq_false_iff_ne.2 h
    have H : Hid (¬ E0 = 0) := fun q => h (hE.2 q)
    clear hE hz hq
    go_enter Tryz.func60, Tryz.ntmps60
    go_wp2
    go_ret
    exact ⟨E, ⟨fun q => absurd q h, fun q => absurd q.1 H.out⟩, rfl, rfl⟩
end Go.Proofs.YthmnjebmnocoiaaGreat.Rd

/- The document's reader: Int (58) in any state; the program's Int, Num, Many in any state. -/
namespace Go.Proofs.YthmnjebmnocoiaaGreat.Rd
open Go.RowKit

theorem tdivH (n : Nat) : (n : Int).tdiv 2 = ((n / 2 : Nat) : Int) := by rw [Int.tdiv_eq_ediv_of_nonneg (by omega)]; omega
theorem tmodH (n : Nat) : (n : Int).tmod 2 = ((n % 2 : Nat) : Int) := by rw [Int.tmod_eq_emod_of_nonneg (by omega)]; omega
theorem u64_in {n : Nat} (h : n < 18446744073709551616) : IntKind.u64.wrap (n : Int) = (n : Int) := by rw [wrap_u64]; omega
theorem i64_in {z : Int} (h1 : -9223372036854775808 ≤ z) (h2 : z < 9223372036854775808) : IntKind.i64.wrap z = z := by rw [Pk.wrap_i64]; omega
theorem half_lt {n : Nat} (h : n < 18446744073709551616) : n / 2 < 9223372036854775808 := by omega
theorem neg_in {n : Nat} (h : n < 18446744073709551616) : IntKind.i64.wrap (-((n / 2 : Nat) : Int)) = -((n / 2 : Nat) : Int) := i64_in (by have := half_lt h; omega) (by omega)
theorem neg1_in {n : Nat} (h : n < 18446744073709551616) : IntKind.i64.wrap (-((n / 2 : Nat) : Int) - 1) = -((n / 2 : Nat) : Int) - 1 := i64_in (by have := half_lt h; omega) (by omega)
set_option maxRecDepth 100000 in
set_option maxHeartbeats 2000000 in
theorem rint_sim (b : Nat) (st : St) (w : World) (hr : Sim w b st) :
    Calls Tryz.prog 58 #[.pointer (some ⟨b, 0, none⟩)] w fun e w' => e = .returned (.int .i64 (rdI st).1) ∧ Sim w' b (rdI st).2 ∧ Upd b w w' := by
  have h59 : Hid (Calls Tryz.prog 59 #[.pointer (some ⟨b, 0, none⟩)] w fun e w' => e = .returned (.int .u64 ((rdN st).1 : Int)) ∧ Sim w' b (rdN st).2 ∧ Upd b w w') := rnum_sim b st w hr
  have hn := rdN_lt st
  unfold rdI
  generalize rdN st = r at *
  obtain ⟨n, st'⟩ := r
  dsimp only at h59 hn ⊢
  have q1 : (n : Int).tdiv 2 = ((n / 2 : Nat) : Int) := tdivH n
  have q2 : (n : Int).tmod 2 = ((n % 2 : Nat) : Int) := tmodH n
  have q3 : IntKind.u64.wrap ((n / 2 : Nat) : Int) = ((n / 2 : Nat) : Int) := u64_in (by omega)
  have q4 : IntKind.i64.wrap ((n / 2 : Nat) : Int) = ((n / 2 : Nat) : Int) := i64_in (by omega) (by have := half_lt hn; omega)
  by_cases h : n % 2 = 0
  · have e1 : Pk.intV n = ((n / 2 : Nat) : Int) := by unfold Pk.intV; rw [if_neg (by omega)]
    have q5 : IntKind.u64.wrap ((n % 2 : Nat) : Int) = 0 := by rw [h]; rfl
    rw [h] at q2
    rw [e1]
    generalize hQ : n / 2 = Q at *
    clear hQ e1 h hn hr
    go_enter Tryz.func58, Tryz.ntmps58
    go_wp2_with (go_at_call 59; refine h59.out.mono ?_; rintro e w1 ⟨rfl, r1, u1⟩)
    go_ret
    refine ⟨?_, r1, u1⟩
    first
      | rfl
      | (simp only [q4])
  · have e1 : Pk.intV n = -((n / 2 : Nat) : Int) - 1 := by unfold Pk.intV; rw [if_pos (by omega)]
    have h1 : n % 2 = 1 := by omega
    have q6 : IntKind.i64.wrap (-((n / 2 : Nat) : Int)) = -((n / 2 : Nat) : Int) := neg_in hn
    have q7 : IntKind.i64.wrap (-((n / 2 : Nat) : Int) - 1) = -((n / 2 : Nat) : Int) - 1 := neg1_in hn
    rw [h1] at q2
    rw [e1]
    generalize hQ : n / 2 = Q at *
    clear hQ e1 h hn hr h1
    go_enter Tryz.func58, Tryz.ntmps58
    go_wp2_with (go_at_call 59; refine h59.out.mono ?_; rintro e w1 ⟨rfl, r1, u1⟩)
    go_ret
    refine ⟨?_, r1, u1⟩
    first
      | rfl
      | (simp only [q4, q6, q7])

theorem num_u (b : Nat) (st : St) (hs : st.1.size < 9223372036854775808) (w : World) (hr : Pk.Rd w b st.1 st.2) :
    Calls Tryz.prog 56 #[.pointer (some ⟨b, 0, none⟩)] w fun x w' => x = .returned (.int .u64 ((rdN st).1 : Int)) ∧ Pk.Rd w' b (rdN st).2.1 (rdN st).2.2 ∧ Upd b w w' := by
  obtain ⟨s, E⟩ := st
  by_cases h : E = 0
  · subst h
    have := Pk.num_ok b s hs w hr
    have e : rdN (s, 0) = (Pk.nV s, (Pk.restR (Pk.nE s) (Pk.nR s), Pk.nE s)) := rfl
    rw [e]
    exact this
  · have := Pk.num_err b s E h w hr
    have e : rdN (s, E) = (0, (s, E)) := by unfold rdN; rw [if_neg h]
    rw [e]
    exact this.mono (by rintro x w' ⟨rfl, rfl⟩; exact ⟨rfl, hr, Upd.refl _ _⟩)
theorem int_u (b : Nat) (st : St) (hs : st.1.size < 9223372036854775808) (w : World) (hr : Pk.Rd w b st.1 st.2) :
    Calls Tryz.prog 55 #[.pointer (some ⟨b, 0, none⟩)] w fun x w' => x = .returned (.int .i64 (rdI st).1) ∧ Pk.Rd w' b (rdI st).2.1 (rdI st).2.2 ∧ Upd b w w' := by
  obtain ⟨s, E⟩ := st
  by_cases h : E = 0
  · subst h
    have := Pk.int_ok b s hs w hr
    have e : rdI (s, 0) = (Pk.intV (Pk.nV s), (Pk.restR (Pk.nE s) (Pk.nR s), Pk.nE s)) := rfl
    rw [e]
    exact this
  · have := Pk.int_err b s E h w hr
    have e : rdI (s, E) = (0, (s, E)) := by unfold rdI rdN; rw [if_neg h]; simp [Pk.intV]
    rw [e]
    exact this.mono (by rintro x w' ⟨rfl, rfl⟩; exact ⟨rfl, hr, Upd.refl _ _⟩)
end Go.Proofs.YthmnjebmnocoiaaGreat.Rd
