/- GsRrA, GsRrB. -/
import Derived.Test.YthmnjebmnocoiaaGreatZGsRdQ
/- The document's reader: Fail (84), Raw (85) of one byte, Num (68). -/
namespace Go.Proofs.YthmnjebmnocoiaaGreat.Rd
open Go.RowKit Pk

/-- The document's reader at block B. -/
abbrev Rq (w : World) (B : Nat) (s : ByteArray) (e : Int) : Prop := Holds w B [.string s, .int .i64 e] 86

set_option maxRecDepth 100000 in
theorem rfail_new (b : Nat) (s : ByteArray) (e : Int) (he : e ≠ 0) (w : World) (hr : Rq w b s 0) :
    Calls Tryz.prog 85 #[.pointer (some ⟨b, 0, none⟩), .int .i64 e] w fun x w' => x = .returned (.tuple #[]) ∧ Rq w' b ⟨#[]⟩ e ∧ Upd b w w' := by
  have c0 : w.cell? ⟨b, 0, none⟩ = some (.string s) := hr.at 0 _ rfl
  have f0 : w.frozen? ⟨b, 0, none⟩ = false := hr.frozen 0
  have c1 : w.cell? ⟨b, 1, none⟩ = some (.int .i64 0) := hr.at 1 _ rfl
  have f1 : w.frozen? ⟨b, 1, none⟩ = false := hr.frozen 1
  have he' : (e == 0) = false := beq_eq_false_iff_ne.2 he
  go_enter Tryz.func85, Tryz.ntmps85
  go_wp2
  refine bodyPost_end (results_none (by kernel_rfl) _ _ _) rfl ⟨rfl, ?_, ?_⟩
  · first
      | exact (hr.set 0 (.string ⟨#[]⟩)).set 1 (.int .i64 e)
      | exact (hr.set 1 (.int .i64 e)).set 0 (.string ⟨#[]⟩)
  · first
      | exact ((Upd.refl b w).setCell 0 _).setCell 1 _
      | exact ((Upd.refl b w).setCell 1 _).setCell 0 _
set_option maxRecDepth 100000 in
theorem rfail_old (b : Nat) (s : ByteArray) (E e : Int) (hE : E ≠ 0) (w : World) (hr : Rq w b s E) :
    Calls Tryz.prog 85 #[.pointer (some ⟨b, 0, none⟩), .int .i64 e] w fun x w' => x = .returned (.tuple #[]) ∧ w' = w := by
  have c1 : w.cell? ⟨b, 1, none⟩ = some (.int .i64 E) := hr.at 1 _ rfl
  have he' : (E == 0) = false := beq_eq_false_iff_ne.2 hE
  go_enter Tryz.func85, Tryz.ntmps85
  go_wp2
  exact bodyPost_end (results_none (by kernel_rfl) _ _ _) rfl ⟨rfl, rfl⟩
theorem one_byte {s : ByteArray} {x : UInt8} (h : s.data.toList[0]? = some x) : s.extract 0 1 = ⟨#[x]⟩ := by
  obtain ⟨d⟩ := s
  apply ByteArray.ext
  apply Array.toList_inj.1
  have h1 : ((⟨d⟩ : ByteArray).extract 0 1).data.toList = d.toList.take 1 := ext_head ⟨d⟩ 1
  rw [h1]
  have h : d.toList[0]? = some x := h
  cases hd : d.toList with
  | nil => rw [hd] at h; simp at h
  | cons y r => rw [hd] at h; simp at h; rw [h]; rfl
set_option maxRecDepth 100000 in
set_option maxHeartbeats 1000000 in
theorem raw_some (b : Nat) (s : ByteArray) (x : UInt8) (hx : s.data.toList[0]? = some x) (w : World) (hr : Rq w b s 0) :
    Calls Tryz.prog 86 #[.pointer (some ⟨b, 0, none⟩), .int .i64 1] w fun e w' => e = .returned (.string ⟨#[x]⟩) ∧ Rq w' b (s.extract 1 s.size) 0 ∧ Upd b w w' := by
  have c0 : w.cell? ⟨b, 0, none⟩ = some (.string s) := hr.at 0 _ rfl
  have f0 : w.frozen? ⟨b, 0, none⟩ = false := hr.frozen 0
  have c1 : w.cell? ⟨b, 1, none⟩ = some (.int .i64 0) := hr.at 1 _ rfl
  have hs : 0 < s.size := by
    have := (List.getElem?_eq_some_iff.1 hx).1
    exact this
  have h1 : ¬ (s.size : Int) < 1 := by omega
  have h2 : (1 : Int) ≤ (s.size : Int) := by omega
  have hb := one_byte hx
  go_enter Tryz.func86, Tryz.ntmps86
  go_wp2
  go_ret
  exact ⟨by simp, hr.set 0 (.string (s.extract 1 s.size)), (Upd.refl b w).setCell 0 _⟩
set_option maxRecDepth 100000 in
set_option maxHeartbeats 1000000 in
theorem raw_none (b : Nat) (s : ByteArray) (hs : s.size = 0) (w : World) (hr : Rq w b s 0) :
    Calls Tryz.prog 86 #[.pointer (some ⟨b, 0, none⟩), .int .i64 1] w fun e w' => e = .returned (.string ⟨#[]⟩) ∧ Rq w' b ⟨#[]⟩ 10 ∧ Upd b w w' := by
  have c0 : w.cell? ⟨b, 0, none⟩ = some (.string s) := hr.at 0 _ rfl
  have h84 := rfail_new b s 10 (by decide) w hr
  go_enter Tryz.func86, Tryz.ntmps86
  go_wp2_with (go_at_call 85; refine h84.mono ?_; rintro e w1 ⟨rfl, r1, u1⟩; have c2 : w1.cell? ⟨b, 1, none⟩ = some (.int .i64 10) := r1.at 1 _ rfl)
  go_ret
  exact ⟨rfl, r1, u1⟩
set_option maxRecDepth 100000 in
set_option maxHeartbeats 1000000 in
theorem raw_err (b : Nat) (s : ByteArray) (hs : s.size = 0) (E : Int) (hE : E ≠ 0) (w : World) (hr : Rq w b s E) :
    Calls Tryz.prog 86 #[.pointer (some ⟨b, 0, none⟩), .int .i64 1] w fun e w' => e = .returned (.string ⟨#[]⟩) ∧ w' = w := by
  have c0 : w.cell? ⟨b, 0, none⟩ = some (.string s) := hr.at 0 _ rfl
  have c1 : w.cell? ⟨b, 1, none⟩ = some (.int .i64 E) := hr.at 1 _ rfl
  have he' : (E == 0) = false := beq_eq_false_iff_ne.2 hE
  have h84 := rfail_old b s E 10 hE w hr
  go_enter Tryz.func86, Tryz.ntmps86
  go_wp2_with (go_at_call 85; refine h84.mono ?_; rintro e w1 ⟨rfl, hw1⟩; have hw1 := hw1.symm; subst hw1)
  go_ret
  exact ⟨rfl, rfl⟩
end Go.Proofs.YthmnjebmnocoiaaGreat.Rd

/- The document's reader: Num (68). -/
namespace Go.Proofs.YthmnjebmnocoiaaGreat.Rd
open Go.RowKit Pk

theorem lead_step {l : List UInt8} {i : Nat} {x : UInt8} (h : i ≤ lead l) (hx : l[i]? = some x) (h2 : 128 ≤ x.toNat) : i + 1 ≤ lead l := by
  rcases Nat.lt_or_ge i (lead l) with g | g
  · exact g
  · obtain rfl : i = lead l := by omega
    have := lead_at l x hx
    omega
theorem lead_end {l : List UInt8} {i : Nat} {x : UInt8} (h : i ≤ lead l) (hx : l[i]? = some x) (h2 : x.toNat < 128) : lead l = i := by
  rcases Nat.lt_or_ge i (lead l) with g | g
  · obtain ⟨y, hy, h3⟩ := lead_lt l i g
    rw [hx] at hy
    cases hy
    omega
  · omega
theorem take_last {l : List UInt8} {i : Nat} {x : UInt8} (hx : l[i]? = some x) : l.take (i + 1) = l.take i ++ [x] := by rw [List.take_add_one, hx]; rfl
theorem numE_none {l : List UInt8} {i : Nat} (h : i ≤ lead l) (hi : l.length ≤ i) : numE l ≠ 0 := by
  have := lead_le l
  rw [numE, if_pos (by omega)]
  decide
theorem numE_bad {l : List UInt8} {i : Nat} {x : UInt8} (h : i ≤ lead l) (hx : l[i]? = some x) (hb : (i = 9 ∧ 1 < x.toNat) ∨ (0 < i ∧ i ≤ 9 ∧ x.toNat = 0)) : numE l ≠ 0 := by
  have hil : i < l.length := (List.getElem?_eq_some_iff.1 hx).1
  by_cases h0 : lead l = l.length
  · rw [numE, if_pos h0]; decide
  · have hle := lead_le l
    have hw : wellF (numB l) = false := by
      rcases Nat.lt_or_ge x.toNat 128 with g | g
      · have he := lead_end h hx g
        have hB : numB l = l.take i ++ [x] := by rw [numB, he, take_last hx]
        have hl : (l.take i ++ [x]).length = i + 1 := by simp; omega
        rw [hB]
        rcases hb with ⟨h9, h1⟩ | ⟨h1, h9, hz⟩
        · rw [wellF_ten (x := x) (by omega) (by simp)]
          exact beq_eq_false_iff_ne.2 (by omega)
        · by_cases hi9 : i = 9
          · rw [wellF_ten (x := x) (by omega) (by simp)]
            exact beq_eq_false_iff_ne.2 (by omega)
          · rw [wellF_zero (x := x) (by omega) (by simp) hz]
            exact beq_eq_false_iff_ne.2 (by omega)
      · have := lead_step h hx g
        have h9 : i = 9 := by rcases hb with ⟨h9, _⟩ | ⟨_, _, hz⟩ <;> omega
        exact wellF_many (by rw [numB_length (by omega)]; omega)
    rw [numE, if_neg h0, hw]
    decide
theorem numE_good {l : List UInt8} {i : Nat} {x : UInt8} (h : i ≤ lead l) (hi : i ≤ 9) (hx : l[i]? = some x) (h128 : x.toNat < 128) (h1 : ¬ (i = 9 ∧ 1 < x.toNat)) (h2 : ¬ (0 < i ∧ x.toNat = 0)) : numE l = 0 ∧ numV l = valN (l.take (i + 1)) ∧ lead l = i := by
  have hil : i < l.length := (List.getElem?_eq_some_iff.1 hx).1
  have he := lead_end h hx h128
  have hB : numB l = l.take i ++ [x] := by rw [numB, he, take_last hx]
  have hl : (l.take i ++ [x]).length = i + 1 := by simp; omega
  have hw : wellF (l.take i ++ [x]) = true := by
    by_cases h9 : i = 9
    · have : x.toNat = 1 := by
        have : ¬ x.toNat = 0 := fun q => h2 ⟨by omega, q⟩
        have : ¬ 1 < x.toNat := fun q => h1 ⟨h9, q⟩
        omega
      rw [wellF_ten (x := x) (by omega) (by simp), this]
      rfl
    · by_cases hz : x.toNat = 0
      · have : i = 0 := by
          rcases Nat.eq_zero_or_pos i with q | q
          · exact q
          · exact absurd ⟨q, hz⟩ h2
        rw [wellF_zero (x := x) (by omega) (by simp) hz, hl, this]
        rfl
      · exact wellF_pos (x := x) (by omega) (by simp) hz
  have hE : numE l = 0 := by rw [numE, if_neg (by omega), hB, hw]; rfl
  exact ⟨hE, by rw [numV, if_pos hE, hB, take_last hx], he⟩
theorem valN_more {l : List UInt8} {i : Nat} {x : UInt8} (hx : l[i]? = some x) : valN (l.take (i + 1)) = valN (l.take i) + x.toNat % 128 * 2 ^ (7 * i) := by
  have hil : i < l.length := (List.getElem?_eq_some_iff.1 hx).1
  rw [take_last hx, valN_snoc]
  have : (l.take i).length = i := by simp; omega
  rw [this]
theorem valN_fit {l : List UInt8} {i : Nat} {x : UInt8} (hi : i ≤ 9) (hx : l[i]? = some x) (h : i = 9 → x.toNat ≤ 1) : valN (l.take i) + x.toNat % 128 * 2 ^ (7 * i) < 18446744073709551616 := by
  have hil : i < l.length := (List.getElem?_eq_some_iff.1 hx).1
  have h1 := valN_lt (l.take i)
  have h2 : (l.take i).length = i := by simp; omega
  rw [h2] at h1
  have h3 := x.toNat_lt
  rcases Nat.lt_or_ge i 9 with g | g
  · have h4 : 2 ^ (7 * i) ≤ 2 ^ 56 := Nat.pow_le_pow_right (by omega) (by omega)
    have h5 : x.toNat % 128 * 2 ^ (7 * i) ≤ 127 * 2 ^ 56 := Nat.mul_le_mul (by omega) h4
    omega
  · obtain rfl : i = 9 := by omega
    have := h rfl
    have h5 : x.toNat % 128 * 2 ^ (7 * 9) ≤ 1 * 2 ^ 63 := Nat.mul_le_mul (by omega) (by omega)
    omega
theorem ext_ext (s : ByteArray) (i : Nat) : (s.extract i s.size).extract 1 (s.extract i s.size).size = s.extract (i + 1) s.size := by
  apply ByteArray.ext
  apply Array.toList_inj.1
  rw [ext_tail, ext_tail, ext_tail, List.drop_drop]
theorem ext_zero (s : ByteArray) : s.extract 0 s.size = s := by
  apply ByteArray.ext
  apply Array.toList_inj.1
  rw [ext_tail]; rfl

theorem num_val {V0 V1 i : Nat} {x : UInt8} (h : V1 = V0 + x.toNat % 128 * 2 ^ (7 * i)) (hf : V0 + x.toNat % 128 * 2 ^ (7 * i) < 18446744073709551616) :
    IntKind.u64.wrap ((V0 : Int) + IntKind.u64.wrap ((x.toNat : Int) % 128 * 2 ^ (7 * i))) = (V1 : Int) := by
  have e : (x.toNat : Int) % 128 * 2 ^ (7 * i) = ((x.toNat % 128 * 2 ^ (7 * i) : Nat) : Int) := by simp
  rw [e]
  generalize x.toNat % 128 * 2 ^ (7 * i) = q at *
  rw [wrap_u64, wrap_u64]
  omega
set_option maxRecDepth 100000 in
set_option maxHeartbeats 4000000 in
theorem rnum_ok (b : Nat) (s : ByteArray) (w : World) (hr : Rq w b s 0) :
    Calls Tryz.prog 59 #[.pointer (some ⟨b, 0, none⟩)] w fun e w' => ∃ E : Int, (E = 0 ↔ nE s = 0) ∧ e = .returned (.int .u64 (nV s : Int)) ∧ Rq w' b (restR (nE s) (nR s)) E ∧ Upd b w w' := by
  unfold nE nV nR
  obtain ⟨l, hl⟩ : ∃ l, s.data.toList = l := ⟨_, rfl⟩
  rw [hl]
  have R0 : Hid (∀ (t : ByteArray) (x : UInt8), t.data.toList[0]? = some x → ∀ W, Rq W b t 0 → Calls Tryz.prog 86 #[.pointer (some ⟨b, 0, none⟩), .int .i64 1] W fun e w' => e = .returned (.string ⟨#[x]⟩) ∧ Rq w' b (t.extract 1 t.size) 0 ∧ Upd b W w') := fun t x hx W h => raw_some b t x hx W h
  have R1 : Hid (∀ (t : ByteArray), t.size = 0 → ∀ W, Rq W b t 0 → Calls Tryz.prog 86 #[.pointer (some ⟨b, 0, none⟩), .int .i64 1] W fun e w' => e = .returned (.string ⟨#[]⟩) ∧ Rq w' b ⟨#[]⟩ 10 ∧ Upd b W w') := fun t ht W h => raw_none b t ht W h
  have R2 : Hid (∀ (t : ByteArray) W, Rq W b t 0 → Calls Tryz.prog 85 #[.pointer (some ⟨b, 0, none⟩), .int .i64 11] W fun x w' => x = .returned (.tuple #[]) ∧ Rq w' b ⟨#[]⟩ 11 ∧ Upd b W w') := fun t W h => rfail_new b t 11 (by decide) W h
  go_enter Tryz.func59, Tryz.ntmps59
  go_wp2_with fail
  go_loopw [3, 4] (fun nv iv wr => ∃ i : Nat, i ≤ 9 ∧ iv = .int .i64 (i : Int) ∧ nv = .int .u64 ((valN (l.take i) : Nat) : Int) ∧ i ≤ lead l ∧ Rq wr b (s.extract i s.size) 0 ∧ Upd b w wr) (fun _ iv _ => 9 - (intOf iv).toNat)
  case atStart => exact ⟨0, by omega, rfl, rfl, by omega, by rw [ext_zero]; exact hr, Upd.refl _ _⟩
  case round =>
    obtain ⟨i, hi, rfl, rfl, hil, hrd, hU⟩ := hrel
    have g9 : ¬ (9 : Int) < (i : Int) := by omega
    rcases Nat.lt_or_ge i l.length with hlt | hge
    · have hx : l[i]? = some l[i] := List.getElem?_eq_getElem hlt
      obtain ⟨x, hxe⟩ : ∃ x, l[i] = x := ⟨_, rfl⟩
      rw [hxe] at hx
      have hx0 : (s.extract i s.size).data.toList[0]? = some x := by rw [ext_tail, hl, List.getElem?_drop]; exact hx
      have hee := ext_ext s i
      have h85 := R0.out _ x hx0 wr hrd
      rw [hee] at h85
      have hx256 := x.toNat_lt
      have htm : (x.toNat : Int).tmod 128 = (x.toNat : Int) % 128 := Int.tmod_eq_emod_of_nonneg (by omega)
      clear hx0 hee hxe
      have hb0 : ∀ h, (⟨#[x]⟩ : ByteArray)[0]'h = x := fun _ => rfl
      have hfit := @valN_fit l i x hi hx
      have hmore := @valN_more l i x hx
      rcases Nat.lt_or_ge i 9 with hi9 | hi9
      · have hval := num_val hmore (hfit (fun q => absurd q (by omega)))
        have hq9 : ((i : Int) == 9) = false := beq_eq_false_iff_ne.2 (by omega)
        rcases Nat.eq_zero_or_pos i with hz | hpos
        · subst hz
          have hv0 : IntKind.u64.wrap (((valN (l.take 0) : Nat) : Int) + (x.toNat : Int) % 128) = ((valN (l.take (0 + 1)) : Nat) : Int) := by
            have := hmore
            rw [wrap_u64]
            simp only [Nat.mul_zero, Nat.pow_zero, Nat.mul_one] at this
            have h3 : valN (l.take 0) = 0 := by simp [valN]
            omega
          clear hval hmore hfit hq9
          by_cases h128 : x.toNat < 128
          · have h128' : (x.toNat : Int) < 128 := by omega
            obtain ⟨hE, hV, hL⟩ := numE_good hil hi hx h128 (by omega) (by omega)
            have HE : Hid (numE l = 0 ∧ numV l = valN (l.take (0 + 1)) ∧ lead l = 0) := ⟨hE, hV, hL⟩
            clear hE hV hL
            generalize hV0 : valN (l.take 0) = V0 at *
            generalize hV1 : valN (l.take (0 + 1)) = V1 at *
            clear hV0 hV1
            go_wp2_with (first
              | (go_at_call 86; refine h85.mono ?_; rintro e w1 ⟨rfl, r1, u1⟩; have c1 : w1.cell? ⟨b, 1, none⟩ = some (.int .i64 0) := r1.at 1 _ rfl))
            go_ret
            obtain ⟨hE, hV, hL⟩ := HE.out
            refine ⟨0, ⟨fun _ => hE, fun _ => rfl⟩, by rw [hV]; rfl, ?_, hU.trans u1⟩
            unfold restR
            rw [if_pos hE, hL]
            exact r1
          · have h128' : ¬ (x.toNat : Int) < 128 := by omega
            have hst := lead_step hil hx (by omega)
            generalize hV0 : valN (l.take 0) = V0 at *
            have hV1 : Hid (valN (l.take (0 + 1)) = valN (l.take (0 + 1))) := rfl
            generalize hV2 : valN (l.take (0 + 1)) = V1 at hv0
            clear hV0 hV1
            have HV : Hid (valN (l.take (0 + 1)) = V1) := hV2
            clear hV2
            go_wp2_with (first
              | (go_at_call 86; refine h85.mono ?_; rintro e w1 ⟨rfl, r1, u1⟩; have c1 : w1.cell? ⟨b, 1, none⟩ = some (.int .i64 0) := r1.at 1 _ rfl))
            go_roundw
            case rel => exact ⟨1, by omega, by simp, by rw [HV.out], hst, r1, hU.trans u1⟩
            case measure => simp
        · have hq0 : (0 : Int) < (i : Int) := by omega
          clear hmore hfit
          by_cases hx0 : x.toNat = 0
          · have hxz : ((x.toNat : Int) == 0) = true := by simp [hx0]
            have hE : Hid (numE l ≠ 0) := numE_bad hil hx (.inr ⟨hpos, hi, hx0⟩)
            go_wp2_with (first
              | (go_at_call 85; refine (R2.out _ w1 r1).mono ?_; rintro e w2 ⟨rfl, r2, u2'⟩)
              | (go_at_call 86; refine h85.mono ?_; rintro e w1 ⟨rfl, r1, u1⟩; have c1 : w1.cell? ⟨b, 1, none⟩ = some (.int .i64 0) := r1.at 1 _ rfl))
            go_ret
            refine ⟨11, ⟨fun h => (by cases h), fun h => absurd h hE.out⟩, by rw [numV, if_neg hE.out]; rfl, ?_, hU.trans (u1.trans u2')⟩
            unfold restR
            rw [if_neg hE.out]
            exact r2
          · have hxz : ((x.toNat : Int) == 0) = false := beq_eq_false_iff_ne.2 (by omega)
            by_cases h128 : x.toNat < 128
            · have h128' : (x.toNat : Int) < 128 := by omega
              obtain ⟨hE, hV, hL⟩ := numE_good hil hi hx h128 (by omega) (by omega)
              have HE : Hid (numE l = 0 ∧ numV l = valN (l.take (i + 1)) ∧ lead l = i) := ⟨hE, hV, hL⟩
              clear hE hV hL
              generalize hV0 : valN (l.take i) = V0 at *
              generalize hV1 : valN (l.take (i + 1)) = V1 at *
              clear hV0 hV1
              go_wp2_with (first
                | (go_at_call 86; refine h85.mono ?_; rintro e w1 ⟨rfl, r1, u1⟩; have c1 : w1.cell? ⟨b, 1, none⟩ = some (.int .i64 0) := r1.at 1 _ rfl))
              go_ret
              obtain ⟨hE, hV, hL⟩ := HE.out
              refine ⟨0, ⟨fun _ => hE, fun _ => rfl⟩, by rw [hV]; rfl, ?_, hU.trans u1⟩
              unfold restR
              rw [if_pos hE, hL]
              exact r1
            · have h128' : ¬ (x.toNat : Int) < 128 := by omega
              have hst := lead_step hil hx (by omega)
              generalize hV0 : valN (l.take i) = V0 at *
              have hV1 : Hid (valN (l.take (i + 1)) = valN (l.take (i + 1))) := rfl
              generalize hV2 : valN (l.take (i + 1)) = V1 at hval
              clear hV0 hV1
              have HV : Hid (valN (l.take (i + 1)) = V1) := hV2
              clear hV2
              go_wp2_with (first
                | (go_at_call 86; refine h85.mono ?_; rintro e w1 ⟨rfl, r1, u1⟩; have c1 : w1.cell? ⟨b, 1, none⟩ = some (.int .i64 0) := r1.at 1 _ rfl))
              go_roundw
              case rel => exact ⟨i + 1, by omega, by simp, by rw [HV.out], hst, r1, hU.trans u1⟩
              case measure => simp; omega
      · obtain rfl : i = 9 := by omega
        by_cases h1 : 1 < x.toNat
        · have h1' : (1 : Int) < (x.toNat : Int) := by omega
          clear hmore hfit
          have hE : Hid (numE l ≠ 0) := numE_bad hil hx (.inl ⟨rfl, h1⟩)
          go_wp2_with (first
            | (go_at_call 85; refine (R2.out _ w1 r1).mono ?_; rintro e w2 ⟨rfl, r2, u2'⟩)
            | (go_at_call 86; refine h85.mono ?_; rintro e w1 ⟨rfl, r1, u1⟩; have c1 : w1.cell? ⟨b, 1, none⟩ = some (.int .i64 0) := r1.at 1 _ rfl))
          go_ret
          refine ⟨11, ⟨fun h => (by cases h), fun h => absurd h hE.out⟩, by rw [numV, if_neg hE.out]; rfl, ?_, hU.trans (u1.trans u2')⟩
          unfold restR
          rw [if_neg hE.out]
          exact r2
        · by_cases hx0 : x.toNat = 0
          · obtain rfl : x = 0 := UInt8.toNat_inj.1 hx0
            clear hmore hfit
            have hE : Hid (numE l ≠ 0) := numE_bad hil hx (.inr ⟨by omega, by omega, rfl⟩)
            go_wp2_with (first
              | (go_at_call 85; refine (R2.out _ w1 r1).mono ?_; rintro e w2 ⟨rfl, r2, u2'⟩)
              | (go_at_call 86; refine h85.mono ?_; rintro e w1 ⟨rfl, r1, u1⟩; have c1 : w1.cell? ⟨b, 1, none⟩ = some (.int .i64 0) := r1.at 1 _ rfl))
            go_ret
            refine ⟨11, ⟨fun h => (by cases h), fun h => absurd h hE.out⟩, by rw [numV, if_neg hE.out]; rfl, ?_, hU.trans (u1.trans u2')⟩
            unfold restR
            rw [if_neg hE.out]
            exact r2
          · obtain rfl : x = 1 := UInt8.toNat_inj.1 (by show x.toNat = 1; omega)
            have hv9 : IntKind.u64.wrap (((valN (l.take 9) : Nat) : Int) + 9223372036854775808) = ((valN (l.take (9 + 1)) : Nat) : Int) := by
              have := hmore
              have e : (1 : UInt8).toNat % 128 * 2 ^ (7 * 9) = 9223372036854775808 := by decide
              rw [e] at this
              have h2 := hfit (fun _ => by decide)
              rw [e] at h2
              rw [wrap_u64]
              omega
            clear hmore hfit
            obtain ⟨hE, hV, hL⟩ := numE_good hil hi hx (by decide) (by decide) (by decide)
            have HE : Hid (numE l = 0 ∧ numV l = valN (l.take (9 + 1)) ∧ lead l = 9) := ⟨hE, hV, hL⟩
            clear hE hV hL
            generalize hV0 : valN (l.take 9) = V0 at *
            generalize hV1 : valN (l.take (9 + 1)) = V1 at *
            clear hV0 hV1
            go_wp2_with (first
              | (go_at_call 86; refine h85.mono ?_; rintro e w1 ⟨rfl, r1, u1⟩; have c1 : w1.cell? ⟨b, 1, none⟩ = some (.int .i64 0) := r1.at 1 _ rfl))
            go_ret
            obtain ⟨hE, hV, hL⟩ := HE.out
            refine ⟨0, ⟨fun _ => hE, fun _ => rfl⟩, by rw [hV]; rfl, ?_, hU.trans u1⟩
            unfold restR
            rw [if_pos hE, hL]
            exact r1
    · have hE : Hid (numE l ≠ 0) := numE_none hil hge
      have h85 := R1.out _ (by rw [ByteArray.size_extract]; have : l.length = s.size := by rw [← hl]; rfl
                               omega) wr hrd
      go_wp2_with (first
        | (go_at_call 86; refine h85.mono ?_; rintro e w1 ⟨rfl, r1, u1⟩; have c1 : w1.cell? ⟨b, 1, none⟩ = some (.int .i64 10) := r1.at 1 _ rfl))
      go_ret
      refine ⟨10, ⟨fun h => (by cases h), fun h => absurd h hE.out⟩, by rw [numV, if_neg hE.out]; rfl, ?_, hU.trans u1⟩
      unfold restR
      rw [if_neg hE.out]
      exact r1
end Go.Proofs.YthmnjebmnocoiaaGreat.Rd
