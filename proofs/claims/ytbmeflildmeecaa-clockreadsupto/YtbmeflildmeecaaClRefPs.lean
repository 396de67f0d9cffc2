/- The document's digit (54) and Parse (37). -/
import Derived.Test.YtbmeflildmeecaaClRefRr
namespace Go.Proofs.Ytbmeflildmeecaa
open Go.RowKit Go.Shelf Go.Sort Go.Lib Pk

def dg (y : UInt8) : Nat := if 48 ≤ y.toNat ∧ y.toNat ≤ 57 then y.toNat - 48 else if 97 ≤ y.toNat ∧ y.toNat ≤ 102 then y.toNat - 87 else 16
theorem dg_le (y : UInt8) : dg y ≤ 16 := by
  unfold dg
  split
  · omega
  · split <;> omega
theorem dg_hex : ∀ n : Fin 16, dg (hexAt n.1) = n.1 := by decide
theorem hexAt_nat : ∀ n : Fin 16, (n.1 < 10 → (hexAt n.1).toNat = 48 + n.1) ∧ (¬ n.1 < 10 → (hexAt n.1).toNat = 87 + n.1) := by decide
theorem hex_dg {y : UInt8} (h : dg y < 16) : hexAt (dg y) = y := by
  apply UInt8.toNat_inj.1
  obtain ⟨h1, h1'⟩ := hexAt_nat ⟨dg y, h⟩
  dsimp only at h1 h1'
  by_cases h2 : 48 ≤ y.toNat ∧ y.toNat ≤ 57
  · have e : dg y = y.toNat - 48 := by unfold dg; rw [if_pos h2]
    rw [h1 (by omega)]
    omega
  · by_cases h3 : 97 ≤ y.toNat ∧ y.toNat ≤ 102
    · have e : dg y = y.toNat - 87 := by unfold dg; rw [if_neg h2, if_pos h3]
      rw [h1' (by omega)]
      omega
    · have e : dg y = 16 := by unfold dg; rw [if_neg h2, if_neg h3]
      omega
theorem nib_dg {y1 y2 : UInt8} (h1 : dg y1 < 16) (h2 : dg y2 < 16) : byteV (nib y1 y2) = .int .u8 (16 * (dg y1 : Int) + (dg y2 : Int)) := by
  rw [byteV_nib]
  have h := nib_hexN ⟨16 * dg y1 + dg y2, by omega⟩
  dsimp only at h
  rw [show (16 * dg y1 + dg y2) / 16 = dg y1 by omega, show (16 * dg y1 + dg y2) % 16 = dg y2 by omega, hex_dg h1, hex_dg h2] at h
  rw [h]
  congr 1
theorem nib_two {y1 y2 : UInt8} (h1 : dg y1 < 16) (h2 : dg y2 < 16) : hexB (nib y1 y2) = [y1, y2] := by
  have h := nib_hexN ⟨16 * dg y1 + dg y2, by omega⟩
  dsimp only at h
  rw [show (16 * dg y1 + dg y2) / 16 = dg y1 by omega, show (16 * dg y1 + dg y2) % 16 = dg y2 by omega, hex_dg h1, hex_dg h2] at h
  have hn : (nib y1 y2).toNat = 16 * dg y1 + dg y2 := by
    unfold nib
    rw [h, UInt8.toNat_ofNat']
    omega
  unfold hexB
  rw [hn, show (16 * dg y1 + dg y2) / 16 = dg y1 by omega, show (16 * dg y1 + dg y2) % 16 = dg y2 by omega, hex_dg h1, hex_dg h2]
/-- Digits alone, an even number of them. -/
def digs (l : List UInt8) : Prop := l.length % 2 = 0 ∧ ∀ y ∈ l, dg y < 16
theorem hex_par : ∀ l : List UInt8, digs l → (parB l).flatMap hexB = l
  | [], _ => rfl
  | [_], h => by have := h.1; simp at this
  | y1 :: y2 :: r, h => by
    have ih := hex_par r ⟨by have := h.1; simp at this; omega, fun y hy => h.2 y (by simp [hy])⟩
    show hexB (nib y1 y2) ++ (parB r).flatMap hexB = _
    rw [ih, nib_two (h.2 y1 (by simp)) (h.2 y2 (by simp))]
    rfl
theorem digs_hex (l : List UInt8) : digs (l.flatMap hexB) := by
  refine ⟨by rw [hex_len]; omega, fun y hy => ?_⟩
  obtain ⟨x, _, hx⟩ := List.mem_flatMap.1 hy
  have hlt := x.toNat_lt
  unfold hexB at hx
  simp only [List.mem_cons, List.not_mem_nil, or_false] at hx
  rcases hx with rfl | rfl
  · rw [dg_hex ⟨x.toNat / 16, by omega⟩]; dsimp only; omega
  · rw [dg_hex ⟨x.toNat % 16, by omega⟩]; dsimp only; omega
theorem ps_digs {t : ByteArray} (h : digs t.data.toList) : psOk t = rdOk (psB t) := by
  have hp := hex_par _ h
  unfold psOk
  cases hr : rdOk (psB t) with
  | true =>
    have hb : strL (bytesC (readL (psB t))) = psB t := of_decide_eq_true hr
    have hv : rdV (psB t) = readL (psB t) := by unfold rdV; rw [hr]; rfl
    refine decide_eq_true ?_
    rw [hv]
    apply bytes_ext
    rw [strL_list]
    unfold textC
    have : bytesC (readL (psB t)) = parB t.data.toList := by
      have := congrArg (fun x : ByteArray => x.data.toList) hb
      exact this
    rw [this, hp]
  | false =>
    have hv : rdV (psB t) = [] := by unfold rdV; rw [hr]; rfl
    refine decide_eq_false (fun hq => ?_)
    rw [hv] at hq
    have hl : t.data.toList = textC [] := by rw [← hq]; rfl
    have : psB t = strL (bytesC []) := by
      unfold psB
      rw [hl]
      unfold textC
      rw [parB_hex]
    rw [this] at hr
    have hf : Fit ([] : List Dt) := fun d hd => by cases hd
    have h2 := rdOk_back [] ⟨by simp, by simp⟩ hf (by simp)
    have h3 : bytesC [] = bytesR [] := by unfold bytesC; rw [norm_id ⟨by simp, by simp⟩]
    rw [h3, h2] at hr
    cases hr
theorem ps_no {t : ByteArray} (h : ¬ digs t.data.toList) : psOk t = false := by
  unfold psOk
  refine decide_eq_false (fun hq => h ?_)
  rw [← hq, strL_list]
  exact digs_hex _
theorem psV_digs {t : ByteArray} (h : digs t.data.toList) : psV t = rdV (psB t) ∧ psE t = rdE (psB t) := by
  unfold psV psE rdE
  rw [ps_digs h]
  refine ⟨?_, rfl⟩
  unfold rdV
  cases rdOk (psB t) <;> rfl
theorem psV_no {t : ByteArray} (h : ¬ digs t.data.toList) : psV t = [] ∧ psE t = 31 := by
  unfold psV psE
  rw [ps_no h]
  exact ⟨rfl, rfl⟩
set_option maxHeartbeats 1000000 in
theorem rdigit_any (y : UInt8) (w : World) : Calls Try.prog 54 #[.int .u8 (y.toNat : Int)] w fun e w' => e = .returned (.int .u8 (dg y : Int)) ∧ w' = w := by
  have hlt := y.toNat_lt
  unfold dg
  by_cases h1 : 48 ≤ y.toNat ∧ y.toNat ≤ 57
  · rw [if_pos h1]
    have a1 : (48 : Int) ≤ (y.toNat : Int) := by omega
    have a2 : (y.toNat : Int) ≤ 57 := by omega
    have a3 : IntKind.u8.wrap ((y.toNat : Int) - 48) = ((y.toNat - 48 : Nat) : Int) := by rw [wrap_u8]; omega
    generalize y.toNat = n at *
    generalize n - 48 = k at *
    clear h1 hlt
    go_enter Try.func54, Try.ntmps54
    go_wp2
    go_ret
    exact ⟨rfl, rfl⟩
  · rw [if_neg h1]
    by_cases h2 : 97 ≤ y.toNat ∧ y.toNat ≤ 102
    · rw [if_pos h2]
      have a1 : (48 : Int) ≤ (y.toNat : Int) := by omega
      have a2 : ¬ (y.toNat : Int) ≤ 57 := by omega
      have a3 : (97 : Int) ≤ (y.toNat : Int) := by omega
      have a4 : (y.toNat : Int) ≤ 102 := by omega
      have a5 : IntKind.u8.wrap ((y.toNat : Int) - 97) = ((y.toNat - 97 : Nat) : Int) := by rw [wrap_u8]; omega
      have a6 : IntKind.u8.wrap (((y.toNat - 97 : Nat) : Int) + 10) = ((y.toNat - 87 : Nat) : Int) := by rw [wrap_u8]; omega
      generalize y.toNat = n at *
      generalize n - 97 = k at *
      generalize n - 87 = k2 at *
      clear h1 h2 hlt
      go_enter Try.func54, Try.ntmps54
      go_wp2
      go_ret
      exact ⟨rfl, rfl⟩
    · rw [if_neg h2]
      by_cases b1 : 48 ≤ y.toNat
      · have a1 : (48 : Int) ≤ (y.toNat : Int) := by omega
        have a2 : ¬ (y.toNat : Int) ≤ 57 := by omega
        by_cases b2 : 97 ≤ y.toNat
        · have a3 : (97 : Int) ≤ (y.toNat : Int) := by omega
          have a4 : ¬ (y.toNat : Int) ≤ 102 := by omega
          generalize y.toNat = n at *
          clear h1 h2 hlt b1 b2
          go_enter Try.func54, Try.ntmps54
          go_wp2
          go_ret
          exact ⟨rfl, rfl⟩
        · have a3 : ¬ (97 : Int) ≤ (y.toNat : Int) := by omega
          generalize y.toNat = n at *
          clear h1 h2 hlt b1 b2
          go_enter Try.func54, Try.ntmps54
          go_wp2
          go_ret
          exact ⟨rfl, rfl⟩
      · have a1 : ¬ (48 : Int) ≤ (y.toNat : Int) := by omega
        have a3 : ¬ (97 : Int) ≤ (y.toNat : Int) := by omega
        generalize y.toNat = n at *
        clear h1 h2 hlt b1
        go_enter Try.func54, Try.ntmps54
        go_wp2
        go_ret
        exact ⟨rfl, rfl⟩
end Go.Proofs.Ytbmeflildmeecaa
