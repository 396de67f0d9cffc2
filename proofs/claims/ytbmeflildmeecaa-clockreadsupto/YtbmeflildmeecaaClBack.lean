/- What is read is what was written. -/
import Derived.Test.YtbmeflildmeecaaPkPureB
import Derived.Test.YtbmeflildmeecaaClParse
namespace Go.Proofs.Ytbmeflildmeecaa
open Go.RowKit Go.Shelf Go.Sort Go.Lib Pk

theorem numL_pos (n : Nat) : 0 < (numL n).length := by
  by_cases h : n < 128
  · rw [numL_small h]; simp
  · rw [numL_big h]; simp
theorem nR_back (n : Nat) (h : n < 18446744073709551616) (r : List UInt8) : nR (strL (numL n ++ r)) = strL r := by
  have hb := (num_back n h r).2.2
  have hd : (nR (strL (numL n ++ r))).data.toList = r := by
    unfold nR
    rw [ext_tail, strL_list, hb, List.drop_left]
  generalize nR (strL (numL n ++ r)) = z at *
  obtain ⟨z⟩ := z
  dsimp only at hd
  rw [← hd]
  rfl
theorem rdN_back (n : Nat) (h : n < 18446744073709551616) (r : List UInt8) : rdN (strL (numL n ++ r), 0) = (n, (strL r, 0)) := by
  have hb := num_back n h r
  have h1 : nE (strL (numL n ++ r)) = 0 := hb.1
  have h2 : nV (strL (numL n ++ r)) = n := hb.2.1
  unfold rdN
  rw [if_pos rfl]
  dsimp only
  rw [h1, h2, nR_back n h r]
  rfl
theorem rdDots_back (c : List Dt) (hf : Fit c) (k : Nat) (hk : k ≤ c.length) : rdDots k (strL (c.flatMap dotB), 0) = (c.take k, (strL ((c.drop k).flatMap dotB), 0)) := by
  induction k with
  | zero => rfl
  | succ k ih =>
    have ih := ih (by omega)
    have hlt : k < c.length := by omega
    have hd := List.drop_eq_getElem_cons hlt
    have hfd := hf c[k] (List.getElem_mem hlt)
    rw [rdDots, ih]
    dsimp only
    have e : (c.drop k).flatMap dotB = numL c[k].1 ++ (numL c[k].2 ++ (c.drop (k + 1)).flatMap dotB) := by
      rw [hd, List.flatMap_cons]
      show numL c[k].1 ++ numL c[k].2 ++ _ = _
      rw [List.append_assoc]
    rw [e, rdN_back _ hfd.1]
    dsimp only
    rw [rdN_back _ hfd.2]
    dsimp only
    rw [List.take_add_one, List.getElem?_eq_getElem hlt]
    rfl
theorem dotB_min (c : List Dt) : 2 * c.length ≤ (c.flatMap dotB).length := by
  induction c with
  | nil => simp
  | cons d c ih =>
    have h1 := numL_pos d.1
    have h2 := numL_pos d.2
    simp only [List.flatMap_cons, List.length_append, List.length_cons, dotB]
    omega
theorem readL_back (c : List Dt) (hf : Fit c) (hl : c.length < 18446744073709551616) : readL (strL (bytesR c)) = c := by
  have hb := num_back c.length hl (c.flatMap dotB)
  have h1 : nE (strL (bytesR c)) = 0 := hb.1
  have h2 : nV (strL (bytesR c)) = c.length := hb.2.1
  have h3 : nR (strL (bytesR c)) = strL (c.flatMap dotB) := nR_back c.length hl _
  have h4 : manyE (strL (bytesR c)) 2 = 0 := by
    unfold manyE
    rw [if_pos h1, h3, h2, if_neg]
    have e : (max (2 : Int) 1).toNat = 2 := rfl
    have := dotB_min c
    rw [e, strL_size]
    omega
  have h5 : mnV (strL (bytesR c)) 2 = c.length := by unfold mnV; rw [if_pos h4, h2]
  unfold readL rdMany
  rw [h5, h4, h3]
  show (rdDots c.length (strL (c.flatMap dotB), 0)).1 = c
  rw [rdDots_back c hf c.length (Nat.le_refl _)]
  simp
theorem rdOk_back (c : List Dt) (hR : Right c) (hf : Fit c) (hl : c.length < 18446744073709551616) : rdOk (strL (bytesR c)) = true := by
  unfold rdOk
  rw [readL_back c hf hl]
  unfold bytesC
  rw [norm_id hR]
  simp
theorem rdV_back (c : List Dt) (hf : Fit c) (hl : c.length < 18446744073709551616) : rdV (strL (bytesC c)) = norm c ∧ rdE (strL (bytesC c)) = 0 := by
  have n1 := norm_len c
  have h := rdOk_back (norm c) (norm_right c) hf.norm (by omega)
  unfold rdV rdE bytesC
  rw [h]
  exact ⟨readL_back _ hf.norm (by omega), rfl⟩
theorem psB_back (c : List Dt) : psB (strL (textC c)) = strL (bytesC c) := by
  unfold psB
  rw [strL_list]
  unfold textC
  rw [parB_hex]
theorem psV_back (c : List Dt) (hf : Fit c) (hl : c.length < 18446744073709551616) : psV (strL (textC c)) = norm c ∧ psE (strL (textC c)) = 0 := by
  have h := rdV_back c hf hl
  have ht : textC (norm c) = textC c := by unfold textC bytesC; rw [norm_id (norm_right c)]
  have hok : psOk (strL (textC c)) = true := by
    unfold psOk
    rw [psB_back, h.1, ht]
    simp
  unfold psV psE
  rw [hok, psB_back, h.1]
  exact ⟨rfl, rfl⟩
theorem awake_bytes : bytesC [(1, 2), (300, 1)] = [2, 1, 2, 172, 2, 1] := by
  have h : norm [(1, 2), (300, 1)] = [(1, 2), (300, 1)] := by decide
  unfold bytesC bytesR
  rw [h]
  have e : numL 300 = [172, 2] := by rw [numL_big (by omega), show 300 / 128 = 2 by omega, numL_small (by omega)]; rfl
  simp only [List.length_cons, List.length_nil, List.flatMap_cons, List.flatMap_nil, dotB, e]
  rw [numL_small (by omega), numL_small (by omega)]
  rfl
theorem awake_text : strL (textC [(1, 2), (300, 1)]) = ⟨#[48, 50, 48, 49, 48, 50, 97, 99, 48, 50, 48, 49]⟩ := by
  unfold textC
  rw [awake_bytes]
  rfl
theorem awake_fit : Fit [(1, 2), (300, 1)] := by intro d hd; simp at hd; rcases hd with rfl | rfl <;> simp
theorem awake_parse : psV ⟨#[48, 50, 48, 49, 48, 50, 97, 99, 48, 50, 48, 49]⟩ = [(1, 2), (300, 1)] ∧ psE ⟨#[48, 50, 48, 49, 48, 50, 97, 99, 48, 50, 48, 49]⟩ = 0 := by
  have h := psV_back [(1, 2), (300, 1)] awake_fit (by simp)
  rw [awake_text] at h
  refine ⟨h.1.trans (by decide), h.2⟩
end Go.Proofs.Ytbmeflildmeecaa
