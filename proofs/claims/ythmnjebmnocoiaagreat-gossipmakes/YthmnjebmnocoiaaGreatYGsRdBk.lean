/- A ring's bytes, read again: what was written comes out as it was. -/
import Derived.Test.YthmnjebmnocoiaaGreatYGsRdQ
import Derived.Test.YthmnjebmnocoiaaGreatYB2
import Derived.Test.YthmnjebmnocoiaaGreatYB1
import Derived.Test.YthmnjebmnocoiaaGreatYGsRefB
import Derived.Test.YthmnjebmnocoiaaGreatYP3
namespace Go.Proofs.YthmnjebmnocoiaaGreat.Rd
open Go.RowKit

theorem by_ext {a b : ByteArray} (h : a.data.toList = b.data.toList) : a = b := by
  apply ByteArray.ext
  exact Array.toList_inj.1 h
theorem rdN_back (n : Nat) (h : n < 18446744073709551616) (t : List UInt8) : rdN (Pk.strL (Pk.numL n ++ t), 0) = (n, (Pk.strL t, 0)) := by
  obtain ⟨h1, h2, h3⟩ := Pk.num_back n h t
  unfold rdN
  rw [if_pos rfl]
  have e1 : Pk.nE (Pk.strL (Pk.numL n ++ t)) = 0 := h1
  have e2 : Pk.nV (Pk.strL (Pk.numL n ++ t)) = n := h2
  have e3 : Pk.nR (Pk.strL (Pk.numL n ++ t)) = Pk.strL t := by
    apply by_ext
    unfold Pk.nR
    rw [Pk.ext_tail]
    show (Pk.numL n ++ t).drop (Pk.lead (Pk.numL n ++ t) + 1) = t
    rw [h3, List.drop_left]
  show (Pk.nV (Pk.strL (Pk.numL n ++ t)), (Pk.restR (Pk.nE (Pk.strL (Pk.numL n ++ t))) (Pk.nR (Pk.strL (Pk.numL n ++ t))), Pk.nE (Pk.strL (Pk.numL n ++ t)))) = _
  rw [e1, e2, e3]
  rfl
theorem intV_zig (x : Int) : Pk.intV (Pk.zig x) = x := by
  unfold Pk.intV Pk.zig
  split <;> split <;> omega
theorem rdI_back (x : Int) (h : I64 x) (t : List UInt8) : rdI (Pk.strL (Pk.numL (Pk.zig x) ++ t), 0) = (x, (Pk.strL t, 0)) := by
  unfold rdI
  rw [rdN_back _ (Pk.zig_lt x ⟨h.1, by have := h.2; omega⟩)]
  show (Pk.intV (Pk.zig x), (Pk.strL t, (0 : Int))) = _
  rw [intV_zig]
theorem memA_eq (m : Mb) (t : List UInt8) : memA m ++ t = Pk.numL (Pk.zig m.1) ++ (Pk.numL (Pk.zig m.2.1) ++ (Pk.numL m.2.2 ++ t)) := by simp [memA]
theorem ownA_eq (m : Ow) (t : List UInt8) : ownA m ++ t = Pk.numL (Pk.zig m.1) ++ (Pk.numL m.2 ++ t) := by simp [ownA]
theorem rdM_back (m : Mb) (h1 : I64 m.1) (h2 : I64 m.2.1) (h3 : m.2.2 < 18446744073709551616) (t : List UInt8) : rdM (Pk.strL (memA m ++ t), 0) = (m, (Pk.strL t, 0)) := by
  rw [memA_eq]
  have a1 := rdI_back m.1 h1 (Pk.numL (Pk.zig m.2.1) ++ (Pk.numL m.2.2 ++ t))
  have a2 := rdI_back m.2.1 h2 (Pk.numL m.2.2 ++ t)
  have a3 := rdN_back m.2.2 h3 t
  unfold rdM
  rw [a1]
  dsimp only
  rw [a2]
  dsimp only
  rw [a3]
theorem rdO_back (m : Ow) (h1 : I64 m.1) (h3 : m.2 < 18446744073709551616) (t : List UInt8) : rdO (Pk.strL (ownA m ++ t), 0) = (m, (Pk.strL t, 0)) := by
  rw [ownA_eq]
  have a1 := rdI_back m.1 h1 (Pk.numL m.2 ++ t)
  have a3 := rdN_back m.2 h3 t
  unfold rdO
  rw [a1]
  dsimp only
  rw [a3]
theorem rdMs_back (ms : List Mb) (h : ∀ m ∈ ms, I64 m.1 ∧ I64 m.2.1 ∧ m.2.2 < 18446744073709551616) (t : List UInt8) : ∀ k, k ≤ ms.length → rdMs k (Pk.strL (ms.flatMap memA ++ t), 0) = (ms.take k, (Pk.strL ((ms.drop k).flatMap memA ++ t), 0)) := by
  intro k
  induction k with
  | zero => intro _; simp [rdMs]
  | succ k ih =>
    intro hk
    have hk' : k < ms.length := by omega
    have hm := h ms[k] (List.getElem_mem hk')
    rw [rdMs, ih (by omega)]
    have hd : ms.drop k = ms[k] :: ms.drop (k + 1) := List.drop_eq_getElem_cons hk'
    dsimp only
    rw [hd, List.flatMap_cons, List.append_assoc, rdM_back ms[k] hm.1 hm.2.1 hm.2.2, List.take_succ_eq_append_getElem hk']
theorem rdOs_back (ms : List Ow) (h : ∀ m ∈ ms, I64 m.1 ∧ m.2 < 18446744073709551616) (t : List UInt8) : ∀ k, k ≤ ms.length → rdOs k (Pk.strL (ms.flatMap ownA ++ t), 0) = (ms.take k, (Pk.strL ((ms.drop k).flatMap ownA ++ t), 0)) := by
  intro k
  induction k with
  | zero => intro _; simp [rdOs]
  | succ k ih =>
    intro hk
    have hk' : k < ms.length := by omega
    have hm := h ms[k] (List.getElem_mem hk')
    rw [rdOs, ih (by omega)]
    have hd : ms.drop k = ms[k] :: ms.drop (k + 1) := List.drop_eq_getElem_cons hk'
    dsimp only
    rw [hd, List.flatMap_cons, List.append_assoc, rdO_back ms[k] hm.1 hm.2, List.take_succ_eq_append_getElem hk']
theorem numL_pos (n : Nat) : 1 ≤ (Pk.numL n).length := by
  by_cases h : n < 128
  · rw [Pk.numL_small h]; exact Nat.le_refl _
  · rw [Pk.numL_big h]; simp
theorem memA_pos (m : Mb) : 3 ≤ (memA m).length := by
  have h1 := numL_pos (Pk.zig m.1)
  have h2 := numL_pos (Pk.zig m.2.1)
  have h3 := numL_pos m.2.2
  simp [memA]
  omega
theorem memAs_pos : ∀ ms : List Mb, 3 * ms.length ≤ (ms.flatMap memA).length
  | [] => Nat.le_refl _
  | m :: ms => by
    have h1 := memA_pos m
    have h2 := memAs_pos ms
    rw [List.flatMap_cons, List.length_append, List.length_cons]
    omega
theorem rdMany_back (n : Nat) (t : List UInt8) (h : n < 18446744073709551616) (ht : 3 * n ≤ t.length) : Pk.mnV (Pk.strL (Pk.numL n ++ t)) 3 = n ∧ rdMany (Pk.strL (Pk.numL n ++ t)) = (Pk.strL t, 0) := by
  have hb := rdN_back n h t
  unfold rdN at hb
  rw [if_pos rfl] at hb
  have e1 : Pk.nV (Pk.strL (Pk.numL n ++ t)) = n := congrArg (·.1) hb
  have e3 : Pk.nE (Pk.strL (Pk.numL n ++ t)) = 0 := congrArg (·.2.2) hb
  have e2 : Pk.nR (Pk.strL (Pk.numL n ++ t)) = Pk.strL t := by
    have : Pk.restR (Pk.nE (Pk.strL (Pk.numL n ++ t))) (Pk.nR (Pk.strL (Pk.numL n ++ t))) = Pk.strL t := congrArg (·.2.1) hb
    rw [e3] at this
    exact this
  have e4 : Pk.manyE (Pk.strL (Pk.numL n ++ t)) 3 = 0 := by
    have q : (max (3 : Int) 1).toNat = 3 := rfl
    unfold Pk.manyE
    rw [if_pos e3, e2, e1, q, if_neg]
    show ¬ t.length / 3 < n
    omega
  refine ⟨?_, ?_⟩
  · unfold Pk.mnV
    rw [if_pos e4, e1]
  · unfold rdMany
    rw [e4, e2]
    rfl
structure WFit (r : Rg) : Prop where
  mem : ∀ m ∈ r.1, I64 m.1 ∧ I64 m.2.1 ∧ m.2.2 < 18446744073709551616
  own : ∀ m ∈ r.2, I64 m.1 ∧ m.2 < 18446744073709551616
  len : r.2.length = 8
  few : r.1.length < 18446744073709551616
theorem read_back (r : Rg) (h : WFit r) : rdA (Pk.strL (bytesG r)) = (r.1, (Pk.strL (r.2.flatMap ownA), 0)) ∧ rdB (Pk.strL (bytesG r)) = (r.2, (Pk.strL [], 0)) := by
  have e0 : bytesG r = Pk.numL r.1.length ++ (r.1.flatMap memA ++ r.2.flatMap ownA) := by unfold bytesG; rw [List.append_assoc]
  have hl := memAs_pos r.1
  obtain ⟨h1, h2⟩ := rdMany_back r.1.length (r.1.flatMap memA ++ r.2.flatMap ownA) h.few (by rw [List.length_append]; omega)
  have hA : rdA (Pk.strL (bytesG r)) = (r.1, (Pk.strL (r.2.flatMap ownA), 0)) := by
    unfold rdA
    rw [e0, h1, h2, rdMs_back r.1 h.mem _ _ (Nat.le_refl _), List.take_length, List.drop_length]
    rfl
  refine ⟨hA, ?_⟩
  unfold rdB
  rw [hA]
  have := rdOs_back r.2 h.own [] 8 (by rw [h.len]; exact Nat.le_refl _)
  dsimp only
  rw [List.append_nil] at this
  rw [this, List.take_of_length_le (by rw [h.len]; exact Nat.le_refl _), List.drop_eq_nil_of_le (by rw [h.len]; exact Nat.le_refl _)]
  rfl
theorem read_bytes (r : Rg) (h : WFit r) : readR (Pk.strL (bytesG r)) = r := by
  obtain ⟨h1, h2⟩ := read_back r h
  unfold readR
  rw [h1, h2]
/-! A ring that was put right. -/
theorem norm_wfit {r : Rg} (h : RFit r) : WFit (normL r) := by
  obtain ⟨k, hr, e1, hl, hso⟩ := merge_normed [r]
  have hf := norm_fit h
  refine ⟨fun m hm => ?_, fun m hm => ?_, hl, ?_⟩
  · have h2 := hf.mem m hm
    have hm' : m ∈ risL k := by rw [← e1]; exact hm
    obtain ⟨q0, q1⟩ := (mem_risL k hr m).1 hm'
    have hs := hr.seen (n := m.1) (by rw [q1]; exact q0)
    rw [q1] at hs
    have := (okM_iff m).1 hs.1
    refine ⟨⟨by omega, by omega⟩, ⟨by omega, by omega⟩, h2⟩
  · obtain ⟨j, hj, rfl⟩ := List.mem_iff_getElem.1 hm
    have hl' : (normL r).2.length = 8 := hl
    have h2 := hf.own j (by omega)
    have h3 := hso j (by omega)
    have e : (normL r).2.getD j noO = (normL r).2[j] := by simp [hj]
    rw [e] at h2
    have h3 : So ((normL r).2.getD j noO) := h3
    rw [e] at h3
    exact ⟨⟨by have := h3.1; omega, by have := h3.2; omega⟩, h2⟩
  · have : (normL r).1.length ≤ 7 := by
      show (risL (mergeK [r])).length ≤ 7
      unfold risL
      refine Nat.le_trans (List.length_filter_le _ _) ?_
      simp [seven]
    omega
end Go.Proofs.YthmnjebmnocoiaaGreat.Rd
