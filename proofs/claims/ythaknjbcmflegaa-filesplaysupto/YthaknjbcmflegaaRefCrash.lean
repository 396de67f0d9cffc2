/- The document's disk: Crash. -/
import Derived.Test.YthaknjbcmflegaaRefSync
namespace Go.Proofs.Ythaknjbcmflegaa
open Go.RowKit Go.Maps Go.WideMaps

theorem rowV_set3 : ∀ (fs : Fs) (i : Nat) (k : List UInt8) (f f' : Fl), fs[i]? = some (k, f) → rowV (fs.set i (k, f')) = (((rowV fs).set (i * 3) (.string (strL k))).set (i * 3 + 1) (.string (strL f'.bytes))).set (i * 3 + 2) (.int .i64 (f'.firm : Int))
  | [], _, _, _, _, h => by simp at h
  | p :: r, 0, k, f, f', h => by
    simp at h
    subst h
    show flV (k, f') ++ rowV r = (((flV (k, f) ++ rowV r).set 0 _).set 1 _).set 2 _
    simp [flV]
  | p :: r, i + 1, k, f, f', h => by
    show flV p ++ rowV (r.set i (k, f')) = (((flV p ++ rowV r).set _ _).set _ _).set _ _
    rw [rowV_set3 r i k f f' (by simpa using h), List.set_append_right _ _ (by rw [flV_len]; omega), List.set_append_right _ _ (by rw [flV_len]; omega), List.set_append_right _ _ (by rw [flV_len]; omega)]
    rw [flV_len, show (i + 1) * 3 - 3 = i * 3 by omega, show (i + 1) * 3 + 1 - 3 = i * 3 + 1 by omega, show (i + 1) * 3 + 2 - 3 = i * 3 + 2 by omega]
/-- A file of the document's disk is written over. -/
theorem RefAt.over {w : World} {N r : Nat} {S T : Dk} (h : RefAt w N r S) {i : Nat} {k : List UInt8} {f f' : Fl} (hi : S.fs[i]? = some (k, f)) (hT : T = { S with fs := put k f' S.fs }) (hG : T.Good) :
    ∃ g c, w.cell? ⟨r, 0, none⟩ = some (.slice (some ⟨g, 0, none⟩) S.fs.length c) ∧ w.cell? ⟨g, i * 3, none⟩ = some (.string (strL k)) ∧ w.cell? ⟨g, i * 3 + 1, none⟩ = some (.string (strL f.bytes)) ∧ w.cell? ⟨g, i * 3 + 2, none⟩ = some (.int .i64 (f.firm : Int)) ∧ (∀ j, w.frozen? ⟨g, j, none⟩ = false) ∧
      RefAt (((w.setCell ⟨g, i * 3, none⟩ (.string (strL k))).setCell ⟨g, i * 3 + 1, none⟩ (.string (strL f'.bytes))).setCell ⟨g, i * 3 + 2, none⟩ (.int .i64 (f'.firm : Int))) N r T ∧ RUpd N w (((w.setCell ⟨g, i * 3, none⟩ (.string (strL k))).setCell ⟨g, i * 3 + 1, none⟩ (.string (strL f'.bytes))).setCell ⟨g, i * 3 + 2, none⟩ (.int .i64 (f'.firm : Int))) := by
  have hG0 := h.good
  obtain ⟨v, hH, hN, hR, _⟩ := h
  have hl := (List.getElem?_eq_some_iff.1 hi).1
  obtain ⟨a, c, rfl, hrow⟩ := row63 hR rfl
  rcases hrow with h0 | ⟨g, rfl, hc⟩
  · omega
  have z0 := hc i _ hi 0 _ rfl
  simp only [Nat.add_zero] at z0
  obtain ⟨cap, cur, hb, hcur⟩ : ∃ cap cur, N ≤ g ∧ w.heap[g]? = some (.cells cur 63 cap) := by
    rcases hR.2 with ⟨e, _⟩ | ⟨g', cap, cur, e, hb, hcur, _⟩
    · cases e
    · simp at e
      obtain ⟨rfl, _⟩ := e
      exact ⟨_, _, hb, hcur⟩
  have hne : r ≠ g := fun e => by
    subst e
    unfold Holds at hH
    rw [hH] at hcur
    simp at hcur
  refine ⟨g, c, hH.at 0 _ rfl, z0, hc i _ hi 1 _ rfl, hc i _ hi 2 _ rfl, fun j => hR.frozenAt j, ?_, ?_⟩
  · subst hT
    refine ⟨.slice (some ⟨g, 0, none⟩) S.fs.length c, ?_, hN, ?_, hG⟩
    · have : refV (.slice (some ⟨g, 0, none⟩) S.fs.length c) { S with fs := put k f' S.fs } = refV (.slice (some ⟨g, 0, none⟩) S.fs.length c) S := rfl
      rw [this]
      unfold Holds at hH ⊢
      rw [heap_setCell_other _ ⟨g, i * 3 + 2, none⟩ r _ hne, heap_setCell_other _ ⟨g, i * 3 + 1, none⟩ r _ hne, heap_setCell_other _ ⟨g, i * 3, none⟩ r _ hne]; exact hH
    · show World.ownsRow _ N 63 3 _ (put k f' S.fs).length (rowV (put k f' S.fs))
      rw [put_set hG0.rise hi f', rowV_set3 S.fs i k f f' hi, List.length_set]
      exact (((hR.stored _ _).1.stored _ _).1.stored _ _).1
  · refine ⟨rfl, rfl, rfl, by simp, fun j hj hcj => ?_⟩
    have hjg : j ≠ g := fun e => by
      subst e
      rcases hcj with hcj | hcj
      · omega
      · exact hcj ⟨_, 63, _, hcur, .inr rfl⟩
    rw [heap_setCell_other _ ⟨g, i * 3 + 2, none⟩ j _ hjg, heap_setCell_other _ ⟨g, i * 3 + 1, none⟩ j _ hjg, heap_setCell_other _ ⟨g, i * 3, none⟩ j _ hjg]
theorem crash1_good (f : Fl) (ps : List Int) : (crash1 f ps).1.firm ≤ (crash1 f ps).1.bytes.length ∧ (crash1 f ps).1.bytes.length ≤ f.bytes.length := by
  unfold crash1
  split
  · exact ⟨Nat.le_refl _, Nat.le_refl _⟩
  · exact ⟨Nat.le_refl _, by simp; omega⟩
theorem Dk.Good.over {S : Dk} (h : S.Good) (k : List UInt8) (f f' : Fl) (hf : get S.fs k = some f) (h1 : f'.firm ≤ f'.bytes.length) (h2 : f'.bytes.length ≤ f.bytes.length) : Dk.Good { S with fs := Ythaknjbcmflegaa.put k f' S.fs } :=
  h.put k f' (.inl (by rw [hf]; rfl)) (by
    have hup := used_put h.rise k f'
    rw [lenAt_some hf] at hup
    have := h.used
    omega) (h.keys _ (get_mem hf)) h1
theorem midP_drop (S : Dk) (ps : List Int) (j : Nat) (at0 : Nat) (h : midP S ps j = ps.drop at0) (k : List UInt8) (f : Fl) (hk : S.fs[j]? = some (k, f)) (hr : Rising (midS S ps j).fs) : midP S ps (j + 1) = ps.drop (if f.bytes.length - f.firm = 0 then at0 else at0 + 1) := by
  rw [(mid_next S ps j k f hk hr).2.2, h, crash1]
  by_cases h0 : f.bytes.length - f.firm = 0
  · rw [if_pos h0, if_pos h0]
  · rw [if_neg h0, if_neg h0]; simp
end Go.Proofs.Ythaknjbcmflegaa
