/- slices.SortStableFunc of places, whatever the length. -/
import Derived.Test.YtlliijodilnlgaaRgStab
namespace Go.Proofs.Ytlliijodilnlgaa
open Go.RowKit Go.Sort
theorem IsOrder.unique {t : List Int} {r s : List Nat} (h : IsOrder t r) (k : IsOrder t s) : r = s := by
  have hl : r.length = s.length := by rw [h.perm.length_eq, k.perm.length_eq]
  apply List.ext_getElem hl
  intro i h1 h2
  have hm : r[i] ∈ s := k.perm.mem_iff.2 (h.perm.mem_iff.1 (List.getElem_mem h1))
  obtain ⟨j, hj, e⟩ := List.getElem_of_mem hm
  have r1 := h.rank i r[i] (List.getElem?_eq_getElem h1)
  have r2 := k.rank j s[j] (List.getElem?_eq_getElem hj)
  rw [e, r1] at r2
  subst r2
  exact e.symm
set_option maxHeartbeats 1000000 in
theorem stable_any (m : Nat) (hm : m + 1 ≤ 17592186043904) (c g b cap : Nat) (t : List Int) (w : World) (hn : t.length = m + 1) (h8 : ∀ k, 0 ≤ t.getD k 0 ∧ t.getD k 0 ≤ 8) (hc : Holds w c [.slice (some ⟨g, 0, none⟩) (m + 1) (m + 1)] 24) (hg : Holds w g (intV t) 3) (hb : Holds w b (intV (natI (List.range (m + 1)))) 3) (hbc : c ≠ b) (hbg : g ≠ b) :
    Calls Try.prog 35 #[.slice (some ⟨b, 0, none⟩) (m + 1) cap, .func (.func 36) #[] #[.pointer (some ⟨c, 0, none⟩)]] w fun e w' => e = .returned (.tuple #[]) ∧ Holds w' b (intV (natI (ordL m t))) 3 ∧ Upd b w w' := by
  have hS : Hid (Calls Try.prog 41 #[.slice (some ⟨b, 0, none⟩) (m + 1) cap, .int .i64 ((m + 1 : Nat) : Int), .func (.func 36) #[] #[.pointer (some ⟨c, 0, none⟩)]] w fun e w' => e = .returned (.tuple #[]) ∧ Holds w' b (intV (natI (ordL m t))) 3 ∧ Upd b w w') := by
    show Calls _ _ _ _ _
    refine (stab_any c g t b (m + 1) cap w (by unfold rowN rowF; exact hb) ⟨hc, hg, hn, h8⟩ hbc hbg hm (by omega)).mono fun e w' ⟨p1, f, p2, p3, p4, p5⟩ => ⟨p1, ?_, p5⟩
    have ho := order_of p2 hn p3
    have hu : IsOrder t (ordL m t) := (orderA_spec (m := m) t hn).2
    rw [← ho.unique hu]
    have er : rowN (m + 1) f = intV (natI ((List.range (m + 1)).map f)) := by unfold rowN rowF natI; rw [List.map_map]; rfl
    rw [← er]
    exact p4
  generalize m + 1 = n at *
  clear hm hn h8 hc hg hb hbc hbg
  go_enter Try.func35, Try.ntmps35
  go_wp2_with (go_at_call 41; refine hS.out.mono ?_; rintro e w3 ⟨rfl, H3, U3⟩)
  go_end0
  exact ⟨rfl, H3, U3⟩
end Go.Proofs.Ytlliijodilnlgaa
