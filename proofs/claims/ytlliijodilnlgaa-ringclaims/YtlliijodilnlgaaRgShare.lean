/- What package ring's shares answers. -/
import Derived.Test.YtlliijodilnlgaaRgStb
namespace Go.Proofs.Ytlliijodilnlgaa
open Go.RowKit

def firstK (n k : Nat) : List Int := (List.range n).map fun i => if i < k then ((i : Nat) : Int) else 0
theorem firstK_len (n k : Nat) : (firstK n k).length = n := by simp [firstK]
theorem firstK_zero (n : Nat) : firstK n 0 = List.replicate n 0 := by simp [firstK, List.map_const']
theorem firstK_all (n : Nat) : firstK n n = natI (List.range n) := by
  unfold firstK natI
  apply List.map_congr_left
  intro i hi
  rw [if_pos (by simpa using hi)]
theorem firstK_succ (n k : Nat) : firstK n (k + 1) = (firstK n k).set k (k : Int) := by
  apply List.ext_getElem
  · simp [firstK]
  · intro i h1 h2
    have hi : i < n := by simpa [firstK] using h1
    rw [List.getElem_set]
    simp only [firstK, List.getElem_map, List.getElem_range]
    by_cases e : k = i
    · subst e; simp
    · rw [if_neg e]
      by_cases g : i < k
      · rw [if_pos g, if_pos (by omega)]
      · rw [if_neg g, if_neg (by omega)]
def partK (t : List Int) (k : Nat) : List Int := (List.range t.length).map fun i => if rankI t i < k then quotaI t.length (rankI t i) else 0
theorem partK_len (t : List Int) (k : Nat) : (partK t k).length = t.length := by simp [partK]
theorem partK_zero (t : List Int) : partK t 0 = List.replicate t.length 0 := by simp [partK, List.map_const']
theorem rankI_lt (t : List Int) (i : Nat) (hi : i < t.length) : rankI t i < t.length := by
  obtain ⟨r, hr⟩ := order_exists t
  have hm : i ∈ r := hr.perm.mem_iff.2 (by simpa using hi)
  obtain ⟨k, hk, e⟩ := List.getElem_of_mem hm
  rw [hr.rank k i (by rw [List.getElem?_eq_getElem hk, e])]
  have := hr.perm.length_eq
  simp at this; omega
theorem rankI_inj {t : List Int} {r : List Nat} (h : IsOrder t r) (k x i : Nat) (hx : r[k]? = some x) (hi : i < t.length) (he : rankI t i = k) : i = x := by
  have hm : i ∈ r := h.perm.mem_iff.2 (by simpa using hi)
  obtain ⟨k', hk', e⟩ := List.getElem_of_mem hm
  have h1 := h.rank k' i (by rw [List.getElem?_eq_getElem hk', e])
  have : k' = k := by omega
  subst this
  rw [List.getElem?_eq_getElem hk', e] at hx
  exact Option.some.inj hx
theorem partK_all (t : List Int) : partK t t.length = shareI t := by
  unfold partK shareI
  apply List.map_congr_left
  intro i hi
  rw [if_pos (rankI_lt t i (by simpa using hi))]
theorem partK_succ {t : List Int} {r : List Nat} (h : IsOrder t r) (k x : Nat) (hx : r[k]? = some x) : partK t (k + 1) = (partK t k).set x (quotaI t.length k) := by
  have hr := h.rank k x hx
  apply List.ext_getElem
  · simp [partK]
  · intro i h1 h2
    have hi : i < t.length := by simpa [partK] using h1
    rw [List.getElem_set]
    simp only [partK, List.getElem_map, List.getElem_range]
    by_cases e : x = i
    · subst e; rw [if_pos rfl, if_pos (by omega), hr]
    · rw [if_neg e]
      by_cases g : rankI t i < k
      · rw [if_pos g, if_pos (by omega)]
      · have : rankI t i ≠ k := fun q => e (rankI_inj h k x i hx hi q).symm
        rw [if_neg g, if_neg (by omega)]
theorem set_set (l : List Int) (i : Nat) (x y : Int) : (l.set i x).set i y = l.set i y := List.set_set ..
theorem natI_at (l : List Nat) (i x : Nat) (h : l[i]? = some x) : (intV (natI l))[i]? = some (.int .i64 (x : Int)) := by simp [intV, natI, h]

set_option maxHeartbeats 2000000 in
theorem shares_any (m : Nat) (hm : m + 1 ≤ 17592186043904) (g : Nat) (t : List Int) (w : World) (hn : t.length = m + 1) (h8 : ∀ k, 0 ≤ t.getD k 0 ∧ t.getD k 0 ≤ 8) (hg : Holds w g (intV t) 3) :
    Calls Try.prog 20 #[.slice (some ⟨g, 0, none⟩) (m + 1) (m + 1)] w fun e w' => ∃ g', e = .returned (.slice (some ⟨g', 0, none⟩) (m + 1) (m + 1)) ∧ w.heap.size ≤ g' ∧ Holds w' g' (intV (shareI t)) 3 ∧ Below w.heap.size w w' := by
  obtain ⟨N, hN⟩ : ∃ N, w.heap.size = N := ⟨_, rfl⟩
  have hgN : g < N := by rw [← hN]; exact hg.lt
  rw [hN]
  obtain ⟨i3, f3, hz3, hs3, hb3⟩ := inf3
  have F3 : Hid (Try.prog.info? 3 = some i3) := f3
  have HSt : Hid (∀ W, Holds W N [.slice (some ⟨g, 0, none⟩) (m + 1) (m + 1)] 24 → Holds W g (intV t) 3 → Holds W (N + 1) (intV (natI (List.range (m + 1)))) 3 → Calls Try.prog 35 #[.slice (some ⟨N + 1, 0, none⟩) (m + 1) (m + 1), .func (.func 36) #[] #[.pointer (some ⟨N, 0, none⟩)]] W fun e w' => e = .returned (.tuple #[]) ∧ Holds w' (N + 1) (intV (natI (ordL m t))) 3 ∧ Upd (N + 1) W w') := fun W hc hg hb => stable_any m hm N g (N + 1) (m + 1) t W hn h8 hc hg hb (by omega) (by omega)
  have HO : Hid ((ordL m t).length = m + 1 ∧ IsOrder t (ordL m t)) := by
    obtain ⟨a, b⟩ := orderA_spec (m := m) t hn
    exact ⟨by simp [ordL, a], b⟩
  have HG : Hid (Holds w g (intV t) 3) := hg
  have HT : Hid (t.length = m + 1) := hn
  generalize hnn : m + 1 = n at *
  have hpos : 0 < n := by omega
  have hsm : n ≤ 17592186043904 := hm
  clear hm hn h8 hg f3 hnn
  go_enter Try.func20, Try.ntmps20
  go_wp2_with (first
    | (refine wpList_make_full _ rfl _ _ 24 rfl (N + 1) 3 i3 _ 1 und24 F3.out hz3 hs3 .i64 .i64 _ _ n rfl rfl rfl rfl (by rw [hb3]; omega) (by unfold maxLen; omega) (by simp [hN]) ?_; intro w2 own2 gr2))
  have hR := made_holds own2
  have hB0 : Below N w (w.alloc (.cells #[.slice (some ⟨g, 0, none⟩) n n] 24)) := (Below.refl _ w).alloc (by omega) _
  have hsz1 : (w.alloc (.cells #[.slice (some ⟨g, 0, none⟩) n n] 24)).heap.size = N + 1 := by simp [hN]
  have hC2 : Holds w2 N [.slice (some ⟨g, 0, none⟩) n n] 24 := by
    unfold Holds
    rw [gr2.block N (by omega) (by simp)]
    have := heap_alloc_new w (.cells #[.slice (some ⟨g, 0, none⟩) n n] 24)
    rw [hN] at this
    exact this
  have hB2 : Below N w w2 := hB0.trans ⟨gr2.os, gr2.tape, gr2.output, gr2.size, fun k hk => gr2.block k (by omega) (by simp)⟩
  have hG2 : Holds w2 g (intV t) 3 := HG.out.below hB2 hgN
  rw [hsz1] at hR
  have hR2 : Holds w2 (N + 1) (intV (firstK n 0)) 3 := by rw [firstK_zero]; exact hR
  have HB2 : Hid (Below N w w2) := hB2
  have HC2 : Hid (Holds w2 N [.slice (some ⟨g, 0, none⟩) n n] 24) := hC2
  have HG2 : Hid (Holds w2 g (intV t) 3) := hG2
  have HR2 : Hid (Holds w2 (N + 1) (intV (firstK n 0)) 3) := hR2
  clear hR own2 gr2 hB0 hsz1 hC2 hB2 hG2 hR2
  go_loopw [13] (fun c wr => ∃ k : Nat, k ≤ n ∧ c = .int .i64 (k : Int) ∧ Holds wr (N + 1) (intV (firstK n k)) 3 ∧ Upd (N + 1) w2 wr) (fun c _ => n - (intOf c).toNat)
  case atStart => exact ⟨0, by omega, rfl, HR2.out, Upd.refl _ _⟩
  case round =>
  obtain ⟨k, hk, rfl, hh, hU⟩ := hrel
  by_cases hlt : k < n
  · have i0 : (0 : Int) ≤ (k : Int) := by omega
    have i1 : (k : Int) < (n : Int) := by omega
    have hcell := hh.at k _ (intV_at _ k (by rw [firstK_len]; exact hlt))
    have hfr := hh.frozen k
    have hst : Hid (Holds (wr.setCell ⟨N + 1, k, none⟩ (.int .i64 (k : Int))) (N + 1) (intV (firstK n (k + 1))) 3) := by
      show Holds _ _ _ _
      rw [firstK_succ n k, ← intV_set]
      exact hh.set k _
    have hU2 : Hid (Upd (N + 1) w2 (wr.setCell ⟨N + 1, k, none⟩ (.int .i64 (k : Int)))) := hU.setCell k _
    generalize (firstK n k).getD k 0 = y at hcell
    clear hh hU
    go_wp2
    exact ⟨⟨k + 1, by omega, by go_num, hst.out, hU2.out⟩, by simp [intOf]; omega⟩
  · have e8 : k = n := by omega
    rw [e8, firstK_all] at hh
    have i1 : ¬ (k : Int) < (n : Int) := by omega
    have hS := HSt.out wr (HC2.out.upd hU (by omega)) (HG2.out.upd hU (by omega)) hh
    have hS' : Hid (Calls Try.prog 35 #[.slice (some ⟨N + 1, 0, none⟩) n n, .func (.func 36) #[] #[.pointer (some ⟨N, 0, none⟩)]] wr fun e w' => e = .returned (.tuple #[]) ∧ Holds w' (N + 1) (intV (natI (ordL m t))) 3 ∧ Upd (N + 1) wr w') := hS
    have HU : Hid (Upd (N + 1) w2 wr) := hU
    have hcb : ∀ W, Upd (N + 1) w2 W → W.cell? ⟨N, 0, none⟩ = some (.slice (some ⟨g, 0, none⟩) n n) := fun W hu => (HC2.out.upd hu (by omega)).at 0 _ rfl
    have HCB : Hid (∀ W, Upd (N + 1) w2 W → W.cell? ⟨N, 0, none⟩ = some (.slice (some ⟨g, 0, none⟩) n n)) := hcb
    have hsz2 : Hid (N + 1 < w2.heap.size) := HR2.out.lt
    clear hh hU hS e8 hcb
    go_wp2_with (first
      | (go_at_call 35; refine hS'.out.mono ?_; rintro e w3 ⟨rfl, H3, U3⟩; have U03 := HU.out.trans U3; have c3 := HCB.out w3 U03; obtain ⟨G, hG⟩ : ∃ G, w3.heap.size = G := ⟨_, rfl⟩)
      | (refine wpList_make_full _ rfl _ _ 24 rfl 0 3 i3 _ 1 und24 F3.out hz3 hs3 .i64 .i64 _ _ n rfl rfl rfl rfl (by rw [hb3]; omega) (by unfold maxLen; omega) (by omega) ?_; rw [hG]; intro w4 own4 gr4))
    have hR4 := made_holds own4
    have hGN : N + 1 < G := by have := U03.size; have := hsz2.out; omega
    have hb4 : ∀ b cs ty, b < G → Holds w3 b cs ty → Holds w4 b cs ty := fun b cs ty hb h => by
      unfold Holds
      rw [gr4.block b (by omega) (by simp)]; exact h
    have HO4 : Hid (Holds w4 (N + 1) (intV (natI (ordL m t))) 3) := hb4 _ _ _ hGN H3
    have HC4 : Hid (Holds w4 N [.slice (some ⟨g, 0, none⟩) n n] 24) := hb4 _ _ _ (by omega) (HC2.out.upd U03 (by omega))
    have HB4 : Hid (Below N w w4) := (HB2.out.trans (U03.below (by omega) (by have := hsz2.out; omega))).trans ⟨gr4.os, gr4.tape, gr4.output, gr4.size, fun k hk => gr4.block k (by omega) (by simp)⟩
    have HR4 : Hid (Holds w4 G (intV (partK t 0)) 3) := by
      show Holds _ _ _ _
      rw [partK_zero, HT.out]; exact hR4
    clear hR4 own4 gr4 hb4 H3 U3 U03 c3 hG
    generalize wr = wo at *
    go_loopw [29] (fun c wr => ∃ k : Nat, k ≤ n ∧ c = .int .i64 (k : Int) ∧ Holds wr G (intV (partK t k)) 3 ∧ Upd G w4 wr) (fun c _ => n - (intOf c).toNat)
    case atStart => exact ⟨0, by omega, rfl, HR4.out, Upd.refl _ _⟩
    case round =>
    clear HR4
    obtain ⟨p, hp, rfl, hh, hV⟩ := hrel
    by_cases hlp : p < n
    · have j0 : (0 : Int) ≤ (p : Int) := by omega
      have j1 : (p : Int) < (n : Int) := by omega
      obtain ⟨x, hx⟩ : ∃ x, (ordL m t)[p]? = some x := ⟨_, List.getElem?_eq_getElem (by rw [HO.out.1]; exact hlp)⟩
      have hxn : x < n := by
        have := HO.out.2.perm.mem_iff.1 (List.mem_of_getElem? hx)
        rw [HT.out] at this; simpa using this
      have x0 : (0 : Int) ≤ (x : Int) := by omega
      have x1 : (x : Int) < (n : Int) := by omega
      have ho := (HO4.out.upd hV (by omega)).at p _ (natI_at _ p x hx)
      have hc := (HC4.out.upd hV (by omega)).at 0 _ rfl
      have hcell := hh.at x _ (intV_at _ x (by rw [partK_len, HT.out]; exact hxn))
      have hfr := hh.frozen x
      have hn0 : ¬ (n : Int) = 0 := by omega
      have hstep := partK_succ HO.out.2 p x hx
      rw [HT.out] at hstep
      have emod : ((8 % n : Nat) : Int) = 8 % (n : Int) := by simp
      have HH : Hid (Holds wr G (intV (partK t p)) 3) := hh
      have HV : Hid (Upd G w4 wr) := hV
      generalize (partK t p).getD x 0 = y at hcell
      have hd0 : 0 ≤ 8 / (n : Int) := Int.ediv_nonneg (by omega) (by omega)
      have hd8 : 8 / (n : Int) ≤ 8 := Int.ediv_le_self _ (by omega)
      by_cases hq : (p : Int) < 8 % (n : Int)
      · have hst : Hid (partK t (p + 1) = (partK t p).set x (8 / (n : Int) + 1)) := by
          show _ = _
          rw [hstep, quotaI, if_pos (by omega)]
        clear hh hV hx hstep emod
        go_wp2
        refine ⟨⟨p + 1, by omega, by go_num, ?_, ?_⟩, by simp [intOf]; omega⟩
        · rw [hst.out, ← set_set _ x (8 / (n : Int)), ← intV_set, ← intV_set]
          first
            | exact (HH.out.set x _).set x _
            | (rw [List.set_set]; exact HH.out.set x _)
        · first
            | exact (HV.out.setCell x _).setCell x _
            | exact HV.out.setCell x _
      · have hst : Hid (partK t (p + 1) = (partK t p).set x (8 / (n : Int))) := by
          show _ = _
          rw [hstep, quotaI, if_neg (by omega), Int.add_zero]
        clear hh hV hx hstep emod
        go_wp2
        refine ⟨⟨p + 1, by omega, by go_num, ?_, ?_⟩, by simp [intOf]; omega⟩
        · rw [hst.out, ← intV_set]
          exact HH.out.set x _
        · exact HV.out.setCell x _
    · have e8 : p = n := by omega
      have hpn : partK t p = shareI t := by rw [e8, ← HT.out, partK_all]
      rw [hpn] at hh
      have j1 : ¬ (p : Int) < (n : Int) := by omega
      have HH : Hid (Holds wr G (intV (shareI t)) 3) := hh
      have HV : Hid (Upd G w4 wr) := hV
      clear hh hV hpn e8
      go_wp2
      go_ret
      exact ⟨_, rfl, by omega, HH.out, HB4.out.trans (HV.out.below (by omega) (by have := HO4.out.lt; omega))⟩
end Go.Proofs.Ytlliijodilnlgaa
