/- What package ring's risen answers. -/
import Derived.Test.YtlliijodilnlgaaRgSort
namespace Go.Proofs.Ytlliijodilnlgaa
open Go.RowKit

def posL (ms : List Int) : List Int := ms.filter fun x => decide (0 < x)
def sortL (l : List Int) : List Int := l.mergeSort fun x y => decide (x ≤ y)
def risenL (ms : List Int) : List Int := Lib.compact (sortL (posL ms))
theorem posL_take (l : List Int) (k : Nat) (x : Int) (h : l[k]? = some x) : posL (l.take (k + 1)) = posL (l.take k) ++ (if 0 < x then [x] else []) := by
  unfold posL
  rw [List.take_add_one, h, List.filter_append]
  by_cases hx : 0 < x
  · rw [if_pos hx]; simp [hx]
  · rw [if_neg hx]; simp [hx]
theorem posL_len (l : List Int) : (posL l).length ≤ l.length := List.length_filter_le ..
theorem sortL_len (l : List Int) : (sortL l).length = l.length := by simp [sortL]
/-- the sort and the compacting of a row that the call owns. -/
theorem srt_cmp {w : World} {n : Nat} {v : Value} {L : List Int} (h : w.ownsRow n 3 1 v L.length (intV L)) (hl : L.length ≤ 17592186043904) :
    Calls Try.prog 33 #[v] w fun e w' => e = .returned (.tuple #[]) ∧ (∀ W, W = w' → Calls Try.prog 34 #[v] W fun e w' => ∃ u, e = .returned u ∧ Ints w'.heap.size w' u (Lib.compact (sortL L)) ∧ Below n w w') := by
  have key : ∀ (a : Option Addr) (cap : Nat), v = .slice a 0 cap → L.length = 0 → Calls Try.prog 33 #[v] w fun e w' => e = .returned (.tuple #[]) ∧ (∀ W, W = w' → Calls Try.prog 34 #[v] W fun e w' => ∃ u, e = .returned u ∧ Ints w'.heap.size w' u (Lib.compact (sortL L)) ∧ Below n w w') := fun a cap e h0 => by
    have e0 : L = [] := List.eq_nil_of_length_eq_zero h0
    subst e0
    subst e
    refine (Try.slices_Sort_int_none a cap w).mono ?_
    rintro e w' ⟨rfl, rfl⟩
    refine ⟨rfl, fun W hW => ?_⟩
    subst hW
    refine (Try.slices_Compact_int_empty a cap _).mono ?_
    rintro e w' ⟨rfl, rfl⟩
    have hnil : Lib.compact (sortL []) = [] := by simp [sortL, Lib.compact, Lib.compactUpTo]
    rw [hnil]
    exact ⟨_, rfl, ⟨a, cap, rfl, by simp, Or.inl rfl⟩, Below.refl _ _⟩
  rcases h.2 with ⟨e, h0⟩ | ⟨g, cap, cur, e, hng, hg, hc, _, hs, ht⟩
  · exact key none 0 e h0
  · subst e
    have hH : Holds w g (intV L ++ cur.toList.drop L.length) 3 := by
      unfold Holds
      rw [hg]
      congr 2
      rw [← ht, Nat.mul_one, List.take_append_drop, Array.toArray_toList]
    generalize cur.toList.drop L.length = tl at hH
    have toS : ∀ (w : World) (zs : List Int), Holds w g (intV zs ++ tl) 3 → Go.Sort.Holds (Value.int .i64) w g 0 zs.toArray := fun w zs hz j hj => by
      have hj' : j < zs.length := by simpa using hj
      refine ⟨?_, hz.frozen _⟩
      rw [Nat.zero_add, hz.cell, List.getElem?_append_left (by rw [intV_len]; exact hj'), intV_at _ _ hj']
      simp [List.getD_eq_getElem?_getD, hj']
    refine (Try.slices_Sort_int g 0 cap L w (toS w L hH) hH.lt (by omega)).mono ?_
    rintro e w' ⟨rfl, q, os, rfl⟩
    have hp := put_row (Value.int .i64) hH (sortL L).toArray (by simp [sortL_len, intV_len]) q os
    refine ⟨rfl, fun W hW => ?_⟩
    have hW1 : Holds W g (intV (sortL L) ++ tl) 3 := by rw [hW]; exact hp.1
    have hW2 : Upd g w W := by rw [hW]; exact hp.2
    clear hp hW
    have hcap : (sortL L).length ≤ cap := by rw [sortL_len]; exact hc
    have hcm := Try.slices_Compact_int g 0 cap (sortL L) W (toS W _ hW1) (by rw [sortL_len]; omega) hcap
    rw [sortL_len] at hcm
    refine hcm.mono ?_
    rintro e w' ⟨rfl, q, rfl⟩
    have hcl : (Lib.compact (sortL L)).length ≤ L.length := by
      have : (Lib.compact (sortL L)).length ≤ (sortL L).length := by
        unfold Lib.compact Lib.compactUpTo
        rw [List.length_map]
        exact Nat.le_trans (List.length_filter_le ..) (by simp)
      rwa [sortL_len] at this
    have hp := put_row (Value.int .i64) hW1 (Lib.compact (sortL L) ++ List.replicate (L.length - (Lib.compact (sortL L)).length) 0).toArray (by simp [intV_len, sortL_len]; omega) q #[]
    rw [Go.Sort.grow_empty] at hp
    refine ⟨_, rfl, ⟨_, cap, rfl, by omega, Or.inr ⟨g, 0, rfl, hp.1.lt, fun j hj => ?_⟩⟩, (hW2.trans hp.2).below hng (by have := hH.lt; omega)⟩
    rw [Nat.zero_add, hp.1.cell]
    rw [List.map_append, List.append_assoc, List.getElem?_append_left (by simpa using hj)]
    simp [List.getD_eq_getElem?_getD, hj]
set_option maxHeartbeats 1000000 in
theorem risen_any (B : Nat) (v : Value) (ms : List Int) (w : World) (hv : Ints B w v ms) (hB : B ≤ w.heap.size) (hl : ms.length ≤ 17592186043904) :
    Calls Try.prog 19 #[v] w fun e w' => ∃ u, e = .returned u ∧ Ints w'.heap.size w' u (risenL ms) ∧ Below w.heap.size w w' := by
  obtain ⟨n, hn⟩ : ∃ n, w.heap.size = n := ⟨_, rfl⟩
  rw [hn] at hB ⊢
  obtain ⟨i3, f3, hz3, hs3, hb3⟩ := inf3
  have F3 : Hid (Try.prog.info? 3 = some i3) := f3
  obtain ⟨a, cap, rfl⟩ := hv.len
  obtain ⟨ln, hln⟩ : ∃ ln, ms.length = ln := ⟨_, rfl⟩
  rw [hln] at hl hv ⊢
  have HL : Hid (ms.length = ln) := hln
  have HV : Hid (∀ W, Below n w W → Ints B W (.slice a ln cap) ms) := fun W hW => hv.below (hW.mono hB)
  clear hv hln f3
  go_enter Try.func19, Try.ntmps19
  go_wp2
  go_loopw [3, 8] (fun v c wr => ∃ k : Nat, k ≤ ln ∧ c = .int .i64 (k : Int) ∧ wr.ownsRow n 3 1 v (posL (ms.take k)).length (intV (posL (ms.take k))) ∧ Below n w wr) (fun _ c _ => ln - (intOf c).toNat)
  case atStart => exact ⟨0, by omega, rfl, World.ownsRow_nil _ _ _ _, Below.refl _ _⟩
  case round =>
  obtain ⟨k, hk, rfl, hown, hBe⟩ := hrel
  by_cases hlt : k < ln
  · obtain ⟨x, hx⟩ : ∃ x, ms[k]? = some x := ⟨_, List.getElem?_eq_getElem (by rw [HL.out]; exact hlt)⟩
    obtain ⟨g, o, rfl, hcell⟩ := (HV.out wr hBe).cell k x hx
    have hstep := posL_take ms k x hx
    have hlen : (posL (ms.take k)).length ≤ k := by have := posL_len (ms.take k); rw [List.length_take] at this; omega
    generalize posL (ms.take k) = M at hown hstep hlen
    obtain ⟨at_, ct, rfl⟩ := row_slice hown
    have i0 : (0 : Int) ≤ (k : Int) := by omega
    have i1 : (k : Int) < (ln : Int) := by omega
    have hC1 := somebody_any x wr
    have HOW : Hid (wr.ownsRow n 3 1 (.slice at_ M.length ct) M.length (intV M)) := hown
    have HBe : Hid (Below n w wr) := hBe
    have hsz : n ≤ wr.heap.size := by have := hBe.size; omega
    clear hown hBe hx
    by_cases hcx : 0 < x
    · rw [if_pos hcx] at hstep
      rw [decide_eq_true hcx] at hC1
      have hC2 : Hid (Calls Try.prog 18 #[.int .i64 x] wr fun e w' => e = .returned (.bool true) ∧ w' = wr) := hC1
      have hst : Hid (posL (ms.take (k + 1)) = M ++ [x]) := hstep
      have HNC : Hid (∀ (j : Nat) (u : Value), [Value.int .i64 x][j]? = some u → (wr.alloc (.cells #[.int .i64 x] 3)).cell? (Addr.add ⟨wr.heap.size, 0, none⟩ j) = some u) := fun j u hu => World.news_of_block (heap_alloc_new wr _) j u hu
      clear hC1 hstep hcx
      go_wp2_with (first
        | (go_at_call 18; refine hC2.out.mono ?_; rintro e w2 ⟨rfl, rfl⟩)
        | (at_builtin; refine wpList_append_src rfl (.tmp 14) (.tmp 16) 24 rfl n 3 i3 _ 1 8 und24 F3.out hz3 hs3 hb3 (by rfl) (by omega) _ _ _ (HOW.out.alloc _) rfl [.int .i64 x] _ 1 1 rfl (by rfl) (fun _ => ⟨_, rfl, fun j u hu => HNC.out j u hu⟩) (fun u hu => by simp at hu; subst hu; rfl) (by unfold maxLen; omega) (by omega) (by simp; omega) ?_; intro v3 w3 own3 gr3 _))
      have e3 : intV M ++ [.int .i64 x] = intV (posL (ms.take (k + 1))) := by rw [hst.out]; simp [intV]
      have l3 : M.length + 1 = (posL (ms.take (k + 1))).length := by rw [hst.out]; simp
      rw [e3, l3] at own3
      exact ⟨⟨k + 1, by omega, by go_num, own3, (HBe.out.trans ((Below.refl _ _).alloc hsz _)).grown gr3 (by simp; omega) (fun j e => own3_base HOW.out j e)⟩, by simp [intOf]; omega⟩
    · rw [if_neg hcx, List.append_nil] at hstep
      rw [decide_eq_false hcx] at hC1
      have hC2 : Hid (Calls Try.prog 18 #[.int .i64 x] wr fun e w' => e = .returned (.bool false) ∧ w' = wr) := hC1
      have hst : Hid (posL (ms.take (k + 1)) = M) := hstep
      clear hC1 hstep hcx
      go_wp2_with (go_at_call 18; refine hC2.out.mono ?_; rintro e w2 ⟨rfl, rfl⟩)
      exact ⟨⟨k + 1, by omega, by go_num, by rw [hst.out]; exact HOW.out, HBe.out⟩, by simp [intOf]; omega⟩
  · have e8 : k = ln := by omega
    rw [e8, ← HL.out, List.take_length] at hown
    have i1 : ¬ (k : Int) < (ln : Int) := by omega
    have hml : (posL ms).length ≤ 17592186043904 := by have := posL_len ms; rw [HL.out] at this; omega
    have hSC := srt_cmp hown hml
    have HR : Hid (Lib.compact (sortL (posL ms)) = risenL ms) := rfl
    rw [HR.out] at hSC
    obtain ⟨at_, ct, rfl⟩ := row_slice hown
    generalize (posL ms).length = pl at hSC hown ⊢
    have HSC : Hid (Calls Try.prog 33 #[.slice at_ pl ct] wr fun e w' => e = .returned (.tuple #[]) ∧ (∀ W, W = w' → Calls Try.prog 34 #[.slice at_ pl ct] W fun e w' => ∃ u, e = .returned u ∧ Ints w'.heap.size w' u (risenL ms) ∧ Below n wr w')) := hSC
    have HBe : Hid (Below n w wr) := hBe
    clear hown hBe hlt e8 hSC hml
    go_wp2_with (first
      | (go_at_call 33; refine HSC.out.mono ?_; rintro e w2 ⟨rfl, hC⟩; have HC : Hid (Calls Try.prog 34 #[.slice at_ pl ct] w2 fun e w' => ∃ u, e = .returned u ∧ Ints w'.heap.size w' u (risenL ms) ∧ Below n wr w') := hC w2 rfl; clear hC)
      | (go_at_call 34; refine HC.out.mono ?_; rintro e w3 ⟨u, rfl, hI, hb⟩))
    go_ret
    exact ⟨_, rfl, hI, HBe.out.trans hb⟩
end Go.Proofs.Ytlliijodilnlgaa
