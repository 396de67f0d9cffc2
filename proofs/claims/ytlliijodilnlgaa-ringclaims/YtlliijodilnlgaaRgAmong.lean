/- What package ring's among answers. -/
import Derived.Test.YtlliijodilnlgaaRgSplit
namespace Go.Proofs.Ytlliijodilnlgaa
open Go.RowKit

theorem amongL_take (l up : List Int) (k : Nat) (x : Int) (h : l[k]? = some x) : amongL (l.take (k + 1)) up = amongL (l.take k) up ++ (if up.contains x then [x] else []) := by
  unfold amongL
  rw [List.take_add_one, h, List.filter_append]
  by_cases hx : up.contains x = true
  · rw [if_pos hx]; simp only [Option.toList_some, List.filter_cons, hx, if_true, List.filter_nil]
  · rw [if_neg hx]; simp only [Option.toList_some, List.filter_cons, hx, if_false, List.filter_nil, Bool.false_eq_true]
theorem amongL_len (l up : List Int) : (amongL l up).length ≤ l.length := List.length_filter_le ..
theorem Ints.cell {B : Nat} {w : World} {a : Option Addr} {n cap : Nat} {l : List Int} (h : Ints B w (.slice a n cap) l) (k : Nat) (x : Int) (hx : l[k]? = some x) : ∃ g o, a = some ⟨g, o, none⟩ ∧ w.cell? ⟨g, o + k, none⟩ = some (.int .i64 x) := by
  have hk : k < l.length := (List.getElem?_eq_some_iff.1 hx).1
  obtain ⟨a', cap', e, _, h0 | ⟨g, o, e1, h1, h2⟩⟩ := h
  · omega
  · obtain ⟨rfl, _, _⟩ := Value.slice.inj e
    refine ⟨g, o, e1, ?_⟩
    rw [h2 k hk, List.getD_eq_getElem?_getD, hx]; rfl
set_option maxHeartbeats 1000000 in
theorem among_any (B : Nat) (v u : Value) (l up : List Int) (w : World) (hv : Ints B w v l) (hu : Ints B w u up) (hB : B ≤ w.heap.size) (hl : l.length ≤ 8) (hul : up.length ≤ 9223372036854775807) :
    Calls Try.prog 31 #[v, u] w fun e w' => ∃ t, e = .returned t ∧ Ints w'.heap.size w' t (amongL l up) ∧ Below w.heap.size w w' := by
  obtain ⟨n, hn⟩ : ∃ n, w.heap.size = n := ⟨_, rfl⟩
  rw [hn] at hB ⊢
  obtain ⟨i3, f3, hz3, hs3, hb3⟩ := inf3
  have F3 : Hid (Try.prog.info? 3 = some i3) := f3
  obtain ⟨a, cap, rfl⟩ := hv.len
  obtain ⟨ln, hln⟩ : ∃ ln, l.length = ln := ⟨_, rfl⟩
  rw [hln] at hl hv ⊢
  have HL : Hid (l.length = ln) := hln
  have HV : Hid (∀ W, Below n w W → Ints B W (.slice a ln cap) l) := fun W hW => hv.below (hW.mono hB)
  have HC : Hid (∀ W x, Below n w W → Calls Try.prog 32 #[u, .int .i64 x] W fun e w' => e = .returned (.bool (up.contains x)) ∧ w' = W) := fun W x hW => contains_any B W u up x (hu.below (hW.mono hB)) hul
  clear hv hu hul hln f3
  go_enter Try.func31, Try.ntmps31
  go_wp2
  go_loopw [5, 10] (fun v c wr => ∃ k : Nat, k ≤ ln ∧ c = .int .i64 (k : Int) ∧ wr.ownsRow n 3 1 v (amongL (l.take k) up).length (intV (amongL (l.take k) up)) ∧ Below n w wr) (fun _ c _ => ln - (intOf c).toNat)
  case atStart => exact ⟨0, by omega, rfl, World.ownsRow_nil _ _ _ _, Below.refl _ _⟩
  case round =>
  obtain ⟨k, hk, rfl, hown, hBe⟩ := hrel
  by_cases hlt : k < ln
  · obtain ⟨x, hx⟩ : ∃ x, l[k]? = some x := ⟨_, List.getElem?_eq_getElem (by rw [HL.out]; exact hlt)⟩
    obtain ⟨g, o, rfl, hcell⟩ := (HV.out wr hBe).cell k x hx
    have hstep := amongL_take l up k x hx
    have hlen : (amongL (l.take k) up).length ≤ k := by have := amongL_len (l.take k) up; rw [List.length_take] at this; omega
    generalize amongL (l.take k) up = M at hown hstep hlen
    obtain ⟨at_, ct, rfl⟩ := row_slice hown
    have i0 : (0 : Int) ≤ (k : Int) := by omega
    have i1 : (k : Int) < (ln : Int) := by omega
    have hC1 := HC.out wr x hBe
    have HOW : Hid (wr.ownsRow n 3 1 (.slice at_ M.length ct) M.length (intV M)) := hown
    have HBe : Hid (Below n w wr) := hBe
    have hsz : n ≤ wr.heap.size := by have := hBe.size; omega
    clear hown hBe hx
    by_cases hcx : up.contains x = true
    · rw [if_pos hcx] at hstep
      rw [hcx] at hC1
      have hC2 : Hid (Calls Try.prog 32 #[u, .int .i64 x] wr fun e w' => e = .returned (.bool true) ∧ w' = wr) := hC1
      have hst : Hid (amongL (l.take (k + 1)) up = M ++ [x]) := hstep
      have HNC : Hid (∀ (j : Nat) (u : Value), [Value.int .i64 x][j]? = some u → (wr.alloc (.cells #[.int .i64 x] 3)).cell? (Addr.add ⟨wr.heap.size, 0, none⟩ j) = some u) := fun j u hu => World.news_of_block (heap_alloc_new wr _) j u hu
      clear hC1 hstep hcx
      go_wp2_with (first
        | (go_at_call 32; refine hC2.out.mono ?_; rintro e w2 ⟨rfl, rfl⟩)
        | (at_builtin; refine wpList_append_src rfl (.tmp 17) (.tmp 19) 24 rfl n 3 i3 _ 1 8 und24 F3.out hz3 hs3 hb3 (by rfl) (by omega) _ _ _ (HOW.out.alloc _) rfl [.int .i64 x] _ 1 1 rfl (by rfl) (fun _ => ⟨_, rfl, fun j u hu => HNC.out j u hu⟩) (fun u hu => by simp at hu; subst hu; rfl) (by unfold maxLen; omega) (by omega) (by simp; omega) ?_; intro v3 w3 own3 gr3 _))
      have e3 : intV M ++ [.int .i64 x] = intV (amongL (l.take (k + 1)) up) := by rw [hst.out]; simp [intV]
      have l3 : M.length + 1 = (amongL (l.take (k + 1)) up).length := by rw [hst.out]; simp
      rw [e3, l3] at own3
      exact ⟨⟨k + 1, by omega, by go_num, own3, (HBe.out.trans ((Below.refl _ _).alloc hsz _)).grown gr3 (by simp; omega) (fun j e => own3_base HOW.out j e)⟩, by simp [intOf]; omega⟩
    · have hcf : up.contains x = false := by simpa using hcx
      rw [if_neg hcx, List.append_nil] at hstep
      rw [hcf] at hC1
      have hC2 : Hid (Calls Try.prog 32 #[u, .int .i64 x] wr fun e w' => e = .returned (.bool false) ∧ w' = wr) := hC1
      have hst : Hid (amongL (l.take (k + 1)) up = M) := hstep
      clear hC1 hstep hcx hcf
      go_wp2_with (go_at_call 32; refine hC2.out.mono ?_; rintro e w2 ⟨rfl, rfl⟩)
      exact ⟨⟨k + 1, by omega, by go_num, by rw [hst.out]; exact HOW.out, HBe.out⟩, by simp [intOf]; omega⟩
  · have e8 : k = ln := by omega
    rw [e8, ← HL.out, List.take_length] at hown
    have i1 : ¬ (k : Int) < (ln : Int) := by omega
    generalize hM : amongL l up = M at hown
    obtain ⟨at_, ct, rfl⟩ := row_slice hown
    have HOW : Hid (wr.ownsRow n 3 1 (.slice at_ M.length ct) M.length (intV M)) := hown
    have HBe : Hid (Below n w wr) := hBe
    clear hown hBe hlt e8
    go_wp2
    go_ret
    exact ⟨_, rfl, ints_of_row HOW.out, HBe.out⟩
end Go.Proofs.Ytlliijodilnlgaa
