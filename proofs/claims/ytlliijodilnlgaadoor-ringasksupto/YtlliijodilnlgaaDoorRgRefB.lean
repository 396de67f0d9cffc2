/- What the document's own walk, Primaries and Owned answer; the law's same. -/
import Derived.Test.YtlliijodilnlgaaDoorRgRefA
namespace Go.Proofs.YtlliijodilnlgaaDoor
open Go.RowKit

set_option maxRecDepth 100000 in
set_option maxHeartbeats 1000000 in
theorem rwalk_any (o : List Int) (ho : o.length = 8) (p : Int) (w : World) :
    Calls Tryd.prog 19 #[.agg (intV o).toArray, .int .i64 p] w fun e w' => ∃ v, e = .returned v ∧ w'.ownsRow w.heap.size 3 1 v (walkL o p).length (intV (walkL o p)) ∧ Below w.heap.size w w' := by
  obtain ⟨n, hn⟩ : ∃ n, w.heap.size = n := ⟨_, rfl⟩
  rw [hn]
  obtain ⟨i3, f3, hz3, hs3, hb3⟩ := inf3
  have F3 : Hid (Tryd.prog.info? 3 = some i3) := f3
  have HO : Hid (o.length = 8) := ho
  have hs8 := startOf_lt p
  have hse := startOf_eq p
  have hW : Hid (walkL o p = walkUp o (startOf p) 8) := rfl
  clear f3 ho
  by_cases hp : p < 0
  · have hse1 : startOf p = 0 := by omega
    go_enter Tryd.func19, Tryd.ntmps19
    go_wp2_with (first
      | (refine wpList_box_new 2 rfl rfl 23 _ rfl n hn _ rfl ?_; intro w1 h1))
    rw [hse1] at hW
    obtain ⟨s, hs0⟩ : ∃ s : Nat, s = 0 := ⟨0, rfl⟩
    rw [← hs0] at hW
    obtain ⟨h1o, h1s, h1h, h1b⟩ := h1
    have HH : Hid (Holds w1 n (intV o) 23) := h1h
    have HB1 : Hid (Below n w w1) := h1b
    clear h1h h1b h1o
    go_loopw [5, 6] (fun v c wr => ∃ k : Nat, k ≤ 8 ∧ c = .int .i64 (k : Int) ∧ wr.ownsRow (n + 1) 3 1 v (walkUp o s k).length (intV (walkUp o s k)) ∧ Below (n + 1) w1 wr) (fun _ c _ => 8 - (intOf c).toNat)
    case atStart => exact ⟨0, by omega, rfl, World.ownsRow_nil _ _ _ _, Below.refl _ _⟩
    case round =>
    obtain ⟨k, hk, rfl, hown, hB⟩ := hrel
    by_cases hlt : k < 8
    · obtain ⟨j, hj, hje⟩ : ∃ j : Nat, j < 8 ∧ (k : Int) % 8 = (j : Int) := ⟨(s + k) % 8, by omega, by omega⟩
      have hjn : Hid ((s + k) % 8 = j) := by have := hje; unfold Hid; omega
      have hcell : wr.cell? ⟨n, j, none⟩ = some (.int .i64 (o.getD j 0)) := (HH.out.below hB (by omega)).at j _ (intV_at o j (by rw [HO.out]; exact hj))
      obtain ⟨x, hx⟩ : ∃ x, o.getD j 0 = x := ⟨_, rfl⟩
      rw [hx] at hcell
      have hlen := walkUp_len o s k
      have hsucc : Hid (walkUp o s (k + 1) = addRg (walkUp o s k) x) := by
        show addRg (walkUp o s k) (o.getD ((s + k) % 8) 0) = _
        rw [hjn.out, hx]
      generalize hL : walkUp o s k = L at hown hlen hsucc
      obtain ⟨at_, ct, rfl⟩ := row_slice hown
      have hCon := in_any _ _ L x wr (ints_of_row hown) (by omega)
      have i1 : (k : Int) < 8 := by omega
      have j0 : (0 : Int) ≤ (j : Int) := by omega
      have j1 : (j : Int) < 8 := by omega
      have HOW : Hid (wr.ownsRow (n + 1) 3 1 (.slice at_ L.length ct) L.length (intV L)) := hown
      have HB : Hid (Below (n + 1) w1 wr) := hB
      have hsz : n + 1 ≤ wr.heap.size := by have := hB.size; omega
      clear hown hB hjn hx hL
      by_cases hcx : L.contains x = true
      · have hC2 : Hid (Calls Tryd.prog 23 #[.slice at_ L.length ct, .int .i64 x] wr fun e w' => e = .returned (.bool true) ∧ w' = wr) := by rwa [hcx] at hCon
        have hsu : Hid (walkUp o s (k + 1) = L) := by
          show _ = _
          rw [hsucc.out, addRg, if_neg (by rw [hcx]; simp)]
        clear hCon hsucc hcx
        by_cases hx0 : 0 < x
        · go_wp2_with (go_at_call 23; refine hC2.out.mono ?_; rintro e w2 ⟨rfl, rfl⟩)
          exact ⟨⟨k + 1, by omega, by go_num, by rw [hsu.out]; exact HOW.out, HB.out⟩, by simp [intOf]; omega⟩
        · go_wp2_with (go_at_call 23; refine hC2.out.mono ?_; rintro e w2 ⟨rfl, rfl⟩)
          exact ⟨⟨k + 1, by omega, by go_num, by rw [hsu.out]; exact HOW.out, HB.out⟩, by simp [intOf]; omega⟩
      · have hcf : L.contains x = false := by simpa using hcx
        have hC2 : Hid (Calls Tryd.prog 23 #[.slice at_ L.length ct, .int .i64 x] wr fun e w' => e = .returned (.bool false) ∧ w' = wr) := by rwa [hcf] at hCon
        by_cases hx0 : 0 < x
        · have hsu : Hid (walkUp o s (k + 1) = L ++ [x]) := by
            show _ = _
            rw [hsucc.out, addRg, if_pos ⟨hx0, hcf⟩]
          clear hCon hsucc hcx hcf
          have HNC : Hid (∀ (j : Nat) (u : Value), [Value.int .i64 x][j]? = some u → (wr.alloc (.cells #[.int .i64 x] 3)).cell? (Addr.add ⟨wr.heap.size, 0, none⟩ j) = some u) := fun j u hu => World.news_of_block (heap_alloc_new wr _) j u hu
          go_wp2_with (first
            | (go_at_call 23; refine hC2.out.mono ?_; rintro e w2 ⟨rfl, rfl⟩)
            | (at_builtin; refine wpList_append_src rfl (.tmp 32) (.tmp 34) 24 rfl (n + 1) 3 i3 _ 1 8 und24 F3.out hz3 hs3 hb3 (by rfl) (by omega) _ _ _ (HOW.out.alloc _) rfl [.int .i64 x] _ 1 1 rfl (by rfl) (fun _ => ⟨_, rfl, fun j u hu => HNC.out j u hu⟩) (fun u hu => by simp at hu; subst hu; rfl) (by unfold maxLen; omega) (by omega) (by simp; omega) ?_; intro v3 w3 own3 gr3 _))
          have e3 : intV L ++ [.int .i64 x] = intV (walkUp o s (k + 1)) := by rw [hsu.out]; simp [intV]
          have l3 : L.length + 1 = (walkUp o s (k + 1)).length := by rw [hsu.out]; simp
          rw [e3, l3] at own3
          exact ⟨⟨k + 1, by omega, by go_num, own3, (HB.out.trans ((Below.refl _ _).alloc hsz _)).grown gr3 (by simp; omega) (fun j e => own3_base HOW.out j e)⟩, by simp [intOf]; omega⟩
        · have hsu : Hid (walkUp o s (k + 1) = L) := by
            show _ = _
            rw [hsucc.out, addRg, if_neg (fun q => hx0 q.1)]
          clear hCon hsucc hcx hcf
          go_wp2_with (go_at_call 23; refine hC2.out.mono ?_; rintro e w2 ⟨rfl, rfl⟩)
          exact ⟨⟨k + 1, by omega, by go_num, by rw [hsu.out]; exact HOW.out, HB.out⟩, by simp [intOf]; omega⟩
    · have e8 : k = 8 := by omega
      subst e8
      rw [← hW.out] at hown
      generalize hL : walkL o p = L at hown
      have HLL : Hid (walkL o p = L) := hL
      obtain ⟨at_, ct, rfl⟩ := row_slice hown
      have HOW : Hid (wr.ownsRow (n + 1) 3 1 (.slice at_ L.length ct) L.length (intV L)) := hown
      have HB : Hid (Below (n + 1) w1 wr) := hB
      clear hown hB hlt hL
      go_wp2
      go_ret
      rw [HLL.out]
      exact ⟨_, rfl, row_base HOW.out (by omega), HB1.out.trans (HB.out.mono (by omega))⟩
  · have hse1 : p % 8 = (startOf p : Int) := by omega
    go_enter Tryd.func19, Tryd.ntmps19
    go_wp2_with (first
      | (refine wpList_box_new 2 rfl rfl 23 _ rfl n hn _ rfl ?_; intro w1 h1))
    clear hse hse1
    generalize startOf p = s at hs8 hW ⊢
    obtain ⟨h1o, h1s, h1h, h1b⟩ := h1
    have HH : Hid (Holds w1 n (intV o) 23) := h1h
    have HB1 : Hid (Below n w w1) := h1b
    clear h1h h1b h1o
    go_loopw [5, 6] (fun v c wr => ∃ k : Nat, k ≤ 8 ∧ c = .int .i64 (k : Int) ∧ wr.ownsRow (n + 1) 3 1 v (walkUp o s k).length (intV (walkUp o s k)) ∧ Below (n + 1) w1 wr) (fun _ c _ => 8 - (intOf c).toNat)
    case atStart => exact ⟨0, by omega, rfl, World.ownsRow_nil _ _ _ _, Below.refl _ _⟩
    case round =>
    obtain ⟨k, hk, rfl, hown, hB⟩ := hrel
    by_cases hlt : k < 8
    · obtain ⟨j, hj, hje⟩ : ∃ j : Nat, j < 8 ∧ ((s : Int) + (k : Int)) % 8 = (j : Int) := ⟨(s + k) % 8, by omega, by omega⟩
      have hjn : Hid ((s + k) % 8 = j) := by have := hje; unfold Hid; omega
      have hcell : wr.cell? ⟨n, j, none⟩ = some (.int .i64 (o.getD j 0)) := (HH.out.below hB (by omega)).at j _ (intV_at o j (by rw [HO.out]; exact hj))
      obtain ⟨x, hx⟩ : ∃ x, o.getD j 0 = x := ⟨_, rfl⟩
      rw [hx] at hcell
      have hlen := walkUp_len o s k
      have hsucc : Hid (walkUp o s (k + 1) = addRg (walkUp o s k) x) := by
        show addRg (walkUp o s k) (o.getD ((s + k) % 8) 0) = _
        rw [hjn.out, hx]
      generalize hL : walkUp o s k = L at hown hlen hsucc
      obtain ⟨at_, ct, rfl⟩ := row_slice hown
      have hCon := in_any _ _ L x wr (ints_of_row hown) (by omega)
      have i1 : (k : Int) < 8 := by omega
      have j0 : (0 : Int) ≤ (j : Int) := by omega
      have j1 : (j : Int) < 8 := by omega
      have HOW : Hid (wr.ownsRow (n + 1) 3 1 (.slice at_ L.length ct) L.length (intV L)) := hown
      have HB : Hid (Below (n + 1) w1 wr) := hB
      have hsz : n + 1 ≤ wr.heap.size := by have := hB.size; omega
      clear hown hB hjn hx hL
      by_cases hcx : L.contains x = true
      · have hC2 : Hid (Calls Tryd.prog 23 #[.slice at_ L.length ct, .int .i64 x] wr fun e w' => e = .returned (.bool true) ∧ w' = wr) := by rwa [hcx] at hCon
        have hsu : Hid (walkUp o s (k + 1) = L) := by
          show _ = _
          rw [hsucc.out, addRg, if_neg (by rw [hcx]; simp)]
        clear hCon hsucc hcx
        by_cases hx0 : 0 < x
        · go_wp2_with (go_at_call 23; refine hC2.out.mono ?_; rintro e w2 ⟨rfl, rfl⟩)
          exact ⟨⟨k + 1, by omega, by go_num, by rw [hsu.out]; exact HOW.out, HB.out⟩, by simp [intOf]; omega⟩
        · go_wp2_with (go_at_call 23; refine hC2.out.mono ?_; rintro e w2 ⟨rfl, rfl⟩)
          exact ⟨⟨k + 1, by omega, by go_num, by rw [hsu.out]; exact HOW.out, HB.out⟩, by simp [intOf]; omega⟩
      · have hcf : L.contains x = false := by simpa using hcx
        have hC2 : Hid (Calls Tryd.prog 23 #[.slice at_ L.length ct, .int .i64 x] wr fun e w' => e = .returned (.bool false) ∧ w' = wr) := by rwa [hcf] at hCon
        by_cases hx0 : 0 < x
        · have hsu : Hid (walkUp o s (k + 1) = L ++ [x]) := by
            show _ = _
            rw [hsucc.out, addRg, if_pos ⟨hx0, hcf⟩]
          clear hCon hsucc hcx hcf
          have HNC : Hid (∀ (j : Nat) (u : Value), [Value.int .i64 x][j]? = some u → (wr.alloc (.cells #[.int .i64 x] 3)).cell? (Addr.add ⟨wr.heap.size, 0, none⟩ j) = some u) := fun j u hu => World.news_of_block (heap_alloc_new wr _) j u hu
          go_wp2_with (first
            | (go_at_call 23; refine hC2.out.mono ?_; rintro e w2 ⟨rfl, rfl⟩)
            | (at_builtin; refine wpList_append_src rfl (.tmp 32) (.tmp 34) 24 rfl (n + 1) 3 i3 _ 1 8 und24 F3.out hz3 hs3 hb3 (by rfl) (by omega) _ _ _ (HOW.out.alloc _) rfl [.int .i64 x] _ 1 1 rfl (by rfl) (fun _ => ⟨_, rfl, fun j u hu => HNC.out j u hu⟩) (fun u hu => by simp at hu; subst hu; rfl) (by unfold maxLen; omega) (by omega) (by simp; omega) ?_; intro v3 w3 own3 gr3 _))
          have e3 : intV L ++ [.int .i64 x] = intV (walkUp o s (k + 1)) := by rw [hsu.out]; simp [intV]
          have l3 : L.length + 1 = (walkUp o s (k + 1)).length := by rw [hsu.out]; simp
          rw [e3, l3] at own3
          exact ⟨⟨k + 1, by omega, by go_num, own3, (HB.out.trans ((Below.refl _ _).alloc hsz _)).grown gr3 (by simp; omega) (fun j e => own3_base HOW.out j e)⟩, by simp [intOf]; omega⟩
        · have hsu : Hid (walkUp o s (k + 1) = L) := by
            show _ = _
            rw [hsucc.out, addRg, if_neg (fun q => hx0 q.1)]
          clear hCon hsucc hcx hcf
          go_wp2_with (go_at_call 23; refine hC2.out.mono ?_; rintro e w2 ⟨rfl, rfl⟩)
          exact ⟨⟨k + 1, by omega, by go_num, by rw [hsu.out]; exact HOW.out, HB.out⟩, by simp [intOf]; omega⟩
    · have e8 : k = 8 := by omega
      subst e8
      rw [← hW.out] at hown
      generalize hL : walkL o p = L at hown
      have HLL : Hid (walkL o p = L) := hL
      obtain ⟨at_, ct, rfl⟩ := row_slice hown
      have HOW : Hid (wr.ownsRow (n + 1) 3 1 (.slice at_ L.length ct) L.length (intV L)) := hown
      have HB : Hid (Below (n + 1) w1 wr) := hB
      clear hown hB hlt hL
      go_wp2
      go_ret
      rw [HLL.out]
      exact ⟨_, rfl, row_base HOW.out (by omega), HB1.out.trans (HB.out.mono (by omega))⟩
theorem ints_ln {w : World} {base ln : Nat} {v : Value} {l : List Int} (hl : l.length = ln) (h : w.ownsRow base 3 1 v ln (intV l)) : Ints w.heap.size w v l := ints_of_row (by rw [hl]; exact h)
set_option maxRecDepth 100000 in
set_option maxHeartbeats 1000000 in
theorem rprimaries_any (o : List Int) (ho : o.length = 8) (p n : Int) (w : World) :
    Calls Tryd.prog 7 #[.agg (intV o).toArray, .int .i64 p, .int .i64 n] w fun e w' => ∃ v, e = .returned v ∧ Ints w'.heap.size w' v (primL o p n) ∧ Below w.heap.size w w' := by
  obtain ⟨m, hm⟩ : ∃ m, w.heap.size = m := ⟨_, rfl⟩
  have HW : Hid (∀ W, Calls Tryd.prog 19 #[.agg (intV o).toArray, .int .i64 p] W fun e w' => ∃ v, e = .returned v ∧ w'.ownsRow W.heap.size 3 1 v (walkL o p).length (intV (walkL o p)) ∧ Below W.heap.size W w') := fun W => rwalk_any o ho p W
  have HO : Hid (o.length = 8) := ho
  have hcn : cutN n (walkL o p) = (min (max n 0) ((walkL o p).length : Int)).toNat := rfl
  have HP : Hid (primL o p n = (walkL o p).take (cutN n (walkL o p))) := rfl
  rw [hm]
  generalize walkL o p = L at HW hcn HP
  clear ho
  have key : ∀ (W : World) (a : Option Addr) (c : Nat), Ints W.heap.size W (.slice a L.length c) L → Ints W.heap.size W (.slice a (cutN n L) c) (L.take (cutN n L)) := fun W a c hI => by
    have hle := cutN_le n L
    obtain ⟨a', c', e, hcp, hc⟩ := hI
    obtain ⟨rfl, -, rfl⟩ := Value.slice.inj e
    refine ⟨a, c, by rw [List.length_take, Nat.min_eq_left hle], by rw [List.length_take]; omega, ?_⟩
    rw [List.length_take, Nat.min_eq_left hle]
    rcases hc with h0 | ⟨g, o, e1, h1, h2⟩
    · exact Or.inl (by omega)
    · refine Or.inr ⟨g, o, e1, h1, fun j hj => ?_⟩
      rw [h2 j (by omega)]
      simp [List.getD_eq_getElem?_getD, hj]
  have HKey : Hid (∀ (W : World) (a : Option Addr) (c : Nat), Ints W.heap.size W (.slice a L.length c) L → Ints W.heap.size W (.slice a (cutN n L) c) (L.take (cutN n L)) ∧ L.length ≤ c) := fun W a c hI => ⟨key W a c hI, by
    obtain ⟨a', c', e, hcp, hc⟩ := hI
    obtain ⟨-, -, rfl⟩ := Value.slice.inj e
    exact hcp⟩
  clear key
  generalize hk : cutN n L = k at HKey HP hcn
  obtain ⟨ln, hln⟩ : ∃ ln, L.length = ln := ⟨_, rfl⟩
  rw [hln] at HW HKey hcn
  have HLn : Hid (L.length = ln) := hln
  have HR : ∀ (a : Option Addr) (c : Nat), ln ≤ c → k ≤ ln → ∀ W, (Instr.slice 24 (.slice a ln c) none (some (.int .i64 (k : Int))) none).run Tryd.prog W = .ok (.slice a k c) W := fun a c hc hkl W => run_slice_to W a ln c k (by omega)
  have HRH : Hid (∀ (a : Option Addr) (c : Nat), ln ≤ c → k ≤ ln → ∀ W, (Instr.slice 24 (.slice a ln c) none (some (.int .i64 (k : Int))) none).run Tryd.prog W = .ok (.slice a k c) W) := HR
  clear hk hln HR
  by_cases hn0 : n < 0
  · have hk0 : k = 0 := by omega
    subst hk0
    have h0l : ¬ (ln : Int) < 0 := by omega
    clear hcn
    go_enter Tryd.func7, Tryd.ntmps7
    go_wp2_with (first
      | (refine wpList_box_new 3 rfl rfl 23 _ rfl m hm _ rfl ?_; intro w1 h1)
      | (refine wpList_load_all rfl 23 _ rfl _ rfl 23 (intV o) 8 3 h1.holds und23 (by rw [siz23, intV_len, HO.out]) ?_)
      | (go_at_call 19; refine (HW.out w1).mono ?_; rintro e w2 ⟨v2, rfl, own2, b2⟩; have I2 := ints_ln HLn.out own2; obtain ⟨a2, c2, rfl⟩ := row_slice own2; obtain ⟨I3, hc2⟩ := HKey.out w2 a2 c2 I2; have hr : ∀ W, (Instr.slice 24 (.slice a2 ln c2) none (some (.int .i64 0)) none).run Tryd.prog W = .ok (.slice a2 0 c2) W := HRH.out a2 c2 hc2 (Nat.zero_le _)))
    go_ret
    rw [HP.out]
    exact ⟨_, rfl, I3, h1.below.trans (b2.mono (by rw [h1.size]; omega))⟩
  · by_cases hnl : (ln : Int) < n
    · have hk0 : k = ln := by omega
      subst hk0
      clear hcn
      go_enter Tryd.func7, Tryd.ntmps7
      go_wp2_with (first
        | (refine wpList_box_new 3 rfl rfl 23 _ rfl m hm _ rfl ?_; intro w1 h1)
        | (refine wpList_load_all rfl 23 _ rfl _ rfl 23 (intV o) 8 3 h1.holds und23 (by rw [siz23, intV_len, HO.out]) ?_)
        | (go_at_call 19; refine (HW.out w1).mono ?_; rintro e w2 ⟨v2, rfl, own2, b2⟩; have I2 := ints_ln HLn.out own2; obtain ⟨a2, c2, rfl⟩ := row_slice own2; obtain ⟨I3, hc2⟩ := HKey.out w2 a2 c2 I2; have hr := HRH.out a2 c2 hc2 (Nat.le_refl _)))
      go_ret
      rw [HP.out]
      exact ⟨_, rfl, I3, h1.below.trans (b2.mono (by rw [h1.size]; omega))⟩
    · have hk0 : n = (k : Int) := by omega
      have hkl : k ≤ ln := by omega
      subst hk0
      clear hcn
      go_enter Tryd.func7, Tryd.ntmps7
      go_wp2_with (first
        | (refine wpList_box_new 3 rfl rfl 23 _ rfl m hm _ rfl ?_; intro w1 h1)
        | (refine wpList_load_all rfl 23 _ rfl _ rfl 23 (intV o) 8 3 h1.holds und23 (by rw [siz23, intV_len, HO.out]) ?_)
        | (go_at_call 19; refine (HW.out w1).mono ?_; rintro e w2 ⟨v2, rfl, own2, b2⟩; have I2 := ints_ln HLn.out own2; obtain ⟨a2, c2, rfl⟩ := row_slice own2; obtain ⟨I3, hc2⟩ := HKey.out w2 a2 c2 I2; have hr := HRH.out a2 c2 hc2 hkl))
      go_ret
      rw [HP.out]
      exact ⟨_, rfl, I3, h1.below.trans (b2.mono (by rw [h1.size]; omega))⟩
set_option maxRecDepth 100000 in
set_option maxHeartbeats 1000000 in
theorem same_any (B : Nat) (va vb : Value) (l : List Int) (w : World) (ha : Ints B w va l) (hb : Ints B w vb l) (hl : l.length ≤ 8) :
    Calls Tryd.prog 5 #[va, vb] w fun e w' => e = .returned (.bool true) ∧ ∃ q, w' = w.drewN q := by
  have HA : Hid (∀ q, Ints B (w.drewN q) va l) := fun q => ints_drewN q ha
  have HB : Hid (∀ q, Ints B (w.drewN q) vb l) := fun q => ints_drewN q hb
  obtain ⟨aa, ca, rfl⟩ := ha.len
  obtain ⟨ab, cb, rfl⟩ := hb.len
  obtain ⟨ln, hln⟩ : ∃ ln, l.length = ln := ⟨_, rfl⟩
  have HL : Hid (l.length = ln) := hln
  rw [hln] at hl HA HB ⊢
  clear ha hb hln
  go_enter Tryd.func5, Tryd.ntmps5
  go_wp2
  go_loopw [5] (fun c wr => ∃ k q : Nat, k ≤ ln ∧ c = .int .i64 (k : Int) ∧ wr = w.drewN q) (fun c _ => ln - (intOf c).toNat)
  case atStart => exact ⟨0, 0, by omega, rfl, rfl⟩
  case round =>
  obtain ⟨k, q, hk, rfl, rfl⟩ := hrel
  by_cases hlt : k < ln
  · obtain ⟨x, hx⟩ : ∃ x, l[k]? = some x := ⟨_, List.getElem?_eq_getElem (by rw [HL.out]; exact hlt)⟩
    obtain ⟨g1, o1, rfl, c1⟩ := (HA.out q).cell k x hx
    obtain ⟨g2, o2, rfl, c2⟩ := (HB.out q).cell k x hx
    have i0 : (0 : Int) ≤ (k : Int) := by omega
    have i1 : (k : Int) < (ln : Int) := by omega
    have HD : Hid (∀ m, (w.drewN q).drewN m = w.drewN (q + m)) := fun m => World.drewN_drewN ..
    clear hx
    generalize w.drewN q = W at HD c1 c2 ⊢
    go_wp2_with fail
    go_quiet (fail)
    rw [HD.out]
    go_wp2
    exact ⟨⟨k + 1, _, by omega, by go_num, rfl⟩, by simp [intOf]; omega⟩
  · have i1 : ¬ (k : Int) < (ln : Int) := by omega
    go_wp2
    go_ret
    exact ⟨rfl, _, rfl⟩
end Go.Proofs.YtlliijodilnlgaaDoor
