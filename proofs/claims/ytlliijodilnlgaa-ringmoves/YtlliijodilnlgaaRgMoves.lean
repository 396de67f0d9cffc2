/- The law RingMoves. -/
import Derived.Test.YtlliijodilnlgaaRgMovP
import Derived.Test.YtlliijodilnlgaaRgAwake
namespace Go.Proofs.Ytlliijodilnlgaa
open Go.RowKit

theorem list8 {o : List Int} (h : o.length = 8) : ∃ a0 a1 a2 a3 a4 a5 a6 a7, o = [a0, a1, a2, a3, a4, a5, a6, a7] := by
  match o, h with
  | [a0, a1, a2, a3, a4, a5, a6, a7], _ => exact ⟨a0, a1, a2, a3, a4, a5, a6, a7, rfl⟩
theorem cells8g {W : World} {N : Nat} {a0 a1 a2 a3 a4 a5 a6 a7 : Int} (h : Holds W N (intV [a0, a1, a2, a3, a4, a5, a6, a7]) 23) : W.cell? ⟨N, 0, none⟩ = some (.int .i64 a0) ∧ W.cell? ⟨N, 1, none⟩ = some (.int .i64 a1) ∧ W.cell? ⟨N, 2, none⟩ = some (.int .i64 a2) ∧ W.cell? ⟨N, 3, none⟩ = some (.int .i64 a3) ∧ W.cell? ⟨N, 4, none⟩ = some (.int .i64 a4) ∧ W.cell? ⟨N, 5, none⟩ = some (.int .i64 a5) ∧ W.cell? ⟨N, 6, none⟩ = some (.int .i64 a6) ∧ W.cell? ⟨N, 7, none⟩ = some (.int .i64 a7) :=
  ⟨h.at 0 _ rfl, h.at 1 _ rfl, h.at 2 _ rfl, h.at 3 _ rfl, h.at 4 _ rfl, h.at 5 _ rfl, h.at 6 _ rfl, h.at 7 _ rfl⟩
theorem mvV_at (l : List (Nat × Int × Int)) (i : Nat) (e : Nat × Int × Int) (h : l[i]? = some e) : (mvV l)[i * 3 + 1]? = some (.int .i64 e.2.1) ∧ (mvV l)[i * 3 + 2]? = some (.int .i64 e.2.2) := by
  induction l generalizing i with
  | nil => simp at h
  | cons x l ih =>
    cases i with
    | zero => simp at h; subst h; exact ⟨rfl, rfl⟩
    | succ i =>
      have := ih i (by simpa using h)
      rw [show (i + 1) * 3 + 1 = (i * 3 + 1) + 1 + 1 + 1 by omega, show (i + 1) * 3 + 2 = (i * 3 + 2) + 1 + 1 + 1 by omega]
      exact this
theorem app_facts {w4 w5 w6 : World} {n2 ln : Nat} {ms : List Int} {more : Int} {v5 v6 : Value} (hz4 : w4.heap.size = n2 + 1) (hl : ms.length = ln) (own5 : w5.ownsRow (n2 + 1) 3 1 v5 (0 + ln) ([] ++ intV ms)) (gr5 : w4.grownBy w5 (Value.slice none 0 0).ownBlock)
    (own6 : w6.ownsRow (n2 + 1) 3 1 v6 (0 + ln + 1) ([] ++ intV ms ++ [.int .i64 more])) (gr6 : (w5.alloc (.cells #[.int .i64 more] 3)).grownBy w6 v5.ownBlock) : Below (n2 + 1) w4 w6 ∧ Ints w6.heap.size w6 v6 (ms ++ [more]) := by
  have b5 : Below (n2 + 1) w4 w5 := (Below.refl _ _).grown gr5 (by omega) (fun j e => by cases e)
  have hz5 := b5.size
  refine ⟨(b5.trans ((Below.refl _ _).alloc (by omega) _)).grown gr6 (by simp; omega) (fun j e => own3_base own5 j e), ints_of_row (base := n2 + 1) ?_⟩
  rw [List.nil_append] at own6
  rw [intV_append, List.length_append, hl]
  rw [Nat.zero_add] at own6
  exact own6
theorem meas_lt (l j : Nat) (h : j < l) : l - (intOf (.int .i64 ((j : Int) + 1))).toNat < l - (intOf (.int .i64 (j : Int))).toNat := by
  simp [intOf]; omega
theorem int_lt {j l : Nat} (h : j < l) : (j : Int) < (l : Int) := by omega
theorem int_nlt {j l : Nat} (h : ¬ j < l) : ¬ (j : Int) < (l : Int) := by omega
theorem int_nn (j : Nat) : (0 : Int) ≤ (j : Int) := by omega
theorem int_le8 {l j : Nat} (h8 : l ≤ 8) (h : j < l) : (j : Int) < 8 := by omega
theorem mul3_lt {i n : Nat} (h : i < n) : i * 3 + 1 < n * 3 := by omega
theorem lt_facts {M n8 a b n : Nat} (h : M ≤ a ∧ n8 < a) (hs : a ≤ b) (hn : b = n) : n8 < n ∧ M ≤ n := by omega
theorem store_facts {M n : Nat} {w w2 w3 w4 : World} {a b : List Value} (hb : Below M w w2) (h3 : Anew n w2 w3 a 23) (h4 : Turned n w3 w4 b 23) (hM : M ≤ n) : w4.heap.size = n + 1 ∧ Below M w w4 ∧ Below n w2 w4 :=
  ⟨by rw [h4.size, h3.size], hb.trans ((h3.below.mono hM).trans (h4.below hM)), h3.below.trans (h4.below (Nat.le_refl _))⟩
set_option maxHeartbeats 1500000 in
set_option maxRecDepth 100000 in
theorem moves_any (B : Nat) (v : Value) (ms : List Int) (more : Int) (w : World) (hv : Ints B w v ms) (hB : B ≤ w.heap.size) (hml : ms.length ≤ 9223372036854775807) :
    Calls Try.prog 6 #[v, .int .i64 more] w fun e w' => e = .returned (.bool true) ∧ Below w.heap.size w w' := by
  obtain ⟨M, hM⟩ : ∃ M, w.heap.size = M := ⟨_, rfl⟩
  rw [hM] at hB ⊢
  obtain ⟨i3, f3, hz3, hs3, hb3⟩ := inf3
  have F3 : Hid (Try.prog.info? 3 = some i3) := f3
  have HV : Hid (∀ W, Below M w W → Ints B W v ms) := fun W hW => hv.below (hW.mono hB)
  obtain ⟨va, vc, rfl⟩ := hv.len
  obtain ⟨ln, hln⟩ : ∃ ln, ms.length = ln := ⟨_, rfl⟩
  have HL : Hid (ms.length = ln) := hln
  rw [hln] at hml HV ⊢
  clear hln f3 hv
  by_cases hm0 : more ≤ 0
  · go_enter Try.func6, Try.ntmps6
    go_wp2_with (go_at_call 7; refine (awake_any _).mono ?_; rintro e w1 ⟨rfl, b1⟩; rw [hM] at b1)
    go_ret
    exact ⟨rfl, b1⟩
  · by_cases hl6 : 6 < ln
    · have hl6' : (6 : Int) < (ln : Int) := by omega
      go_enter Try.func6, Try.ntmps6
      go_wp2_with (go_at_call 7; refine (awake_any _).mono ?_; rintro e w1 ⟨rfl, b1⟩; rw [hM] at b1)
      go_ret
      exact ⟨rfl, b1⟩
    · have hl6' : ¬ (6 : Int) < (ln : Int) := by omega
      go_enter Try.func6, Try.ntmps6
      go_wp2_with (go_at_call 7; refine (awake_any _).mono ?_; rintro e w1 ⟨rfl, b1⟩; rw [hM] at b1)
      have HB1 : Hid (Below M w w1) := b1
      clear b1
      go_loopw [6] (fun c wr => ∃ k : Nat, k ≤ ln ∧ c = .int .i64 (k : Int) ∧ Hid (∀ x ∈ ms.take k, 0 < x ∧ x ≠ more) ∧ wr = w1) (fun c _ => ln - (intOf c).toNat)
      case atStart => exact ⟨0, by omega, rfl, fun x hx => by simp at hx, rfl⟩
      case round =>
      obtain ⟨k, hk, rfl, HG, rfl⟩ := hrel
      by_cases hlt : k < ln
      · obtain ⟨y, hy⟩ : ∃ y, ms[k]? = some y := ⟨_, List.getElem?_eq_getElem (by rw [HL.out]; exact hlt)⟩
        obtain ⟨g, o, rfl, hcell⟩ := (HV.out wr HB1.out).cell k y hy
        have i0 : (0 : Int) ≤ (k : Int) := by omega
        have i1 : (k : Int) < (ln : Int) := by omega
        by_cases hy0 : y ≤ 0
        · clear hy
          go_wp2
          go_ret
          exact ⟨rfl, HB1.out⟩
        · by_cases hym : y = more
          · have hyb : (y == more) = true := by simpa using hym
            clear hy
            go_wp2
            go_ret
            exact ⟨rfl, HB1.out⟩
          · have hyb : (y == more) = false := by simpa using hym
            have HG2 : Hid (∀ x ∈ ms.take (k + 1), 0 < x ∧ x ≠ more) := fun x hx => by
              rw [List.take_add_one, hy] at hx
              simp at hx
              rcases hx with q | q
              · exact HG.out x q
              · rw [q]; exact ⟨by omega, hym⟩
            clear hy
            go_wp2
            exact ⟨⟨k + 1, by omega, by go_num, HG2, trivial⟩, by simp [intOf]; omega⟩
      · have i1 : ¬ (k : Int) < (ln : Int) := by omega
        by_cases h0 : ln = 0
        · have h0' : (ln : Int) = 0 := by omega
          go_wp2
          go_ret
          exact ⟨rfl, HB1.out⟩
        · have h0' : ¬ (ln : Int) = 0 := by omega
          have hall : ∀ x ∈ ms, 0 < x ∧ x ≠ more := by
            have := HG.out
            rwa [List.take_of_length_le (by rw [HL.out]; omega)] at this
          obtain ⟨f1, f2, f3, f4, f5, f6, f7, f8, f9⟩ := moves_facts ms more (fun x hx => (hall x hx).1) (fun x hx => (hall x hx).2) (by omega) (by rw [HL.out]; omega) (fun e => h0 (by rw [← HL.out, e]; rfl)) _ _ _ rfl rfl rfl
          have HC1 : Hid (∀ W o, o.length = 8 → Below M w W → Calls Try.prog 10 #[.agg (intV o).toArray, .slice va ln vc] W fun e w' => e = .returned (.agg (intV (claimL o ms)).toArray) ∧ Below W.heap.size W w') := fun W o ho hW => claim_any B o ho _ ms W (HV.out W hW) (by have := hW.size; omega) (by rw [HL.out]; omega) f4
          have HC2 : Hid (∀ W o u, o.length = 8 → Ints W.heap.size W u (ms ++ [more]) → Calls Try.prog 10 #[.agg (intV o).toArray, u] W fun e w' => e = .returned (.agg (intV (claimL o (ms ++ [more]))).toArray) ∧ Below W.heap.size W w') := fun W o u ho hu => claim_any _ o ho u _ W hu (Nat.le_refl _) (by simp [HL.out]; omega) f5
          have HT : Hid (∀ W a b, a.length = 8 → b.length = 8 → Calls Try.prog 8 #[.agg (intV a).toArray, .agg (intV b).toArray] W fun e w' => ∃ v, e = .returned v ∧ w'.ownsRow W.heap.size 29 3 v (movL a b).length (mvV (movL a b)) ∧ Below W.heap.size W w') := fun W a b ha hb => transfers_any a b ha hb W
          have HA1 := HC1.out wr (List.replicate 8 0) rfl HB1.out
          generalize hA : claimL (List.replicate 8 0) ms = A at f1 f2 f3 f6 f7 f8 f9 HA1
          have HA2 : Hid (Calls Try.prog 10 #[.agg #[.int .i64 0, .int .i64 0, .int .i64 0, .int .i64 0, .int .i64 0, .int .i64 0, .int .i64 0, .int .i64 0], .slice va ln vc] wr fun e w' => e = .returned (.agg (intV A).toArray) ∧ Below wr.heap.size wr w') := HA1
          have hzr := HB1.out.size
          clear HA1 hA f4 f5
          have HN : Hid (∀ W, Below M w W → ∃ p, va = some p ∧ ∀ j u, (intV ms)[j]? = some u → W.cell? (p.add j) = some u) := fun W hW => by
            obtain ⟨a', c', e', _, q0 | ⟨g, o, e1, h1, h2⟩⟩ := HV.out W hW
            · rw [HL.out] at q0; omega
            · obtain ⟨r1, -, -⟩ := Value.slice.inj e'
              refine ⟨⟨g, o, none⟩, by rw [r1, e1], fun j u hu => ?_⟩
              have hj : j < ms.length := by have := (List.getElem?_eq_some_iff.1 hu).1; rwa [intV_len] at this
              rw [intV_at ms j hj] at hu
              rw [Addr.add_mid, h2 j hj]; exact hu
          obtain ⟨Bq, hBq⟩ : ∃ Bq, claimL A (ms ++ [more]) = Bq := ⟨_, rfl⟩
          obtain ⟨C, hCq⟩ : ∃ C, claimL Bq ms = C := ⟨_, rfl⟩
          rw [hBq] at f2 f3 f6 f7 f8 f9
          rw [hCq] at f3 f7 f9
          have HC2' : Hid (∀ W u, Ints W.heap.size W u (ms ++ [more]) → Calls Try.prog 10 #[.agg (intV A).toArray, u] W fun e w' => e = .returned (.agg (intV Bq).toArray) ∧ Below W.heap.size W w') := fun W u hu => by
            have := HC2.out W A u f1 hu
            rwa [hBq] at this
          have HC1' : Hid (∀ W, Below M w W → Calls Try.prog 10 #[.agg (intV Bq).toArray, .slice va ln vc] W fun e w' => e = .returned (.agg (intV C).toArray) ∧ Below W.heap.size W w') := fun W hW => by
            have := HC1.out W Bq f2 hW
            rwa [hCq] at this
          have HT1 : Hid (∀ W, Calls Try.prog 8 #[.agg (intV A).toArray, .agg (intV Bq).toArray] W fun e w' => ∃ v, e = .returned v ∧ w'.ownsRow W.heap.size 29 3 v (movL A Bq).length (mvV (movL A Bq)) ∧ Below W.heap.size W w') := fun W => HT.out W A Bq f1 f2
          have HT2 : Hid (∀ W, Calls Try.prog 8 #[.agg (intV Bq).toArray, .agg (intV C).toArray] W fun e w' => ∃ v, e = .returned v ∧ w'.ownsRow W.heap.size 29 3 v (movL Bq C).length (mvV (movL Bq C)) ∧ Below W.heap.size W w') := fun W => HT.out W Bq C f2 f3
          have HBa1 : Hid (∀ W u, Ints W.heap.size W u (ms ++ [more]) → Calls Try.prog 12 #[.agg (intV Bq).toArray, u] W fun e w' => e = .returned (.bool true) ∧ Below W.heap.size W w') := fun W u hu => by
            have := balanced_any _ Bq f2 u (ms ++ [more]) W hu (Nat.le_refl _) (by simp [HL.out]; omega)
            rwa [f8] at this
          have HBa2 : Hid (∀ W, Below M w W → Calls Try.prog 12 #[.agg (intV C).toArray, .slice va ln vc] W fun e w' => e = .returned (.bool true) ∧ Below W.heap.size W w') := fun W hW => by
            have := balanced_any B C f3 _ ms W (HV.out W hW) (by have := hW.size; omega) (by rw [HL.out]; omega)
            rwa [f9] at this
          have HM1 : Hid (∀ e ∈ movL A Bq, e.2.2 = more) := f6
          have HM2 : Hid (∀ e ∈ movL Bq C, e.2.1 = more) := f7
          have hm1 : (movL A Bq).length ≤ 8 := movTo_len A Bq 8
          have hm2 : (movL Bq C).length ≤ 8 := movTo_len Bq C 8
          generalize movL A Bq = MV1 at HT1 HM1 hm1
          generalize movL Bq C = MV2 at HT2 HM2 hm2
          have HM28 : Hid (MV2.length ≤ 8) := hm2
          clear hm2
          clear HC1 HC2 HT f6 f7 f8 f9 hBq hCq hall HG
          go_wp2_with (first
            | (go_at_call 10; refine HA2.out.mono ?_; rintro e w2 ⟨rfl, b2⟩; clear HA2; have b02 := HB1.out.trans (b2.mono (by omega)); have hM2 : M ≤ w2.heap.size := Nat.le_trans (by omega) b2.size; obtain ⟨n2, hn2⟩ : ∃ n2, w2.heap.size = n2 := ⟨_, rfl⟩; rw [hn2] at hM2)
            | (refine wpList_alloc_new 7 rfl rfl 23 rfl n2 hn2 _ zero23 ?_; intro w3 h3)
            | (refine wpList_store_all rfl 23 (.tmp 7) (.tmp 50) rfl n2 rfl (intV A) rfl 23 _ h3.holds (by rw [siz23, intV_len, f1]) (by rw [intV_len, intV_len, f1]; rfl) (intV_one _) ?_; intro w4 h4; obtain ⟨hz4, b04, -⟩ := store_facts b02 h3 h4 hM2; have HN4 := HN.out w4 b04; clear h3)
            | (at_builtin; refine wpList_append_src rfl (.tmp 51) (.tmp 52) 24 rfl (n2 + 1) 3 i3 _ 1 8 und24 F3.out hz3 hs3 hb3 (by rfl) (by omega) _ _ _ (World.ownsRow_nil _ _ _ _) rfl (intV ms) va ln vc rfl (by rw [intV_len, HL.out]; omega) (fun _ => HN4) (intV_one _) (by unfold maxLen; omega) (by omega) (by omega) ?_; intro v5 w5 own5 gr5 hx5; clear HN4 hx5; have HNC : Hid (∀ (j : Nat) (u : Value), [Value.int .i64 more][j]? = some u → (w5.alloc (.cells #[.int .i64 more] 3)).cell? (Addr.add ⟨w5.heap.size, 0, none⟩ j) = some u) := fun j u hu => World.news_of_block (heap_alloc_new w5 _) j u hu; have hz5 : n2 + 1 ≤ w5.heap.size := Nat.le_trans (Nat.le_of_eq hz4.symm) gr5.size)
            | (at_builtin; refine wpList_append_src rfl (.tmp 54) (.tmp 56) 24 rfl (n2 + 1) 3 i3 _ 1 8 und24 F3.out hz3 hs3 hb3 (by rfl) (by omega) _ _ _ (own5.alloc _) rfl [.int .i64 more] _ 1 1 rfl (by rfl) (fun _ => ⟨_, rfl, fun j u hu => HNC.out j u hu⟩) (fun u hu => by simp at hu; subst hu; rfl) (by unfold maxLen; omega) (by omega) (by simp; omega) ?_; intro v6 w6 own6 gr6 hx6; clear hx6; obtain ⟨b46, I6⟩ := app_facts hz4 HL.out own5 gr5 own6 gr6; have H6 := h4.holds.below b46 (by omega); have b06 := b04.trans (b46.mono (by omega)))
            | (refine wpList_load_all rfl 23 _ rfl _ rfl 23 (intV A) 8 3 H6 und23 (by rw [siz23, intV_len, f1]) ?_)
            | (go_at_call 10; refine (HC2'.out w6 v6 I6).mono ?_; rintro e w8 ⟨rfl, b8⟩; have hz6 : n2 < w6.heap.size := H6.lt; have H8 := H6.below b8 hz6; clear H6 HC2'; have b08 := b06.trans (b8.mono (by omega)); obtain ⟨n8, hn8⟩ : ∃ n8, w8.heap.size = n8 := ⟨_, rfl⟩; have hn28 : n2 < n8 := by (have := b8.size; omega))
            | (refine wpList_alloc_new 9 rfl rfl 23 rfl n8 hn8 _ zero23 ?_; intro w9 h9)
            | (refine wpList_store_all rfl 23 (.tmp 9) (.tmp 60) rfl n8 rfl (intV Bq) rfl 23 _ h9.holds (by rw [siz23, intV_len, f2]) (by rw [intV_len, intV_len, f2]; rfl) (intV_one _) ?_; intro w10 h10; obtain ⟨hz10, b010, b810⟩ := store_facts b08 h9 h10 (by omega); have HA10 := H8.below b810 hn28; have HB10 := h10.holds; clear h9 h10 H8)
            | (refine wpList_load_all rfl 23 (.tmp 7) rfl _ rfl 23 (intV A) 8 3 HA10 und23 (by rw [siz23, intV_len, f1]) ?_)
            | (refine wpList_load_all rfl 23 (.tmp 9) rfl _ rfl 23 (intV Bq) 8 3 HB10 und23 (by rw [siz23, intV_len, f2]) ?_)
            | (go_at_call 8; refine (HT1.out w10).mono ?_; rintro e w11 ⟨v11, rfl, O11, b11⟩; clear HT1; have HB11 := HB10.below b11 HB10.lt; have b011 := b010.trans (b11.mono (by omega)); obtain ⟨a11, c11, rfl⟩ := row_slice O11))
          have b68 : Below w6.heap.size w6 w11 := (b8.trans ((b810.mono (by have := b8.size; omega)).trans (b11.mono (by have := b8.size; omega))))
          have HI11 : Hid (Ints w11.heap.size w11 v6 (ms ++ [more])) := (I6.below b68).mono b68.size
          have HR1 : Hid (∀ i, i < MV1.length → ∃ g, a11 = some ⟨g, 0, none⟩ ∧ w11.cell? ⟨g, i * 3 + 2, none⟩ = some (.int .i64 more)) := fun i hi => by
            obtain ⟨g, c, e1, _, hg, hc⟩ := row_cells O11 (by omega)
            obtain ⟨r1, -, -⟩ := Value.slice.inj e1
            refine ⟨g, r1, ?_⟩
            have he : MV1[i]? = some MV1[i] := List.getElem?_eq_getElem hi
            rw [hc (i * 3 + 2) (by omega), (mvV_at MV1 i _ he).2, HM1.out _ (List.getElem_mem hi)]
          have HB11' : Hid (Holds w11 n8 (intV Bq) 23) := HB11
          have Hb011 : Hid (Below M w w11) := b011
          have hz11 : Hid (M ≤ w11.heap.size ∧ n8 < w11.heap.size) := ⟨by have := b011.size; omega, HB11.lt⟩
          obtain ⟨l1, hl1⟩ : ∃ l1, MV1.length = l1 := ⟨_, rfl⟩
          rw [hl1] at HR1 hm1 ⊢
          clear hl1 O11 b68 I6 b8 b810 b11 b02 b2 b04 b46 b06 b08 b010 b011 HA10 HB10 HB11 h4 own5 gr5 own6 gr6 hz4 hz5 hz6 hz10 HNC hn2 hn8 hM2
          have G2 : Hid (Bq.length = 8) := f2
          have G3 : Hid (C.length = 8) := f3
          clear hzr HB1 HN HM1 hml hl6 hl6' hlt hk h0 h0' hn28 hm0 hB hM F3 hz3 hs3 hb3 i3 f1 f2 f3 i1
          go_loopw [11] (fun c wr => ∃ k : Nat, k ≤ l1 ∧ c = .int .i64 (k : Int) ∧ wr = w11) (fun c _ => l1 - (intOf c).toNat)
          case atStart => exact ⟨0, Nat.zero_le _, rfl, rfl⟩
          case round =>
          obtain ⟨j, hj, rfl, rfl⟩ := hrel
          by_cases hjl : j < l1
          · obtain ⟨g, rfl, hcell⟩ := HR1.out j hjl
            have j0 := int_nn j
            have j1 := int_lt hjl
            have j8 := int_le8 hm1 hjl
            go_wp2
            exact ⟨⟨j + 1, hjl, by go_num, trivial⟩, meas_lt l1 j hjl⟩
          · have j1 := int_nlt hjl
            have HB11 := HB11'.out
            go_wp2_with (first
              | (refine wpList_load_all rfl 23 (.tmp 9) rfl _ rfl 23 (intV Bq) 8 3 HB14 und23 (by rw [siz23, intV_len, G2.out]) ?_)
              | (refine wpList_load_all rfl 23 (.tmp 12) rfl _ rfl 23 (intV C) 8 3 HC14 und23 (by rw [siz23, intV_len, G3.out]) ?_)
              | (refine wpList_load_all rfl 23 (.tmp 9) rfl _ rfl 23 (intV Bq) 8 3 HB11 und23 (by rw [siz23, intV_len, G2.out]) ?_)
              | (go_at_call 10; refine (HC1'.out wr Hb011.out).mono ?_; rintro e w12 ⟨rfl, b12⟩; clear HC1'; have hq := hz11.out; have HB12 := HB11.below b12 hq.2; have b012 := Hb011.out.trans (b12.mono hq.1); have hz12 := b12.size; obtain ⟨n12, hn12⟩ : ∃ n12, w12.heap.size = n12 := ⟨_, rfl⟩; have hn812 := lt_facts hq hz12 hn12)
              | (refine wpList_alloc_new 12 rfl rfl 23 rfl n12 hn12 _ zero23 ?_; intro w13 h13)
              | (refine wpList_store_all rfl 23 (.tmp 12) (.tmp 79) rfl n12 rfl (intV C) rfl 23 _ h13.holds (by rw [siz23, intV_len, G3.out]) (by rw [intV_len, intV_len, G3.out]; rfl) (intV_one _) ?_; intro w14 h14; obtain ⟨hz14, b014, b1214⟩ := store_facts b012 h13 h14 hn812.2; have HB14 := HB12.below b1214 hn812.1; have HC14 := h14.holds; clear h13 h14 HB12)
              | (go_at_call 8; refine (HT2.out w14).mono ?_; rintro e w15 ⟨v15, rfl, O15, b15⟩; clear HT2; obtain ⟨a15, c15, rfl⟩ := row_slice O15))
            have hq := hz11.out
            have z14 := HC14.lt
            have b1415 : Below w14.heap.size w14 w15 := b15
            have HB15 := HB14.below b15 HB14.lt
            have HC15 := HC14.below b15 z14
            have b1115 : Below wr.heap.size wr w15 := (b12.trans (b1214.mono (by rw [← hn12]; exact hz12))).trans (b15.mono (Nat.le_trans hz12 (Nat.le_trans (Nat.le_of_eq hn12) (Nat.le_of_lt z14))))
            have HI15 : Hid (Ints w15.heap.size w15 v6 (ms ++ [more])) := (HI11.out.below b1115).mono b1115.size
            have Hb015 : Hid (Below M w w15) := Hb011.out.trans (b1115.mono hq.1)
            have HR2 : Hid (∀ i, i < MV2.length → ∃ g, a15 = some ⟨g, 0, none⟩ ∧ w15.cell? ⟨g, i * 3 + 1, none⟩ = some (.int .i64 more)) := fun i hi => by
              obtain ⟨g, c, e1, _, hg, hc⟩ := row_cells O15 (Nat.lt_of_le_of_lt (Nat.zero_le _) hi)
              obtain ⟨r1, -, -⟩ := Value.slice.inj e1
              refine ⟨g, r1, ?_⟩
              have he : MV2[i]? = some MV2[i] := List.getElem?_eq_getElem hi
              rw [hc (i * 3 + 1) (mul3_lt hi), (mvV_at MV2 i _ he).1, HM2.out _ (List.getElem_mem hi)]
            obtain ⟨b0, b1, b2, b3, b4, b5, b6, b7, rfl⟩ := list8 G2.out
            obtain ⟨d0, d1, d2, d3, d4, d5, d6, d7, rfl⟩ := list8 G3.out
            have HBL : Hid (Holds w15 n8 (intV [b0, b1, b2, b3, b4, b5, b6, b7]) 23) := HB15
            have HCL : Hid (Holds w15 n12 (intV [d0, d1, d2, d3, d4, d5, d6, d7]) 23) := HC15
            have HE1 : Hid (Calls Try.prog 12 #[.agg #[.int .i64 b0, .int .i64 b1, .int .i64 b2, .int .i64 b3, .int .i64 b4, .int .i64 b5, .int .i64 b6, .int .i64 b7], v6] w15 fun e w' => e = .returned (.bool true) ∧ Below w15.heap.size w15 w') := HBa1.out w15 v6 HI15.out
            have HE2 : Hid (∀ W, Below M w W → Calls Try.prog 12 #[.agg #[.int .i64 d0, .int .i64 d1, .int .i64 d2, .int .i64 d3, .int .i64 d4, .int .i64 d5, .int .i64 d6, .int .i64 d7], .slice va ln vc] W fun e w' => e = .returned (.bool true) ∧ Below W.heap.size W w') := HBa2.out
            obtain ⟨l2, hl2⟩ : ∃ l2, MV2.length = l2 := ⟨_, rfl⟩
            have hm2 := HM28.out
            rw [hl2] at HR2 hm2 ⊢
            have hM15 : Hid (M ≤ w15.heap.size) := Nat.le_trans hq.1 b1115.size
            clear hl2 O15 b15 b1415 HB15 HC15 HB14 HC14 b1115 HI15 HI11 b12 b1214 b014 b012 hz12 hz14 hn12 hn812 HBa1 HBa2 HM28 HM2 HB11 HB11' Hb011 hz11 hq z14 HR1 hm1
            go_loopw [14] (fun c wr => ∃ k : Nat, k ≤ l2 ∧ c = .int .i64 (k : Int) ∧ wr = w15) (fun c _ => l2 - (intOf c).toNat)
            case atStart => exact ⟨0, Nat.zero_le _, rfl, rfl⟩
            case round =>
            obtain ⟨t, ht, rfl, rfl⟩ := hrel
            by_cases htl : t < l2
            · obtain ⟨g, rfl, hcell⟩ := HR2.out t htl
              have t0 := int_nn t
              have t1 := int_lt htl
              have t8 := int_le8 hm2 htl
              go_wp2
              exact ⟨⟨t + 1, htl, by go_num, trivial⟩, meas_lt l2 t htl⟩
            · have t1 := int_nlt htl
              obtain ⟨x0, x1, x2, x3, x4, x5, x6, x7⟩ := cells8g HBL.out
              have HCC : Hid (∀ W, Below wr.heap.size wr W → W.cell? ⟨n12, 0, none⟩ = some (.int .i64 d0) ∧ W.cell? ⟨n12, 1, none⟩ = some (.int .i64 d1) ∧ W.cell? ⟨n12, 2, none⟩ = some (.int .i64 d2) ∧ W.cell? ⟨n12, 3, none⟩ = some (.int .i64 d3) ∧ W.cell? ⟨n12, 4, none⟩ = some (.int .i64 d4) ∧ W.cell? ⟨n12, 5, none⟩ = some (.int .i64 d5) ∧ W.cell? ⟨n12, 6, none⟩ = some (.int .i64 d6) ∧ W.cell? ⟨n12, 7, none⟩ = some (.int .i64 d7)) := fun W hW => cells8g (HCL.out.below hW HCL.out.lt)
              go_wp2_with (first
                | (go_at_call 12; refine HE1.out.mono ?_; rintro e w16 ⟨rfl, b16⟩; clear HE1; obtain ⟨y0, y1, y2, y3, y4, y5, y6, y7⟩ := HCC.out w16 b16; have b016 := Hb015.out.trans (b16.mono hM15.out))
                | (go_at_call 12; refine (HE2.out w16 b016).mono ?_; rintro e w17 ⟨rfl, b17⟩))
              go_ret
              exact ⟨rfl, b016.trans (b17.mono (Nat.le_trans hM15.out b16.size))⟩
end Go.Proofs.Ytlliijodilnlgaa
