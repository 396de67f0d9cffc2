import Derived.Test.YtlliijodilnlgaaRgSwap
namespace Go.Proofs.Ytlliijodilnlgaa
open Go.RowKit Go.Sort
def rowN (N : Nat) (f : Nat → Nat) : List Value := rowF N (fun k => (f k : Int))
/-- What the sort leaves alone: the numbers that it sorts by. -/
structure By (c g n : Nat) (t : List Int) (w : World) : Prop where
  box : Holds w c [.slice (some ⟨g, 0, none⟩) n n] 24
  row : Holds w g (intV t) 3
  len : t.length = n
  r8 : ∀ k, 0 ≤ t.getD k 0 ∧ t.getD k 0 ≤ 8
theorem By.upd {c g n bk : Nat} {t : List Int} {w w' : World} (h : By c g n t w) (u : Upd bk w w') (hc : c ≠ bk) (hg : g ≠ bk) : By c g n t w' := ⟨h.box.upd u hc, h.row.upd u hg, h.len, h.r8⟩
theorem By.cmp {c g n : Nat} {t : List Int} {w : World} (h : By c g n t w) (i j : Nat) (hi : i < n) (hj : j < n) : Calls Try.prog 36 #[.int .i64 (i : Int), .int .i64 (j : Int), .pointer (some ⟨c, 0, none⟩)] w fun e w' => e = .returned (.int .i64 (t.getD j 0 - t.getD i 0)) ∧ ∃ q, w' = w.drewN q := cmp_any c g n t w i j hi hj h.len h.r8 h.box h.row
def ltT (t : List Int) (x y : Nat) : Prop := aheadB t x y = true
theorem ltT_ord (t : List Int) : Sm.Ord (ltT t) := ⟨fun h k => aheadB_trans t _ _ _ h k, fun {a b} hne h => aheadB_total t a b hne (by simpa [ltT] using h)⟩
theorem ltT_yes {t : List Int} {x y : Nat} (h : t.getD y 0 - t.getD x 0 < 0) : ltT t x y := by unfold ltT; rw [aheadB_iff]; omega
theorem ltT_no {t : List Int} {x y : Nat} (h : ¬ t.getD y 0 - t.getD x 0 < 0) (hxy : y < x) : ltT t y x := by unfold ltT; rw [aheadB_iff]; omega
theorem swp_cast (f : Nat → Nat) (i j : Nat) : Sm.swp (fun k => (f k : Int)) i j = fun k => ((Sm.swp f i j k : Nat) : Int) := by
  funext k; unfold Sm.swp; split
  · rfl
  · split <;> rfl
theorem exch_cast (f : Nat → Nat) (x m y : Nat) : Sm.exch x m y (fun k => (f k : Int)) = fun k => ((Sm.exch x m y f k : Nat) : Int) := by
  funext k; unfold Sm.exch; split
  · rfl
  · split <;> rfl
theorem rowN_swp {w : World} {bk N : Nat} {f : Nat → Nat} (h : Holds w bk (rowN N f) 3) (i j : Nat) (hij : i ≠ j) : Holds ((w.setCell ⟨bk, i, none⟩ (.int .i64 (f j : Int))).setCell ⟨bk, j, none⟩ (.int .i64 (f i : Int))) bk (rowN N (Sm.swp f i j)) 3 := by
  have := row_swp h i j hij
  rw [swp_cast] at this
  exact this
set_option maxRecDepth 1000000 in
set_option maxHeartbeats 20000000 in
theorem sym_left (c g : Nat) (t : List Int) (bk N cap a b : Nat) (f : Nat → Nat) (w : World) (h : Holds w bk (rowN N f) 3) (hB : By c g N t w) (hc : c ≠ bk) (hg : g ≠ bk) (hf : ∀ k, k < N → f k < N) (hlr : ∀ j, a < j → j < b → f a < f j) (hmb : a + 1 < b) (hbN : b ≤ N) (hN : N ≤ 17592186043904) : Calls Try.prog 55 #[.slice (some ⟨bk, 0, none⟩) N cap, .int .i64 (a : Int), .int .i64 ((a + 1 : Nat) : Int), .int .i64 (b : Int), .func (.func 36) #[] #[.pointer (some ⟨c, 0, none⟩)]] w fun e w' => e = .returned (.tuple #[]) ∧ ∃ i, a + 1 ≤ i ∧ i ≤ b ∧ (a + 1 < i → ltT t (f (i - 1)) (f a)) ∧ (i < b → ltT t (f a) (f i)) ∧ Holds w' bk (rowN N (Sm.exch a (a + 1) i f)) 3 ∧ Upd bk w w' := by
  obtain ⟨m, hm⟩ : ∃ m, a + 1 = m := ⟨_, rfl⟩
  rw [hm]
  have hm1 : (m : Int) - a = 1 := by omega
  have HW : Hid (Holds w bk (rowN N f) 3) := h
  have HB : Hid (By c g N t w) := hB
  have HF : Hid (∀ k, k < N → f k < N) := hf
  have HLR : Hid (∀ j, a < j → j < b → f a < f j) := hlr
  clear h hB hf hlr
  go_enter Try.func55, Try.ntmps55
  go_wp2
  go_loopw [10, 11] (fun x y wr => ∃ (i j : Nat), x = .int .i64 (i : Int) ∧ y = .int .i64 (j : Int) ∧ m ≤ i ∧ i ≤ j ∧ j ≤ b ∧ Holds wr bk (rowN N f) 3 ∧ Upd bk w wr ∧ (m < i → ltT t (f (i - 1)) (f a)) ∧ (j < b → ltT t (f a) (f j))) (fun x y _ => (intOf y).toNat - (intOf x).toNat)
  case atStart => exact ⟨m, b, rfl, rfl, Nat.le_refl _, by omega, Nat.le_refl _, HW.out, Upd.refl _ _, fun q => absurd q (Nat.lt_irrefl _), fun q => absurd q (Nat.lt_irrefl _)⟩
  case round =>
  obtain ⟨i, j, rfl, rfl, h1, h2, h3, hh, hU, hL, hR⟩ := hrel
  have HL : Hid (m < i → ltT t (f (i - 1)) (f a)) := hL
  have HR : Hid (j < b → ltT t (f a) (f j)) := hR
  clear hL hR
  by_cases hij : i < j
  · have g1 : (i : Int) < (j : Int) := by omega
    obtain ⟨hd, hhd⟩ : ∃ hd : Nat, (i + j) / 2 = hd := ⟨_, rfl⟩
    have e1 : ((i : Int) + j) / 2 = hd := by omega
    have b1 : i ≤ hd := by omega
    have b2 : hd < j := by omega
    have ca := hh.at a _ (rowF_at N _ a (by omega))
    have ch := hh.at hd _ (rowF_at N _ hd (by omega))
    have hcmp : ∀ q, Calls Try.prog 36 #[.int .i64 (f hd : Int), .int .i64 (f a : Int), .pointer (some ⟨c, 0, none⟩)] (wr.drewN q) fun e w' => e = .returned (.int .i64 (t.getD (f a) 0 - t.getD (f hd) 0)) ∧ ∃ m, w' = (wr.drewN q).drewN m := fun q =>
      (HB.out.upd (hU.drewN q) hc hg).cmp (f hd) (f a) (HF.out _ (by omega)) (HF.out _ (by omega))
    have Hcmp : Hid (∀ q, Calls Try.prog 36 #[.int .i64 (f hd : Int), .int .i64 (f a : Int), .pointer (some ⟨c, 0, none⟩)] (wr.drewN q) fun e w' => e = .returned (.int .i64 (t.getD (f a) 0 - t.getD (f hd) 0)) ∧ ∃ m, w' = (wr.drewN q).drewN m) := hcmp
    have Hh : Hid (∀ q, Holds (wr.drewN q) bk (rowN N f) 3 ∧ Upd bk w (wr.drewN q)) := fun q => ⟨hh, hU.drewN q⟩
    have Hlt : Hid (f a < f hd) := HLR.out hd (by omega) (by omega)
    clear hh hU hcmp
    by_cases hz : t.getD (f a) 0 - t.getD (f hd) 0 < 0
    · have HZ : Hid (ltT t (f hd) (f a)) := ltT_yes hz
      generalize t.getD (f a) 0 - t.getD (f hd) 0 = z at *
      go_wp2
      go_quiet (first | (go_at_call 36; refine Calls.quiet_of (Hcmp.out _)))
      go_wp2
      exact ⟨⟨hd + 1, j, by go_num, rfl, by omega, by omega, h3, (Hh.out _).1, (Hh.out _).2, fun _ => HZ.out, HR.out⟩, by simp [intOf]; omega⟩
    · have HZ : Hid (ltT t (f a) (f hd)) := ltT_no hz Hlt.out
      generalize t.getD (f a) 0 - t.getD (f hd) 0 = z at *
      go_wp2
      go_quiet (first | (go_at_call 36; refine Calls.quiet_of (Hcmp.out _)))
      go_wp2
      exact ⟨⟨i, hd, rfl, rfl, h1, b1, by omega, (Hh.out _).1, (Hh.out _).2, HL.out, fun _ => HZ.out⟩, by simp [intOf]; omega⟩
  · obtain rfl : i = j := by omega
    have Hh : Hid (Holds wr bk (rowN N f) 3 ∧ Upd bk w wr) := ⟨hh, hU⟩
    have HM : Hid (a + 1 = m) := hm
    clear hh hU
    go_wp2
    go_loopw [13] (fun x wq => ∃ k : Nat, x = .int .i64 (k : Int) ∧ a ≤ k ∧ k + 1 ≤ i ∧ Holds wq bk (rowN N (Sm.exch a (a + 1) (k + 1) f)) 3 ∧ Upd bk w wq) (fun x _ => i - (intOf x).toNat)
    case atStart => exact ⟨a, rfl, Nat.le_refl _, by omega, by rw [Sm.exch_none_right]; exact Hh.out.1, Hh.out.2⟩
    case round =>
    obtain ⟨k, rfl, k1, k2, hh, hU⟩ := hrel
    by_cases hk : k + 1 < i
    · have g2 : (k : Int) < (i : Int) - 1 := by omega
      obtain ⟨G, hG⟩ : ∃ G, Sm.exch a (a + 1) (k + 1) f = G := ⟨_, rfl⟩
      rw [hG] at hh
      have c1 := hh.at k _ (rowF_at N _ k (by omega))
      have c2 := hh.at (k + 1) _ (rowF_at N _ (k + 1) (by omega))
      have d1 := hh.frozen k
      have d2 := hh.frozen (k + 1)
      have HH : Hid (Holds ((wr.setCell ⟨bk, k, none⟩ (.int .i64 (G (k + 1) : Int))).setCell ⟨bk, k + 1, none⟩ (.int .i64 (G k : Int))).drew bk (rowN N (Sm.exch a (a + 1) (k + 1 + 1) f)) 3 ∧ Upd bk w ((wr.setCell ⟨bk, k, none⟩ (.int .i64 (G (k + 1) : Int))).setCell ⟨bk, k + 1, none⟩ (.int .i64 (G k : Int))).drew) := by
        show _ ∧ _
        rw [Sm.insL_step f a k k1, hG]
        exact ⟨(rowN_swp hh _ _ (by omega)).drew, ((hU.setCell _ _).setCell _ _).drew⟩
      clear hh hU hG
      go_wp2
      go_region
      all_goals go_wp2
      exact ⟨⟨k + 1, by go_num, by omega, by omega, HH.out.1, HH.out.2⟩, by simp [intOf]; omega⟩
    · have g2 : ¬ (k : Int) < (i : Int) - 1 := by omega
      have e1 : k + 1 = i := by omega
      rw [e1] at hh
      have Hf : Hid (Holds wr bk (rowN N (Sm.exch a (a + 1) i f)) 3 ∧ Upd bk w wr) := ⟨hh, hU⟩
      clear hh hU
      go_wp2
      try simp only [Exit.inBlock, Exit.then]
      refine bodyPost_ret (results_none (by kernel_rfl) _ _ _) rfl ?_
      exact ⟨rfl, i, h1, h3, HL.out, HR.out, by rw [← HM.out]; exact Hf.out.1, Hf.out.2⟩
set_option maxRecDepth 1000000 in
set_option maxHeartbeats 20000000 in
theorem sym_right (c g : Nat) (t : List Int) (bk N cap a m : Nat) (f : Nat → Nat) (w : World) (h : Holds w bk (rowN N f) 3) (hB : By c g N t w) (hc : c ≠ bk) (hg : g ≠ bk) (hf : ∀ k, k < N → f k < N) (hlr : ∀ j, a ≤ j → j < m → f j < f m) (ham : a + 1 < m) (hbN : m + 1 ≤ N) (hN : N ≤ 17592186043904) : Calls Try.prog 55 #[.slice (some ⟨bk, 0, none⟩) N cap, .int .i64 (a : Int), .int .i64 (m : Int), .int .i64 ((m + 1 : Nat) : Int), .func (.func 36) #[] #[.pointer (some ⟨c, 0, none⟩)]] w fun e w' => e = .returned (.tuple #[]) ∧ ∃ i, a ≤ i ∧ i ≤ m ∧ (a < i → ltT t (f (i - 1)) (f m)) ∧ (i < m → ltT t (f m) (f i)) ∧ Holds w' bk (rowN N (Sm.exch i m (m + 1) f)) 3 ∧ Upd bk w w' := by
  obtain ⟨b, hb⟩ : ∃ b, m + 1 = b := ⟨_, rfl⟩
  rw [hb]
  have hm1 : (b : Int) - m = 1 := by omega
  have hm2 : ((m : Int) - a == 1) = false := by rw [beq_eq_false_iff_ne]; omega
  have HW : Hid (Holds w bk (rowN N f) 3) := h
  have HB : Hid (By c g N t w) := hB
  have HF : Hid (∀ k, k < N → f k < N) := hf
  have HLR : Hid (∀ j, a ≤ j → j < m → f j < f m) := hlr
  clear h hB hf hlr
  go_enter Try.func55, Try.ntmps55
  go_wp2
  go_loopw [14, 15] (fun x y wr => ∃ (i j : Nat), x = .int .i64 (i : Int) ∧ y = .int .i64 (j : Int) ∧ a ≤ i ∧ i ≤ j ∧ j ≤ m ∧ Holds wr bk (rowN N f) 3 ∧ Upd bk w wr ∧ (a < i → ltT t (f (i - 1)) (f m)) ∧ (j < m → ltT t (f m) (f j))) (fun x y _ => (intOf y).toNat - (intOf x).toNat)
  case atStart => exact ⟨a, m, rfl, rfl, Nat.le_refl _, by omega, Nat.le_refl _, HW.out, Upd.refl _ _, fun q => absurd q (Nat.lt_irrefl _), fun q => absurd q (Nat.lt_irrefl _)⟩
  case round =>
  obtain ⟨i, j, rfl, rfl, h1, h2, h3, hh, hU, hL, hR⟩ := hrel
  have HL : Hid (a < i → ltT t (f (i - 1)) (f m)) := hL
  have HR : Hid (j < m → ltT t (f m) (f j)) := hR
  clear hL hR
  by_cases hij : i < j
  · have g1 : (i : Int) < (j : Int) := by omega
    obtain ⟨hd, hhd⟩ : ∃ hd : Nat, (i + j) / 2 = hd := ⟨_, rfl⟩
    have e1 : ((i : Int) + j) / 2 = hd := by omega
    have b1 : i ≤ hd := by omega
    have b2 : hd < j := by omega
    have ca := hh.at m _ (rowF_at N _ m (by omega))
    have ch := hh.at hd _ (rowF_at N _ hd (by omega))
    have hcmp : ∀ q, Calls Try.prog 36 #[.int .i64 (f m : Int), .int .i64 (f hd : Int), .pointer (some ⟨c, 0, none⟩)] (wr.drewN q) fun e w' => e = .returned (.int .i64 (t.getD (f hd) 0 - t.getD (f m) 0)) ∧ ∃ p, w' = (wr.drewN q).drewN p := fun q =>
      (HB.out.upd (hU.drewN q) hc hg).cmp (f m) (f hd) (HF.out _ (by omega)) (HF.out _ (by omega))
    have Hcmp : Hid (∀ q, Calls Try.prog 36 #[.int .i64 (f m : Int), .int .i64 (f hd : Int), .pointer (some ⟨c, 0, none⟩)] (wr.drewN q) fun e w' => e = .returned (.int .i64 (t.getD (f hd) 0 - t.getD (f m) 0)) ∧ ∃ p, w' = (wr.drewN q).drewN p) := hcmp
    have Hh : Hid (∀ q, Holds (wr.drewN q) bk (rowN N f) 3 ∧ Upd bk w (wr.drewN q)) := fun q => ⟨hh, hU.drewN q⟩
    have Hlt : Hid (f hd < f m) := HLR.out hd (by omega) (by omega)
    clear hh hU hcmp
    by_cases hz : t.getD (f hd) 0 - t.getD (f m) 0 < 0
    · have HZ : Hid (ltT t (f m) (f hd)) := ltT_yes hz
      generalize t.getD (f hd) 0 - t.getD (f m) 0 = z at *
      go_wp2
      go_quiet (first | (go_at_call 36; refine Calls.quiet_of (Hcmp.out _)))
      go_wp2
      exact ⟨⟨i, hd, rfl, rfl, h1, b1, by omega, (Hh.out _).1, (Hh.out _).2, HL.out, fun _ => HZ.out⟩, by simp [intOf]; omega⟩
    · have HZ : Hid (ltT t (f hd) (f m)) := ltT_no hz Hlt.out
      generalize t.getD (f hd) 0 - t.getD (f m) 0 = z at *
      go_wp2
      go_quiet (first | (go_at_call 36; refine Calls.quiet_of (Hcmp.out _)))
      go_wp2
      all_goals first | exact ⟨⟨hd + 1, j, by go_num, rfl, by omega, by omega, h3, (Hh.out _).1, (Hh.out _).2, fun _ => HZ.out, HR.out⟩, by simp [intOf]; omega⟩ | (exfalso; rename_i hq; simp at hq; omega)
  · obtain rfl : i = j := by omega
    have Hh : Hid (Holds wr bk (rowN N f) 3 ∧ Upd bk w wr) := ⟨hh, hU⟩
    have HM : Hid (m + 1 = b) := hb
    clear hh hU
    go_wp2
    go_loopw [17] (fun x wq => ∃ k : Nat, x = .int .i64 (k : Int) ∧ i ≤ k ∧ k ≤ m ∧ Holds wq bk (rowN N (Sm.exch k m (m + 1) f)) 3 ∧ Upd bk w wq) (fun x _ => (intOf x).toNat)
    case atStart => exact ⟨m, rfl, h3, Nat.le_refl _, by rw [Sm.exch_none_left]; exact Hh.out.1, Hh.out.2⟩
    case round =>
    obtain ⟨k, rfl, k1, k2, hh, hU⟩ := hrel
    by_cases hk : i < k
    · obtain ⟨kp, rfl⟩ : ∃ kp, k = kp + 1 := ⟨k - 1, by omega⟩
      have g2 : (i : Int) < ((kp + 1 : Nat) : Int) := by omega
      have g3 : (i : Int) < (kp : Int) + 1 := by omega
      obtain ⟨G, hG⟩ : ∃ G, Sm.exch (kp + 1) m (m + 1) f = G := ⟨_, rfl⟩
      rw [hG] at hh
      have c1 := hh.at kp _ (rowF_at N _ kp (by omega))
      have c2 := hh.at (kp + 1) _ (rowF_at N _ (kp + 1) (by omega))
      have d1 := hh.frozen kp
      have d2 := hh.frozen (kp + 1)
      have HH : Hid (Holds ((wr.setCell ⟨bk, kp + 1, none⟩ (.int .i64 (G kp : Int))).setCell ⟨bk, kp, none⟩ (.int .i64 (G (kp + 1) : Int))).drew bk (rowN N (Sm.exch kp m (m + 1) f)) 3 ∧ Upd bk w ((wr.setCell ⟨bk, kp + 1, none⟩ (.int .i64 (G kp : Int))).setCell ⟨bk, kp, none⟩ (.int .i64 (G (kp + 1) : Int))).drew) := by
        show _ ∧ _
        rw [Sm.insR_step f m kp (by omega), hG]
        exact ⟨(rowN_swp hh _ _ (by omega)).drew, ((hU.setCell _ _).setCell _ _).drew⟩
      clear hh hU hG
      go_wp2
      go_region
      all_goals go_wp2
      exact ⟨⟨kp, by go_num, by omega, by omega, HH.out.1, HH.out.2⟩, by simp [intOf]⟩
    · obtain rfl : k = i := by omega
      have g2 : ¬ (k : Int) < (k : Int) := by omega
      have Hf : Hid (Holds wr bk (rowN N (Sm.exch k m (m + 1) f)) 3 ∧ Upd bk w wr) := ⟨hh, hU⟩
      clear hh hU
      go_wp2
      try simp only [Exit.inBlock, Exit.then]
      refine bodyPost_ret (results_none (by kernel_rfl) _ _ _) rfl ?_
      exact ⟨rfl, k, h1, h3, HL.out, HR.out, by rw [← HM.out]; exact Hf.out.1, Hf.out.2⟩
end Go.Proofs.Ytlliijodilnlgaa
