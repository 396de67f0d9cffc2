/- The function of the statement FilesNames, called with whatever two texts, answers true. -/
import Derived.Test.YtfjmmeefobkkiaaAwake
namespace Go.Proofs.Ytfjmmeefobkkiaa
open Go.RowKit Go.Maps Go.WideMaps

set_option maxHeartbeats 3200000 in
set_option maxRecDepth 100000 in
/-- The document's own answer. -/
theorem refName_any (s : ByteArray) (hs : s.size < 9223372036854775808) (w : World) : Calls Try.prog 24 #[.string s] w fun e w' => e = .returned (.bool (nameOk s)) ∧ w' = w := by
  have hl : Hid (s.data.toList.length = s.size) := rfl
  generalize hq : nameOk s = q
  have HQ : Hid (nameOk s = q) := hq
  clear hq
  go_enter Try.func24, Try.ntmps24
  go_wp2_with fail
  go_loopw [3] (fun c wr => ∃ k : Nat, k ≤ s.size ∧ c = .int .i64 (k : Int) ∧ (s.data.toList.take k).all inName = true ∧ wr = w) (fun c _ => s.size - (intOf c).toNat)
  case atStart => exact ⟨0, by omega, rfl, by simp, rfl⟩
  case round =>
    obtain ⟨k, hk, rfl, hall, rfl⟩ := hrel
    by_cases hlt : k < s.size
    · obtain ⟨c, hc⟩ : ∃ c, s[k]'hlt = c := ⟨_, rfl⟩
      have hgl := get_list s k hlt
      rw [hc] at hgl
      have hst := all_take inName _ k c hgl
      rw [hall, Bool.true_and] at hst
      have Hst : Hid ((s.data.toList.take (k + 1)).all inName = inName c) := hst
      clear hst hall hgl
      have hc256 : c.toNat < 256 := c.toNat_lt
      cases hcn : inName c with
      | true =>
        have Hst2 : Hid ((s.data.toList.take (k + 1)).all inName = true) := by show _ = true; rw [Hst.out, hcn]
        have hY := (inName_true c).1 hcn
        clear hcn Hst
        by_cases h1 : (c.toNat : Int) < 97 <;> by_cases h2 : (122 : Int) < (c.toNat : Int) <;> by_cases h3 : (c.toNat : Int) < 48 <;> by_cases h4 : (57 : Int) < (c.toNat : Int) <;> by_cases h5 : (c.toNat : Int) = 46 <;> by_cases h6 : (c.toNat : Int) = 45 <;> first
          | (exfalso; omega)
          | (clear hY
             have b5 : ((c.toNat : Int) == 46) = true := by simpa using h5
             have b7 : ((c.toNat : Int) != 46) = false := by simp [bne, b5]
             have b6 : ((c.toNat : Int) == 45) = false := by simpa using h6
             have b8 : ((c.toNat : Int) != 45) = true := by simp [bne, b6]
             go_wp2
             exact ⟨⟨k + 1, by omega, rfl, Hst2.out, trivial⟩, by simp; omega⟩)
          | (clear hY
             have b5 : ((c.toNat : Int) == 46) = false := by simpa using h5
             have b7 : ((c.toNat : Int) != 46) = true := by simp [bne, b5]
             have b6 : ((c.toNat : Int) == 45) = true := by simpa using h6
             have b8 : ((c.toNat : Int) != 45) = false := by simp [bne, b6]
             go_wp2
             exact ⟨⟨k + 1, by omega, rfl, Hst2.out, trivial⟩, by simp; omega⟩)
          | (clear hY
             have b5 : ((c.toNat : Int) == 46) = false := by simpa using h5
             have b7 : ((c.toNat : Int) != 46) = true := by simp [bne, b5]
             have b6 : ((c.toNat : Int) == 45) = false := by simpa using h6
             have b8 : ((c.toNat : Int) != 45) = true := by simp [bne, b6]
             go_wp2
             exact ⟨⟨k + 1, by omega, rfl, Hst2.out, trivial⟩, by simp; omega⟩)
      | false =>
        have hY : ¬ _ := fun h => Bool.false_ne_true (hcn.symm.trans ((inName_true c).2 h))
        have Hfin : Hid (q = false) := by
          have h1 : (s.data.toList.take (k + 1)).all inName = false := by rw [Hst.out, hcn]
          show q = false
          rw [← HQ.out, nameOk, ← List.take_append_drop (k + 1) s.data.toList, List.all_append, h1]
          simp
        clear hcn Hst
        by_cases h1 : (c.toNat : Int) < 97 <;> by_cases h2 : (122 : Int) < (c.toNat : Int) <;> by_cases h3 : (c.toNat : Int) < 48 <;> by_cases h4 : (57 : Int) < (c.toNat : Int) <;> by_cases h5 : (c.toNat : Int) = 46 <;> by_cases h6 : (c.toNat : Int) = 45 <;> first
          | (exfalso; omega)
          | (clear hY
             have b5 : ((c.toNat : Int) == 46) = false := by simpa using h5
             have b7 : ((c.toNat : Int) != 46) = true := by simp [bne, b5]
             have b6 : ((c.toNat : Int) == 45) = false := by simpa using h6
             have b8 : ((c.toNat : Int) != 45) = true := by simp [bne, b6]
             go_wp2
             go_ret
             exact ⟨by rw [Hfin.out]; rfl, rfl⟩)
    · have hall2 : s.data.toList.all inName = true := by
        rw [List.take_of_length_le (by have := hl.out; omega)] at hall
        exact hall
      have Hfin : Hid (q = (decide (1 ≤ s.size) && decide (s.size ≤ 32))) := by
        show q = _
        rw [← HQ.out, nameOk, hall2, Bool.and_true]; rfl
      clear hall hall2
      by_cases g1 : (1 : Int) ≤ (s.size : Int)
      · by_cases g2 : (s.size : Int) ≤ 32
        · have e : q = true := by rw [Hfin.out, decide_eq_true (by omega), decide_eq_true (by omega)]; rfl
          have E : Hid (q = true) := e
          clear e
          go_wp2
          go_ret
          exact ⟨by rw [E.out]; rfl, rfl⟩
        · have e : q = false := by rw [Hfin.out, decide_eq_true (by omega : 1 ≤ s.size), decide_eq_false (by omega)]; rfl
          have E : Hid (q = false) := e
          clear e
          go_wp2
          go_ret
          exact ⟨by rw [E.out]; rfl, rfl⟩
      · have e : q = false := by rw [Hfin.out, decide_eq_false (by omega : ¬ 1 ≤ s.size)]; rfl
        have E : Hid (q = false) := e
        clear e
        go_wp2
        go_ret
        exact ⟨by rw [E.out]; rfl, rfl⟩

def hk0 : Dk := ⟨[], 100, true, false, 0⟩
theorem new100 : newS 100 = hk0 := by rfl
def hk1 (k : List UInt8) : Dk := ⟨[(k, ⟨[120], 0⟩)], 100, true, false, 0⟩
theorem self_str (s : ByteArray) : (⟨s.data.toList.toArray⟩ : ByteArray) = s := by
  obtain ⟨⟨x⟩⟩ := s
  rfl
set_option maxHeartbeats 3200000 in
set_option maxRecDepth 100000 in
theorem filesNames_walk (s p : ByteArray) (hs : s.size < 9223372036854775808) (w : World) : Calls Try.prog 7 #[.string s, .string p] w fun e w' => e = .returned (.bool true) ∧ Below w.heap.size w w' := by
  obtain ⟨N, hN⟩ : ∃ N, w.heap.size = N := ⟨_, rfl⟩
  have HN : Hid (w.heap.size = N) := hN
  rw [hN]
  clear hN
  have kn : Hid (∀ W, N ≤ W.heap.size → Calls Try.prog 10 #[.int .i64 100] W fun e w' => ∃ d, e = .returned (.pointer (some ⟨d, 0, none⟩)) ∧ DiskAt w' N d hk0 ∧ DUpd N W w') := fun W hW => by
    have := new_any N 100 W hW
    rw [new100] at this
    exact this.mono fun e w' ⟨x, y, z⟩ => ⟨_, x, y, z⟩
  have kr := fun W => refName_any s hs W
  cases hok : nameOk s with
  | false =>
    rw [hok] at kr
    have KR : Hid (∀ W, Calls Try.prog 24 #[.string s] W fun e w' => e = .returned (.bool false) ∧ w' = W) := kr
    have e20 : namedE hk0 [s] = 20 := by rw [namedE, if_pos (show hk0.on = true from rfl)]; exact namE_no (by simp [hok])
    have ka : Hid (∀ W d, DiskAt W N d hk0 → Calls Try.prog 11 #[.pointer (some ⟨d, 0, none⟩), .string s, .slice (some ⟨W.heap.size, 0, none⟩) 1 1] (W.alloc (.cells #[.string ⟨#[120]⟩] 9)) fun e w' => e = .returned (.int .i64 20) ∧ DiskAt w' N d hk0 ∧ DUpd N W w') := fun W d hW => by
      have := appB N d hk0 s ⟨#[120]⟩ hs (by rw [e20]; decide) W hW
      rw [e20] at this
      exact this
    have kl : Hid (∀ W d, DiskAt W N d hk0 → Calls Try.prog 16 #[.pointer (some ⟨d, 0, none⟩), .string p] W fun e w' => ∃ a c, e = .returned (.slice a 0 c) ∧ DUpd N W w') := fun W d hW =>
      (list_some N d hk0 rfl p W hW).mono fun e w' ⟨a, c, x, _, y⟩ => ⟨a, c, x, DUpd.ofBelow y⟩
    clear kr hok e20
    go_enter Try.func7, Try.ntmps7
    go_wp2_with (first
      | (go_at_call 9; refine (awake_any _).mono ?_; rintro e w1 ⟨rfl, b1⟩; have up1 : DUpd N w w1 := DUpd.ofBelow b1; have z1 : N ≤ w1.heap.size := (by have := b1.size; have := HN.out; omega))
      | (go_at_call 10; refine (kn.out _ z1).mono ?_; rintro e w2 ⟨d, rfl, d2, up2⟩)
      | (go_at_call 24; refine (KR.out _).mono ?_; rintro e w3 ⟨rfl, rfl⟩)
      | (go_at_call 11; refine (ka.out _ _ d2).mono ?_; rintro e w4 ⟨rfl, d4, up4⟩)
      | (go_at_call 16; refine (kl.out _ _ d4).mono ?_; rintro e w5 ⟨a5, c5, rfl, up5⟩))
    go_ret
    exact ⟨rfl, (((up1.trans up2).trans up4).trans up5).below (by have := HN.out; omega)⟩
  | true =>
    rw [hok] at kr
    have KR : Hid (∀ W, Calls Try.prog 24 #[.string s] W fun e w' => e = .returned (.bool true) ∧ w' = W) := kr
    have ka : Hid (∀ W d, DiskAt W N d hk0 → Calls Try.prog 11 #[.pointer (some ⟨d, 0, none⟩), .string s, .slice (some ⟨W.heap.size, 0, none⟩) 1 1] (W.alloc (.cells #[.string ⟨#[120]⟩] 9)) fun e w' => e = .returned (.int .i64 0) ∧ DiskAt w' N d (hk1 s.data.toList) ∧ DUpd N W w') := fun W d hW => by
      have := app1 N d hk0 s ⟨#[120]⟩ rfl hok (by decide) (by decide) (by decide) W hW
      rw [show stepE hk0 = 0 from rfl, show stepS (layS hk0 s.data.toList [⟨#[120]⟩]) = hk1 s.data.toList by rfl] at this
      exact this
    have eL : listK (hk1 s.data.toList) p = if preS p s = true then [s.data.toList] else [] := by
      show [s.data.toList].filter (fun k => preS p ⟨k.toArray⟩) = _
      rw [List.filter_cons, self_str]
      rfl
    cases hpre : preS p s with
    | true =>
      rw [hpre, if_pos rfl] at eL
      have kl : Hid (∀ W d, DiskAt W N d (hk1 s.data.toList) → Calls Try.prog 16 #[.pointer (some ⟨d, 0, none⟩), .string p] W fun e w' => ∃ g c, e = .returned (.slice (some ⟨g, 0, none⟩) 1 c) ∧ w'.cell? ⟨g, 0, none⟩ = some (.string s) ∧ DUpd N W w') := fun W d hW => by
        have := list_some N d (hk1 s.data.toList) rfl p W hW
        rw [eL] at this
        refine this.mono fun e w' ⟨a, c, x, hn, y⟩ => ?_
        rcases hn with hn | ⟨g, rfl, hn⟩
        · cases hn
        · have := hn 0 _ rfl
          rw [self_str] at this
          exact ⟨g, c, x, this, DUpd.ofBelow y⟩
      have hb : (p.size : Int) ≤ (s.size : Int) ∧ ((s.extract 0 p.size).toList == p.toList) = true := by
        simp only [preS, Bool.and_eq_true, decide_eq_true_eq] at hpre
        exact ⟨by omega, hpre.2⟩
      obtain ⟨hb1, hb2⟩ := hb
      clear kr hok eL hpre
      go_enter Try.func7, Try.ntmps7
      go_wp2_with (first
        | (go_at_call 9; refine (awake_any _).mono ?_; rintro e w1 ⟨rfl, b1⟩; have up1 : DUpd N w w1 := DUpd.ofBelow b1; have z1 : N ≤ w1.heap.size := (by have := b1.size; have := HN.out; omega))
        | (go_at_call 10; refine (kn.out _ z1).mono ?_; rintro e w2 ⟨d, rfl, d2, up2⟩)
        | (go_at_call 24; refine (KR.out _).mono ?_; rintro e w3 ⟨rfl, rfl⟩)
        | (go_at_call 11; refine (ka.out _ _ d2).mono ?_; rintro e w4 ⟨rfl, d4, up4⟩)
        | (go_at_call 16; refine (kl.out _ _ d4).mono ?_; rintro e w5 ⟨g5, c5, rfl, cl5, up5⟩))
      go_ret
      exact ⟨rfl, (((up1.trans up2).trans up4).trans up5).below (by have := HN.out; omega)⟩
    | false =>
      rw [hpre, if_neg (by decide)] at eL
      have kl : Hid (∀ W d, DiskAt W N d (hk1 s.data.toList) → Calls Try.prog 16 #[.pointer (some ⟨d, 0, none⟩), .string p] W fun e w' => ∃ a c, e = .returned (.slice a 0 c) ∧ DUpd N W w') := fun W d hW => by
        have := list_some N d (hk1 s.data.toList) rfl p W hW
        rw [eL] at this
        exact this.mono fun e w' ⟨a, c, x, _, y⟩ => ⟨a, c, x, DUpd.ofBelow y⟩
      by_cases hb1 : (p.size : Int) ≤ (s.size : Int)
      · have hb2 : ((s.extract 0 p.size).toList == p.toList) = false := by
          have h1 : p.size ≤ s.size := by omega
          simpa [preS, h1] using hpre
        clear kr hok eL hpre
        go_enter Try.func7, Try.ntmps7
        go_wp2_with (first
          | (go_at_call 9; refine (awake_any _).mono ?_; rintro e w1 ⟨rfl, b1⟩; have up1 : DUpd N w w1 := DUpd.ofBelow b1; have z1 : N ≤ w1.heap.size := (by have := b1.size; have := HN.out; omega))
          | (go_at_call 10; refine (kn.out _ z1).mono ?_; rintro e w2 ⟨d, rfl, d2, up2⟩)
          | (go_at_call 24; refine (KR.out _).mono ?_; rintro e w3 ⟨rfl, rfl⟩)
          | (go_at_call 11; refine (ka.out _ _ d2).mono ?_; rintro e w4 ⟨rfl, d4, up4⟩)
          | (go_at_call 16; refine (kl.out _ _ d4).mono ?_; rintro e w5 ⟨a5, c5, rfl, up5⟩))
        go_ret
        exact ⟨rfl, (((up1.trans up2).trans up4).trans up5).below (by have := HN.out; omega)⟩
      · clear kr hok eL hpre
        go_enter Try.func7, Try.ntmps7
        go_wp2_with (first
          | (go_at_call 9; refine (awake_any _).mono ?_; rintro e w1 ⟨rfl, b1⟩; have up1 : DUpd N w w1 := DUpd.ofBelow b1; have z1 : N ≤ w1.heap.size := (by have := b1.size; have := HN.out; omega))
          | (go_at_call 10; refine (kn.out _ z1).mono ?_; rintro e w2 ⟨d, rfl, d2, up2⟩)
          | (go_at_call 24; refine (KR.out _).mono ?_; rintro e w3 ⟨rfl, rfl⟩)
          | (go_at_call 11; refine (ka.out _ _ d2).mono ?_; rintro e w4 ⟨rfl, d4, up4⟩)
          | (go_at_call 16; refine (kl.out _ _ d4).mono ?_; rintro e w5 ⟨a5, c5, rfl, up5⟩))
        go_ret
        exact ⟨rfl, (((up1.trans up2).trans up4).trans up5).below (by have := HN.out; omega)⟩
end Go.Proofs.Ytfjmmeefobkkiaa
