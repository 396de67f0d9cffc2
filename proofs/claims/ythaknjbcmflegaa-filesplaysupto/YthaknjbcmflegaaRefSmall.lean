/- The document's disk: what is kept, names, the power, a step. -/
import Derived.Test.YthaknjbcmflegaaRefMem
namespace Go.Proofs.Ythaknjbcmflegaa
open Go.RowKit Go.Maps Go.WideMaps


set_option maxHeartbeats 3200000 in
set_option maxRecDepth 100000 in
/-- The document's own answer. -/
theorem refName_any (s : ByteArray) (hs : s.size < 9223372036854775808) (w : World) : Calls Try.prog 62 #[.string s] w fun e w' => e = .returned (.bool (nameOk s)) ∧ w' = w := by
  have hl : Hid (s.data.toList.length = s.size) := rfl
  generalize hq : nameOk s = q
  have HQ : Hid (nameOk s = q) := hq
  clear hq
  go_enter Try.func62, Try.ntmps62
  go_wp2_with fail
  go_loopw [3] (fun c wr => ∃ k : Nat, k ≤ s.size ∧ c = .int .i64 (k : Int) ∧ (s.data.toList.take k).all inName = true ∧ wr = w) (fun c _ => s.size - (intOf c).toNat)
  case atStart => exact ⟨0, by omega, rfl, by simp, rfl⟩
  case round =>
    obtain ⟨k, hk, rfl, hall, rfl⟩ := hrel
    by_cases hlt : k < s.size
    · obtain ⟨c, hc⟩ : ∃ c, s[k]'hlt = c := ⟨_, rfl⟩
      have hgl := get_list s k hlt
      rw [hc] at hgl
      have hst := all_take inName _ k c hgl
      rw [hall, Bool.true_and] at hst
      have Hst : Hid ((s.data.toList.take (k + 1)).all inName = inName c) := hst
      clear hst hall hgl
      have hc256 : c.toNat < 256 := c.toNat_lt
      cases hcn : inName c with
      | true =>
        have Hst2 : Hid ((s.data.toList.take (k + 1)).all inName = true) := by show _ = true; rw [Hst.out, hcn]
        have hY := (inName_true c).1 hcn
        clear hcn Hst
        by_cases h1 : (c.toNat : Int) < 97 <;> by_cases h2 : (122 : Int) < (c.toNat : Int) <;> by_cases h3 : (c.toNat : Int) < 48 <;> by_cases h4 : (57 : Int) < (c.toNat : Int) <;> by_cases h5 : (c.toNat : Int) = 46 <;> by_cases h6 : (c.toNat : Int) = 45 <;> first
          | (exfalso; omega)
          | (clear hY
             have b5 : ((c.toNat : Int) == 46) = true := by simpa using h5
             have b7 : ((c.toNat : Int) != 46) = false := by simp [bne, b5]
             have b6 : ((c.toNat : Int) == 45) = false := by simpa using h6
             have b8 : ((c.toNat : Int) != 45) = true := by simp [bne, b6]
             go_wp2
             exact ⟨⟨k + 1, by omega, rfl, Hst2.out, trivial⟩, by simp; omega⟩)
          | (clear hY
             have b5 : ((c.toNat : Int) == 46) = false := by simpa using h5
             have b7 : ((c.toNat : Int) != 46) = true := by simp [bne, b5]
             have b6 : ((c.toNat : Int) == 45) = true := by simpa using h6
             have b8 : ((c.toNat : Int) != 45) = false := by simp [bne, b6]
             go_wp2
             exact ⟨⟨k + 1, by omega, rfl, Hst2.out, trivial⟩, by simp; omega⟩)
          | (clear hY
             have b5 : ((c.toNat : Int) == 46) = false := by simpa using h5
             have b7 : ((c.toNat : Int) != 46) = true := by simp [bne, b5]
             have b6 : ((c.toNat : Int) == 45) = false := by simpa using h6
             have b8 : ((c.toNat : Int) != 45) = true := by simp [bne, b6]
             go_wp2
             exact ⟨⟨k + 1, by omega, rfl, Hst2.out, trivial⟩, by simp; omega⟩)
      | false =>
        have hY : ¬ _ := fun h => Bool.false_ne_true (hcn.symm.trans ((inName_true c).2 h))
        have Hfin : Hid (q = false) := by
          have h1 : (s.data.toList.take (k + 1)).all inName = false := by rw [Hst.out, hcn]
          show q = false
          rw [← HQ.out, nameOk, ← List.take_append_drop (k + 1) s.data.toList, List.all_append, h1]
          simp
        clear hcn Hst
        by_cases h1 : (c.toNat : Int) < 97 <;> by_cases h2 : (122 : Int) < (c.toNat : Int) <;> by_cases h3 : (c.toNat : Int) < 48 <;> by_cases h4 : (57 : Int) < (c.toNat : Int) <;> by_cases h5 : (c.toNat : Int) = 46 <;> by_cases h6 : (c.toNat : Int) = 45 <;> first
          | (exfalso; omega)
          | (clear hY
             have b5 : ((c.toNat : Int) == 46) = false := by simpa using h5
             have b7 : ((c.toNat : Int) != 46) = true := by simp [bne, b5]
             have b6 : ((c.toNat : Int) == 45) = false := by simpa using h6
             have b8 : ((c.toNat : Int) != 45) = true := by simp [bne, b6]
             go_wp2
             go_ret
             exact ⟨by rw [Hfin.out]; rfl, rfl⟩)
    · have hall2 : s.data.toList.all inName = true := by
        rw [List.take_of_length_le (by have := hl.out; omega)] at hall
        exact hall
      have Hfin : Hid (q = (decide (1 ≤ s.size) && decide (s.size ≤ 32))) := by
        show q = _
        rw [← HQ.out, nameOk, hall2, Bool.and_true]; rfl
      clear hall hall2
      by_cases g1 : (1 : Int) ≤ (s.size : Int)
      · by_cases g2 : (s.size : Int) ≤ 32
        · have e : q = true := by rw [Hfin.out, decide_eq_true (by omega), decide_eq_true (by omega)]; rfl
          have E : Hid (q = true) := e
          clear e
          go_wp2
          go_ret
          exact ⟨by rw [E.out]; rfl, rfl⟩
        · have e : q = false := by rw [Hfin.out, decide_eq_true (by omega : 1 ≤ s.size), decide_eq_false (by omega)]; rfl
          have E : Hid (q = false) := e
          clear e
          go_wp2
          go_ret
          exact ⟨by rw [E.out]; rfl, rfl⟩
      · have e : q = false := by rw [Hfin.out, decide_eq_false (by omega : ¬ 1 ≤ s.size)]; rfl
        have E : Hid (q = false) := e
        clear e
        go_wp2
        go_ret
        exact ⟨by rw [E.out]; rfl, rfl⟩
theorem refRoom_any (r : Int) (w : World) : Calls Try.prog 24 #[.int .i64 r] w fun e w' => e = .returned (.int .i64 (roomN r : Int)) ∧ w' = w := by
  have h := roomN_int r
  generalize (roomN r : Int) = x at *
  by_cases h1 : r < 0
  · obtain rfl : x = 0 := by omega
    clear h
    go_enter Try.func24, Try.ntmps24
    go_wp2
    all_goals go_ret
    all_goals exact ⟨rfl, rfl⟩
  · by_cases h2 : (16777216 : Int) < r
    · obtain rfl : x = 16777216 := by omega
      clear h
      go_enter Try.func24, Try.ntmps24
      go_wp2
      all_goals go_ret
      all_goals exact ⟨rfl, rfl⟩
    · obtain rfl : r = x := by omega
      clear h
      go_enter Try.func24, Try.ntmps24
      go_wp2
      all_goals go_ret
      all_goals exact ⟨rfl, rfl⟩

theorem rarm_some (N r : Nat) (S : Dk) (x : Int) (hx : -9223372036854775808 ≤ x ∧ x < 9223372036854775808) (w : World) (h : RefAt w N r S) : Calls Try.prog 30 #[.pointer (some ⟨r, 0, none⟩), .int .i64 x] w fun e w' => e = .returned (.tuple #[]) ∧ RefAt w' N r { S with armed := decide (0 ≤ x), ahead := x } ∧ RUpd N w w' := by
  obtain ⟨v, hH, hN, hR, hG⟩ := h
  have c2 := hH.at 2 _ rfl
  have f2 := hH.frozen 2
  have K : Hid (∀ y : Int, armI { S with armed := decide (0 ≤ x), ahead := x } = y → RefAt (w.setCell ⟨r, 2, none⟩ (.int .i64 y)) N r { S with armed := decide (0 ≤ x), ahead := x } ∧ RUpd N w (w.setCell ⟨r, 2, none⟩ (.int .i64 y))) := fun y hy => by
    subst hy
    obtain ⟨k1, k2, k3⟩ := ref_set (T := { S with armed := decide (0 ≤ x), ahead := x }) hH hN hR rfl 2 (.int .i64 (armI { S with armed := decide (0 ≤ x), ahead := x })) rfl
    exact ⟨⟨v, k1, hN, k2, ⟨⟨hG.rise, hG.len, hG.used, hG.room, hG.keys, hx⟩, fun h => by simpa using h, hG.firm⟩⟩, k3⟩
  have e1 : 0 ≤ x → armI { S with armed := decide (0 ≤ x), ahead := x } = x := fun h => if_pos (by simpa using h)
  have e2 : x < 0 → armI { S with armed := decide (0 ≤ x), ahead := x } = -1 := fun h => if_neg (by simp; omega)
  clear hR hG
  by_cases h1 : x < -1
  · go_enter Try.func30, Try.ntmps30
    go_wp2
    exact bodyPost_end (results_none (by kernel_rfl) _ _ _) rfl ⟨rfl, (K.out _ (e2 (by omega))).1, (K.out _ (e2 (by omega))).2⟩
  · have e3 : armI { S with armed := decide (0 ≤ x), ahead := x } = x := by
      by_cases h2 : 0 ≤ x
      · exact e1 h2
      · rw [e2 (by omega)]; omega
    go_enter Try.func30, Try.ntmps30
    go_wp2
    exact bodyPost_end (results_none (by kernel_rfl) _ _ _) rfl ⟨rfl, (K.out _ e3).1, (K.out _ e3).2⟩

/-- A step: true while there is power. -/
def stepB (S : Dk) : Bool := decide (stepE S = 0)
set_option maxHeartbeats 800000 in
theorem rstep_some (N r : Nat) (S : Dk) (w : World) (h : RefAt w N r S) : Calls Try.prog 55 #[.pointer (some ⟨r, 0, none⟩)] w fun e w' => e = .returned (.bool (stepB S)) ∧ RefAt w' N r (stepS S) ∧ RUpd N w w' := by
  obtain ⟨v, hH, hN, hR, hG⟩ := h
  have c2 := hH.at 2 _ rfl
  have c3 := hH.at 3 _ rfl
  have c4 := hH.at 4 _ rfl
  have f2 := hH.frozen 2
  have f3 := hH.frozen 3
  have f4 := hH.frozen 4
  obtain ⟨p1, p2, p3⟩ := ref_set (T := tickS S) hH hN hR rfl 4 (.int .i64 (wrap64 (S.steps + 1))) rfl
  have P1 : Hid (Holds (w.setCell ⟨r, 4, none⟩ (.int .i64 (wrap64 (S.steps + 1)))) r (refV v (tickS S)) 35) := p1
  have P2 : Hid ((w.setCell ⟨r, 4, none⟩ (.int .i64 (wrap64 (S.steps + 1)))).ownsRow N 63 3 v (tickS S).fs.length (rowV (tickS S).fs)) := p2
  have P3 : Hid (RUpd N w (w.setCell ⟨r, 4, none⟩ (.int .i64 (wrap64 (S.steps + 1))))) := p3
  have G0 : Hid S.Good := hG
  clear p1 p2 p3 hR hG
  cases har : S.armed with
  | false =>
    have e0 : armI S = -1 := if_neg (by rw [har]; decide)
    rw [stepB, stepE, stepS, if_neg (by rw [har]; decide), if_neg (by rw [har]; decide)]
    rw [e0] at c2
    have K : Hid (RefAt (w.setCell ⟨r, 4, none⟩ (.int .i64 (wrap64 (S.steps + 1)))) N r (tickS S)) := ⟨v, P1.out, hN, P2.out, ⟨⟨G0.out.rise, G0.out.len, G0.out.used, G0.out.room, G0.out.keys, G0.out.ahead⟩, G0.out.arm, G0.out.firm⟩⟩
    go_enter Try.func55, Try.ntmps55
    go_wp2
    go_ret
    exact ⟨rfl, K.out, P3.out⟩
  | true =>
    have e0 : armI S = S.ahead := if_pos har
    rw [stepB, stepE, stepS, if_pos har, if_pos har]
    rw [e0] at c2
    have h0 : 0 ≤ S.ahead := G0.out.arm har
    have hb := G0.out.ahead
    have hw1 : wrap64 (S.ahead - 1) = S.ahead - 1 := by unfold wrap64; omega
    by_cases hp : 0 < S.ahead
    · rw [if_pos hp, if_pos hp]
      obtain ⟨k1, k2, k3⟩ := ref_set (T := (⟨S.fs, S.room, S.on, S.armed, S.ahead - 1, wrap64 (S.steps + 1)⟩ : Dk)) P1.out hN P2.out rfl 2 (.int .i64 (S.ahead - 1)) (by
        show [v, .int .i64 (S.room : Int), .int .i64 (S.ahead - 1), .bool (!S.on), .int .i64 (wrap64 (S.steps + 1))] = [v, .int .i64 (S.room : Int), .int .i64 (armI _), .bool (!S.on), .int .i64 (wrap64 (S.steps + 1))]
        rw [show armI (⟨S.fs, S.room, S.on, S.armed, S.ahead - 1, wrap64 (S.steps + 1)⟩ : Dk) = S.ahead - 1 from if_pos har])
      have K : Hid (RefAt ((w.setCell ⟨r, 4, none⟩ (.int .i64 (wrap64 (S.steps + 1)))).setCell ⟨r, 2, none⟩ (.int .i64 (S.ahead - 1))) N r (⟨S.fs, S.room, S.on, S.armed, S.ahead - 1, wrap64 (S.steps + 1)⟩ : Dk)) := ⟨v, k1, hN, k2, ⟨⟨G0.out.rise, G0.out.len, G0.out.used, G0.out.room, G0.out.keys, ⟨by show _ ≤ S.ahead - 1; omega, by show S.ahead - 1 < _; omega⟩⟩, fun _ => by show 0 ≤ S.ahead - 1; omega, G0.out.firm⟩⟩
      have K2 : Hid (RUpd N w ((w.setCell ⟨r, 4, none⟩ (.int .i64 (wrap64 (S.steps + 1)))).setCell ⟨r, 2, none⟩ (.int .i64 (S.ahead - 1)))) := P3.out.trans k3
      clear k1 k2 k3
      go_enter Try.func55, Try.ntmps55
      go_wp2
      go_ret
      exact ⟨rfl, K.out, K2.out⟩
    · rw [if_neg hp, if_neg hp]
      have hz : S.ahead = 0 := by omega
      obtain ⟨k1, k2, k3⟩ := ref_set (T := (⟨S.fs, S.room, S.on, false, S.ahead, wrap64 (S.steps + 1)⟩ : Dk)) P1.out hN P2.out rfl 2 (.int .i64 (-1)) rfl
      obtain ⟨j1, j2, j3⟩ := ref_set (T := (⟨S.fs, S.room, false, false, S.ahead, wrap64 (S.steps + 1)⟩ : Dk)) k1 hN k2 rfl 3 (.bool true) rfl
      have K : Hid (RefAt (((w.setCell ⟨r, 4, none⟩ (.int .i64 (wrap64 (S.steps + 1)))).setCell ⟨r, 2, none⟩ (.int .i64 (-1))).setCell ⟨r, 3, none⟩ (.bool true)) N r (⟨S.fs, S.room, false, false, S.ahead, wrap64 (S.steps + 1)⟩ : Dk)) := ⟨v, j1, hN, j2, ⟨⟨G0.out.rise, G0.out.len, G0.out.used, G0.out.room, G0.out.keys, hb⟩, fun h => (by cases h), G0.out.firm⟩⟩
      have K2 : Hid (RUpd N w (((w.setCell ⟨r, 4, none⟩ (.int .i64 (wrap64 (S.steps + 1)))).setCell ⟨r, 2, none⟩ (.int .i64 (-1))).setCell ⟨r, 3, none⟩ (.bool true))) := (P3.out.trans k3).trans j3
      clear k1 k2 k3 j1 j2 j3
      rw [hz] at c2
      have hw2 : wrap64 (0 - 1) = -1 := by unfold wrap64; omega
      rw [hz] at K
      go_enter Try.func55, Try.ntmps55
      go_wp2
      go_ret
      exact ⟨rfl, K.out, K2.out⟩

theorem rnew_any (N : Nat) (x : Int) (w : World) (hN : N ≤ w.heap.size) : Calls Try.prog 6 #[.int .i64 x] w fun e w' => e = .returned (.pointer (some ⟨w.heap.size, 0, none⟩)) ∧ RefAt w' N w.heap.size (newS x) ∧ RUpd N w w' := by
  have h0 : Hid (RefAt (w.alloc (.cells #[.slice none 0 0, .int .i64 (roomN x : Int), .int .i64 (-1), .bool false, .int .i64 0] 35)) N w.heap.size (newS x)) :=
    ⟨.slice none 0 0, holds_new w [.slice none 0 0, .int .i64 (roomN x : Int), .int .i64 (-1), .bool false, .int .i64 0] 35, hN, World.ownsRow_nil _ _ _ _, ⟨fine_empty (roomN x) (roomN_le x) true false, fun h => (by cases h), fun p hp => (by cases hp)⟩⟩
  have hu : Hid (RUpd N w (w.alloc (.cells #[.slice none 0 0, .int .i64 (roomN x : Int), .int .i64 (-1), .bool false, .int .i64 0] 35))) := (RUpd.refl N w).alloc _
  have hroom : Hid (∀ W, Calls Try.prog 24 #[.int .i64 x] W fun e w' => e = .returned (.int .i64 (roomN x : Int)) ∧ w' = W) := fun W => refRoom_any x W
  generalize (roomN x : Int) = X at *
  go_enter Try.func6, Try.ntmps6
  go_wp2_with (go_at_call 24; refine (hroom.out _).mono ?_; rintro e w2 ⟨rfl, rfl⟩)
  go_ret
  exact ⟨rfl, h0.out, hu.out⟩
end Go.Proofs.Ythaknjbcmflegaa
