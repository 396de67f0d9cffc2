/- The document's Next (16) and At (19); the law's same (11). -/
import Derived.Test.YtklkonmdllgeeaaRfMem
import Derived.Deep.QuietTactic
namespace Go.Proofs.Ytklkonmdllgeeaa
open Go.RowKit Go.Maps

theorem someB_pos (l : Ts) : someB l = decide (0 < l.length) := by
  cases l with
  | nil => rfl
  | cons x l => simp [someB]
set_option maxHeartbeats 3200000 in
set_option maxRecDepth 100000 in
theorem rnext_any (N r : Nat) (l : Ts) (hl : l.length < 1073741824) (w : World) (h : RefAt N w r l) : Calls Try.prog 16 #[.pointer (some ⟨r, 0, none⟩)] w fun e w' => e = .returned (.tuple #[.int .i64 (minT l), .bool (someB l)]) ∧ Hid (Below w.heap.size w w') := by
  obtain ⟨h1, v, hH, hrow⟩ := h
  obtain ⟨a, c, rfl⟩ := row_slice hrow
  have HROW : Hid (w.ownsRow N 53 2 (.slice a l.length c) l.length (cellsR l)) := hrow
  have c0 := hH.at 0 _ rfl
  rw [someB_pos]
  obtain ⟨n, hn⟩ : ∃ n, l.length = n := ⟨_, rfl⟩
  have HN : Hid (l.length = n) := hn
  rw [hn] at hl c0 ⊢
  clear hH hrow hn
  go_enter Try.func16, Try.ntmps16
  go_wp2
  go_loopw [4, 5] (fun lv ci wr => ∃ i : Nat, ci = .int .i64 (i : Int) ∧ i ≤ n ∧ lv = .int .i64 (minT (l.take i)) ∧ wr = w) (fun _ ci _ => n - (intOf ci).toNat)
  case atStart => exact ⟨0, rfl, Nat.zero_le _, rfl, rfl⟩
  case round =>
    obtain ⟨i, rfl, hi, rfl, rfl⟩ := hrel
    by_cases hlt : i < n
    · have g1 : (i : Int) < (n : Int) := by omega
      have g0 : (0 : Int) ≤ (i : Int) := by omega
      obtain ⟨⟨x1, x2, x3⟩, hx⟩ : ∃ x, l[i]? = some x := ⟨_, List.getElem?_eq_getElem (by rw [HN.out]; exact hlt)⟩
      obtain ⟨g, rfl, hg, d0, d1⟩ := row_rf HROW.out hx
      have htk : l.take (i + 1) = l.take i ++ [(x1, x2, x3)] := by rw [List.take_add_one, hx]; rfl
      have HS : Hid (minT (l.take (i + 1)) = if l.take i = [] then x2 else if x2 < minT (l.take i) then x2 else minT (l.take i)) := by
        show minT (l.take (i + 1)) = _
        rw [htk, minT_snoc]
      have HZ : Hid (l.take i = [] ↔ i = 0) := by
        show l.take i = [] ↔ i = 0
        rw [List.take_eq_nil_iff]
        constructor
        · rintro (h | h)
          · exact h
          · exfalso
            have := HN.out
            rw [h] at this
            simp at this; omega
        · exact fun h => .inl h
      clear hx htk
      obtain ⟨lp, hlp⟩ : ∃ lp, minT (l.take i) = lp := ⟨_, rfl⟩
      rw [hlp] at HS ⊢
      clear hlp d1
      by_cases h0 : i = 0
      · subst h0
        go_wp2
        go_roundw
        case rel => exact ⟨1, by go_num, by omega, by rw [HS.out, if_pos (HZ.out.2 rfl)], trivial⟩
        case measure => simp [intOf]; omega
      · have z1 : ((i : Int) == 0) = false := by simpa using h0
        have z2 : ¬ (i : Int) = 0 := by omega
        by_cases hx : x2 < lp
        · go_wp2
          go_roundw
          case rel => exact ⟨i + 1, by go_num, by omega, by rw [HS.out, if_neg (fun q => h0 (HZ.out.1 q)), if_pos hx], trivial⟩
          case measure => simp [intOf]; omega
        · go_wp2
          go_roundw
          case rel => exact ⟨i + 1, by go_num, by omega, by rw [HS.out, if_neg (fun q => h0 (HZ.out.1 q)), if_neg hx], trivial⟩
          case measure => simp [intOf]; omega
    · obtain rfl : i = n := by omega
      have ht : l.take i = l := List.take_of_length_le (by rw [HN.out]; exact Nat.le_refl _)
      rw [ht]
      go_upto_region 7 with fail
      go_quiet (fail)
      go_wp2
      go_ret2
      exact ⟨rfl, belowD _ _ _⟩
set_option maxHeartbeats 3200000 in
set_option maxRecDepth 100000 in
theorem rat_any (N r : Nat) (l : Ts) (k : List UInt8) (hl : l.length < 1073741824) (w : World) (h : RefAt N w r l) : Calls Try.prog 19 #[.pointer (some ⟨r, 0, none⟩), .string (strL k)] w fun e w' => e = .returned (.tuple #[.int .i64 (atI (findT l k)), .bool (findT l k).isSome]) ∧ w' = w := by
  obtain ⟨h1, v, hH, hrow⟩ := h
  obtain ⟨a, c, rfl⟩ := row_slice hrow
  have HROW : Hid (w.ownsRow N 53 2 (.slice a l.length c) l.length (cellsR l)) := hrow
  have c0 := hH.at 0 _ rfl
  obtain ⟨n, hn⟩ : ∃ n, l.length = n := ⟨_, rfl⟩
  have HN : Hid (l.length = n) := hn
  obtain ⟨fa, hfa⟩ : ∃ fa, atI (findT l k) = fa := ⟨_, rfl⟩
  obtain ⟨fb, hfb⟩ : ∃ fb, (findT l k).isSome = fb := ⟨_, rfl⟩
  have HFA : Hid (atI (findT l k) = fa) := hfa
  have HFB : Hid ((findT l k).isSome = fb) := hfb
  rw [hfa, hfb]
  rw [hn] at hl c0
  clear hH hrow hn hfa hfb
  go_enter Try.func19, Try.ntmps19
  go_wp2
  go_loopw [6] (fun ci wr => ∃ i : Nat, ci = .int .i64 (i : Int) ∧ i ≤ n ∧ Hid (findT (l.take i) k = none) ∧ wr = w) (fun ci _ => n - (intOf ci).toNat)
  case atStart => exact ⟨0, rfl, Nat.zero_le _, rfl, rfl⟩
  case round =>
    obtain ⟨i, rfl, hi, hF, rfl⟩ := hrel
    by_cases hlt : i < n
    · have g1 : (i : Int) < (n : Int) := by omega
      have g0 : (0 : Int) ≤ (i : Int) := by omega
      obtain ⟨⟨x1, x2, x3⟩, hx⟩ : ∃ x, l[i]? = some x := ⟨_, List.getElem?_eq_getElem (by rw [HN.out]; exact hlt)⟩
      obtain ⟨g, rfl, hg, d0, d1⟩ := row_rf HROW.out hx
      have htk : l.take (i + 1) = l.take i ++ [(x1, x2, x3)] := by rw [List.take_add_one, hx]; rfl
      by_cases he : x1 = k
      · subst he
        have hf : findT l x1 = some (x1, x2, x3) := by
          have e : l = l.take (i + 1) ++ l.drop (i + 1) := (List.take_append_drop _ _).symm
          rw [e, htk, findT_append, findT_append, hF.out]
          simp [findT]
        have ea : fa = x2 := by rw [← HFA.out, hf]; rfl
        have eb : fb = true := by rw [← HFB.out, hf]; rfl
        subst ea eb
        have e1 := str_same x1
        clear hx htk hf
        go_wp2
        go_ret2
        exact ⟨rfl, rfl⟩
      · have HF : Hid (findT (l.take (i + 1)) k = none) := by
          show findT (l.take (i + 1)) k = none
          rw [htk, findT_append, hF.out]
          simp [findT, he]
        have e1 := str_ne he
        clear hx htk d0
        go_wp2
        go_roundw
        case rel => exact ⟨i + 1, by go_num, by omega, HF, trivial⟩
        case measure => simp [intOf]; omega
    · obtain rfl : i = n := by omega
      have ht : l.take i = l := List.take_of_length_le (by rw [HN.out]; exact Nat.le_refl _)
      have hf := hF.out
      rw [ht] at hf
      have ea : fa = 0 := by rw [← HFA.out, hf]; rfl
      have eb : fb = false := by rw [← HFB.out, hf]; rfl
      subst ea eb
      clear hf
      go_wp2
      go_ret2
      exact ⟨rfl, rfl⟩
set_option maxHeartbeats 3200000 in
set_option maxRecDepth 100000 in
theorem same_any (b1 b2 : Nat) (v1 v2 : Value) (ks : List (List UInt8)) (hl : ks.length < 1073741824) (w : World) (h1 : Strs b1 w v1 ks) (h2 : Strs b2 w v2 ks) : Calls Try.prog 11 #[v1, v2] w fun e w' => e = .returned (.bool true) ∧ Hid (Below w.heap.size w w') := by
  obtain ⟨a1, q1, rfl⟩ := h1.len
  obtain ⟨a2, q2, rfl⟩ := h2.len
  have H1 : Hid (Strs b1 w (.slice a1 ks.length q1) ks) := h1
  have H2 : Hid (Strs b2 w (.slice a2 ks.length q2) ks) := h2
  obtain ⟨n, hn⟩ : ∃ n, ks.length = n := ⟨_, rfl⟩
  have HN : Hid (ks.length = n) := hn
  rw [hn] at hl ⊢
  clear h1 h2 hn
  go_enter Try.func11, Try.ntmps11
  go_wp2
  go_loopw [5] (fun ci wr => ∃ i : Nat, ci = .int .i64 (i : Int) ∧ i ≤ n ∧ Hid (Below w.heap.size w wr)) (fun ci _ => n - (intOf ci).toNat)
  case atStart => exact ⟨0, rfl, Nat.zero_le _, Below.refl _ _⟩
  case round =>
    obtain ⟨i, rfl, hi, hB⟩ := hrel
    by_cases hlt : i < n
    · have g1 : (i : Int) < (n : Int) := by omega
      have g0 : (0 : Int) ≤ (i : Int) := by omega
      obtain ⟨k, hk⟩ : ∃ k, ks[i]? = some k := ⟨_, List.getElem?_eq_getElem (by rw [HN.out]; exact hlt)⟩
      obtain ⟨o1, p1, rfl, c1⟩ := (H1.out.below hB.out).cell i k hk
      obtain ⟨o2, p2, rfl, c2⟩ := (H2.out.below hB.out).cell i k hk
      have e1 := str_same k
      have HB : Hid (∀ q, Below w.heap.size w (wr.drewN q)) := fun q => hB.out.trans (belowD _ _ _)
      clear hk hB
      go_upto_region 6 with fail
      go_quiet (fail)
      go_wp2
      exact ⟨⟨i + 1, by go_num, by omega, HB.out _⟩, by simp [intOf]; omega⟩
    · go_wp2
      go_ret
      exact ⟨rfl, hB⟩
end Go.Proofs.Ytklkonmdllgeeaa
