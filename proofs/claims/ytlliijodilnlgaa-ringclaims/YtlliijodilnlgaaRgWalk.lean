/- What package ring's walk answers. -/
import Derived.Test.YtlliijodilnlgaaRgMem
namespace Go.Proofs.Ytlliijodilnlgaa
open Go.RowKit

theorem row_base {w : World} {base b : Nat} {e : TypeId} {size : Nat} {v : Value} {n : Nat} {xs : List Value} (h : w.ownsRow base e size v n xs) (hb : b ≤ base) : w.ownsRow b e size v n xs := by
  refine ⟨h.1, ?_⟩
  rcases h.2 with h0 | ⟨g, cap, cur, e1, e2, e3⟩
  · exact Or.inl h0
  · exact Or.inr ⟨g, cap, cur, e1, by omega, e3⟩
theorem startOf_lt (p : Int) : startOf p < 8 := by unfold startOf; omega
theorem startOf_eq (p : Int) : max p 0 % 8 = (startOf p : Int) := by unfold startOf; omega
set_option maxHeartbeats 1000000 in
theorem walk_any (o : List Int) (ho : o.length = 8) (p : Int) (w : World) :
    Calls Try.prog 26 #[.agg (intV o).toArray, .int .i64 p] w fun e w' => ∃ v, e = .returned v ∧ w'.ownsRow w.heap.size 3 1 v (walkL o p).length (intV (walkL o p)) ∧ Below w.heap.size w w' := by
  obtain ⟨n, hn⟩ : ∃ n, w.heap.size = n := ⟨_, rfl⟩
  rw [hn]
  obtain ⟨i3, f3, hz3, hs3, hb3⟩ := inf3
  have F3 : Hid (Try.prog.info? 3 = some i3) := f3
  have HO : Hid (o.length = 8) := ho
  have hse := startOf_eq p
  have hs8 := startOf_lt p
  have hW : Hid (walkL o p = walkUp o (startOf p) 8) := rfl
  clear f3 ho
  go_enter Try.func26, Try.ntmps26
  go_wp2_with (first
    | (refine wpList_box_new 2 rfl rfl 23 _ rfl n hn _ rfl ?_; intro w1 h1))
  rw [hse]
  generalize startOf p = s at hs8 hW ⊢
  obtain ⟨h1o, h1s, h1h, h1b⟩ := h1
  have HH : Hid (Holds w1 n (intV o) 23) := h1h
  have HB1 : Hid (Below n w w1) := h1b
  clear hse h1h h1b h1o
  go_loopw [6, 12] (fun v c wr => ∃ k : Nat, k ≤ 8 ∧ c = .int .i64 (k : Int) ∧ wr.ownsRow (n + 1) 3 1 v (walkUp o s k).length (intV (walkUp o s k)) ∧ Below (n + 1) w1 wr) (fun _ c _ => 8 - (intOf c).toNat)
  case atStart => exact ⟨0, by omega, rfl, World.ownsRow_nil _ _ _ _, Below.refl _ _⟩
  case round =>
  obtain ⟨k, hk, rfl, hown, hB⟩ := hrel
  by_cases hlt : k < 8
  · obtain ⟨j, hj, hje⟩ : ∃ j : Nat, j < 8 ∧ ((s : Int) + (k : Int)) % 8 = (j : Int) := ⟨(s + k) % 8, by omega, by omega⟩
    have hjn : Hid ((s + k) % 8 = j) := by have := hje; unfold Hid; omega
    have hcell : wr.cell? ⟨n, j, none⟩ = some (.int .i64 (o.getD j 0)) := (HH.out.below hB (by omega)).at j _ (intV_at o j (by rw [HO.out]; exact hj))
    obtain ⟨x, hx⟩ : ∃ x, o.getD j 0 = x := ⟨_, rfl⟩
    rw [hx] at hcell
    have hlen := walkUp_len o s k
    have hsucc : Hid (walkUp o s (k + 1) = addN (walkUp o s k) x) := by
      show addN (walkUp o s k) (o.getD ((s + k) % 8) 0) = _
      rw [hjn.out, hx]
    generalize hL : walkUp o s k = L at hown hlen hsucc
    obtain ⟨at_, ct, rfl⟩ := row_slice hown
    have hSome : Hid (∀ W, Calls Try.prog 18 #[.int .i64 x] W fun e w' => e = .returned (.bool (decide (0 < x))) ∧ w' = W) := fun W => somebody_any x W
    have hCon : Hid (Calls Try.prog 32 #[.slice at_ L.length ct, .int .i64 x] wr fun e w' => e = .returned (.bool (L.contains x)) ∧ w' = wr) := contains_any _ wr _ L x (ints_of_row hown) (by omega)
    clear hL
    have i1 : (k : Int) < 8 := by omega
    have j0 : (0 : Int) ≤ (j : Int) := by omega
    have j1 : (j : Int) < 8 := by omega
    have HOW : Hid (wr.ownsRow (n + 1) 3 1 (.slice at_ L.length ct) L.length (intV L)) := hown
    have HB : Hid (Below (n + 1) w1 wr) := hB
    have hsz : n + 1 ≤ wr.heap.size := by have := hB.size; omega
    clear hown hB hjn hx
    by_cases hx0 : 0 < x
    · have hS2 : Hid (∀ W, Calls Try.prog 18 #[.int .i64 x] W fun e w' => e = .returned (.bool true) ∧ w' = W) := fun W => by
        have := hSome.out W
        rwa [decide_eq_true hx0] at this
      by_cases hcx : L.contains x = true
      · have hC2 : Hid (Calls Try.prog 32 #[.slice at_ L.length ct, .int .i64 x] wr fun e w' => e = .returned (.bool true) ∧ w' = wr) := by
          have := hCon.out
          rwa [hcx] at this
        have hsu : Hid (walkUp o s (k + 1) = L) := by
          show _ = _
          rw [hsucc.out, addN, if_neg (by rw [hcx]; simp)]
        clear hSome hCon hsucc hcx
        go_wp2_with (first
          | (go_at_call 18; refine (hS2.out _).mono ?_; rintro e w2 ⟨rfl, rfl⟩)
          | (go_at_call 32; refine hC2.out.mono ?_; rintro e w2 ⟨rfl, rfl⟩))
        exact ⟨⟨k + 1, by omega, by go_num, by rw [hsu.out]; exact HOW.out, HB.out⟩, by simp [intOf]; omega⟩
      · have hcf : L.contains x = false := by simpa using hcx
        have hC2 : Hid (Calls Try.prog 32 #[.slice at_ L.length ct, .int .i64 x] wr fun e w' => e = .returned (.bool false) ∧ w' = wr) := by
          have := hCon.out
          rwa [hcf] at this
        have hsu : Hid (walkUp o s (k + 1) = L ++ [x]) := by
          show _ = _
          rw [hsucc.out, addN, if_pos ⟨hx0, hcf⟩]
        clear hSome hCon hsucc hcx hcf
        have HNC : Hid (∀ (j : Nat) (u : Value), [Value.int .i64 x][j]? = some u → (wr.alloc (.cells #[.int .i64 x] 3)).cell? (Addr.add ⟨wr.heap.size, 0, none⟩ j) = some u) := fun j u hu => World.news_of_block (heap_alloc_new wr _) j u hu
        go_wp2_with (first
          | (go_at_call 18; refine (hS2.out _).mono ?_; rintro e w2 ⟨rfl, rfl⟩)
          | (go_at_call 32; refine hC2.out.mono ?_; rintro e w2 ⟨rfl, rfl⟩)
          | (at_builtin; refine wpList_append_src rfl (.tmp 29) (.tmp 31) 24 rfl (n + 1) 3 i3 _ 1 8 und24 F3.out hz3 hs3 hb3 (by rfl) (by omega) _ _ _ (HOW.out.alloc _) rfl [.int .i64 x] _ 1 1 rfl (by rfl) (fun _ => ⟨_, rfl, fun j u hu => HNC.out j u hu⟩) (fun u hu => by simp at hu; subst hu; rfl) (by unfold maxLen; omega) (by omega) (by simp; omega) ?_; intro v3 w3 own3 gr3 _))
        have e3 : intV L ++ [.int .i64 x] = intV (walkUp o s (k + 1)) := by rw [hsu.out]; simp [intV]
        have l3 : L.length + 1 = (walkUp o s (k + 1)).length := by rw [hsu.out]; simp
        rw [e3, l3] at own3
        exact ⟨⟨k + 1, by omega, by go_num, own3, (HB.out.trans ((Below.refl _ _).alloc hsz _)).grown gr3 (by simp; omega) (fun j e => own3_base HOW.out j e)⟩, by simp [intOf]; omega⟩
    · have hS2 : Hid (∀ W, Calls Try.prog 18 #[.int .i64 x] W fun e w' => e = .returned (.bool false) ∧ w' = W) := fun W => by
        have := hSome.out W
        rwa [decide_eq_false hx0] at this
      have hsu : Hid (walkUp o s (k + 1) = L) := by
        show _ = _
        rw [hsucc.out, addN, if_neg (fun q => hx0 q.1)]
      clear hSome hCon hsucc
      go_wp2_with (go_at_call 18; refine (hS2.out _).mono ?_; rintro e w2 ⟨rfl, rfl⟩)
      exact ⟨⟨k + 1, by omega, by go_num, by rw [hsu.out]; exact HOW.out, HB.out⟩, by simp [intOf]; omega⟩
  · have e8 : k = 8 := by omega
    subst e8
    rw [← hW.out] at hown
    generalize hL : walkL o p = L at hown
    obtain ⟨at_, ct, rfl⟩ := row_slice hown
    have HOW : Hid (wr.ownsRow (n + 1) 3 1 (.slice at_ L.length ct) L.length (intV L)) := hown
    have HB : Hid (Below (n + 1) w1 wr) := hB
    clear hown hB hlt
    go_wp2
    go_ret
    rw [hL]
    exact ⟨_, rfl, row_base HOW.out (by omega), HB1.out.trans (HB.out.mono (by omega))⟩
end Go.Proofs.Ytlliijodilnlgaa
