/- What the law's in, and package ring's Owned and Transfers, answer. -/
import Derived.Test.YtlliijodilnlgaaRgTally
namespace Go.Proofs.Ytlliijodilnlgaa
open Go.RowKit

set_option maxHeartbeats 1000000 in
theorem in_any (B : Nat) (v : Value) (l : List Int) (x : Int) (w : World) (hv : Ints B w v l) (hl : l.length ≤ 9223372036854775807) :
    Calls Try.prog 16 #[v, .int .i64 x] w fun e w' => e = .returned (.bool (l.contains x)) ∧ w' = w := by
  obtain ⟨a, cap, rfl⟩ := hv.len
  have HV : Hid (Ints B w (.slice a l.length cap) l) := hv
  obtain ⟨ln, hln⟩ : ∃ ln, l.length = ln := ⟨_, rfl⟩
  rw [hln] at hl HV ⊢
  have HL : Hid (l.length = ln) := hln
  generalize hc : l.contains x = c
  have HC : Hid (l.contains x = c) := hc
  clear hv hln hc
  go_enter Try.func16, Try.ntmps16
  go_wp2
  go_loopw [5] (fun c wr => ∃ k : Nat, k ≤ ln ∧ c = .int .i64 (k : Int) ∧ Hid (¬ x ∈ l.take k) ∧ wr = w) (fun c _ => ln - (intOf c).toNat)
  case atStart => exact ⟨0, by omega, rfl, by show ¬ x ∈ l.take 0; simp, rfl⟩
  case round =>
  obtain ⟨k, hk, rfl, HN, rfl⟩ := hrel
  by_cases hlt : k < ln
  · obtain ⟨y, hy⟩ : ∃ y, l[k]? = some y := ⟨_, List.getElem?_eq_getElem (by rw [HL.out]; exact hlt)⟩
    obtain ⟨g, o, rfl, hcell⟩ := HV.out.cell k y hy
    have i0 : (0 : Int) ≤ (k : Int) := by omega
    have i1 : (k : Int) < (ln : Int) := by omega
    by_cases he : y = x
    · subst he
      have ht : c = true := by
        rw [← HC.out]
        simpa using List.mem_of_getElem? hy
      subst ht
      clear hy
      go_wp2
      go_ret
      exact ⟨rfl, rfl⟩
    · have hne : ¬ y = x := he
      have hnb : (y == x) = false := by simpa using he
      have HN2 : Hid (¬ x ∈ l.take (k + 1)) := by
        have h0 := HN.out
        show ¬ x ∈ l.take (k + 1)
        rw [List.take_add_one, hy]
        simp at h0 ⊢
        exact ⟨h0, fun q => hne q.symm⟩
      clear hy
      go_wp2
      exact ⟨⟨k + 1, by omega, by go_num, HN2, trivial⟩, by simp [intOf]; omega⟩
  · have i1 : ¬ (k : Int) < (ln : Int) := by omega
    have hf : c = false := by
      have h0 := HN.out
      rw [List.take_of_length_le (by rw [HL.out]; omega)] at h0
      rw [← HC.out]
      simpa using h0
    subst hf
    go_wp2
    go_ret
    exact ⟨rfl, rfl⟩
/-- The partitions that a node owns. -/
def ownedTo (o : List Int) (node : Int) (k : Nat) : List Int := ((List.range k).filter fun i => decide (o.getD i 0 = node ∧ 0 < node)).map fun n => ((n : Nat) : Int)
def ownedL (o : List Int) (node : Int) : List Int := ownedTo o node 8
theorem ownedTo_succ (o : List Int) (node : Int) (k : Nat) : ownedTo o node (k + 1) = ownedTo o node k ++ (if o.getD k 0 = node ∧ 0 < node then [(k : Int)] else []) := by
  unfold ownedTo
  rw [List.range_succ, List.filter_append, List.map_append]
  congr 1
  by_cases h : o.getD k 0 = node ∧ 0 < node
  · rw [if_pos h, List.filter_cons_of_pos (by simpa using h)]; rfl
  · rw [if_neg h, List.filter_cons_of_neg (by simpa using h)]; rfl
theorem ownedTo_len (o : List Int) (node : Int) (k : Nat) : (ownedTo o node k).length ≤ k := by
  unfold ownedTo
  rw [List.length_map]
  exact Nat.le_trans (List.length_filter_le ..) (by simp)
set_option maxHeartbeats 1000000 in
theorem owned_any (o : List Int) (ho : o.length = 8) (node : Int) (w : World) :
    Calls Try.prog 17 #[.agg (intV o).toArray, .int .i64 node] w fun e w' => ∃ v, e = .returned v ∧ w'.ownsRow w.heap.size 3 1 v (ownedL o node).length (intV (ownedL o node)) ∧ Below w.heap.size w w' := by
  obtain ⟨n, hn⟩ : ∃ n, w.heap.size = n := ⟨_, rfl⟩
  rw [hn]
  obtain ⟨i3, f3, hz3, hs3, hb3⟩ := inf3
  have F3 : Hid (Try.prog.info? 3 = some i3) := f3
  have HO : Hid (o.length = 8) := ho
  have HI : Hid (∀ k : Nat, k < 8 → ∀ W, (Instr.index 23 (.agg (intV o).toArray) (.int .i64 (k : Int))).run Try.prog W = .ok (.int .i64 (o.getD k 0)) W) := fun k hk W => index_own o ho k hk W
  have hSome : Hid (∀ W, Calls Try.prog 18 #[.int .i64 node] W fun e w' => e = .returned (.bool (decide (0 < node))) ∧ w' = W) := fun W => somebody_any node W
  clear f3 ho
  go_enter Try.func17, Try.ntmps17
  go_wp2_with (first
    | (refine wpList_box_new 2 rfl rfl 23 _ rfl n hn _ rfl ?_; intro w1 h1)
    | (refine wpList_load_all rfl 23 _ rfl _ rfl 23 (intV o) 8 3 h1.holds und23 (by rw [siz23, intV_len, HO.out]) ?_))
  obtain ⟨h1o, h1s, h1h, h1b⟩ := h1
  have HB1 : Hid (Below n w w1) := h1b
  clear h1h h1b h1o
  go_loopw [5, 9] (fun v c wr => ∃ k : Nat, k ≤ 8 ∧ c = .int .i64 (k : Int) ∧ wr.ownsRow (n + 1) 3 1 v (ownedTo o node k).length (intV (ownedTo o node k)) ∧ Below (n + 1) w1 wr) (fun _ c _ => 8 - (intOf c).toNat)
  case atStart => exact ⟨0, by omega, rfl, World.ownsRow_nil _ _ _ _, Below.refl _ _⟩
  case round =>
  obtain ⟨k, hk, rfl, hown, hB⟩ := hrel
  by_cases hlt : k < 8
  · have hix := HI.out k hlt
    have hstep := ownedTo_succ o node k
    have hlen := ownedTo_len o node k
    generalize o.getD k 0 = x at hix hstep
    generalize ownedTo o node k = L at hown hlen hstep
    obtain ⟨at_, ct, rfl⟩ := row_slice hown
    have i0 : (0 : Int) ≤ (k : Int) := by omega
    have i1 : (k : Int) < 8 := by omega
    have HOW : Hid (wr.ownsRow (n + 1) 3 1 (.slice at_ L.length ct) L.length (intV L)) := hown
    have HB : Hid (Below (n + 1) w1 wr) := hB
    have hsz : n + 1 ≤ wr.heap.size := by have := hB.size; omega
    clear hown hB
    by_cases hxe : x = node
    · have hxb : (x == node) = true := by simpa using hxe
      by_cases hn0 : 0 < node
      · have hS2 : Hid (∀ W, Calls Try.prog 18 #[.int .i64 node] W fun e w' => e = .returned (.bool true) ∧ w' = W) := fun W => by
          have := hSome.out W
          rwa [decide_eq_true hn0] at this
        have hst : Hid (ownedTo o node (k + 1) = L ++ [(k : Int)]) := by
          show _ = _
          rw [hstep, if_pos ⟨hxe, hn0⟩]
        have HNC : Hid (∀ (j : Nat) (u : Value), [Value.int .i64 (k : Int)][j]? = some u → (wr.alloc (.cells #[.int .i64 (k : Int)] 3)).cell? (Addr.add ⟨wr.heap.size, 0, none⟩ j) = some u) := fun j u hu => World.news_of_block (heap_alloc_new wr _) j u hu
        clear hSome hstep hxe
        go_wp2_with (first
          | (go_at_call 18; refine (hS2.out _).mono ?_; rintro e w2 ⟨rfl, rfl⟩)
          | (at_builtin; refine wpList_append_src rfl (.tmp 20) (.tmp 22) 24 rfl (n + 1) 3 i3 _ 1 8 und24 F3.out hz3 hs3 hb3 (by rfl) (by omega) _ _ _ (HOW.out.alloc _) rfl [.int .i64 (k : Int)] _ 1 1 rfl (by rfl) (fun _ => ⟨_, rfl, fun j u hu => HNC.out j u hu⟩) (fun u hu => by simp at hu; subst hu; rfl) (by unfold maxLen; omega) (by omega) (by simp; omega) ?_; intro v3 w3 own3 gr3 _))
        have e3 : intV L ++ [.int .i64 (k : Int)] = intV (ownedTo o node (k + 1)) := by rw [hst.out]; simp [intV]
        have l3 : L.length + 1 = (ownedTo o node (k + 1)).length := by rw [hst.out]; simp
        rw [e3, l3] at own3
        exact ⟨⟨k + 1, by omega, by go_num, own3, (HB.out.trans ((Below.refl _ _).alloc hsz _)).grown gr3 (by simp; omega) (fun j e => own3_base HOW.out j e)⟩, by simp [intOf]; omega⟩
      · have hS2 : Hid (∀ W, Calls Try.prog 18 #[.int .i64 node] W fun e w' => e = .returned (.bool false) ∧ w' = W) := fun W => by
          have := hSome.out W
          rwa [decide_eq_false hn0] at this
        have hst : Hid (ownedTo o node (k + 1) = L) := by
          show _ = _
          rw [hstep, if_neg (fun q => hn0 q.2), List.append_nil]
        clear hSome hstep hxe
        go_wp2_with (go_at_call 18; refine (hS2.out _).mono ?_; rintro e w2 ⟨rfl, rfl⟩)
        exact ⟨⟨k + 1, by omega, by go_num, by rw [hst.out]; exact HOW.out, HB.out⟩, by simp [intOf]; omega⟩
    · have hxb : (x == node) = false := by simpa using hxe
      have hst : Hid (ownedTo o node (k + 1) = L) := by
        show _ = _
        rw [hstep, if_neg (fun q => hxe q.1), List.append_nil]
      clear hSome hstep
      go_wp2
      exact ⟨⟨k + 1, by omega, by go_num, by rw [hst.out]; exact HOW.out, HB.out⟩, by simp [intOf]; omega⟩
  · have e8 : k = 8 := by omega
    subst e8
    have HLe : Hid (ownedTo o node 8 = ownedL o node) := rfl
    rw [HLe.out] at hown
    generalize hL : ownedL o node = L at hown
    have HL : Hid (ownedL o node = L) := hL
    obtain ⟨at_, ct, rfl⟩ := row_slice hown
    have HOW : Hid (wr.ownsRow (n + 1) 3 1 (.slice at_ L.length ct) L.length (intV L)) := hown
    have HB : Hid (Below (n + 1) w1 wr) := hB
    clear hown hB hlt hL
    go_wp2
    go_ret
    rw [HL.out]
    exact ⟨_, rfl, row_base HOW.out (by omega), HB1.out.trans (HB.out.mono (by omega))⟩
/-- what moves. -/
def mvV (l : List (Nat × Int × Int)) : List Value := l.flatMap fun e => [.int .i64 (e.1 : Int), .int .i64 e.2.1, .int .i64 e.2.2]
def movTo (a b : List Int) (k : Nat) : List (Nat × Int × Int) := ((List.range k).filter fun i => decide (b.getD i 0 ≠ a.getD i 0 ∧ 0 < a.getD i 0 ∧ 0 < b.getD i 0)).map fun i => (i, a.getD i 0, b.getD i 0)
def movL (a b : List Int) : List (Nat × Int × Int) := movTo a b 8
theorem movTo_succ (a b : List Int) (k : Nat) : movTo a b (k + 1) = movTo a b k ++ (if b.getD k 0 ≠ a.getD k 0 ∧ 0 < a.getD k 0 ∧ 0 < b.getD k 0 then [(k, a.getD k 0, b.getD k 0)] else []) := by
  unfold movTo
  rw [List.range_succ, List.filter_append, List.map_append]
  congr 1
  by_cases h : b.getD k 0 ≠ a.getD k 0 ∧ 0 < a.getD k 0 ∧ 0 < b.getD k 0
  · rw [if_pos h, List.filter_cons_of_pos (by simpa using h)]; rfl
  · rw [if_neg h, List.filter_cons_of_neg (by simpa using h)]; rfl
theorem movTo_len (a b : List Int) (k : Nat) : (movTo a b k).length ≤ k := by
  unfold movTo
  rw [List.length_map]
  exact Nat.le_trans (List.length_filter_le ..) (by simp)
theorem full29 : (Try.prog.info? 29).map (fun i => (i.zero, i.size, i.bytes)) = some (some (.agg #[.int .i64 0, .int .i64 0, .int .i64 0]), 3, 24) := by kernel_rfl
theorem inf29 : ∃ i, Try.prog.info? 29 = some i ∧ i.zero = some (.agg #[.int .i64 0, .int .i64 0, .int .i64 0]) ∧ i.size = 3 ∧ i.bytes = 24 := by
  have := full29
  cases h : Try.prog.info? 29 with
  | none => simp [h] at this
  | some i =>
    simp [h] at this
    exact ⟨i, rfl, this.1, this.2.1, this.2.2⟩
theorem und26 : Try.prog.underlying 26 = some (.slice 29) := by kernel_rfl
set_option maxHeartbeats 1000000 in
theorem transfers_any (a b : List Int) (ha : a.length = 8) (hbl : b.length = 8) (w : World) :
    Calls Try.prog 8 #[.agg (intV a).toArray, .agg (intV b).toArray] w fun e w' => ∃ v, e = .returned v ∧ w'.ownsRow w.heap.size 29 3 v (movL a b).length (mvV (movL a b)) ∧ Below w.heap.size w w' := by
  obtain ⟨n, hn⟩ : ∃ n, w.heap.size = n := ⟨_, rfl⟩
  rw [hn]
  obtain ⟨i29, f29, hz29, hs29, hb29⟩ := inf29
  have F29 : Hid (Try.prog.info? 29 = some i29) := f29
  have HA : Hid (a.length = 8) := ha
  have HBl : Hid (b.length = 8) := hbl
  have HI : Hid (∀ k : Nat, k < 8 → ∀ W, (Instr.index 23 (.agg (intV a).toArray) (.int .i64 (k : Int))).run Try.prog W = .ok (.int .i64 (a.getD k 0)) W) := fun k hk W => index_own a ha k hk W
  clear f29 ha hbl
  go_enter Try.func8, Try.ntmps8
  go_wp2_with (first
    | (refine wpList_box_new 2 rfl rfl 23 _ rfl n hn _ rfl ?_; intro w1 h1)
    | (refine wpList_box_new 3 rfl rfl 23 _ rfl (n + 1) h1.size _ rfl ?_; intro w2 h2)
    | (refine wpList_load_all rfl 23 _ rfl _ rfl 23 (intV a) 8 3 (h1.holds.below h2.below (by omega)) und23 (by rw [siz23, intV_len, HA.out]) ?_))
  have HB1 : Hid (Below n w w2) := h1.below.trans (h2.below.mono (by omega))
  have HH : Hid (Holds w2 (n + 1) (intV b) 23) := h2.holds
  have h2s := h2.size
  clear h1 h2
  go_loopw [5, 10] (fun v c wr => ∃ k : Nat, k ≤ 8 ∧ c = .int .i64 (k : Int) ∧ wr.ownsRow (n + 2) 29 3 v (movTo a b k).length (mvV (movTo a b k)) ∧ Below (n + 2) w2 wr) (fun _ c _ => 8 - (intOf c).toNat)
  case atStart => exact ⟨0, by omega, rfl, World.ownsRow_nil _ _ _ _, Below.refl _ _⟩
  case round =>
  obtain ⟨k, hk, rfl, hown, hB⟩ := hrel
  by_cases hlt : k < 8
  · have hix := HI.out k hlt
    have hcell : wr.cell? ⟨n + 1, k, none⟩ = some (.int .i64 (b.getD k 0)) := (HH.out.below hB (by omega)).at k _ (intV_at b k (by rw [HBl.out]; exact hlt))
    have hstep := movTo_succ a b k
    have hlen := movTo_len a b k
    generalize a.getD k 0 = x at hix hstep
    generalize b.getD k 0 = y at hcell hstep
    generalize movTo a b k = L at hown hlen hstep
    obtain ⟨at_, ct, rfl⟩ := row_slice hown
    have i0 : (0 : Int) ≤ (k : Int) := by omega
    have i1 : (k : Int) < 8 := by omega
    have hSx : Hid (∀ W, Calls Try.prog 18 #[.int .i64 x] W fun e w' => e = .returned (.bool (decide (0 < x))) ∧ w' = W) := fun W => somebody_any x W
    have hSy : Hid (∀ W, Calls Try.prog 18 #[.int .i64 y] W fun e w' => e = .returned (.bool (decide (0 < y))) ∧ w' = W) := fun W => somebody_any y W
    have HOW : Hid (wr.ownsRow (n + 2) 29 3 (.slice at_ L.length ct) L.length (mvV L)) := hown
    have HB : Hid (Below (n + 2) w2 wr) := hB
    have hsz : n + 2 ≤ wr.heap.size := by have := hB.size; omega
    clear hown hB
    by_cases hxe : y = x
    · subst hxe
      have hst : Hid (movTo a b (k + 1) = L) := by
        show _ = _
        rw [hstep, if_neg (fun q => q.1 rfl), List.append_nil]
      clear hstep hSx hSy
      go_wp2
      exact ⟨⟨k + 1, by omega, by go_num, by rw [hst.out]; exact HOW.out, HB.out⟩, by simp [intOf]; omega⟩
    · have hxb : (y == x) = false := by simpa using hxe
      have hxb2 : (y != x) = true := by simpa using hxe
      by_cases hx0 : 0 < x
      · have hS1 : Hid (∀ W, Calls Try.prog 18 #[.int .i64 x] W fun e w' => e = .returned (.bool true) ∧ w' = W) := fun W => by
          have := hSx.out W
          rwa [decide_eq_true hx0] at this
        by_cases hy0 : 0 < y
        · have hS2 : Hid (∀ W, Calls Try.prog 18 #[.int .i64 y] W fun e w' => e = .returned (.bool true) ∧ w' = W) := fun W => by
            have := hSy.out W
            rwa [decide_eq_true hy0] at this
          have hst : Hid (movTo a b (k + 1) = L ++ [(k, x, y)]) := by
            show _ = _
            rw [hstep, if_pos ⟨hxe, hx0, hy0⟩]
          have HNC : Hid (∀ (j : Nat) (u : Value), [Value.int .i64 (k : Int), .int .i64 x, .int .i64 y][j]? = some u → (wr.alloc (.cells #[.int .i64 (k : Int), .int .i64 x, .int .i64 y] 29)).cell? (Addr.add ⟨wr.heap.size, 0, none⟩ j) = some u) := fun j u hu => World.news_of_block (heap_alloc_new wr _) j u hu
          clear hSx hSy hstep hxe
          go_wp2_with (first
            | (go_at_call_of 18 (Value.int .i64 x); refine (hS1.out _).mono ?_; rintro e w4 ⟨rfl, rfl⟩)
            | (go_at_call_of 18 (Value.int .i64 y); refine (hS2.out _).mono ?_; rintro e w4 ⟨rfl, rfl⟩)
            | (at_builtin; refine wpList_append_src rfl (.tmp 28) (.tmp 33) 26 rfl (n + 2) 29 i29 _ 3 24 und26 F29.out hz29 hs29 hb29 (by rfl) (by omega) _ _ _ (HOW.out.alloc _) rfl [.int .i64 (k : Int), .int .i64 x, .int .i64 y] _ 1 1 rfl (by rfl) (fun _ => ⟨_, rfl, fun j u hu => HNC.out j u hu⟩) (fun u hu => by simp at hu; rcases hu with rfl | rfl | rfl <;> rfl) (by unfold maxLen; omega) (by omega) (by simp; omega) ?_; intro v3 w3 own3 gr3 _))
          have e3 : mvV L ++ [.int .i64 (k : Int), .int .i64 x, .int .i64 y] = mvV (movTo a b (k + 1)) := by rw [hst.out]; simp [mvV]
          have l3 : L.length + 1 = (movTo a b (k + 1)).length := by rw [hst.out]; simp
          rw [e3, l3] at own3
          exact ⟨⟨k + 1, by omega, by go_num, own3, (HB.out.trans ((Below.refl _ _).alloc hsz _)).grown gr3 (by simp; omega) (fun j e => own3_base HOW.out j e)⟩, by simp [intOf]; omega⟩
        · have hS2 : Hid (∀ W, Calls Try.prog 18 #[.int .i64 y] W fun e w' => e = .returned (.bool false) ∧ w' = W) := fun W => by
            have := hSy.out W
            rwa [decide_eq_false hy0] at this
          have hst : Hid (movTo a b (k + 1) = L) := by
            show _ = _
            rw [hstep, if_neg (fun q => hy0 q.2.2), List.append_nil]
          clear hSx hSy hstep hxe
          go_wp2_with (first
            | (go_at_call_of 18 (Value.int .i64 x); refine (hS1.out _).mono ?_; rintro e w4 ⟨rfl, rfl⟩)
            | (go_at_call_of 18 (Value.int .i64 y); refine (hS2.out _).mono ?_; rintro e w4 ⟨rfl, rfl⟩))
          exact ⟨⟨k + 1, by omega, by go_num, by rw [hst.out]; exact HOW.out, HB.out⟩, by simp [intOf]; omega⟩
      · have hS1 : Hid (∀ W, Calls Try.prog 18 #[.int .i64 x] W fun e w' => e = .returned (.bool false) ∧ w' = W) := fun W => by
          have := hSx.out W
          rwa [decide_eq_false hx0] at this
        have hst : Hid (movTo a b (k + 1) = L) := by
          show _ = _
          rw [hstep, if_neg (fun q => hx0 q.2.1), List.append_nil]
        clear hSx hSy hstep hxe
        go_wp2_with (go_at_call 18; refine (hS1.out _).mono ?_; rintro e w4 ⟨rfl, rfl⟩)
        exact ⟨⟨k + 1, by omega, by go_num, by rw [hst.out]; exact HOW.out, HB.out⟩, by simp [intOf]; omega⟩
  · have e8 : k = 8 := by omega
    subst e8
    have HLe : Hid (movTo a b 8 = movL a b) := rfl
    rw [HLe.out] at hown
    generalize hL : movL a b = L at hown
    have HL : Hid (movL a b = L) := hL
    obtain ⟨at_, ct, rfl⟩ := row_slice hown
    have HOW : Hid (wr.ownsRow (n + 2) 29 3 (.slice at_ L.length ct) L.length (mvV L)) := hown
    have HB : Hid (Below (n + 2) w2 wr) := hB
    clear hown hB hlt hL
    go_wp2
    go_ret
    rw [HL.out]
    exact ⟨_, rfl, row_base HOW.out (by omega), HB1.out.trans (HB.out.mono (by omega))⟩
end Go.Proofs.Ytlliijodilnlgaa
