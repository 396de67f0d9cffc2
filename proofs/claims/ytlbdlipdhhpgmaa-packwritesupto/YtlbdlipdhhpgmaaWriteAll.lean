/- PackWrites' walk. -/
import Derived.Test.YtlbdlipdhhpgmaaWrites
import Derived.LaidEqlPtr
namespace Go.Proofs.Ytlbdlipdhhpgmaa
open Go.RowKit

theorem eql26 (w : World) (B : Nat) : (binOp .eql 26 (.pointer (some ⟨B, 0, none⟩)) (.pointer (some ⟨B, 0, none⟩))).run Try.prog w = .ok (.bool true) w := by
  cases h : Try.prog.info? 29 with
  | none =>
    have : (Try.prog.info? 29).isSome = true := by kernel_rfl
    rw [h] at this; cases this
  | some j => exact run_eql_ptr_same w ⟨B, 0, none⟩ Try.underlying26 h
set_option maxHeartbeats 3200000 in
set_option maxRecDepth 100000 in
theorem packWrites_walk (ts : List Th) (hts : ∀ t ∈ ts, t.n < 18446744073709551616 ∧ t.s.size ≤ 100000000) (ns : List Nat) (hns : ∀ x ∈ ns, x < 18446744073709551616) (xs : List ByteArray) (hxs : ∀ x ∈ xs, x.size ≤ 100000000)
    (a1 a2 a3 : Option Addr) (c1 c2 c3 : Nat) (w : World) (h1 : ThingsAt w a1 ts) (h2 : NumsAt w a2 ns) (h3 : TextsAt w a3 xs)
    (hT : (ts.flatMap thB).length ≤ 100000000) (hN : (ns.flatMap numL).length ≤ 100000000) (hX : (xs.flatMap textL).length ≤ 100000000) (l1 : ts.length ≤ 100000000) (l2 : ns.length ≤ 100000000) (l3 : xs.length ≤ 100000000) :
    Calls Try.prog 3 #[.slice a1 ts.length c1, .slice a2 ns.length c2, .slice a3 xs.length c3] w fun e w' => e = .returned (.bool true) ∧ Below w.heap.size w w' := by
  obtain ⟨N, hw⟩ : ∃ N, w.heap.size = N := ⟨_, rfl⟩
  have hts : Hid (∀ t ∈ ts, t.n < 18446744073709551616 ∧ t.s.size ≤ 100000000) := hts
  have hns : Hid (∀ x ∈ ns, x < 18446744073709551616) := hns
  have hxs : Hid (∀ x ∈ xs, x.size ≤ 100000000) := hxs
  have HT : Hid ((ts.flatMap thB).length ≤ 100000000) := hT
  have HN : Hid ((ns.flatMap numL).length ≤ 100000000) := hN
  have HX : Hid ((xs.flatMap textL).length ≤ 100000000) := hX
  have H1 : Hid (ThingsAt w a1 ts) := h1
  have H2 : Hid (NumsAt w a2 ns) := h2
  have H3 : Hid (TextsAt w a3 xs) := h3
  clear h1 h2 h3 hT hN hX
  obtain ⟨m1, hm1⟩ : ∃ m, ts.length = m := ⟨_, rfl⟩
  obtain ⟨m2, hm2⟩ : ∃ m, ns.length = m := ⟨_, rfl⟩
  obtain ⟨m3, hm3⟩ : ∃ m, xs.length = m := ⟨_, rfl⟩
  have M1 : Hid (ts.length = m1) := hm1
  have M2 : Hid (ns.length = m2) := hm2
  have M3 : Hid (xs.length = m3) := hm3
  rw [hm1] at l1 ⊢
  rw [hm2] at l2 ⊢
  rw [hm3] at l3 ⊢
  clear hm1 hm2 hm3
  have HW : Hid (w.heap.size = N) := hw
  rw [hw]
  clear hw
  go_enter Try.func3, Try.ntmps3
  go_wp2_with (go_at_call 9; refine (awake_any _).mono ?_; rintro e w1 ⟨rfl, b1⟩; rw [HW.out] at b1; obtain ⟨B, hB⟩ : ∃ B, w1.heap.size = B := ⟨_, rfl⟩; have hW1 : Wr (w1.alloc (.cells #[.slice none 0 0] 29)) B [] := (hB ▸ wr_new w1); have hNB : N ≤ B := (by have := b1.size; have := HW.out; omega); have b2 : Below N w (w1.alloc (.cells #[.slice none 0 0] 29)) := b1.alloc (by omega) _)
  go_loopw [9, 10] (fun q c wr => ∃ k : Nat, k ≤ m1 ∧ c = .int .i64 (k : Int) ∧ q = .string (strL ((ts.take k).flatMap thB)) ∧ Wr wr B ((ts.take k).flatMap thB) ∧ Below N w wr) (fun _ c _ => m1 - (intOf c).toNat)
  case atStart => exact ⟨0, by omega, rfl, rfl, hW1, b2⟩
  case round =>
    clear hW1 b2 b1
    obtain ⟨k, hk, rfl, rfl, hW, hb⟩ := hrel
    by_cases hlt : k < m1
    · obtain ⟨t, ht⟩ : ∃ t, ts[k]? = some t := ⟨ts[k]'(by have := M1.out; omega), List.getElem?_eq_getElem _⟩
      obtain ⟨hn, hs⟩ := hts.out t (List.mem_of_getElem? ht)
      rcases H1.out with h0 | ⟨g, o, rfl, hg, hL⟩
      · have := M1.out; omega
      have hflat := take_flat thB ts k t ht
      have hle := take_flat_len thB ts (k + 1)
      rw [hflat, List.length_append] at hle
      have hle2 := HT.out
      have hgN : g < N := by have := HW.out; omega
      have hcell : Hid (∀ W, Below N w W → ∀ (j : Nat) (v : Value), (thV t)[j]? = some v → W.cell? ⟨g, o + k * 4 + j, none⟩ = some v) := fun W hW j v hv => hL.below hW hgN k t ht j v hv
      obtain ⟨kd, ls, n, s⟩ := t
      have hn : n < 18446744073709551616 := hn
      have hs : s.size ≤ 100000000 := hs
      have HF : Hid ((ts.take (k + 1)).flatMap thB = (ts.take k).flatMap thB ++ thL kd n s) := hflat
      clear hflat ht
      have hbt : (thB ⟨kd, ls, n, s⟩).length = (thL kd n s).length := rfl
      have hlay : Hid (Calls Try.prog 10 #[.pointer (some ⟨B, 0, none⟩), .agg #[.int .i64 kd, .int .i64 ls, .int .u64 (n : Int), .string s]] wr fun e w' => e = .returned (.tuple #[]) ∧ Wr w' B ((ts.take (k + 1)).flatMap thB) ∧ WUpd B wr w') := by
        have := lay_some B _ kd ls n hn s wr hW (by omega)
        rw [← HF.out] at this
        exact this
      have hrb : Hid (∀ W, Calls Try.prog 11 #[.agg #[.int .i64 kd, .int .i64 ls, .int .u64 (n : Int), .string s]] W fun e w' => e = .returned (.string (strL (thL kd n s))) ∧ Below W.heap.size W w') := fun W => rbytes_any kd ls n hn s (by omega) W
      have hq1 : (strL ((ts.take k).flatMap thB)).size ≤ 100000000 := by rw [strL_size]; omega
      have hq2 : (strL (thL kd n s)).size ≤ 100000000 := by rw [strL_size]; omega
      have HA : Hid (strL ((ts.take k).flatMap thB) ++ strL (thL kd n s) = strL ((ts.take (k + 1)).flatMap thB)) := by
        show strL _ ++ strL _ = _
        rw [str_app, HF.out]
      generalize strL (thL kd n s) = q2 at *
      generalize strL ((ts.take k).flatMap thB) = q1 at *
      have d0 := hcell.out wr hb 0 _ rfl
      have d1 := hcell.out wr hb 1 _ rfl
      have d2 := hcell.out wr hb 2 _ rfl
      have d3 := hcell.out wr hb 3 _ rfl
      simp only [Nat.add_zero] at d0
      clear hle hle2 hbt hW
      go_wp2_with (first
        | (go_at_call 10; refine hlay.out.mono ?_; rintro e w3 ⟨rfl, h3, u3⟩; have b3 : Below N w w3 := hb.trans (u3.below hNB); have e0 := hcell.out w3 b3 0 _ rfl; have e1 := hcell.out w3 b3 1 _ rfl; have e2 := hcell.out w3 b3 2 _ rfl; have e3 := hcell.out w3 b3 3 _ rfl; simp only [Nat.add_zero] at e0)
        | (go_at_call 11; refine (hrb.out _).mono ?_; rintro e w4 ⟨rfl, b4⟩; have h4 := h3.below b4))
      refine ⟨⟨k + 1, by omega, rfl, by rw [HA.out], h4, b3.trans (b4.mono (by have := b3.size; have := HW.out; omega))⟩, by simp; omega⟩
    · have htk : ts.take k = ts := List.take_of_length_le (by have := M1.out; omega)
      rw [htk] at hW ⊢
      clear htk
      have hT := HT.out
      have hNn := HN.out
      have hXx := HX.out
      have c12 : Hid (Calls Try.prog 12 #[.pointer (some ⟨B, 0, none⟩), .slice a2 m2 c2] wr fun e w' => e = .returned (.pointer (some ⟨B, 0, none⟩)) ∧ Wr w' B (ts.flatMap thB ++ ns.flatMap numL) ∧ WUpd B wr w') := by
        have := wnums_list B _ ns hns.out a2 c2 wr w hW H2.out (by rw [HW.out]; exact hNB) (by rw [HW.out]; exact hb) (by omega) (by have := M2.out; omega)
        rw [M2.out] at this
        exact this
      have c13 : Hid (∀ W, Below N w W → Wr W B (ts.flatMap thB ++ ns.flatMap numL) → Calls Try.prog 13 #[.pointer (some ⟨B, 0, none⟩), .slice a3 m3 c3] W fun e w' => e = .returned (.pointer (some ⟨B, 0, none⟩)) ∧ Wr w' B (ts.flatMap thB ++ ns.flatMap numL ++ xs.flatMap textL) ∧ WUpd B W w') := fun W hbW hWW => by
        have := wtexts_list B _ xs a3 c3 W w hWW H3.out (by rw [HW.out]; exact hNB) (by rw [HW.out]; exact hbW) (by rw [List.length_append]; omega) (by have := M3.out; omega)
        rw [M3.out] at this
        exact this
      have hq0 : ∀ l, strL (ts.flatMap thB ++ l) = strL (ts.flatMap thB) ++ strL l := fun l => (str_app _ _).symm
      clear hT hNn hXx
      obtain ⟨q0, hq⟩ : ∃ q, strL (ts.flatMap thB) = q := ⟨_, rfl⟩
      rw [hq]
      have HQ : Hid (strL (ts.flatMap thB) = q0) := hq
      clear hq hq0 hW
      go_wp2_with (first
        | (go_at_call 12; refine c12.out.mono ?_; rintro e w5 ⟨rfl, h5, u5⟩; have b5 : Below N w w5 := hb.trans (u5.below hNB))
        | (go_at_call 13; refine (c13.out _ b5 h5).mono ?_; rintro e w6 ⟨rfl, h6, u6⟩; have b6 : Below N w w6 := b5.trans (u6.below hNB)))
      go_loopw [9, 12] (fun q c wr => ∃ k : Nat, k ≤ m2 ∧ c = .int .i64 (k : Int) ∧ q = .string (strL (ts.flatMap thB ++ (ns.take k).flatMap numL)) ∧ Wr wr B (ts.flatMap thB ++ ns.flatMap numL ++ xs.flatMap textL) ∧ Below N w wr) (fun _ c _ => m2 - (intOf c).toNat)
      case atStart => exact ⟨0, by omega, rfl, by rw [← HQ.out]; simp, h6, b6⟩
      case round =>
        clear h6 b6 b5 h5 u5 u6 hb hlt hk
        obtain ⟨k, hk, rfl, rfl, hW, hb⟩ := hrel
        by_cases hlt : k < m2
        · obtain ⟨x, hx⟩ : ∃ x, ns[k]? = some x := ⟨ns[k]'(by have := M2.out; omega), List.getElem?_eq_getElem _⟩
          have hxl := hns.out x (List.mem_of_getElem? hx)
          rcases H2.out with h0 | ⟨g, o, rfl, hg, hL⟩
          · have := M2.out; omega
          have ck : wr.cell? ⟨g, o + k, none⟩ = some (.int .u64 (x : Int)) := (World.cell?_of_block (hb.block g (by have := HW.out; omega))).trans (hL k x hx)
          have hr : Hid (Calls Try.prog 14 #[.int .u64 (x : Int)] wr fun e w' => e = .returned (.string (strL (numL x))) ∧ Below wr.heap.size wr w') := rnum_any x hxl wr
          have hle := take_flat_len numL ns (k + 1)
          have hflat := take_flat numL ns k x hx
          rw [hflat, List.length_append] at hle
          have hTT := HT.out
          have hNN := HN.out
          have hs1 : (strL (ts.flatMap thB ++ (ns.take k).flatMap numL)).size ≤ 300000000 := by rw [strL_size, List.length_append]; omega
          have hs2 : (strL (numL x)).size ≤ 300000000 := by rw [strL_size]; omega
          have HA : Hid (strL (ts.flatMap thB ++ (ns.take k).flatMap numL) ++ strL (numL x) = strL (ts.flatMap thB ++ (ns.take (k + 1)).flatMap numL)) := by
            show strL _ ++ strL _ = _
            rw [str_app, hflat, List.append_assoc]
          clear hle hflat hTT hNN hx hL
          generalize strL (numL x) = q2 at *
          generalize strL (ts.flatMap thB ++ (ns.take k).flatMap numL) = q1 at *
          go_wp2_with (go_at_call 14; refine hr.out.mono ?_; rintro e w7 ⟨rfl, b7⟩)
          exact ⟨⟨k + 1, by omega, rfl, by rw [HA.out], hW.below b7, hb.trans (b7.mono (by have := hb.size; have := HW.out; omega))⟩, by simp; omega⟩
        · have htk : ns.take k = ns := List.take_of_length_le (by have := M2.out; omega)
          rw [htk]
          clear htk
          obtain ⟨q3, hq3⟩ : ∃ q, strL (ts.flatMap thB ++ ns.flatMap numL) = q := ⟨_, rfl⟩
          rw [hq3]
          have HQ3 : Hid (strL (ts.flatMap thB ++ ns.flatMap numL) = q3) := hq3
          clear hq3
          go_wp2_with fail
          go_loopw [9, 13] (fun q c wr => ∃ k : Nat, k ≤ m3 ∧ c = .int .i64 (k : Int) ∧ q = .string (strL (ts.flatMap thB ++ ns.flatMap numL ++ (xs.take k).flatMap textL)) ∧ Wr wr B (ts.flatMap thB ++ ns.flatMap numL ++ xs.flatMap textL) ∧ Below N w wr) (fun _ c _ => m3 - (intOf c).toNat)
          case atStart => exact ⟨0, by omega, rfl, by rw [← HQ3.out]; simp, hW, hb⟩
          case round =>
            clear hW hb hlt hk
            obtain ⟨k, hk, rfl, rfl, hW, hb⟩ := hrel
            by_cases hlt : k < m3
            · obtain ⟨x, hx⟩ : ∃ x, xs[k]? = some x := ⟨xs[k]'(by have := M3.out; omega), List.getElem?_eq_getElem _⟩
              have hxl := hxs.out x (List.mem_of_getElem? hx)
              rcases H3.out with h0 | ⟨g, o, rfl, hg, hL⟩
              · have := M3.out; omega
              have ck : wr.cell? ⟨g, o + k, none⟩ = some (.string x) := (World.cell?_of_block (hb.block g (by have := HW.out; omega))).trans (hL k x hx)
              have hr : Hid (Calls Try.prog 15 #[.string x] wr fun e w' => e = .returned (.string (strL (textL x))) ∧ Below wr.heap.size wr w') := rtext_any x (by omega) wr
              have hle := take_flat_len textL xs (k + 1)
              have hflat := take_flat textL xs k x hx
              rw [hflat, List.length_append] at hle
              have hTT := HT.out
              have hNN := HN.out
              have hXX := HX.out
              have hs1 : (strL (ts.flatMap thB ++ ns.flatMap numL ++ (xs.take k).flatMap textL)).size ≤ 300000000 := by rw [strL_size, List.length_append, List.length_append]; omega
              have hs2 : (strL (textL x)).size ≤ 300000000 := by rw [strL_size]; omega
              have HA : Hid (strL (ts.flatMap thB ++ ns.flatMap numL ++ (xs.take k).flatMap textL) ++ strL (textL x) = strL (ts.flatMap thB ++ ns.flatMap numL ++ (xs.take (k + 1)).flatMap textL)) := by
                show strL _ ++ strL _ = _
                rw [str_app, hflat, List.append_assoc]
              clear hle hflat hTT hNN hXX hx hL
              generalize strL (textL x) = q2 at *
              generalize strL (ts.flatMap thB ++ ns.flatMap numL ++ (xs.take k).flatMap textL) = q1 at *
              go_wp2_with (go_at_call 15; refine hr.out.mono ?_; rintro e w7 ⟨rfl, b7⟩)
              exact ⟨⟨k + 1, by omega, rfl, by rw [HA.out], hW.below b7, hb.trans (b7.mono (by have := hb.size; have := HW.out; omega))⟩, by simp; omega⟩
            · have htk : xs.take k = xs := List.take_of_length_le (by have := M3.out; omega)
              rw [htk]
              clear htk
              have c16 : Hid (Calls Try.prog 16 #[.pointer (some ⟨B, 0, none⟩)] wr fun e w' => e = .returned (.string (strL (ts.flatMap thB ++ ns.flatMap numL ++ xs.flatMap textL))) ∧ w' = wr) := bytes_some B _ wr hW
              generalize strL (ts.flatMap thB ++ ns.flatMap numL ++ xs.flatMap textL) = Q at *
              have hpp := eql26 wr B
              go_wp2_with (go_at_call 16; refine c16.out.mono ?_; rintro e w8 ⟨rfl, rfl⟩)
              go_ret
              exact ⟨rfl, hb⟩
end Go.Proofs.Ytlbdlipdhhpgmaa
