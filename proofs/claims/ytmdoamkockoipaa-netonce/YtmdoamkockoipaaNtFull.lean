/- The law NetFull (4). -/
import Derived.Test.YtmdoamkockoipaaNtAwake
namespace Go.Proofs.Ytmdoamkockoipaa
open Go.RowKit Go.Maps

theorem may_all (m : Mg) : mayB [] m = true := rfl
theorem openF_nil : ∀ (l : List Mg) (k : Nat), openF [] k l = List.range' k l.length
  | [], k => rfl
  | m :: l, k => by
    have := openF_nil l (k + 1)
    unfold openF
    rw [if_pos (may_all m), this, List.length_cons, List.range'_succ]
theorem openI_nil {s : Nt} (h : s.cuts = []) : openI s = List.range s.l.length := by
  unfold openI
  rw [h, openF_nil, List.range_eq_range']
theorem mayL_nil {s : Nt} (h : s.cuts = []) : mayL s = s.l := by
  unfold mayL
  rw [h]
  exact List.filter_eq_self.2 fun m _ => rfl
/-- So many messages of one body. -/
def fullS (bd : ByteArray) (n : Nat) : Nt := ⟨(List.range n).map fun (j : Nat) => ((j : Int) + 1, 1, 2, bd), n, []⟩
theorem fullS_len (bd : ByteArray) (n : Nat) : (fullS bd n).l.length = n := by simp [fullS]
theorem fullS_send (bd : ByteArray) (n : Nat) (h : n < 4096) : fitN (fullS bd n) [bd] = 1 ∧ sendN (fullS bd n) 1 2 ([bd].take (fitN (fullS bd n) [bd])) = fullS bd (n + 1) := by
  have e : fitN (fullS bd n) [bd] = 1 := by
    unfold fitN
    rw [fullS_len]
    exact Nat.min_eq_left (by simp; omega)
  refine ⟨e, ?_⟩
  rw [e]
  show addN (fullS bd n) 1 2 bd = fullS bd (n + 1)
  simp [addN, fullS, List.range_succ]
theorem fullS_more (bd : ByteArray) : fitN (fullS bd 4096) [bd] = 0 ∧ sendN (fullS bd 4096) 1 2 ([bd].take (fitN (fullS bd 4096) [bd])) = fullS bd 4096 := by
  have e : fitN (fullS bd 4096) [bd] = 0 := by
    unfold fitN
    rw [fullS_len]
    rfl
  refine ⟨e, ?_⟩
  rw [e]
  rfl
theorem ok1 : okI 1 := okI_small (by decide) (by decide)
theorem ok2 : okI 2 := okI_small (by decide) (by decide)
theorem fullS_ok (bd : ByteArray) (n : Nat) : OkS (fullS bd n) := fun m hm => by
  obtain ⟨j, _, rfl⟩ := List.mem_map.1 hm
  exact ⟨ok1, ok2⟩
theorem place_zero (n : Nat) : placeN 0 n = 0 := by simp [placeN, placeI]
theorem fullS_first (bd : ByteArray) (n : Nat) (hn : 0 < n) : (fullS bd n).l[0]? = some (1, 1, 2, bd) := by
  show ((List.range n).map _)[0]? = _
  rw [List.getElem?_map, List.getElem?_range hn]; rfl
theorem fullS_pick (bd : ByteArray) (n : Nat) (hn : 0 < n) : pickO (fullS bd n) 0 = some (0, (1, 1, 2, bd)) := by
  have e : openI (fullS bd n) = List.range n := by rw [openI_nil rfl, fullS_len]
  unfold pickO
  rw [e, List.length_range, place_zero, List.getElem?_range hn, Option.bind_some, fullS_first bd n hn]; rfl
def fullT (bd : ByteArray) (n : Nat) : Nt := dropN (fullS bd n) 0
theorem fullT_len (bd : ByteArray) (n : Nat) (hn : 0 < n) : (fullT bd n).l.length = n - 1 := by
  show ((fullS bd n).l.eraseIdx 0).length = n - 1
  rw [List.length_eraseIdx, fullS_len, if_pos hn]
theorem fullT_ok (bd : ByteArray) (n : Nat) : OkS (fullT bd n) := fun m hm => fullS_ok bd n m (List.mem_of_mem_eraseIdx hm)
theorem fullT_fit (bd : ByteArray) (n : Nat) (hn : 0 < n) (hn2 : n ≤ 4096) : fitN (fullT bd n) [bd] = 1 := by
  unfold fitN
  rw [fullT_len bd n hn]
  exact Nat.min_eq_left (by simp; omega)
def fullU (bd : ByteArray) (n : Nat) : Nt := addN (fullT bd n) 1 2 bd
theorem fullU_len (bd : ByteArray) (n : Nat) (hn : 0 < n) : (fullU bd n).l.length = n := by
  show ((fullT bd n).l ++ [_]).length = n
  rw [List.length_append, fullT_len bd n hn, List.length_singleton]; omega
theorem fullU_ok (bd : ByteArray) (n : Nat) : OkS (fullU bd n) := fun m hm => by
  rcases List.mem_append.1 hm with hm | hm
  · exact fullT_ok bd n m hm
  · simp at hm
    subst hm
    exact ⟨ok1, ok2⟩
set_option maxHeartbeats 6400000 in
set_option maxRecDepth 100000 in
theorem netFull_walk (bd : ByteArray) (more : Int) (hm : okI more) (w : World) : Calls Try.prog 4 #[.string bd, .int .i64 more] w fun e w' => e = .returned (.bool true) ∧ Below w.heap.size w w' := by
  obtain ⟨m0, m1⟩ := (okI_iff more).1 hm
  have t0 : -4 ≤ more.tmod 5 := by have := Int.lt_tmod_of_pos more (b := 5) (by decide); omega
  have t1 : more.tmod 5 ≤ 4 := by have := Int.tmod_lt_of_pos more (b := 5) (by decide); omega
  obtain ⟨N, hN⟩ : ∃ N, w.heap.size = N := ⟨_, rfl⟩
  rw [hN]
  have aw : Hid (Calls Try.prog 7 #[] w fun e w' => e = .returned (.bool true) ∧ Hid (Below N w w')) := hN ▸ awake_any w
  have HN : Hid (w.heap.size = N) := hN
  clear hN
  have hnew : Hid (∀ W, Hid (Below N w W) → Calls Try.prog 8 #[] W fun e w' => ∃ b, e = .returned (.pointer (some ⟨b, 0, none⟩)) ∧ Hid (NIn (fun k => k < N) N w b (fullS bd 0) w')) := fun W hW => (in_new W.heap.size W rfl).mono fun _ _ ⟨e1, e2, _⟩ => ⟨_, e1, by
    have hs : N ≤ W.heap.size := HN.out ▸ hW.out.size
    have h2 := e2.out
    exact ⟨h2.net.less fun k hk => Nat.lt_of_lt_of_le hk hs, hW.out.trans (h2.below.mono hs), fun k hk => hk⟩⟩
  have hsend : Hid (∀ b W n, n < 4096 → Hid (NIn (fun k => k < N) N w b (fullS bd n) W) → Calls Try.prog 9 #[.pointer (some ⟨b, 0, none⟩), .int .i64 1, .int .i64 2, .slice (some ⟨W.heap.size, 0, none⟩) 1 1] (W.alloc (.cells #[.string bd] 9)) fun e w' => e = .returned (.int .i64 1) ∧ Hid (NIn (fun k => k < N) N w b (fullS bd (n + 1)) w')) := fun b W n hn h => (in_send h.out 1 2 [bd] (by simp) (by show n + 4096 < _; omega)).mono fun _ _ ⟨e1, e2⟩ => ⟨by rw [(fullS_send bd n hn).1] at e1; exact e1, (fullS_send bd n hn).2 ▸ e2.out.1⟩
  have hover : Hid (∀ b W, Hid (NIn (fun k => k < N) N w b (fullS bd 4096) W) → Calls Try.prog 9 #[.pointer (some ⟨b, 0, none⟩), .int .i64 1, .int .i64 2, .slice (some ⟨W.heap.size, 0, none⟩) 1 1] (W.alloc (.cells #[.string bd] 9)) fun e w' => e = .returned (.int .i64 0) ∧ Hid (NIn (fun k => k < N) N w b (fullS bd 4096) w')) := fun b W h => (in_send h.out 1 2 [bd] (by simp) (by show 4096 + 4096 < _; omega)).mono fun _ _ ⟨e1, e2⟩ => ⟨by rw [(fullS_more bd).1] at e1; exact e1, (fullS_more bd).2 ▸ e2.out.1⟩
  have hdo : Hid (∀ b W, Hid (NIn (fun k => k < N) N w b (fullS bd 4096) W) → Calls Try.prog 15 #[.pointer (some ⟨b, 0, none⟩), .int .i64 0] W fun e w' => e = .returned (.bool false) ∧ w' = W) := fun b W h => double_full 0 (fullS_len bd 4096) h.out.net
  have hta : Hid (∀ b W, Hid (NIn (fun k => k < N) N w b (fullS bd 4096) W) → Calls Try.prog 11 #[.pointer (some ⟨b, 0, none⟩), .int .i64 0] W fun e w' => e = .returned (.tuple #[.agg #[.int .i64 1, .int .i64 1, .int .i64 2, .string bd], .bool true]) ∧ Hid (NIn (fun k => k < N) N w b (fullT bd 4096) w')) := fun b W h => (in_take_some h.out (fullS_ok bd 4096) 0 (okI_small (by decide) (by decide)) 0 _ (fullS_pick bd 4096 (by decide))).mono fun _ _ ⟨e1, e2⟩ => ⟨e1, e2.out.1⟩
  have hag : Hid (∀ b M W, Hid (NIn (fun k => k < N ∨ k = M) N w b (fullT bd 4096) W) → Hid (Holds W M [.int .i64 1, .int .i64 1, .int .i64 2, .string bd] 34) → Calls Try.prog 9 #[.pointer (some ⟨b, 0, none⟩), .int .i64 1, .int .i64 2, .slice (some ⟨W.heap.size, 0, none⟩) 1 1] (W.alloc (.cells #[.string bd] 9)) fun e w' => e = .returned (.int .i64 1) ∧ Hid (NIn (fun k => k < N ∨ k = M) N w b (fullU bd 4096) w') ∧ Hid (Holds w' M [.int .i64 1, .int .i64 1, .int .i64 2, .string bd] 34)) := fun b M W h hH => (in_send h.out 1 2 [bd] (by simp) (by show 4096 + 4096 < _; omega)).mono fun _ _ ⟨e1, e2⟩ => ⟨by rw [fullT_fit bd 4096 (by decide) (by decide)] at e1; exact e1, by have := e2.out.1; rw [fullT_fit bd 4096 (by decide) (by decide)] at this; exact this, hH.out.keeps e2.out.2 (.inr rfl)⟩
  have hwa : Hid (∀ b M W, Hid (NIn (fun k => k < N ∨ k = M) N w b (fullU bd 4096) W) → Calls Try.prog 14 #[.pointer (some ⟨b, 0, none⟩), .slice none 0 0] W fun e w' => ∃ a c, e = .returned (.slice a 4096 c) ∧ Hid (Below N w w')) := fun b M W h => (in_waits h.out (fullU_ok bd 4096)).mono fun _ _ ⟨a, c, e1, e2⟩ => ⟨a, c, by rw [mayL_nil (s := fullU bd 4096) rfl, fullU_len bd 4096 (by decide)] at e1; exact e1, e2.out.1.below⟩
  by_cases hneg : more.tmod 5 < 0
  · clear hm m0 m1
    go_enter Try.func4, Try.ntmps4
    go_wp2_with (first
      | (go_at_call 7; refine aw.out.mono ?_; rintro e w1 ⟨rfl, h1⟩; clear aw)
      | (go_at_call 8; refine (hnew.out w1 h1).mono ?_; rintro e w2 ⟨b, rfl, h2⟩; clear hnew h1))
    generalize more.tmod 5 = tm at *
    go_loopw [8, 9] (fun x c wr => ∃ i : Nat, x = .int .i64 ((min i 4096 : Nat) : Int) ∧ c = .int .i64 (i : Int) ∧ (i : Int) ≤ 4096 + -tm ∧ Hid (NIn (fun k => k < N) N w b (fullS bd (min i 4096)) wr)) (fun _ c _ => (4096 + -tm).toNat - (intOf c).toNat)
    case atStart => exact ⟨0, rfl, rfl, by omega, h2⟩
    case round =>
      obtain ⟨i, rfl, rfl, hi, hE⟩ := hrel
      clear h2
      by_cases hlt : (i : Int) < 4096 + -tm
      · by_cases hl2 : i < 4096
        · have e1 : min i 4096 = i := by omega
          have e2 : min (i + 1) 4096 = i + 1 := by omega
          rw [e1] at hE ⊢
          have hC := hsend.out b wr i hl2 hE
          have hC2 : Hid (Calls Try.prog 9 #[.pointer (some ⟨b, 0, none⟩), .int .i64 1, .int .i64 2, .slice (some ⟨wr.heap.size, 0, none⟩) 1 1] (wr.alloc (.cells #[.string bd] 9)) fun e w' => e = .returned (.int .i64 1) ∧ Hid (NIn (fun k => k < N) N w b (fullS bd (i + 1)) w')) := hC
          clear hC hE hsend hover e1
          go_wp2_with (go_at_call 9; refine hC2.out.mono ?_; rintro e w3 ⟨rfl, h3⟩; clear hC2)
          go_roundw
          case rel => exact ⟨i + 1, by rw [e2]; simp, by simp, by omega, by rw [e2]; exact h3⟩
          case measure => simp [intOf]; omega
        · have e1 : min i 4096 = 4096 := by omega
          have e2 : min (i + 1) 4096 = 4096 := by omega
          rw [e1] at hE ⊢
          have hC2 : Hid (Calls Try.prog 9 #[.pointer (some ⟨b, 0, none⟩), .int .i64 1, .int .i64 2, .slice (some ⟨wr.heap.size, 0, none⟩) 1 1] (wr.alloc (.cells #[.string bd] 9)) fun e w' => e = .returned (.int .i64 0) ∧ Hid (NIn (fun k => k < N) N w b (fullS bd 4096) w')) := hover.out b wr hE
          clear hE hsend hover e1
          go_wp2_with (go_at_call 9; refine hC2.out.mono ?_; rintro e w3 ⟨rfl, h3⟩; clear hC2)
          go_roundw
          case rel => exact ⟨i + 1, by rw [e2]; simp, by simp, by omega, by rw [e2]; exact h3⟩
          case measure => simp [intOf]; omega
      · have e1 : min i 4096 = 4096 := by omega
        rw [e1] at hE ⊢
        clear e1 hsend hover
        go_wp2_with (first
          | (go_at_call 15; refine (hdo.out _ _ hE).mono ?_; rintro e w3 ⟨rfl, e3⟩; rw [e3]; clear e3 hdo)
          | (go_at_call 11; refine (hta.out _ _ hE).mono ?_; rintro e w4 ⟨rfl, h4⟩; clear hta hE; have g4 : Hid (NIn (fun k => k < N ∨ k = w4.heap.size) N w b (fullT bd 4096) (w4.alloc (.cells #[.int .i64 1, .int .i64 1, .int .i64 2, .string bd] 34))) := h4.out.guard _; have m4 : Hid (Holds (w4.alloc (.cells #[.int .i64 1, .int .i64 1, .int .i64 2, .string bd] 34)) w4.heap.size [.int .i64 1, .int .i64 1, .int .i64 2, .string bd] 34) := holds_new w4 _ _; have hC2 := hag.out b _ _ g4 m4; simp only [World.size_alloc] at hC2; have hC3 : Hid (Calls Try.prog 9 #[.pointer (some ⟨b, 0, none⟩), .int .i64 1, .int .i64 2, .slice (some ⟨w4.heap.size + 1, 0, none⟩) 1 1] ((w4.alloc (.cells #[.int .i64 1, .int .i64 1, .int .i64 2, .string bd] 34)).alloc (.cells #[.string bd] 9)) fun e w' => e = .returned (.int .i64 1) ∧ Hid (NIn (fun k => k < N ∨ k = w4.heap.size) N w b (fullU bd 4096) w') ∧ Hid (Holds w' w4.heap.size [.int .i64 1, .int .i64 1, .int .i64 2, .string bd] 34)) := hC2; clear hC2 h4 g4 m4 hag)
          | (go_at_call 9; refine hC3.out.mono ?_; rintro e w5 ⟨rfl, h5, m5⟩; clear hC3; have y0 := m5.out.at 0 _ rfl; clear m5)
          | (go_at_call 14; refine (hwa.out _ _ _ h5).mono ?_; rintro e w6 ⟨a6, c6, rfl, h6⟩; clear hwa h5))
        go_ret
        exact ⟨rfl, h6.out⟩
  · obtain ⟨k, hk⟩ : ∃ k : Nat, more.tmod 5 = (k : Int) := ⟨(more.tmod 5).toNat, by omega⟩
    have hk4 : k ≤ 4 := by omega
    rw [hk] at t0 t1 hneg
    go_enter Try.func4, Try.ntmps4
    go_wp2_with (first
      | (go_at_call 7; refine aw.out.mono ?_; rintro e w1 ⟨rfl, h1⟩; clear aw)
      | (go_at_call 8; refine (hnew.out w1 h1).mono ?_; rintro e w2 ⟨b, rfl, h2⟩; clear hnew h1))
    clear hk
    go_loopw [8, 9] (fun x c wr => ∃ i : Nat, x = .int .i64 ((min i 4096 : Nat) : Int) ∧ c = .int .i64 (i : Int) ∧ i ≤ 4096 + k ∧ Hid (NIn (fun k => k < N) N w b (fullS bd (min i 4096)) wr)) (fun _ c _ => 4096 + k - (intOf c).toNat)
    case atStart => exact ⟨0, rfl, rfl, Nat.zero_le _, h2⟩
    case round =>
      obtain ⟨i, rfl, rfl, hi, hE⟩ := hrel
      clear h2
      by_cases hlt : i < 4096 + k
      · by_cases hl2 : i < 4096
        · have e1 : min i 4096 = i := by omega
          have e2 : min (i + 1) 4096 = i + 1 := by omega
          rw [e1] at hE ⊢
          have hC := hsend.out b wr i hl2 hE
          have hC2 : Hid (Calls Try.prog 9 #[.pointer (some ⟨b, 0, none⟩), .int .i64 1, .int .i64 2, .slice (some ⟨wr.heap.size, 0, none⟩) 1 1] (wr.alloc (.cells #[.string bd] 9)) fun e w' => e = .returned (.int .i64 1) ∧ Hid (NIn (fun k => k < N) N w b (fullS bd (i + 1)) w')) := hC
          clear hC hE hsend hover e1
          go_wp2_with (go_at_call 9; refine hC2.out.mono ?_; rintro e w3 ⟨rfl, h3⟩; clear hC2)
          go_roundw
          case rel => exact ⟨i + 1, by rw [e2]; simp, by simp, by omega, by rw [e2]; exact h3⟩
          case measure => simp [intOf]; omega
        · have e1 : min i 4096 = 4096 := by omega
          have e2 : min (i + 1) 4096 = 4096 := by omega
          rw [e1] at hE ⊢
          have hC2 : Hid (Calls Try.prog 9 #[.pointer (some ⟨b, 0, none⟩), .int .i64 1, .int .i64 2, .slice (some ⟨wr.heap.size, 0, none⟩) 1 1] (wr.alloc (.cells #[.string bd] 9)) fun e w' => e = .returned (.int .i64 0) ∧ Hid (NIn (fun k => k < N) N w b (fullS bd 4096) w')) := hover.out b wr hE
          clear hE hsend hover e1
          go_wp2_with (go_at_call 9; refine hC2.out.mono ?_; rintro e w3 ⟨rfl, h3⟩; clear hC2)
          go_roundw
          case rel => exact ⟨i + 1, by rw [e2]; simp, by simp, by omega, by rw [e2]; exact h3⟩
          case measure => simp [intOf]; omega
      · have e1 : min i 4096 = 4096 := by omega
        obtain rfl : i = 4096 + k := by omega
        rw [e1] at hE ⊢
        clear e1 hsend hover
        go_wp2_with (first
          | (go_at_call 15; refine (hdo.out _ _ hE).mono ?_; rintro e w3 ⟨rfl, e3⟩; rw [e3]; clear e3 hdo)
          | (go_at_call 11; refine (hta.out _ _ hE).mono ?_; rintro e w4 ⟨rfl, h4⟩; clear hta hE; have g4 : Hid (NIn (fun k => k < N ∨ k = w4.heap.size) N w b (fullT bd 4096) (w4.alloc (.cells #[.int .i64 1, .int .i64 1, .int .i64 2, .string bd] 34))) := h4.out.guard _; have m4 : Hid (Holds (w4.alloc (.cells #[.int .i64 1, .int .i64 1, .int .i64 2, .string bd] 34)) w4.heap.size [.int .i64 1, .int .i64 1, .int .i64 2, .string bd] 34) := holds_new w4 _ _; have hC2 := hag.out b _ _ g4 m4; simp only [World.size_alloc] at hC2; have hC3 : Hid (Calls Try.prog 9 #[.pointer (some ⟨b, 0, none⟩), .int .i64 1, .int .i64 2, .slice (some ⟨w4.heap.size + 1, 0, none⟩) 1 1] ((w4.alloc (.cells #[.int .i64 1, .int .i64 1, .int .i64 2, .string bd] 34)).alloc (.cells #[.string bd] 9)) fun e w' => e = .returned (.int .i64 1) ∧ Hid (NIn (fun k => k < N ∨ k = w4.heap.size) N w b (fullU bd 4096) w') ∧ Hid (Holds w' w4.heap.size [.int .i64 1, .int .i64 1, .int .i64 2, .string bd] 34)) := hC2; clear hC2 h4 g4 m4 hag)
          | (go_at_call 9; refine hC3.out.mono ?_; rintro e w5 ⟨rfl, h5, m5⟩; clear hC3; have y0 := m5.out.at 0 _ rfl; clear m5)
          | (go_at_call 14; refine (hwa.out _ _ _ h5).mono ?_; rintro e w6 ⟨a6, c6, rfl, h6⟩; clear hwa h5))
        go_ret
        exact ⟨rfl, h6.out⟩
end Go.Proofs.Ytmdoamkockoipaa
