/- The statement's plain: things, numbers in the place of counts, in a row of its own. -/
import Derived.Test.YtlbdlipdhhpgmaaAgain
namespace Go.Proofs.Ytlbdlipdhhpgmaa
open Go.RowKit

theorem full33 : (Try.prog.info? 33).map (fun i => (i.zero, i.size, i.bytes)) = some (some (.agg #[.int .i64 0, .int .i64 0, .int .u64 0, .string ⟨#[]⟩]), 4, 40) := by kernel_rfl
theorem inf33 : ∃ i, Try.prog.info? 33 = some i ∧ i.zero = some (.agg #[.int .i64 0, .int .i64 0, .int .u64 0, .string ⟨#[]⟩]) ∧ i.size = 4 ∧ i.bytes = 40 := by
  have := full33
  cases h : Try.prog.info? 33 with
  | none => simp [h] at this
  | some i =>
    simp [h] at this
    exact ⟨i, rfl, this.1, this.2.1, this.2.2⟩

/-- Things lie in block g from o on, a row of their own kind. -/
def Row33 (w : World) (g o : Nat) (ts : List Th) : Prop := ∃ cs fr, w.heap[g]? = some (.cells cs 33 fr) ∧ ∀ (i : Nat) (t : Th), ts[i]? = some t → ∀ (j : Nat) (v : Value), (thV t)[j]? = some v → cs[o + i * 4 + j]? = some v
theorem Row33.lt {w : World} {g o : Nat} {ts : List Th} (h : Row33 w g o ts) : g < w.heap.size := by
  obtain ⟨cs, fr, h, _⟩ := h
  exact (Array.getElem?_eq_some_iff.1 h).1
theorem Row33.cell {w : World} {g o : Nat} {ts : List Th} (h : Row33 w g o ts) (i : Nat) (t : Th) (ht : ts[i]? = some t) (j : Nat) (v : Value) (hv : (thV t)[j]? = some v) : w.cell? ⟨g, o + i * 4 + j, none⟩ = some v := by
  obtain ⟨cs, fr, hg, hc⟩ := h
  rw [cell_of_row w g _ cs 33 fr hg]
  exact hc i t ht j v hv
theorem Row33.same {w w' : World} {g o : Nat} {ts : List Th} (h : Row33 w g o ts) (he : w'.heap[g]? = w.heap[g]?) : Row33 w' g o ts := by
  obtain ⟨cs, fr, hg, hc⟩ := h
  exact ⟨cs, fr, by rw [he]; exact hg, hc⟩
/-- Things lie in a row of their own kind, in a block between two; or there are none. -/
def RowAt (w : World) (lo hi : Nat) (a : Option Addr) (ts : List Th) : Prop := ts.length = 0 ∨ ∃ g o, a = some ⟨g, o, none⟩ ∧ lo < g ∧ g < hi ∧ Row33 w g o ts
theorem RowAt.wupd {w w' : World} {B hi : Nat} {a : Option Addr} {ts : List Th} (h : RowAt w B hi a ts) (hu : WUpd B w w') : RowAt w' B hi a ts := by
  rcases h with h | ⟨g, o, e, h1, h2, h3⟩
  · exact .inl h
  · have hlt := h3.lt
    refine .inr ⟨g, o, e, h1, h2, h3.same ?_⟩
    obtain ⟨cs, fr, hg, _⟩ := h3
    exact hu.other g hlt (by omega) (fun ds f e => by rw [hg] at e; simp at e)
theorem RowAt.upd {w w' : World} {lo hi b : Nat} {a : Option Addr} {ts : List Th} (h : RowAt w lo hi a ts) (hu : Upd b w w') (hb : hi ≤ b) : RowAt w' lo hi a ts := by
  rcases h with h | ⟨g, o, e, h1, h2, h3⟩
  · exact .inl h
  · exact .inr ⟨g, o, e, h1, h2, h3.same (hu.block g h3.lt (by omega))⟩
theorem RowAt.below {w w' : World} {lo hi B : Nat} {a : Option Addr} {ts : List Th} (h : RowAt w lo hi a ts) (hb : Below B w w') (hB : hi ≤ B) : RowAt w' lo hi a ts := by
  rcases h with h | ⟨g, o, e, h1, h2, h3⟩
  · exact .inl h
  · exact .inr ⟨g, o, e, h1, h2, h3.same (hb.block g (by omega))⟩
theorem thV_len (t : Th) : (thV t).length = 4 := rfl
theorem flat4 : ∀ (ts : List Th) (i : Nat) (t : Th), ts[i]? = some t → ∀ j, j < 4 → (ts.flatMap thV)[i * 4 + j]? = (thV t)[j]?
  | [], _, _, h, _, _ => by simp at h
  | u :: r, 0, t, h, j, hj => by
    simp at h
    subst h
    rw [List.flatMap_cons, List.getElem?_append_left (by rw [thV_len]; omega)]
    simp
  | u :: r, i + 1, t, h, j, hj => by
    rw [List.flatMap_cons, List.getElem?_append_right (by rw [thV_len]; omega), thV_len]
    rw [show (i + 1) * 4 + j - 4 = i * 4 + j by omega]
    exact flat4 r i t (by simpa using h) j hj
theorem row33_of {w : World} {base n : Nat} {v : Value} {ts : List Th} (h : w.ownsRow (base + 1) 33 4 v n (ts.flatMap thV)) (hn : ts.length = n) :
    ∃ a c, v = .slice a n c ∧ RowAt w base w.heap.size a ts := by
  rcases h.2 with ⟨rfl, h0⟩ | ⟨g, cap, cur, rfl, hb, hg, h1, h2, h3, h4⟩
  · subst h0
    exact ⟨_, _, rfl, .inl hn⟩
  · refine ⟨_, _, rfl, .inr ⟨g, 0, rfl, by omega, (Array.getElem?_eq_some_iff.1 hg).1, cur, (0, 0), hg, fun i t hi j v hv => ?_⟩⟩
    have hj : j < 4 := (List.getElem?_eq_some_iff.1 hv).1
    have := flat4 ts i t hi j hj
    rw [hv, ← h4, List.getElem?_take] at this
    split at this
    · simpa using this
    · cases this

set_option maxHeartbeats 1600000 in
set_option maxRecDepth 100000 in
theorem plain_any (ts : List Th) (a : Option Addr) (c : Nat) (w : World) (h : ThingsAt w a ts) (hl : ts.length ≤ 100000000) :
    Calls Try.prog 17 #[.slice a ts.length c] w fun e w' => ∃ v, e = .returned v ∧ w'.ownsRow w.heap.size 33 4 v ts.length ((ts.map plT).flatMap thV) ∧ Below w.heap.size w w' := by
  obtain ⟨N, hw⟩ : ∃ N, w.heap.size = N := ⟨_, rfl⟩
  have HW : Hid (w.heap.size = N) := hw
  rw [hw]
  obtain ⟨i33, f33, hz33, hs33, hb33⟩ := inf33
  have F33 : Hid (Try.prog.info? 33 = some i33) := f33
  have FZ : Hid (i33.zero = some (.agg #[.int .i64 0, .int .i64 0, .int .u64 0, .string ⟨#[]⟩])) := hz33
  have FS : Hid (i33.size = 4) := hs33
  have FB : Hid (i33.bytes = 40) := hb33
  clear f33 hz33 hs33 hb33 hw
  obtain ⟨m, hm⟩ : ∃ m, ts.length = m := ⟨_, rfl⟩
  have M : Hid (ts.length = m) := hm
  rw [hm] at hl ⊢
  clear hm
  have H1 : Hid (ThingsAt w a ts) := h
  clear h
  go_enter Try.func17, Try.ntmps17
  go_wp2_with fail
  go_loopw [3, 4] (fun v c wr => ∃ k : Nat, k ≤ m ∧ c = .int .i64 (k : Int) ∧ wr.ownsRow N 33 4 v k (((ts.take k).map plT).flatMap thV) ∧ N ≤ wr.heap.size ∧ Below N w wr) (fun _ c _ => m - (intOf c).toNat)
  case atStart => exact ⟨0, by omega, rfl, World.ownsRow_nil _ _ _ _, by have := HW.out; omega, Below.refl _ _⟩
  case round =>
    obtain ⟨k, hk, rfl, hown, hsz, hb⟩ := hrel
    by_cases hlt : k < m
    · obtain ⟨t, ht⟩ : ∃ t, ts[k]? = some t := ⟨ts[k]'(by have := M.out; omega), List.getElem?_eq_getElem _⟩
      rcases H1.out with h0 | ⟨g, o, rfl, hg, hL⟩
      · have := M.out; omega
      have hgN : g < N := by have := HW.out; omega
      have hc := fun j v hv => hL.below hb hgN k t ht j v hv
      have hstep : Hid (((ts.take (k + 1)).map plT).flatMap thV = ((ts.take k).map plT).flatMap thV ++ thV (plT t)) := by
        show ((ts.take (k + 1)).map plT).flatMap thV = _
        rw [List.take_add_one, ht, List.map_append, List.flatMap_append]
        simp
      clear hL ht
      generalize ((ts.take k).map plT).flatMap thV = xs at *
      obtain ⟨kd, ls, n, s⟩ := t
      have d0 := hc 0 _ rfl
      have d1 := hc 1 _ rfl
      have d2 := hc 2 _ rfl
      have d3 := hc 3 _ rfl
      simp only [Nat.add_zero] at d0
      clear hc
      have hnews : Hid (∀ (o1 : Obj) (kd' : Int) (j : Nat) (u : Value), [Value.int .i64 kd', .int .i64 ls, .int .u64 (n : Int), .string s][j]? = some u → ((wr.alloc o1).alloc (.cells #[.int .i64 kd', .int .i64 ls, .int .u64 (n : Int), .string s] 33)).cell? ((⟨wr.heap.size + 1, 0, none⟩ : Addr).add j) = some u) := fun o1 kd' => by
        have := heap_alloc_new (wr.alloc o1) (.cells #[.int .i64 kd', .int .i64 ls, .int .u64 (n : Int), .string s] 33)
        rw [World.size_alloc] at this
        exact World.news_of_block this
      have hbase : Hid (∀ o1 o2 : Obj, N ≤ ((wr.alloc o1).alloc o2).heap.size) := fun o1 o2 => by simp; omega
      by_cases h5 : kd = 5
      · subst h5
        have hpl : plT ⟨5, ls, n, s⟩ = ⟨0, ls, n, s⟩ := by simp [plT]
        rw [hpl] at hstep
        go_wp2_with (first
          | (at_builtin; refine wpList_append_lies _ rfl (.tmp 20) (.tmp 22) 22 rfl N 33 i33 (.agg #[.int .i64 0, .int .i64 0, .int .u64 0, .string ⟨#[]⟩]) 4 40 Try.underlying22 F33.out FZ.out FS.out FB.out rfl (by omega) u3 k xs rfl ((hown.alloc _).alloc _) ⟨wr.heap.size + 1, 0, none⟩ 1 1 [.int .i64 0, .int .i64 ls, .int .u64 (n : Int), .string s] rfl rfl (hnews.out _ 0) (by intro u hu; simp at hu; rcases hu with rfl | rfl | rfl | rfl <;> rfl) (by omega) (by unfold maxLen; omega) (by omega) (hbase.out _ _) (wr.heap.size + 2) (by simp) ?_; intro g2 cap2 w3 hown3 hgrow hat hlt3))
        have b3 : Below N w w3 := below_grown ((hb.alloc (by omega) _).alloc (by simp; omega) _) hgrow (hbase.out _ _) ((hown.alloc _).alloc _)
        refine ⟨⟨k + 1, by omega, rfl, ?_, (by have := b3.size; have := HW.out; omega), b3⟩, by simp; omega⟩
        rw [hstep.out]
        exact hown3
      · have hpl : plT ⟨kd, ls, n, s⟩ = ⟨kd, ls, n, s⟩ := by simp [plT, h5]
        rw [hpl] at hstep
        go_wp2_with (first
          | (at_builtin; refine wpList_append_lies _ rfl (.tmp 20) (.tmp 22) 22 rfl N 33 i33 (.agg #[.int .i64 0, .int .i64 0, .int .u64 0, .string ⟨#[]⟩]) 4 40 Try.underlying22 F33.out FZ.out FS.out FB.out rfl (by omega) u3 k xs rfl ((hown.alloc _).alloc _) ⟨wr.heap.size + 1, 0, none⟩ 1 1 [.int .i64 kd, .int .i64 ls, .int .u64 (n : Int), .string s] rfl rfl (hnews.out _ kd) (by intro u hu; simp at hu; rcases hu with rfl | rfl | rfl | rfl <;> rfl) (by omega) (by unfold maxLen; omega) (by omega) (hbase.out _ _) (wr.heap.size + 2) (by simp) ?_; intro g2 cap2 w3 hown3 hgrow hat hlt3))
        have b3 : Below N w w3 := below_grown ((hb.alloc (by omega) _).alloc (by simp; omega) _) hgrow (hbase.out _ _) ((hown.alloc _).alloc _)
        refine ⟨⟨k + 1, by omega, rfl, ?_, (by have := b3.size; have := HW.out; omega), b3⟩, by simp; omega⟩
        rw [hstep.out]
        exact hown3
    · have htk : ts.take k = ts := List.take_of_length_le (by have := M.out; omega)
      have hkm : k = m := by omega
      subst hkm
      rw [htk] at hown
      go_wp2
      go_ret
      exact ⟨_, rfl, hown, hb⟩
end Go.Proofs.Ytlbdlipdhhpgmaa
