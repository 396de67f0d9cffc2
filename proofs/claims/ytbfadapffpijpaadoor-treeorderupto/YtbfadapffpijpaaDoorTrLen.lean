/- What package tree's below, Len and Dirty answer. -/
import Derived.Test.YtbfadapffpijpaaDoorTrSmall
namespace Go.Proofs.YtbfadapffpijpaaDoor
open Go.RowKit Go.Maps Go.WideMaps

theorem und27 : Tryd.prog.underlying 27 = some (.array 256 26) := by kernel_rfl
theorem und29 : Tryd.prog.underlying 29 = some (.array 16 26) := by kernel_rfl
theorem und25 : Tryd.prog.underlying 25 = some (.array 256 24) := by kernel_rfl
theorem und28 : Tryd.prog.underlying 28 = some (.array 256 4) := by kernel_rfl
theorem siz26 : (Tryd.prog.info? 26).map (·.size) = some 32 := by kernel_rfl
theorem siz25 : (Tryd.prog.info? 25).map (·.size) = some 256 := by kernel_rfl
theorem siz28 : (Tryd.prog.info? 28).map (·.size) = some 256 := by kernel_rfl
theorem siz24 : (Tryd.prog.info? 24).map (·.size) = some 1 := by kernel_rfl
theorem siz4 : (Tryd.prog.info? 4).map (·.size) = some 1 := by kernel_rfl
theorem agg24 (w : World) : (isAgg 24).run Tryd.prog w = .ok false w := by kernel_rfl
theorem agg4 (w : World) : (isAgg 4).run Tryd.prog w = .ok false w := by kernel_rfl
/-- An array value's element of one cell, at a place that is there. -/
theorem run_index_one (w : World) (ty e : TypeId) (n : Nat) (hu : Tryd.prog.underlying ty = some (.array n e)) (hagg : (isAgg e).run Tryd.prog w = .ok false w) (hs : (Tryd.prog.info? e).map (·.size) = some 1)
    (cs : List Value) (k : Nat) (hk : k < n) (v : Value) (hv : cs[k]? = some v) : (Instr.index ty (.agg cs.toArray) (.int .i64 (k : Int))).run Tryd.prog w = .ok v w := by
  have h0 : (0 : Int) ≤ k ∧ (k : Int) < n := by omega
  simp only [Instr.index, asIntOf, Sem.run_bind, Sem.run_pure, Result.andThen_ok, run_underlying hu w, h0, and_self, if_true, run_sizeOf hs, part, hagg]
  simp [hv]
theorem run_below (w : World) (b j : Nat) (hj : j < 16) : (Instr.sliceAt 27 (.pointer (some ⟨b, 256, none⟩)) (some (.int .i64 ((j : Int) * 16))) (some (.int .i64 ((j : Int) * 16 + 16))) none).run Tryd.prog w = .ok (.slice (some ⟨b, 256 + 512 * j, none⟩) 16 (256 - 16 * j)) w := by
  have e1 : ((j : Int) * 16).toNat = 16 * j := by omega
  have e2 : ((j : Int) * 16 + 16).toNat = 16 * j + 16 := by omega
  have e3 : 16 * j + 16 - 16 * j = 16 := by omega
  have e4 : 256 + 16 * j * 32 = 256 + 512 * j := by omega
  simp only [Instr.sliceAt, Sem.run_bind, run_underlying und27 w, Result.andThen_ok, Instr.sureAddr, Sem.run_pure]
  simp [go_sem, Instr.sliceBounds, run_sizeOf siz26, Addr.add_mid]
  rw [if_pos (by omega), if_pos (by omega), e1, e2, e3, e4, if_neg (by omega)]
set_option maxHeartbeats 400000 in
set_option maxRecDepth 100000 in
theorem below_any (b j : Nat) (hj : j < 16) (w : World) : Calls Tryd.prog 29 #[.pointer (some ⟨b, 0, none⟩), .int .i64 (j : Int)] w fun e w' => e = .returned (.slice (some ⟨b, 256 + 512 * j, none⟩) 16 (256 - 16 * j)) ∧ w' = w := by
  have hr := run_below w b j hj
  have j0 : (0 : Int) ≤ (j : Int) := by omega
  have j1 : (j : Int) < 16 := by omega
  go_enter Tryd.func29, Tryd.ntmps29
  go_wp2
  go_ret
  exact ⟨rfl, rfl⟩
/-- How many keys there are. -/
def lenT (T : Tr) : Nat := (T.lv.map List.length).sum
def lenTo (T : Tr) (k : Nat) : Nat := ((T.lv.take k).map List.length).sum
theorem lenTo_succ {T : Tr} (h : T.lv.length = 256) {k : Nat} (hk : k < 256) : lenTo T (k + 1) = lenTo T k + (leafAt T k).length := by
  unfold lenTo leafAt
  rw [List.take_succ_eq_append_getElem (by omega), List.map_append, List.sum_append, List.getD_eq_getElem?_getD, List.getElem?_eq_getElem (by omega)]; simp
theorem lenTo_le {T : Tr} (h : T.lv.length = 256) {m : Nat} (hf : Fit T m) : ∀ k, k ≤ 256 → lenTo T k ≤ k * m
  | 0, _ => by simp [lenTo]
  | k + 1, hk => by
    have ih := lenTo_le h hf k (by omega)
    rw [lenTo_succ h (by omega), Nat.succ_mul]
    have h1 := hf _ (leafAt_mem h (i := k) (by omega))
    have h2 := wt_len (leafAt T k)
    omega
theorem lenTo_all {T : Tr} (h : T.lv.length = 256) : lenTo T 256 = lenT T := by unfold lenTo lenT; rw [List.take_of_length_le (by omega)]
theorem len_none (w : World) : Calls Tryd.prog 13 #[.pointer none] w fun e w' => e = .returned (.int .i64 0) ∧ w' = w := by
  go_enter Tryd.func13, Tryd.ntmps13
  go_wp2
  go_ret
  exact ⟨rfl, rfl⟩
theorem dirty_none (w : World) : Calls Tryd.prog 14 #[.pointer none] w fun e w' => e = .returned (.int .i64 0) ∧ w' = w := by
  go_enter Tryd.func14, Tryd.ntmps14
  go_wp2
  go_ret
  exact ⟨rfl, rfl⟩
set_option maxHeartbeats 1000000 in
set_option maxRecDepth 100000 in
theorem len_some (N b : Nat) (mv : List Value) (T : Tr) (m : Nat) (hf : Fit T m) (hm : m ≤ 140737488355328) (w : World) (h : TreeAt w N b mv T) :
    Calls Tryd.prog 13 #[.pointer (some ⟨b, 0, none⟩)] w fun e w' => e = .returned (.int .i64 (lenT T : Int)) ∧ w' = w := by
  have hlv := h.ok.lv
  have hlen := h.len
  have hrg : w.rangeAt b 0 mv := h.holds.range 0 mv (fun j v hv => by
    have hj : j < mv.length := (List.getElem?_eq_some_iff.1 hv).1
    rw [Nat.zero_add, at_map hlen (by omega)]; exact hv)
  have hIx : Hid (∀ k : Nat, k < 256 → (Instr.index 25 (.agg mv.toArray) (.int .i64 (k : Int))).run Tryd.prog w = .ok (mv.getD k (.map none)) w) := fun k hk => run_index_one w 25 24 256 und25 (agg24 w) siz24 mv k hk _ (by rw [List.getD_eq_getElem?_getD, List.getElem?_eq_getElem (by omega)]; rfl)
  have hLn : Hid (∀ k, k < 256 → ∀ ty, (Builtin.len_ #[24] ty #[mv.getD k (.map none)]).run Tryd.prog w = .ok (.int .i64 ((leafAt T k).length : Int)) w) := fun k hk ty => (h.maps k hk).len (h.ok.rise _ (leafAt_mem hlv hk)) ty
  have hTo : Hid (∀ k, k < 256 → lenTo T (k + 1) = lenTo T k + (leafAt T k).length ∧ lenTo T (k + 1) ≤ 36028797018963968) := fun k hk => ⟨lenTo_succ hlv hk, Nat.le_trans (lenTo_le hlv hf (k + 1) (by omega)) (Nat.le_trans (Nat.mul_le_mul (show k + 1 ≤ 256 by omega) hm) (by decide))⟩
  have hAll := lenTo_all hlv
  have h0 : lenTo T 0 = 0 := by simp [lenTo]
  clear h hf hlv
  go_enter Tryd.func13, Tryd.ntmps13
  go_wp2_with (refine wpList_load_part rfl 25 (.tmp 10) rfl b 0 rfl mv _ hrg und25 rfl (by rw [hlen]; exact siz25) ?_)
  go_loopw [3, 12] (fun n c wr => ∃ k : Nat, k ≤ 256 ∧ c = .int .i64 (k : Int) ∧ n = .int .i64 (lenTo T k : Int) ∧ wr = w) (fun _ c _ => 256 - (intOf c).toNat)
  case atStart => exact ⟨0, by omega, rfl, by rw [h0]; rfl, rfl⟩
  case round =>
    obtain ⟨k, hk, rfl, rfl, rfl⟩ := hrel
    by_cases hlt : k < 256
    · have hix := hIx.out k hlt
      have hln := hLn.out k hlt
      obtain ⟨ht, hle⟩ := hTo.out k hlt
      generalize mv.getD k (.map none) = mk at *
      obtain ⟨x, hx⟩ : ∃ x, lenTo T k = x := ⟨_, rfl⟩
      obtain ⟨y, hy⟩ : ∃ y, (leafAt T k).length = y := ⟨_, rfl⟩
      rw [hy] at hln ht
      rw [hx] at ht ⊢
      have i1 : (k : Int) < 256 := by omega
      go_wp2
      refine ⟨⟨k + 1, by omega, by go_num, ?_, trivial⟩, by simp [intOf]; omega⟩
      first | (rw [ht]; done) | (rw [ht]; go_num)
    · obtain rfl : k = 256 := by omega
      rw [hAll]
      go_wp2
      go_ret
      exact ⟨rfl, rfl⟩
def cntTo (T : Tr) (k : Nat) : Nat := ((T.dirty.take k).filter id).length
/-- How many leaves are dirty. -/
def dirtyT (T : Tr) : Nat := (T.dirty.filter id).length
theorem cntTo_succ {T : Tr} (h : T.dirty.length = 256) {k : Nat} (hk : k < 256) : cntTo T (k + 1) = cntTo T k + (if T.dirty.getD k false = true then 1 else 0) := by
  unfold cntTo
  rw [List.take_succ_eq_append_getElem (by omega), List.filter_append, List.length_append, List.getD_eq_getElem?_getD, List.getElem?_eq_getElem (by omega)]
  simp only [Option.getD_some]
  cases T.dirty[k] <;> rfl
theorem cntTo_le {T : Tr} (k : Nat) : cntTo T k ≤ k := by
  unfold cntTo
  exact Nat.le_trans (List.length_filter_le ..) (by simp; omega)
theorem cntTo_all {T : Tr} (h : T.dirty.length = 256) : cntTo T 256 = dirtyT T := by unfold cntTo dirtyT; rw [List.take_of_length_le (by omega)]
set_option maxHeartbeats 1000000 in
set_option maxRecDepth 100000 in
theorem dirty_some (N b : Nat) (mv : List Value) (T : Tr) (w : World) (h : TreeAt w N b mv T) :
    Calls Tryd.prog 14 #[.pointer (some ⟨b, 0, none⟩)] w fun e w' => e = .returned (.int .i64 (dirtyT T : Int)) ∧ w' = w := by
  have hd := h.ok.dirty
  have hlen := h.len
  have hrg : w.rangeAt b 8448 (T.dirty.map Value.bool) := h.holds.range 8448 _ (fun j v hv => by
    have hj : j < (T.dirty.map Value.bool).length := (List.getElem?_eq_some_iff.1 hv).1
    rw [List.length_map] at hj
    rw [at_dirty hlen h.ok.sz (by omega)]
    rw [List.getElem?_map, List.getElem?_eq_getElem hj] at hv
    rw [List.getD_eq_getElem?_getD, List.getElem?_eq_getElem hj]; exact hv)
  have hIx : Hid (∀ k : Nat, k < 256 → (Instr.index 28 (.agg (T.dirty.map Value.bool).toArray) (.int .i64 (k : Int))).run Tryd.prog w = .ok (.bool (T.dirty.getD k false)) w) := fun k hk => run_index_one w 28 4 256 und28 (agg4 w) siz4 _ k hk _ (by rw [List.getElem?_map, List.getD_eq_getElem?_getD, List.getElem?_eq_getElem (by omega)]; rfl)
  have hTo : Hid (∀ k, k < 256 → cntTo T (k + 1) = cntTo T k + (if T.dirty.getD k false = true then 1 else 0)) := fun k hk => cntTo_succ hd hk
  have hAll := cntTo_all hd
  have h0 : cntTo T 0 = 0 := by simp [cntTo]
  have hdl : (T.dirty.map Value.bool).length = 256 := by rw [List.length_map, hd]
  clear h hd
  go_enter Tryd.func14, Tryd.ntmps14
  go_wp2_with (refine wpList_load_part rfl 28 (.tmp 10) rfl b 8448 rfl (T.dirty.map Value.bool) _ hrg und28 rfl (by rw [hdl]; exact siz28) ?_)
  go_loopw [3, 12] (fun n c wr => ∃ k : Nat, k ≤ 256 ∧ c = .int .i64 (k : Int) ∧ n = .int .i64 (cntTo T k : Int) ∧ wr = w) (fun _ c _ => 256 - (intOf c).toNat)
  case atStart => exact ⟨0, by omega, rfl, by rw [h0]; rfl, rfl⟩
  case round =>
    obtain ⟨k, hk, rfl, rfl, rfl⟩ := hrel
    by_cases hlt : k < 256
    · have hix := hIx.out k hlt
      have ht := hTo.out k hlt
      have hle : cntTo T k ≤ k := cntTo_le k
      obtain ⟨x, hx⟩ : ∃ x, cntTo T k = x := ⟨_, rfl⟩
      rw [hx] at ht hle ⊢
      have i1 : (k : Int) < 256 := by omega
      cases hy : T.dirty.getD k false with
      | true =>
        rw [hy] at hix ht
        rw [if_pos rfl] at ht
        go_wp2
        refine ⟨⟨k + 1, by omega, by go_num, ?_, trivial⟩, by simp [intOf]; omega⟩
        first | (rw [ht]; done) | (rw [ht]; go_num)
      | false =>
        rw [hy] at hix ht
        rw [if_neg (by decide)] at ht
        go_wp2
        refine ⟨⟨k + 1, by omega, by go_num, ?_, trivial⟩, by simp [intOf]; omega⟩
        first | (rw [ht]; done) | (rw [ht]; go_num)
    · obtain rfl : k = 256 := by omega
      rw [hAll]
      go_wp2
      go_ret
      exact ⟨rfl, rfl⟩
end Go.Proofs.YtbfadapffpijpaaDoor
