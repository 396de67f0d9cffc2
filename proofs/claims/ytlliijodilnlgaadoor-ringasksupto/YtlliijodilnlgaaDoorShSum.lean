/- What package sha's New, Write and Sum answer: the sum of a hash is that of the bytes that were put; a text in parts is the parts one behind the other. -/
import Derived.Test.YtlliijodilnlgaaDoorShFill
import Derived.Test.YtlliijodilnlgaaDoorShSpread
namespace Go.Proofs.YtlliijodilnlgaaDoor
open Go.RowKit

theorem info78 : (Tryd.prog.info? 78).map (fun i => (i.zero, i.size)) = some (some (.agg (hashV newL).toArray), 73) := by kernel_rfl
theorem built78 : Tryd.prog.built 78 [] = some (hashV newL).toArray := by kernel_rfl
theorem row78 : (Tryd.prog.underlying 78).map TypeDesc.isRow = some true := by kernel_rfl
theorem und78 : ∃ d, Tryd.prog.underlying 78 = some d ∧ d.isRow = true := by
  have := row78
  cases h : Tryd.prog.underlying 78 with
  | none => simp [h] at this
  | some d => exact ⟨d, rfl, by simpa [h] using this⟩
theorem wpList_build_none {P : Program} {ops : Array Oper} {rest : List Oper} {o : Oper} {a : Act} {w : World} {Q : Exit → Act → World → Prop} (hgd : o.guard = none) (t : TypeId) (ho : o.op = .build t #[]) (cells : Array Value) (hf : P.built t [] = some cells)
    (h : wpList P ops Q rest (a.put o.dst (.agg cells)) w) : wpList P ops Q (o :: rest) a w :=
  wpList_plain hgd fun K hK => by
    have hr := run_build (P := P) w t #[] cells hf
    unfold Oper.wp execOp
    simp only [ho, List.map_toArray, List.map_nil, Sem.run_bind, hr, Result.andThen_ok]
    exact hK _ _ h

set_option maxHeartbeats 400000 in
set_option maxRecDepth 100000 in
theorem new_any (w : World) : Calls Tryd.prog 34 #[] w fun e w' => e = .returned (.pointer (some ⟨w.heap.size, 0, none⟩)) ∧ Anew w.heap.size w w' (hashV newL) 78 := by
  obtain ⟨n, hn⟩ : ∃ n, w.heap.size = n := ⟨_, rfl⟩
  rw [hn]
  go_enter Tryd.func34, Tryd.ntmps34
  go_wp2_with (first
    | (refine wpList_build_none rfl 78 rfl (hashV newL).toArray built78 ?_)
    | (refine wpList_box_new 2 rfl rfl 78 _ rfl n hn (hashV newL) rfl ?_; intro w1 h1))
  go_ret
  exact ⟨rfl, h1⟩

theorem write_none (v : Value) (w : World) : Calls Tryd.prog 35 #[.pointer none, v] w fun e w' => e = .returned (.tuple #[]) ∧ w' = w := by
  go_enter Tryd.func35, Tryd.ntmps35
  go_wp2
  exact bodyPost_ret (results_none (by kernel_rfl) _ _ _) rfl ⟨rfl, rfl⟩

theorem write_nil (b : Nat) (w : World) : Calls Tryd.prog 35 #[.pointer (some ⟨b, 0, none⟩), .slice none 0 0] w fun e w' => e = .returned (.tuple #[]) ∧ w' = w := by
  go_enter Tryd.func35, Tryd.ntmps35
  go_wp2_with fail
  go_loopw [10] (fun c wr => c = .int .i64 0 ∧ wr = w) (fun _ _ => 0)
  case atStart => exact ⟨rfl, rfl⟩
  case round =>
    obtain ⟨rfl, rfl⟩ := hrel
    go_wp2
    exact bodyPost_end (results_none (by kernel_rfl) _ _ _) rfl ⟨rfl, rfl⟩

/-- The parts' bytes, one behind the other. -/
def bytes (ps : List ByteArray) : List UInt8 := ps.flatMap fun p => p.data.toList
theorem bytes_take (ps : List ByteArray) (k : Nat) (h : k < ps.length) : bytes (ps.take (k + 1)) = bytes (ps.take k) ++ ps[k].data.toList := by
  rw [bytes, List.take_succ_eq_append_getElem h, List.flatMap_append]; simp [bytes]
theorem bytes_take_le (ps : List ByteArray) (k : Nat) : (bytes (ps.take k)).length ≤ (bytes ps).length := by
  have : bytes ps = bytes (ps.take k) ++ bytes (ps.drop k) := by rw [bytes, bytes, bytes, ← List.flatMap_append, List.take_append_drop]
  rw [this]; simp

set_option maxHeartbeats 400000 in
set_option maxRecDepth 100000 in
theorem write_some (h : H) (hok : h.Ok) (ps : List ByteArray) (hlen : h.len + (bytes ps).length + 64 < 1152921504606846976) (hps : ps.length < 140737488355328) (b : Nat) (hb2 : 2 ≤ b) (g o cap : Nat) (hg : g ≠ b) (w : World) (hL : Laid w) (hh : Holds w b (hashV h) 78)
    (hp : ∀ (i : Nat) (p : ByteArray), ps[i]? = some p → w.cell? ⟨g, o + i, none⟩ = some (.string p)) :
    Calls Tryd.prog 35 #[.pointer (some ⟨b, 0, none⟩), .slice (some ⟨g, o, none⟩) ps.length cap] w fun e w' => e = .returned (.tuple #[]) ∧ Holds w' b (hashV (putN h (bytes ps))) 78 ∧ Upd b w w' := by
  have HP : Hid (∀ (i : Nat) (p : ByteArray), ps[i]? = some p → w.cell? ⟨g, o + i, none⟩ = some (.string p)) := hp
  clear hp
  go_enter Tryd.func35, Tryd.ntmps35
  go_wp2_with fail
  go_loopw [10] (fun c wr => ∃ k : Nat, k ≤ ps.length ∧ c = .int .i64 (k : Int) ∧ Holds wr b (hashV (putN h (bytes (ps.take k)))) 78 ∧ Upd b w wr) (fun c _ => ps.length - (intOf c).toNat)
  case atStart => exact ⟨0, by omega, rfl, hh, Upd.refl _ _⟩
  case round =>
    obtain ⟨k, hk, rfl, hk1, hu⟩ := hrel
    by_cases hlt : k < ps.length
    · have hw0 := HP.out k ps[k] (List.getElem?_eq_getElem hlt)
      have hgl : g < w.heap.size := World.block_lt_of_cell? w _ hw0
      have c0 : wr.cell? ⟨g, o + k, none⟩ = some (.string ps[k]) := by
        rw [World.cell?_of_block (w := w) (hu.block g hgl hg)]; exact hw0
      have hbt := bytes_take ps k hlt
      have hle := bytes_take_le ps (k + 1)
      have hl1 : (putN h (bytes (ps.take k))).len = h.len + (bytes (ps.take k)).length := putN_len _ _
      have hcall : Hid (∀ W, Laid W → Holds W b (hashV (putN h (bytes (ps.take k)))) 78 → Calls Tryd.prog 46 #[.pointer (some ⟨b, 0, none⟩), .string ps[k]] W fun e w' => e = .returned (.tuple #[]) ∧ Holds w' b (hashV (putN h (bytes (ps.take (k + 1))))) 78 ∧ Upd b W w') := fun W hW hH => by
        rw [hbt, List.length_append] at hle
        have hz : ps[k].data.toList.length = ps[k].size := Array.length_toList
        have := fill_any _ ps[k] (by unfold maxLen; omega) (putN_ok (bytes (ps.take k)) h hok) (by rw [hl1]; omega) b hb2 W hW hH
        rw [← putN_append, ← hbt] at this
        exact this
      clear hbt hle hl1 hw0
      have i0 : (0 : Int) ≤ (k : Int) := by omega
      have i1 : (k : Int) < (ps.length : Int) := by omega
      go_wp2_with (go_at_call 46; refine (hcall.out _ (hL.upd hu hb2) hk1).mono ?_; rintro e w2 ⟨rfl, h2, u2⟩)
      exact ⟨⟨k + 1, by omega, by go_num, h2, hu.trans u2⟩, by simp [intOf]; omega⟩
    · have hk1 : Holds wr b (hashV (putN h (bytes ps))) 78 := by rw [List.take_of_length_le (by omega)] at hk1; exact hk1
      go_wp2
      exact bodyPost_end (results_none (by kernel_rfl) _ _ _) rfl ⟨rfl, hk1, hu⟩

theorem hash_range {w : World} {b : Nat} {h : H} {t : TypeId} (hh : Holds w b (hashV h) t) : w.rangeAt b 0 (hashV h) := hh.range 0 _ (fun j v hv => by rw [Nat.zero_add]; exact hv)
theorem hashV_one (h : H) : ∀ v ∈ hashV h, v.oneCell' = true := by
  intro v hv
  rw [hashV, List.mem_cons, List.mem_append] at hv
  rcases hv with rfl | hv | hv
  · rfl
  · exact wordV_one _ v hv
  · exact byteV_one _ v hv
theorem spreadL_length (st : List (BitVec 32)) (h : st.length = 8) : (spreadL st).length = 32 := by
  obtain ⟨s0, s1, s2, s3, s4, s5, s6, s7, rfl⟩ := eight_of st h
  rfl
theorem padL_ok (h : H) (k : h.Ok) : (padL h).Ok := putN_ok _ _ k
theorem sumL_length (h : H) (k : h.Ok) : (sumL h).length = 32 := spreadL_length _ (padL_ok h k).st

set_option maxHeartbeats 400000 in
set_option maxRecDepth 100000 in
theorem hsum_some (h : H) (hok : h.Ok) (hlen : h.len + 200 < 1152921504606846976) (b : Nat) (w : World) (hL : Laid w) (hh : Holds w b (hashV h) 78) :
    Calls Tryd.prog 36 #[.pointer (some ⟨b, 0, none⟩)] w fun e w' => e = .returned (.agg ((sumL h).map byteV).toArray) ∧ Below w.heap.size w w' := by
  have hn2 := hL.two
  obtain ⟨d, hu, hd⟩ := und78
  have hbl := hh.lt
  obtain ⟨n, hn⟩ : ∃ n, w.heap.size = n := ⟨_, rfl⟩
  rw [hn] at hn2 hbl ⊢
  have hs := sumL_length h hok
  go_enter Tryd.func36, Tryd.ntmps36
  go_wp2_with (first
    | (refine wpList_alloc_new 2 rfl rfl 49 rfl n hn _ (zero_of_info info49).1 ?_; intro w1 h1; have hh1 := hh.below h1.below hbl)
    | (refine wpList_load_part rfl 78 (.tmp 8) rfl b 0 rfl (hashV h) d (hash_range hh1) hu hd (by rw [(zero_of_info info78).2, hashV_len h hok]) ?_)
    | (refine wpList_alloc_new 3 rfl rfl 78 rfl (n + 1) h1.size _ (zero_of_info info78).1 ?_; intro w2 h2)
    | (refine wpList_store_all rfl 78 (.tmp 3) (.tmp 9) rfl (n + 1) rfl (hashV h) rfl 78 _ h2.holds (by rw [(zero_of_info info78).2, hashV_len h hok]) (by rw [hashV_len h hok, hashV_len newL newL_ok]) (hashV_one h) ?_; intro w3 h3; have hL3 : Laid w3 := ((hL.below h1.below (by omega)).below h2.below (by omega)).below (h3.below (B := n + 1) (by omega)) (by omega))
    | (go_at_call 47; refine (pad_any h hok hlen (n + 1) (by omega) _ hL3 h3.holds).mono ?_; rintro e w4 ⟨rfl, h4, u4⟩)
    | (refine wpList_load_part rfl 63 (.tmp 11) rfl (n + 1) 1 rfl ((padL h).st.map wordV) _ (hash_st h4) und63 rfl (by rw [(zero_of_info info63).2]; simp [(padL_ok h hok).st]) ?_)
    | (go_at_call 48; refine (spread_any (padL h).st (padL_ok h hok).st _).mono ?_; rintro e w5 ⟨rfl, h5⟩; have hR4 := ((h1.holds.below h2.below (by omega)).below (h3.below (B := n + 1) (by omega)) (by omega)).upd u4 (by omega); have hR5 := hR4.below h5 hR4.lt)
    | (refine wpList_store_all rfl 49 (.tmp 2) (.tmp 13) rfl n rfl ((sumL h).map byteV) rfl 49 _ hR5 (by rw [(zero_of_info info49).2, List.length_map, sumL_length h hok]) (by rw [List.length_map, List.length_map, sumL_length h hok]; rfl) (byteV_one _) ?_; intro w6 h6))
  have b3 : Below n w w3 := (h1.below.trans (h2.below.mono (by omega))).trans (h3.below (by omega))
  have z3 : n ≤ w3.heap.size := by have := b3.size; omega
  have b5 : Below n w w5 := (b3.trans (u4.below (by omega) z3)).trans (h5.mono (by have := u4.size; omega))
  exact bodyPost_ret (results_cell_row (p := 2) (by kernel_rfl) _ w6 n 49 ((sumL h).map byteV).toArray (0, 0) _ rfl h6.holds und49 rfl (by rw [(zero_of_info info49).2, List.size_toArray, List.length_map, sumL_length h hok])) rfl ⟨rfl, b5.trans (h6.below (Nat.le_refl _))⟩

/-- Where a list of parts lies: nowhere, if there are none; or in a block. -/
def Parts (w : World) (v : Value) (ps : List ByteArray) : Prop :=
  (v = .slice none 0 0 ∧ ps = []) ∨ ∃ g o cap, v = .slice (some ⟨g, o, none⟩) ps.length cap ∧ g < w.heap.size ∧ ∀ (i : Nat) (p : ByteArray), ps[i]? = some p → w.cell? ⟨g, o + i, none⟩ = some (.string p)
theorem Parts.below {w w' : World} {B : Nat} {v : Value} {ps : List ByteArray} (h : Parts w v ps) (hb : Below B w w') (hB : w.heap.size ≤ B) : Parts w' v ps := by
  rcases h with h | ⟨g, o, cap, rfl, hg, h⟩
  · exact .inl h
  · refine .inr ⟨g, o, cap, rfl, Nat.lt_of_lt_of_le hg hb.size, fun i p hp => ?_⟩
    rw [hb.cell (p := ⟨g, o + i, none⟩) (Nat.lt_of_lt_of_le hg hB)]; exact h i p hp

theorem write_any (h : H) (hok : h.Ok) (ps : List ByteArray) (hlen : h.len + (bytes ps).length + 64 < 1152921504606846976) (hps : ps.length < 140737488355328) (b : Nat) (hb2 : 2 ≤ b) (v : Value) (w0 w : World) (hp : Parts w0 v ps) (hw : Below b w0 w) (hz : w0.heap.size ≤ b) (hL : Laid w) (hh : Holds w b (hashV h) 78) :
    Calls Tryd.prog 35 #[.pointer (some ⟨b, 0, none⟩), v] w fun e w' => e = .returned (.tuple #[]) ∧ Holds w' b (hashV (putN h (bytes ps))) 78 ∧ Upd b w w' := by
  rcases hp with ⟨rfl, rfl⟩ | ⟨g, o, cap, rfl, hg, hp⟩
  · refine (write_nil b w).mono ?_
    rintro e w' ⟨rfl, rfl⟩
    exact ⟨rfl, hh, Upd.refl _ _⟩
  · exact write_some h hok ps hlen hps b hb2 g o cap (by omega) w hL hh (fun i p hi => by rw [hw.cell (p := ⟨g, o + i, none⟩) (by show g < b; omega)]; exact hp i p hi)

set_option maxHeartbeats 400000 in
set_option maxRecDepth 100000 in
/-- Sum: that of the parts, one behind the other. -/
theorem sum_any (ps : List ByteArray) (hlen : (bytes ps).length < 1152921504606846976 - 300) (hps : ps.length < 140737488355328) (v : Value) (w : World) (hp : Parts w v ps) (hL : Laid w) :
    Calls Tryd.prog 24 #[v] w fun e w' => e = .returned (.agg ((sumL (putN newL (bytes ps))).map byteV).toArray) ∧ Below w.heap.size w w' := by
  have hn2 := hL.two
  have HP : Hid (Parts w v ps) := hp
  clear hp
  obtain ⟨n, hn⟩ : ∃ n, w.heap.size = n := ⟨_, rfl⟩
  rw [hn] at hn2 ⊢
  have ok1 := putN_ok (bytes ps) newL newL_ok
  have hl1 : (putN newL (bytes ps)).len = (bytes ps).length := by rw [putN_len]; simp [newL]
  go_enter Tryd.func24, Tryd.ntmps24
  go_wp2_with (first
    | (refine wpList_alloc_new 2 rfl rfl 49 rfl n hn _ (zero_of_info info49).1 ?_; intro w1 h1)
    | (go_at_call 34; refine (new_any _).mono ?_; rw [h1.size]; rintro e w2 ⟨rfl, h2⟩; have b2 : Below n w w2 := h1.below.trans (h2.below.mono (by omega)); have hL2 : Laid w2 := hL.below b2 (by omega))
    | (go_at_call 35; refine (write_any newL newL_ok ps (by rw [show newL.len = 0 from rfl]; omega) hps (n + 1) (by omega) v w1 _ (HP.out.below h1.below (by omega)) h2.below (Nat.le_of_eq h1.size) hL2 h2.holds).mono ?_; rintro e w3 ⟨rfl, h3, u3⟩; have hL3 : Laid w3 := hL2.upd u3 (by omega))
    | (go_at_call 36; refine (hsum_some _ ok1 (by rw [hl1]; omega) (n + 1) _ hL3 h3).mono ?_; rintro e w4 ⟨rfl, h4⟩; have hR3 := (h1.holds.below h2.below (by omega)).upd u3 (by omega); have hR4 := hR3.below h4 hR3.lt)
    | (refine wpList_store_all rfl 49 (.tmp 2) (.tmp 9) rfl n rfl ((sumL (putN newL (bytes ps))).map byteV) rfl 49 _ hR4 (by rw [(zero_of_info info49).2, List.length_map, sumL_length _ ok1]) (by rw [List.length_map, List.length_map, sumL_length _ ok1]; rfl) (byteV_one _) ?_; intro w5 h5))
  have z2 : n + 2 = w2.heap.size := h2.size.symm
  have b4 : Below n w w4 := (b2.trans (u3.below (by omega) (by omega))).trans (h4.mono (by have := u3.size; omega))
  exact bodyPost_ret (results_cell_row (p := 2) (by kernel_rfl) _ w5 n 49 ((sumL (putN newL (bytes ps))).map byteV).toArray (0, 0) _ rfl h5.holds und49 rfl (by rw [(zero_of_info info49).2, List.size_toArray, List.length_map, sumL_length _ ok1])) rfl ⟨rfl, b4.trans (h5.below (Nat.le_refl _))⟩

set_option maxHeartbeats 400000 in
set_option maxRecDepth 100000 in
/-- Of no hash: the sum of no bytes. -/
theorem hsum_none (w : World) (hL : Laid w) :
    Calls Tryd.prog 36 #[.pointer none] w fun e w' => e = .returned (.agg ((sumL newL).map byteV).toArray) ∧ Below w.heap.size w w' := by
  have hn2 := hL.two
  obtain ⟨n, hn⟩ : ∃ n, w.heap.size = n := ⟨_, rfl⟩
  rw [hn] at hn2 ⊢
  have ok1 := newL_ok
  go_enter Tryd.func36, Tryd.ntmps36
  go_wp2_with (first
    | (refine wpList_alloc_new 2 rfl rfl 49 rfl n hn _ (zero_of_info info49).1 ?_; intro w1 h1; have hL1 : Laid w1 := hL.below h1.below (by omega))
    | (go_at_call 24; refine (sum_any [] (by decide) (by decide) _ _ (.inl ⟨rfl, rfl⟩) hL1).mono ?_; rintro e w4 ⟨rfl, h4⟩; have hR4 := h1.holds.below h4 h1.holds.lt)
    | (refine wpList_store_all rfl 49 (.tmp 2) (.tmp 6) rfl n rfl ((sumL newL).map byteV) rfl 49 _ hR4 (by rw [(zero_of_info info49).2, List.length_map, sumL_length _ ok1]) (by rw [List.length_map, List.length_map, sumL_length _ ok1]; rfl) (byteV_one _) ?_; intro w5 h5))
  have b4 : Below n w w4 := h1.below.trans (h4.mono (by rw [h1.size]; omega))
  exact bodyPost_ret (results_cell_row (p := 2) (by kernel_rfl) _ w5 n 49 ((sumL newL).map byteV).toArray (0, 0) _ rfl h5.holds und49 rfl (by rw [(zero_of_info info49).2, List.size_toArray, List.length_map, sumL_length _ ok1])) rfl ⟨rfl, b4.trans (h5.below (Nat.le_refl _))⟩
end Go.Proofs.YtlliijodilnlgaaDoor
