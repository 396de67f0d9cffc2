/- What package sha's Join and the document's own Join answer: the sum of the sums' bytes, one behind the other. -/
import Derived.Test.YtbfadapffpijpaaDoorShSum
import Derived.Test.YtbfadapffpijpaaDoorShEql
namespace Go.Proofs.YtbfadapffpijpaaDoor
open Go.RowKit

/-- The text of some bytes. -/
def strL (l : List UInt8) : ByteArray := ⟨l.toArray⟩
theorem strL_data (l : List UInt8) : (strL l).data.toList = l := rfl
theorem strL_size (l : List UInt8) : (strL l).size = l.length := by show l.toArray.size = _; simp
theorem strL_nums (l : List UInt8) : strOfNums (l.map fun c => (c.toNat : Int)) = strL l := by
  apply ByteArray.ext
  apply Array.ext'
  rw [strOfNums_data]
  have e : ((fun n : Int => UInt8.ofNat n.toNat) ∘ fun c : UInt8 => (c.toNat : Int)) = id := funext fun c => by simp
  simp [strL, e]
/-- From o on in block g lie the sums. -/
def Lies (w : World) (g o : Nat) (ls : List (List UInt8)) : Prop := ∀ (i : Nat) (l : List UInt8), ls[i]? = some l → w.rangeAt g (o + i * 32) (l.map byteV)
theorem Lies.below {w w' : World} {B g o : Nat} {ls : List (List UInt8)} (h : Lies w g o ls) (hb : Below B w w') (hB : g < B) : Lies w' g o ls := fun i l hl => rangeAt_below (h i l hl) hb hB
theorem und9 : Tryd.prog.underlying 9 = some .string := by kernel_rfl
theorem und38 : Tryd.prog.underlying 38 = some (.slice 26) := by kernel_rfl
theorem run_slice32 (w : World) (b o : Nat) : (Instr.sliceAt 26 (.pointer (some ⟨b, o, none⟩)) none none none).run Tryd.prog w = .ok (.slice (some ⟨b, o, none⟩) 32 32) w := by
  simp [Instr.sliceAt, Sem.run_bind, run_underlying und26, Instr.sureAddr, Instr.sliceBounds, run_sizeOf siz5, Addr.add]
theorem run_text32 (w : World) (b o : Nat) (l : List UInt8) (hl : l.length = 32) (h : w.rangeAt b o (l.map byteV)) : (convert 73 9 (.slice (some ⟨b, o, none⟩) 32 32)).run Tryd.prog w = .ok (.string (strL l)) w := by
  have := run_convert_bytes_arg (P := Tryd.prog) w 73 5 und73 und5 b o 32 32 (l.map fun c => (c.toNat : Int)) (by simp [hl]) (fun i hi => by
    have hi' : i < l.length := by omega
    exact h i _ (by simp [hi']; rfl)) 9 und9
  rw [strL_nums] at this
  exact this
theorem flat_take (ls : List (List UInt8)) (k : Nat) (h : k < ls.length) : (ls.take (k + 1)).flatten = (ls.take k).flatten ++ ls[k] := by
  rw [List.take_succ_eq_append_getElem h, List.flatten_append]; simp
theorem flat_len (ls : List (List UInt8)) (h : ∀ l ∈ ls, l.length = 32) : ls.flatten.length = 32 * ls.length := by
  induction ls with
  | nil => rfl
  | cons a r ih => rw [List.flatten_cons, List.length_append, h a (by simp), ih (fun l hl => h l (by simp [hl])), List.length_cons]; omega
theorem flat_take_len (ls : List (List UInt8)) (h : ∀ l ∈ ls, l.length = 32) (k : Nat) (hk : k ≤ ls.length) : (ls.take k).flatten.length = 32 * k := by
  rw [flat_len _ (fun l hl => h l (List.mem_of_mem_take hl)), List.length_take, Nat.min_eq_left hk]

set_option maxHeartbeats 8000000 in
set_option maxRecDepth 100000 in
theorem join_some (ls : List (List UInt8)) (h32 : ∀ l ∈ ls, l.length = 32) (h60 : ls.length ≤ 60) (g o cap : Nat) (w : World) (hg : g < w.heap.size) (hl : Lies w g o ls) (hL : Laid w) :
    Calls Tryd.prog 28 #[.slice (some ⟨g, o, none⟩) ls.length cap] w fun e w' => e = .returned (.agg ((sumL (putN newL ls.flatten)).map byteV).toArray) ∧ Below w.heap.size w w' := by
  have hn2 := hL.two
  have HL : Hid (Lies w g o ls) := hl
  have H32 : Hid (∀ l ∈ ls, l.length = 32) := h32
  clear hl h32
  obtain ⟨n, hn⟩ : ∃ n, w.heap.size = n := ⟨_, rfl⟩
  rw [hn] at hn2 hg ⊢
  go_enter Tryd.func28, Tryd.ntmps28
  go_wp2_with (first
    | (refine wpList_alloc_new 2 rfl rfl 26 rfl n hn _ (zero_of_info info26).1 ?_; intro w1 h1)
    | (go_at_call 36; refine (new_any _).mono ?_; rw [h1.size]; rintro e w2 ⟨rfl, h2⟩))
  have b2 : Below n w w2 := h1.below.trans (h2.below.mono (by omega))
  have hR2 := h1.holds.below h2.below (by omega)
  have hH2 : Holds w2 (n + 1) (hashV (putN newL (ls.take 0).flatten)) 95 := h2.holds
  clear h1 h2
  go_loopw [9] (fun c wr => ∃ k : Nat, k ≤ ls.length ∧ c = .int .i64 (k : Int) ∧ Holds wr n ((List.replicate 32 (0 : UInt8)).map byteV) 26 ∧ Holds wr (n + 1) (hashV (putN newL (ls.take k).flatten)) 95 ∧ Below n w wr) (fun c _ => ls.length - (intOf c).toNat)
  case atStart => exact ⟨0, by omega, rfl, hR2, hH2, b2⟩
  case round =>
    clear hR2 hH2 b2
    obtain ⟨k, hk, rfl, hR, hH, hb⟩ := hrel
    by_cases hlt : k < ls.length
    · obtain ⟨l, hlk⟩ : ∃ l, ls[k] = l := ⟨_, rfl⟩
      have hl32 : l.length = 32 := H32.out l (hlk ▸ List.getElem_mem hlt)
      have hrg : wr.rangeAt g (o + k * 32) (l.map byteV) := HL.out.below hb (by omega) k l (by rw [List.getElem?_eq_getElem hlt, hlk])
      have HRG : Hid (wr.rangeAt g (o + k * 32) (l.map byteV)) := hrg
      have hfl : (ls.take (k + 1)).flatten = (ls.take k).flatten ++ l := by rw [flat_take ls k hlt, hlk]
      have hfn := flat_take_len ls H32.out k (by omega)
      have hcall : Hid (∀ W, Laid W → Holds W (n + 1) (hashV (putN newL (ls.take k).flatten)) 95 → Calls Tryd.prog 37 #[.pointer (some ⟨n + 1, 0, none⟩), .string (strL l)] W fun e w' => e = .returned (.tuple #[]) ∧ Holds w' (n + 1) (hashV (putN newL (ls.take (k + 1)).flatten)) 95 ∧ Upd (n + 1) W w') := fun W hW hh => by
        have := fill_any _ (strL l) (by rw [strL_size, hl32]; decide) (putN_ok (ls.take k).flatten newL newL_ok) (by rw [putN_len, hfn, strL_size, hl32]; simp only [newL]; omega) (n + 1) (by omega) W hW hh
        rw [strL_data, ← putN_append, ← hfl] at this
        exact this
      clear hrg hfl hfn hlk
      have i0 : (0 : Int) ≤ (k : Int) := by omega
      have i1 : (k : Int) < (ls.length : Int) := by omega
      go_wp2_with (first
        | (refine wpList_load_part rfl 26 (.tmp 11) rfl g (o + k * 32) rfl (l.map byteV) _ HRG.out und26 rfl (by rw [(zero_of_info info26).2, List.length_map, hl32]) ?_; obtain ⟨c, hc⟩ : ∃ c, wr.heap.size = c := ⟨_, rfl⟩; have hnc : n + 1 < c := (by rw [← hc]; exact hH.lt))
        | (refine wpList_alloc_new 5 rfl rfl 26 rfl c hc _ (zero_of_info info26).1 ?_; intro w4 h4)
        | (refine wpList_store_all rfl 26 (.tmp 5) (.tmp 12) rfl c rfl (l.map byteV) rfl 26 _ h4.holds (by rw [(zero_of_info info26).2, List.length_map, hl32]) (by rw [List.length_map, List.length_map, hl32]; rfl) (byteV_one _) ?_; intro w5 h5; have hsl := run_slice32 w5 c 0; have hcv := run_text32 w5 c 0 l hl32 (h5.holds.range 0 _ (fun j v hv => by rw [Nat.zero_add]; exact hv)); have b45 : Below (n + 2) wr w5 := (h4.below.mono (by omega)).trans (h5.below (by omega)); have hH5 := hH.below b45 (by omega); have b5 : Below n w w5 := hb.trans (b45.mono (by omega)); have hR5 := hR.below b45 (by omega))
        | (go_at_call 37; refine (hcall.out w5 (hL.below b5 (by omega)) hH5).mono ?_; rintro e w6 ⟨rfl, hH6, u6⟩))
      exact ⟨⟨k + 1, by omega, by go_num, hR5.upd u6 (by omega), hH6, b5.trans (u6.below (by omega) (by have := hR5.lt; omega))⟩, by simp [intOf]; omega⟩
    · have hfl : (ls.take k).flatten = ls.flatten := by rw [List.take_of_length_le (by omega)]
      rw [hfl] at hH
      have hfn := flat_len ls H32.out
      clear hfl
      have ok1 := putN_ok ls.flatten newL newL_ok
      have hl1 : (putN newL ls.flatten).len = ls.flatten.length := by rw [putN_len]; simp [newL]
      have hsum : Hid (∀ W, Laid W → Holds W (n + 1) (hashV (putN newL ls.flatten)) 95 → Calls Tryd.prog 38 #[.pointer (some ⟨n + 1, 0, none⟩)] W fun e w' => e = .returned (.agg ((sumL (putN newL ls.flatten)).map byteV).toArray) ∧ Below W.heap.size W w') := fun W hW hh => hsum_some _ ok1 (by rw [hl1, hfn]; omega) (n + 1) W hW hh
      have hq := sumL_length _ ok1
      obtain ⟨q, Hq⟩ : ∃ q, Hid (sumL (putN newL ls.flatten) = q) := ⟨_, rfl⟩
      rw [Hq.out] at hsum hq
      have i1 : ¬ (k : Int) < (ls.length : Int) := by omega
      clear ok1 hl1 hfn
      go_wp2_with (first
        | (go_at_call 38; refine (hsum.out wr (hL.below hb (by omega)) hH).mono ?_; rintro e w4 ⟨rfl, h4⟩; have hR4 := hR.below h4 hR.lt)
        | (refine wpList_store_all rfl 26 (.tmp 2) (.tmp 19) rfl n rfl (q.map byteV) rfl 26 _ hR4 (by rw [(zero_of_info info26).2, List.length_map, hq]) (by rw [List.length_map, List.length_map, hq]; rfl) (byteV_one _) ?_; intro w5 h5))
      exact bodyPost_ret (results_cell_row (p := 2) (by kernel_rfl) _ w5 n 26 (q.map byteV).toArray (0, 0) _ rfl h5.holds und26 rfl (by rw [(zero_of_info info26).2, List.size_toArray, List.length_map, hq])) rfl ⟨by rw [Hq.out], (hb.trans (h4.mono (by have := hb.size; omega))).trans (h5.below (by omega))⟩

set_option maxHeartbeats 8000000 in
set_option maxRecDepth 100000 in
/-- Of no sums. -/
theorem join_none (a0 : Option Addr) (cap : Nat) (w : World) (hL : Laid w) :
    Calls Tryd.prog 28 #[.slice a0 0 cap] w fun e w' => e = .returned (.agg ((sumL (putN newL [])).map byteV).toArray) ∧ Below w.heap.size w w' := by
  have hn2 := hL.two
  obtain ⟨n, hn⟩ : ∃ n, w.heap.size = n := ⟨_, rfl⟩
  rw [hn] at hn2 ⊢
  have ok1 := putN_ok [] newL newL_ok
  have hsum : Hid (∀ W, Laid W → Holds W (n + 1) (hashV (putN newL [])) 95 → Calls Tryd.prog 38 #[.pointer (some ⟨n + 1, 0, none⟩)] W fun e w' => e = .returned (.agg ((sumL (putN newL [])).map byteV).toArray) ∧ Below W.heap.size W w') := fun W hW hh => hsum_some _ ok1 (by decide) (n + 1) W hW hh
  have hq := sumL_length _ ok1
  obtain ⟨q, Hq⟩ : ∃ q, Hid (sumL (putN newL []) = q) := ⟨_, rfl⟩
  rw [Hq.out] at hsum hq ⊢
  clear ok1
  go_enter Tryd.func28, Tryd.ntmps28
  go_wp2_with (first
    | (refine wpList_alloc_new 2 rfl rfl 26 rfl n hn _ (zero_of_info info26).1 ?_; intro w1 h1)
    | (go_at_call 36; refine (new_any _).mono ?_; rw [h1.size]; rintro e w2 ⟨rfl, h2⟩))
  have b2 : Below n w w2 := h1.below.trans (h2.below.mono (by omega))
  have hR2 := h1.holds.below h2.below (by omega)
  have hH2 : Holds w2 (n + 1) (hashV (putN newL [])) 95 := h2.holds
  clear h1 h2
  go_loopw [9] (fun c wr => c = .int .i64 0 ∧ wr = w2) (fun _ _ => 0)
  case atStart => exact ⟨rfl, rfl⟩
  case round =>
    obtain ⟨rfl, rfl⟩ := hrel
    go_wp2_with (first
      | (go_at_call 38; refine (hsum.out _ (hL.below b2 (by omega)) hH2).mono ?_; rintro e w4 ⟨rfl, h4⟩; have hR4 := hR2.below h4 hR2.lt)
      | (refine wpList_store_all rfl 26 (.tmp 2) (.tmp 19) rfl n rfl (q.map byteV) rfl 26 _ hR4 (by rw [(zero_of_info info26).2, List.length_map, hq]) (by rw [List.length_map, List.length_map, hq]; rfl) (byteV_one _) ?_; intro w5 h5))
    exact bodyPost_ret (results_cell_row (p := 2) (by kernel_rfl) _ w5 n 26 (q.map byteV).toArray (0, 0) _ rfl h5.holds und26 rfl (by rw [(zero_of_info info26).2, List.size_toArray, List.length_map, hq])) rfl ⟨rfl, (b2.trans (h4.mono (by have := b2.size; omega))).trans (h5.below (by omega))⟩
end Go.Proofs.YtbfadapffpijpaaDoor
