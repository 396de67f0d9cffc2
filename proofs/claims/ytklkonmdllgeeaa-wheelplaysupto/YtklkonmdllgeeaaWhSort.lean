/- slices.SortFunc (21) at timers, with upTo's closure (22). -/
import Derived.Shelf.SlSortCmp.InsertionK
import Derived.Shelf.SlSortCmp.WholeK
import Derived.Test.YtklkonmdllgeeaaShelfB
import Derived.Test.YtklkonmdllgeeaaWhDue
import Derived.Deep.QuietTactic
import Derived.Deep.RegionHeld3
import Derived.Sort.Grow
namespace Go.Proofs.Ytklkonmdllgeeaa
open Go.RowKit Go.Shelf Go.Sort Go.Lib

def cmpT (x y : Tm) : Int := if cmpN x.2.1 y.2.1 = 0 then cmpN x.2.2 y.2.2 else cmpN x.2.1 y.2.1
theorem cmpT_lt (x y : Tm) : ltOf cmpT x y = decide (x.2.1 < y.2.1 ∨ (x.2.1 = y.2.1 ∧ x.2.2 < y.2.2)) := by
  unfold ltOf cmpT cmpN
  by_cases h1 : x.2.1 < y.2.1
  · simp [h1]
  · by_cases h2 : y.2.1 < x.2.1
    · have h3 : ¬ x.2.1 = y.2.1 := by omega
      simp [h1, h2, h3]
    · have h3 : x.2.1 = y.2.1 := by omega
      by_cases h4 : x.2.2 < y.2.2
      · simp [h3, h4]
      · by_cases h5 : y.2.2 < x.2.2 <;> simp [h3, h4, h5]
theorem cmpT_swo : SWO (ltOf cmpT) where
  irrefl x := by rw [cmpT_lt]; simp
  trans x y z h1 h2 := by rw [cmpT_lt] at *; simp at *; omega
  ntrans x y z h1 h2 := by rw [cmpT_lt] at *; simp at *; omega
theorem flat_cellsT (l : Ts) (t : Nat) (h : t < l.length * 3) (tl : List Value) : (cellsT l ++ tl)[t]? = some ((tmV l.toArray[t / 3]!)[t % 3]!) := by
  have hlt : t / 3 < l.length := by omega
  have hd : l[t / 3]? = some l[t / 3] := List.getElem?_eq_getElem hlt
  have he : l.toArray[t / 3]! = l[t / 3] := by simp [hlt]
  have hm : t % 3 < 3 := Nat.mod_lt _ (by omega)
  have hc := cellsT_cell hd (t % 3) hm tl
  have ht : t / 3 * 3 + t % 3 = t := by omega
  rw [ht] at hc
  rw [hc, he]
  rw [List.getElem!_eq_getElem?_getD, List.getElem?_eq_getElem (by simpa [tmV] using hm)]
  rfl
theorem holdsK_tm {w : World} {b : Nat} {l : Ts} {tl : List Value} (h : Ytklkonmdllgeeaa.Holds w b (cellsT l ++ tl) 57) : HoldsK tmV 3 w b 0 l.toArray := fun j hj => by
  have hj' : j < l.length * 3 := by simpa using hj
  refine ⟨?_, h.frozen _⟩
  rw [Nat.zero_add, h.at j _ (flat_cellsT l j hj' tl), get_flatK _ _ _ _ (by simpa using hj')]
  rfl
theorem put_blockT {w : World} {b m : Nat} {l l' : Ts} {tl : List Value} (h : Ytklkonmdllgeeaa.Holds w b (cellsT l ++ tl) 57) (hm : m ≤ b) (hl : l'.length = l.length) (n : Nat) (os : Array Obj) :
    Ytklkonmdllgeeaa.Holds (sortWorldK tmV 3 w b 0 n l'.toArray os) b (cellsT l' ++ tl) 57 ∧ Go.RowKit.Below m w (sortWorldK tmV 3 w b 0 n l'.toArray os) := by
  have hb := h.lt
  have hsz : (putRowK tmV 3 (Go.Sort.ahead w n) b 0 l'.toArray).heap.size = w.heap.size := by
    simp [putRowK, putRow, mapBlock, Go.Sort.ahead]
  have hh : ∀ k, (putRowK tmV 3 (Go.Sort.ahead w n) b 0 l'.toArray).heap[k]? = if b = k then (w.heap[k]?).map (onCells (putCells id 0 (flatK tmV 3 l'.toArray))) else w.heap[k]? := by
    intro k
    simp only [putRowK, putRow, mapBlock, Go.Sort.ahead, Array.getElem?_modify]
  have hg : ∀ k, k < w.heap.size → (sortWorldK tmV 3 w b 0 n l'.toArray os).heap[k]? = (putRowK tmV 3 (Go.Sort.ahead w n) b 0 l'.toArray).heap[k]? := by
    intro k hk
    show (_ ++ os)[k]? = _
    rw [Array.getElem?_append_left (by rw [hsz]; exact hk)]
  refine ⟨?_, rfl, rfl, rfl, ?_, fun k hk => ?_⟩
  · unfold Ytklkonmdllgeeaa.Holds at *
    rw [hg b hb, hh, if_pos rfl, h]
    show some (Obj.cells (putCells id 0 (flatK tmV 3 l'.toArray) (cellsT l ++ tl).toArray) 57 (0, 0)) = _
    congr 2
    apply Array.ext_getElem?
    intro i
    simp only [putCells, Array.getElem?_mapIdx, List.getElem?_toArray, size_flatK]
    rcases Nat.lt_or_ge i (l.length * 3) with g | g
    · rw [flat_cellsT l i g tl, flat_cellsT l' i (by omega) tl]
      simp only [Option.map_some]
      rw [if_pos (by simp; omega), get_flatK _ _ _ _ (by simp; omega)]
      rfl
    · rw [List.getElem?_append_right (by rw [cellsT_len]; omega), List.getElem?_append_right (by rw [cellsT_len]; omega), cellsT_len, cellsT_len, hl]
      cases tl[i - l.length * 3]? with
      | none => rfl
      | some v => simp only [Option.map_some]; rw [if_neg (by simp; omega)]
  · show w.heap.size ≤ (_ ++ os).size
    rw [Array.size_append, hsz]; omega
  · rw [hg k (by omega), hh, if_neg (by omega)]
set_option maxRecDepth 100000 in
set_option maxHeartbeats 2000000 in
theorem closure_any (x y : Tm) (w : World) : Calls Try.prog 22 #[.agg (tmV x).toArray, .agg (tmV y).toArray] w fun e w' => e = .returned (.int .i64 (cmpT x y)) ∧ ∃ q os', w' = grow (w.drewN q) os' := by
  unfold cmpT
  obtain ⟨x1, x2, x3⟩ := x
  obtain ⟨y1, y2, y3⟩ := y
  have hX := (holds_new w (tmV (x1, x2, x3)) 57).alloc (.cells (tmV (y1, y2, y3)).toArray 57)
  have hY := holds_new (w.alloc (.cells (tmV (x1, x2, x3)).toArray 57)) (tmV (y1, y2, y3)) 57
  rw [World.size_alloc] at hY
  have a1 := hX.at 1 _ rfl
  have a2 := hX.at 2 _ rfl
  have b1 := hY.at 1 _ rfl
  have b2 := hY.at 2 _ rfl
  clear hX hY
  simp only [tmV] at *
  have hci : Hid (∀ W, Calls Try.prog 24 #[.int .i64 x2, .int .i64 y2] W fun e w' => e = .returned (.int .i64 (cmpN x2 y2)) ∧ w' = W) := fun W => compare_int x2 y2 W
  have hcu : Hid (∀ W, Calls Try.prog 25 #[.int .u64 (x3 : Int), .int .u64 (y3 : Int)] W fun e w' => e = .returned (.int .i64 (cmpN x3 y3)) ∧ w' = W) := fun W => compare_u64 x3 y3 W
  generalize cmpN x2 y2 = p at *
  generalize cmpN (x3 : Int) y3 = r at *
  have hor : Hid (∀ W : World, Calls Try.prog 23 #[.slice (some ⟨W.heap.size, 0, none⟩) 2 2] (W.alloc (.cells #[.int .i64 p, .int .i64 r] 3)).drew fun e w' => e = .returned (.int .i64 (if p = 0 then r else p)) ∧ w' = (W.alloc (.cells #[.int .i64 p, .int .i64 r] 3)).drew) := fun W => or_two _ p r _ (holds_new W [.int .i64 p, .int .i64 r] 3).drew
  generalize (if p = 0 then r else p) = z at *
  go_enter Try.func22, Try.ntmps22
  go_wp2_with fail
  obtain ⟨H, hH⟩ : ∃ H, w.heap.size = H := ⟨_, rfl⟩
  rw [hH] at a1 a2 b1 b2 ⊢
  obtain ⟨w2, hw2⟩ : ∃ w2, (w.alloc (.cells #[.string (strL x1), .int .i64 x2, .int .u64 (x3 : Int)] 57)).alloc (.cells #[.string (strL y1), .int .i64 y2, .int .u64 (y3 : Int)] 57) = w2 := ⟨_, rfl⟩
  have HW2 : Hid ((w.alloc (.cells #[.string (strL x1), .int .i64 x2, .int .u64 (x3 : Int)] 57)).alloc (.cells #[.string (strL y1), .int .i64 y2, .int .u64 (y3 : Int)] 57) = w2) := hw2
  have hz2 : H + 1 < w2.heap.size := by rw [← hw2]; simp [hH]
  change ((w.alloc (.cells #[.string (strL x1), .int .i64 x2, .int .u64 (x3 : Int)] 57)).alloc (.cells #[.string (strL y1), .int .i64 y2, .int .u64 (y3 : Int)] 57)).cell? _ = _ at a1
  change ((w.alloc (.cells #[.string (strL x1), .int .i64 x2, .int .u64 (x3 : Int)] 57)).alloc (.cells #[.string (strL y1), .int .i64 y2, .int .u64 (y3 : Int)] 57)).cell? _ = _ at a2
  change ((w.alloc (.cells #[.string (strL x1), .int .i64 x2, .int .u64 (x3 : Int)] 57)).alloc (.cells #[.string (strL y1), .int .i64 y2, .int .u64 (y3 : Int)] 57)).cell? _ = _ at b1
  change ((w.alloc (.cells #[.string (strL x1), .int .i64 x2, .int .u64 (x3 : Int)] 57)).alloc (.cells #[.string (strL y1), .int .i64 y2, .int .u64 (y3 : Int)] 57)).cell? _ = _ at b2
  rw [hw2] at a1 a2 b1 b2 ⊢
  clear hw2 hH
  have e1 : (w2.alloc (.cells #[.int .i64 p, .int .i64 r] 3)).drew.cell? ⟨H, 1, none⟩ = some (.int .i64 x2) := by show (w2.alloc _).cell? _ = _; rw [World.cell?_alloc_past _ _ _ (by show H < w2.heap.size; omega)]; exact a1
  have e2 : (w2.alloc (.cells #[.int .i64 p, .int .i64 r] 3)).drew.cell? ⟨H, 2, none⟩ = some (.int .u64 (x3 : Int)) := by show (w2.alloc _).cell? _ = _; rw [World.cell?_alloc_past _ _ _ (by show H < w2.heap.size; omega)]; exact a2
  have e3 : (w2.alloc (.cells #[.int .i64 p, .int .i64 r] 3)).drew.cell? ⟨H + 1, 1, none⟩ = some (.int .i64 y2) := by show (w2.alloc _).cell? _ = _; rw [World.cell?_alloc_past _ _ _ (by show H + 1 < w2.heap.size; omega)]; exact b1
  have e4 : (w2.alloc (.cells #[.int .i64 p, .int .i64 r] 3)).drew.cell? ⟨H + 1, 2, none⟩ = some (.int .u64 (y3 : Int)) := by show (w2.alloc _).cell? _ = _; rw [World.cell?_alloc_past _ _ _ (by show H + 1 < w2.heap.size; omega)]; exact b2
  go_region_held3 (fun W => W.cell? ⟨H, 1, none⟩ = some (.int .i64 x2) ∧ W.cell? ⟨H, 2, none⟩ = some (.int .u64 (x3 : Int)) ∧ W.cell? ⟨H + 1, 1, none⟩ = some (.int .i64 y2) ∧ W.cell? ⟨H + 1, 2, none⟩ = some (.int .u64 (y3 : Int)))
    (first
      | exact ⟨a1, a2, b1, b2⟩
      | exact ⟨e1, e2, e3, e4⟩)
    (first
      | (go_at_call 24; refine (hci.out _).mono ?_; rintro e w3 ⟨rfl, rfl⟩)
      | (go_at_call 25; refine (hcu.out _).mono ?_; rintro e w4 ⟨rfl, rfl⟩)
      | (go_at_call 23; refine (hor.out _).mono ?_; rintro e w5 ⟨rfl, rfl⟩))
  go_wp2
  go_ret
  exact ⟨rfl, 1, _, by rw [← HW2.out, alloc_eq_grow, alloc_eq_grow, alloc_eq_grow, grow_grow, grow_grow]; rfl⟩
theorem cmpLaysT (blk off size : Nat) (w : World) : CmpLays Try.prog 22 #[] tmV 3 cmpT blk off size w := fun _ _ _ _ x y => closure_any x y _
theorem sortT_some (b m : Nat) (l : Ts) (tl : List Value) (cap : Nat) (hm : m ≤ b) (hlen : l.length < 4611686018427387904) (w : World) (hb : Ytklkonmdllgeeaa.Holds w b (cellsT l ++ tl) 57) :
    Calls Try.prog 21 #[.slice (some ⟨b, 0, none⟩) l.length cap, .func (.func 22) #[] #[]] w fun e w' =>
      e = .returned (.tuple #[]) ∧ ∃ l' : Ts, l'.Perm l ∧ l'.Pairwise (fun x y => leT x y = true) ∧ l'.length = l.length ∧ Ytklkonmdllgeeaa.Holds w' b (cellsT l' ++ tl) 57 ∧ Go.RowKit.Below m w w' := by
  have eg : ∀ args w, (callFunc 22 args).run Try.prog w = .ok (.enter 22 args) w := enters_of Try.func22 (by kernel_rfl) rfl
  have hp := AnyQ.slices_SortFunc_eq Try.sortTm 3 Try.isAgg57 Try.sizeOf57 tmV (fun _ => rfl) (fun x v hv => by exact tmV_one x v hv) cmpT cmpT_swo 22 #[] b 0 cap l.toArray w eg (cmpLaysT b 0 _ w) (holdsK_tm hb) hb.lt (by simpa using hlen)
  change Calls Try.prog 21 _ _ _ at hp
  simp only [List.size_toArray] at hp
  refine hp.mono ?_
  rintro e w' ⟨rfl, n, os, rfl⟩
  have hs := pdq_sorts (ltOf cmpT) cmpT_swo l.toArray 0 l.length (Lib.bitLen l.length) true true (Nat.zero_le _) (by simp) (Or.inl rfl)
  obtain ⟨⟨hz, _, hperm⟩, hsort⟩ := hs
  generalize pdq (ltOf cmpT) l.toArray 0 l.length (Lib.bitLen l.length) true true = d' at *
  have hz' : d'.size = l.length := by simpa using hz
  rw [Array.extract_eq_self_of_le (by omega), Array.extract_eq_self_of_le (by simp)] at hperm
  have hlen' : d'.toList.length = l.length := by simpa using hz'
  have hb2 := put_blockT hb hm hlen' n os
  rw [Array.toArray_toList] at hb2
  refine ⟨rfl, d'.toList, by simpa using hperm, ?_, hlen', hb2.1, hb2.2⟩
  rw [List.pairwise_iff_getElem]
  intro i j hi hj hij
  have := hsort i j (Nat.zero_le _) hij (by omega)
  rw [cmpT_lt, decide_eq_false_iff_not] at this
  have ei : d'[i]! = d'.toList[i] := by simp [show i < d'.size by omega]
  have ej : d'[j]! = d'.toList[j] := by simp [show j < d'.size by omega]
  rw [ei, ej] at this
  generalize d'.toList[i] = p at *
  generalize d'.toList[j] = q at *
  simp [leT]
  omega
set_option maxRecDepth 100000 in
set_option maxHeartbeats 1000000 in
theorem ins_none (cap : Nat) (w : World) : Calls Try.prog 30 #[.slice none 0 cap, .int .i64 0, .int .i64 0, .func (.func 22) #[] #[]] w fun e w' => e = .returned (.tuple #[]) ∧ w' = w := by
  go_enter Try.func30, Try.ntmps30
  go_wp2
  go_loopw [8] (fun p wr => p = .int .i64 1 ∧ wr = w) (fun _ _ => 0)
  case atStart => exact ⟨rfl, rfl⟩
  case round =>
    obtain ⟨rfl, rfl⟩ := hrel
    go_wp2
    go_end0
    exact ⟨rfl, rfl⟩
set_option maxRecDepth 100000 in
set_option maxHeartbeats 1000000 in
theorem pdq_none (cap : Nat) (lim : Int) (w : World) : Calls Try.prog 26 #[.slice none 0 cap, .int .i64 0, .int .i64 0, .int .i64 lim, .func (.func 22) #[] #[]] w fun e w' => e = .returned (.tuple #[]) ∧ w' = w := by
  have hi := ins_none cap w
  go_enter Try.func26, Try.ntmps26
  go_wp2
  go_loopw [1, 2] (fun p q wr => p = .int .i64 0 ∧ q = .int .i64 0 ∧ wr = w) (fun _ _ _ => 0)
  case atStart => exact ⟨rfl, rfl, rfl⟩
  case round =>
    obtain ⟨rfl, rfl, rfl⟩ := hrel
    go_wp2_with (go_at_call 30; refine hi.mono ?_; rintro e w' ⟨rfl, rfl⟩)
    refine bodyPost_ret (results_none rfl _ _ _) rfl ?_
    exact ⟨rfl, rfl⟩
set_option maxRecDepth 100000 in
set_option maxHeartbeats 1000000 in
theorem len64_zero (w : World) : Calls Try.prog 39 #[.int .u64 0] w fun e w' => ∃ z : Int, e = .returned (.int .i64 z) ∧ w' = w := by
  go_enter Try.func39, Try.ntmps39
  go_wp2
  go_ret
  exact ⟨_, rfl, rfl⟩
theorem len_zero (w : World) : Calls Try.prog 27 #[.int .u64 0] w fun e w' => ∃ z : Int, e = .returned (.int .i64 z) ∧ w' = w := by
  have h := len64_zero w
  go_enter Try.func27, Try.ntmps27
  go_wp2_with (go_at_call 39; refine h.mono ?_; rintro e w' ⟨z, rfl, rfl⟩)
  go_ret
  exact ⟨_, rfl, rfl⟩
set_option maxRecDepth 100000 in
theorem sort_none (cap : Nat) (w : World) :
    Calls Try.prog 21 #[.slice none 0 cap, .func (.func 22) #[] #[]] w fun e w' => e = .returned (.tuple #[]) ∧ w' = w := by
  have hp := fun lim => pdq_none cap lim w
  have hl := len_zero w
  go_enter Try.func21, Try.ntmps21
  go_wp2_with (first | (go_at_call 27; refine hl.mono ?_; rintro e w' ⟨z, rfl, rfl⟩) | (go_at_call 26; refine (hp _).mono ?_; rintro e w' ⟨rfl, rfl⟩))
  go_end0
  exact ⟨rfl, rfl⟩
theorem own_holdsT {W : World} {m n : Nat} {v : Value} {l : Ts} (h : W.ownsRow m 57 3 v n (cellsT l)) (hn : n = l.length) :
    (v = .slice none 0 0 ∧ l = []) ∨ ∃ g cap tl, v = .slice (some ⟨g, 0, none⟩) l.length cap ∧ m ≤ g ∧ l.length ≤ cap ∧ cap ≤ maxLen ∧ (cellsT l ++ tl).length = cap * 3 ∧ Ytklkonmdllgeeaa.Holds W g (cellsT l ++ tl) 57 := by
  subst hn
  obtain ⟨_, ⟨rfl, h0⟩ | ⟨g, cap, cur, rfl, hm, hh, hc, hc2, hc3, ht⟩⟩ := h
  · exact .inl ⟨rfl, List.eq_nil_of_length_eq_zero h0⟩
  · refine .inr ⟨g, cap, cur.toList.drop (l.length * 3), rfl, hm, hc, hc2, ?_, ?_⟩
    · rw [← ht, List.take_append_drop, Array.length_toList, hc3]
    · unfold Ytklkonmdllgeeaa.Holds
      rw [← ht, List.take_append_drop, Array.toArray_toList]
      exact hh
theorem sortOk : SortOk := fun m W a n c ps hlen hr => by
  rcases own_holdsT hr rfl with ⟨e, rfl⟩ | ⟨g, cap, tl, e, hg, hcap, hcm, htl, hH⟩
  · obtain ⟨rfl, rfl, rfl⟩ := Value.slice.inj e
    refine (sort_none 0 W).mono ?_
    rintro e w' ⟨rfl, rfl⟩
    exact ⟨rfl, [], List.Perm.refl _, List.Pairwise.nil, hr, Below.refl _ _⟩
  · obtain ⟨rfl, rfl, rfl⟩ := Value.slice.inj e
    refine (sortT_some g m ps tl c hg (by omega) W hH).mono ?_
    rintro e w' ⟨rfl, l', hp', hs', hl', hH', hB'⟩
    refine ⟨rfl, l', hp', hs', ⟨by rw [cellsT_len], .inr ⟨g, c, (cellsT l' ++ tl).toArray, by rw [hl'], hg, hH', by omega, hcm, ?_, ?_⟩⟩, hB'⟩
    · rw [List.size_toArray, ← htl, List.length_append, List.length_append, cellsT_len, cellsT_len, hl']
    · rw [← cellsT_len, List.take_left']
      rfl
end Go.Proofs.Ytklkonmdllgeeaa
