/- slices.SortFunc (39) at dots and greatestFirst: the dots, by rising actors, an actor's greatest N first. -/
import Derived.Test.YtbmeflildmeecaaShelf
import Derived.Test.YtbmeflildmeecaaClComp
namespace Go.Proofs.Ytbmeflildmeecaa
open Go.RowKit Go.Shelf Go.Sort Go.Lib

def dotC (d : Dt) : List Value := [.int .u64 (d.1 : Int), .int .u64 (d.2 : Int)]
theorem cmpD_lt (x y : Dt) : ltOf cmpD x y = decide (x.1 < y.1 ∨ (x.1 = y.1 ∧ y.2 < x.2)) := by
  have hc : ∀ a b : Nat, cmpN a b = if a < b then -1 else if b < a then 1 else 0 := fun _ _ => rfl
  unfold ltOf cmpD orI
  rcases Nat.lt_trichotomy x.1 y.1 with g | g | g
  · have : cmpN x.1 y.1 = -1 := by rw [hc, if_pos g]
    rw [this]; simp [g]
  · have : cmpN x.1 y.1 = 0 := by rw [hc, if_neg (by omega), if_neg (by omega)]
    rw [this, if_pos rfl, hc]
    rcases Nat.lt_trichotomy y.2 x.2 with q | q | q
    · rw [if_pos q]; simp [g, q]
    · rw [if_neg (by omega), if_neg (by omega)]; simp [g, q]
    · rw [if_neg (by omega), if_pos q]; simp [g]; omega
  · have : cmpN x.1 y.1 = 1 := by rw [hc, if_neg (by omega), if_pos g]
    rw [this]; simp; omega
theorem cmpD_swo : SWO (ltOf cmpD) where
  irrefl x := by rw [cmpD_lt]; simp
  trans x y z h1 h2 := by rw [cmpD_lt] at *; simp at *; omega
  ntrans x y z h1 h2 := by rw [cmpD_lt] at *; simp at *; omega
theorem cmpLays (blk off size : Nat) (w : World) : CmpLays Try.prog 40 #[] dotC 2 cmpD blk off size w := fun _ _ _ _ x y => greatest_any x y _

theorem flat_cells (l : List Dt) (t : Nat) (h : t < l.length * 2) (tl : List Value) : (cellsD l ++ tl)[t]? = some ((dotC l.toArray[t / 2]!)[t % 2]!) := by
  have hlt : t / 2 < l.length := by omega
  have hd : l[t / 2]? = some l[t / 2] := List.getElem?_eq_getElem hlt
  have he : l.toArray[t / 2]! = l[t / 2] := by simp [hlt]
  obtain ⟨h1, h2⟩ := cellsD_at hd tl
  rw [he]
  rcases Nat.mod_two_eq_zero_or_one t with g | g
  · rw [g]
    have ht : t = t / 2 * 2 := by omega
    rw [show (cellsD l ++ tl)[t]? = (cellsD l ++ tl)[t / 2 * 2]? by rw [← ht], h1]; rfl
  · rw [g]
    have ht : t = t / 2 * 2 + 1 := by omega
    rw [show (cellsD l ++ tl)[t]? = (cellsD l ++ tl)[t / 2 * 2 + 1]? by rw [← ht], h2]; rfl
theorem holdsK_of {w : World} {b : Nat} {l : List Dt} {tl : List Value} (h : Holds w b (cellsD l ++ tl) 33) : HoldsK dotC 2 w b 0 l.toArray := fun j hj => by
  have hj' : j < l.length * 2 := by simpa using hj
  refine ⟨?_, h.frozen _⟩
  rw [Nat.zero_add, h.at j _ (flat_cells l j hj' tl), get_flatK _ _ _ _ (by simpa using hj')]
  rfl
theorem put_block {w : World} {b : Nat} {l l' : List Dt} {tl : List Value} (h : Holds w b (cellsD l ++ tl) 33) (hl : l'.length = l.length) (n : Nat) (os : Array Obj) :
    Holds (sortWorldK dotC 2 w b 0 n l'.toArray os) b (cellsD l' ++ tl) 33 ∧ Upd b w (sortWorldK dotC 2 w b 0 n l'.toArray os) := by
  have hb := h.lt
  have hsz : (putRowK dotC 2 (Go.Sort.ahead w n) b 0 l'.toArray).heap.size = w.heap.size := by
    simp [putRowK, putRow, mapBlock, Go.Sort.ahead]
  have hh : ∀ k, (putRowK dotC 2 (Go.Sort.ahead w n) b 0 l'.toArray).heap[k]? = if b = k then (w.heap[k]?).map (onCells (putCells id 0 (flatK dotC 2 l'.toArray))) else w.heap[k]? := by
    intro k
    simp only [putRowK, putRow, mapBlock, Go.Sort.ahead, Array.getElem?_modify]
  have hg : ∀ k, k < w.heap.size → (sortWorldK dotC 2 w b 0 n l'.toArray os).heap[k]? = (putRowK dotC 2 (Go.Sort.ahead w n) b 0 l'.toArray).heap[k]? := by
    intro k hk
    show (_ ++ os)[k]? = _
    rw [Array.getElem?_append_left (by rw [hsz]; exact hk)]
  refine ⟨?_, rfl, rfl, rfl, ?_, fun k hk hne => ?_⟩
  · unfold Holds at *
    rw [hg b hb, hh, if_pos rfl, h]
    show some (Obj.cells (putCells id 0 (flatK dotC 2 l'.toArray) (cellsD l ++ tl).toArray) 33 (0, 0)) = _
    congr 2
    apply Array.ext_getElem?
    intro i
    simp only [putCells, Array.getElem?_mapIdx, List.getElem?_toArray, size_flatK]
    rcases Nat.lt_or_ge i (l.length * 2) with g | g
    · rw [flat_cells l i g tl, flat_cells l' i (by omega) tl]
      simp only [Option.map_some]
      rw [if_pos (by simp; omega), get_flatK _ _ _ _ (by simp; omega)]
      rfl
    · rw [List.getElem?_append_right (by rw [cellsD_len]; omega), List.getElem?_append_right (by rw [cellsD_len]; omega), cellsD_len, cellsD_len, hl]
      cases tl[i - l.length * 2]? with
      | none => rfl
      | some v => simp only [Option.map_some]; rw [if_neg (by simp; omega)]
  · show w.heap.size ≤ (_ ++ os).size
    rw [Array.size_append, hsz]; omega
  · rw [hg k hk, hh, if_neg (fun e => hne e.symm)]
theorem bitLen_lim (n : Nat) (h : n < 4611686018427387904) : Lib.bitLen n < 4611686018427387904 := Nat.lt_of_le_of_lt (Lib.bitLen_le n 62 (by omega) (by omega)) (by omega)

set_option maxHeartbeats 1000000 in
theorem sort_some (b : Nat) (l : List Dt) (tl : List Value) (cap : Nat) (hlen : l.length < 4611686018427387904) (w : World) (hb : Holds w b (cellsD l ++ tl) 33) :
    Calls Try.prog 39 #[.slice (some ⟨b, 0, none⟩) l.length cap, .func (.func 40) #[] #[]] w fun e w' =>
      e = .returned (.tuple #[]) ∧ ∃ l', l'.Perm l ∧ l'.Pairwise leD ∧ l'.length = l.length ∧ Holds w' b (cellsD l' ++ tl) 33 ∧ Upd b w w' := by
  have eg : ∀ args w, (callFunc 40 args).run Try.prog w = .ok (.enter 40 args) w := enters_of Try.func40 (by kernel_rfl) rfl
  have hlim := bitLen_lim l.length hlen
  have hp := AnyQ.pdqsortCmpFunc_all Try.pdqDt 2 Try.isAgg33 Try.sizeOf33 dotC cmpD 40 #[] cmpD_swo b 0 cap l.toArray w eg (cmpLays b 0 _ w) ⟨fun _ => rfl, fun x v hv => by simp [dotC] at hv; rcases hv with rfl | rfl <;> rfl, holdsK_of hb, hb.lt⟩ (l.length + 1) 0 l.length (Lib.bitLen l.length) l.toArray w (by omega) rfl (SWK.start (holdsK_of hb)) (Nat.zero_le _) (by simp) (by simpa using hlen) hlim (Or.inl rfl)
  have hl := Try.bits_Len (l.length : Int) w (by omega) (by omega)
  rw [Int.toNat_natCast] at hl
  have hwr : IntKind.u64.wrap (l.length : Int) = (l.length : Int) := by simp [IntKind.wrap, IntKind.bits, IntKind.signed]; omega
  change Calls Try.prog 56 _ _ _ at hp
  have hR : ∀ w', SWK dotC 2 w b 0 (pdq (ltOf cmpD) l.toArray 0 l.length (Lib.bitLen l.length) true true) w' → ∃ l', l'.Perm l ∧ l'.Pairwise leD ∧ l'.length = l.length ∧ Holds w' b (cellsD l' ++ tl) 33 ∧ Upd b w w' := by
    rintro w' ⟨n, os, rfl⟩
    have hs := pdq_sorts (ltOf cmpD) cmpD_swo l.toArray 0 l.length (Lib.bitLen l.length) true true (Nat.zero_le _) (by simp) (Or.inl rfl)
    obtain ⟨⟨hz, _, hperm⟩, hsort⟩ := hs
    generalize pdq (ltOf cmpD) l.toArray 0 l.length (Lib.bitLen l.length) true true = d' at *
    have hz' : d'.size = l.length := by simpa using hz
    rw [Array.extract_eq_self_of_le (by omega), Array.extract_eq_self_of_le (by simp)] at hperm
    have hlen' : d'.toList.length = l.length := by simpa using hz'
    have hb2 := put_block hb hlen' n os
    rw [Array.toArray_toList] at hb2
    refine ⟨d'.toList, by simpa using hperm, ?_, hlen', hb2.1, hb2.2⟩
    rw [List.pairwise_iff_getElem]
    intro i j hi hj hij
    have := hsort i j (Nat.zero_le _) hij (by omega)
    rw [cmpD_lt, decide_eq_false_iff_not] at this
    have ei : d'[i]! = d'.toList[i] := by simp [show i < d'.size by omega]
    have ej : d'[j]! = d'.toList[j] := by simp [show j < d'.size by omega]
    rw [ei, ej] at this
    unfold leD
    omega
  generalize hL : (SWK dotC 2 w b 0 (pdq (ltOf cmpD) l.toArray 0 l.length (Lib.bitLen l.length) true true)) = S at hp hR
  clear hL hb
  simp only [List.size_toArray] at hp
  generalize Lib.bitLen l.length = bl at *
  generalize l.length = n at *
  go_enter Try.func39, Try.ntmps39
  go_wp2_with (first | (go_at_call 57; refine hl.mono ?_; rintro e w' ⟨rfl, rfl⟩) | (go_at_call 56; refine hp.mono ?_; rintro e w' ⟨rfl, hS⟩))
  go_end0
  exact ⟨rfl, hR _ hS⟩
set_option maxHeartbeats 1000000 in
theorem sort_none (cap : Nat) (w : World) :
    Calls Try.prog 39 #[.slice none 0 cap, .func (.func 40) #[] #[]] w fun e w' => e = .returned (.tuple #[]) ∧ w' = w := by
  have hp := fun lim => AnyF.pdqsortCmpFunc_none Try.pdqDt none cap lim (.func (.func 40) #[] #[]) w
  have hl := Try.bits_Len 0 w (by omega) (by omega)
  change ∀ lim, Calls Try.prog 56 _ _ _ at hp
  go_enter Try.func39, Try.ntmps39
  go_wp2_with (first | (go_at_call 57; refine hl.mono ?_; rintro e w' ⟨rfl, rfl⟩) | (go_at_call 56; refine (hp _).mono ?_; rintro e w' ⟨rfl, rfl⟩))
  go_end0
  exact ⟨rfl, rfl⟩
end Go.Proofs.Ytbmeflildmeecaa
