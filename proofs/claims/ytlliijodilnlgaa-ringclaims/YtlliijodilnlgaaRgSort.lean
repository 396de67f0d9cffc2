/- The sort of the places, in memory. -/
import Derived.Test.YtlliijodilnlgaaRgTally
import Derived.Test.YtlliijodilnlgaaRgOrd
namespace Go.Proofs.Ytlliijodilnlgaa
open Go.RowKit Go.Sort

theorem Upd.drewN {b : Nat} {x y : World} (h : Upd b x y) (q : Nat) : Upd b x (y.drewN q) := by
  induction q with
  | zero => exact h
  | succ q ih => exact ih.drew
/-- The row b of a block, and a tail behind it, with d laid into the row. -/
theorem put_row {α : Type} [Inhabited α] (enc : α → Value) {w : World} {b : Nat} {xs tl : List Value} {t : TypeId} (h : Holds w b (xs ++ tl) t) (d : Array α) (hd : d.size = xs.length) (n : Nat) (os : Array Obj) :
    Holds (grow (putRow enc (Go.Sort.ahead w n) b 0 d) os) b (d.toList.map enc ++ tl) t ∧ Upd b w (grow (putRow enc (Go.Sort.ahead w n) b 0 d) os) := by
  have hb := h.lt
  have hsz : (putRow enc (Go.Sort.ahead w n) b 0 d).heap.size = w.heap.size := by
    simp [putRow, mapBlock, Go.Sort.ahead]
  have hh : ∀ k, (putRow enc (Go.Sort.ahead w n) b 0 d).heap[k]? = if b = k then (w.heap[k]?).map (onCells (putCells enc 0 d)) else w.heap[k]? := by
    intro k
    simp only [putRow, mapBlock, Go.Sort.ahead, Array.getElem?_modify]
  have hg : ∀ k, k < w.heap.size → (grow (putRow enc (Go.Sort.ahead w n) b 0 d) os).heap[k]? = (putRow enc (Go.Sort.ahead w n) b 0 d).heap[k]? := by
    intro k hk
    show (_ ++ os)[k]? = _
    rw [Array.getElem?_append_left (by rw [hsz]; exact hk)]
  refine ⟨?_, rfl, rfl, rfl, ?_, fun k hk hne => ?_⟩
  · unfold Holds at *
    rw [hg b hb, hh, if_pos rfl, h]
    show some (Obj.cells (putCells enc 0 d (xs ++ tl).toArray) t (0, 0)) = _
    congr 2
    apply Array.ext_getElem?
    intro i
    simp only [putCells, Array.getElem?_mapIdx, List.getElem?_toArray]
    rcases Nat.lt_or_ge i xs.length with g | g
    · rw [List.getElem?_append_left g, List.getElem?_eq_getElem g, List.getElem?_append_left (by simp; omega)]
      simp only [Option.map_some]
      rw [if_pos (by omega), List.getElem?_map, List.getElem?_eq_getElem (by simp; omega)]
      simp [show i < d.size by omega]
    · rw [List.getElem?_append_right g, List.getElem?_append_right (by simp; omega)]
      simp only [List.length_map, Array.length_toList, hd]
      cases tl[i - xs.length]? with
      | none => rfl
      | some v => simp only [Option.map_some]; rw [if_neg (by omega)]
  · show w.heap.size ≤ (_ ++ os).size
    rw [Array.size_append, hsz]; omega
  · rw [hg k hk, hh, if_neg (fun e => hne e.symm)]
theorem putRow_drewN {α : Type} [Inhabited α] (enc : α → Value) (w : World) (b n : Nat) (d : Array α) : (putRow enc w b 0 d).drewN n = grow (putRow enc (Go.Sort.ahead w n) b 0 d) #[] := by
  rw [grow_empty]; rfl

def encF {m : Nat} (x : Fin (m + 1)) : Value := .int .i64 ((x.val : Nat) : Int)
/-- The order, as the program has it. -/
def ordL (m : Nat) (t : List Int) : List Nat := (orderA (m := m) t).toList.map Fin.val
def natI (l : List Nat) : List Int := l.map fun n => ((n : Nat) : Int)
theorem encF_list {m : Nat} (r : Array (Fin (m + 1))) : r.toList.map encF = intV (natI (r.toList.map Fin.val)) := by
  simp [intV, natI, encF]
set_option maxHeartbeats 1000000 in
theorem cmp_any (c g n : Nat) (t : List Int) (W : World) (i j : Nat) (hi : i < n) (hj : j < n) (hn : t.length = n) (h8 : ∀ k, 0 ≤ t.getD k 0 ∧ t.getD k 0 ≤ 8) (hc : Holds W c [.slice (some ⟨g, 0, none⟩) n n] 24) (hg : Holds W g (intV t) 3) :
    Calls Try.prog 36 #[.int .i64 (i : Int), .int .i64 (j : Int), .pointer (some ⟨c, 0, none⟩)] W fun e w' => e = .returned (.int .i64 (t.getD j 0 - t.getD i 0)) ∧ ∃ q, w' = W.drewN q := by
  have c0 := hc.at 0 _ rfl
  have c1 := hg.at i _ (intV_at t i (by omega))
  have c2 := hg.at j _ (intV_at t j (by omega))
  obtain ⟨a0, a1⟩ := h8 i
  obtain ⟨b0, b1⟩ := h8 j
  generalize t.getD i 0 = x at *
  generalize t.getD j 0 = y at *
  have i0 : (0 : Int) ≤ (i : Int) := by omega
  have i1 : (i : Int) < (n : Int) := by omega
  have j0 : (0 : Int) ≤ (j : Int) := by omega
  have j1 : (j : Int) < (n : Int) := by omega
  clear hc hg h8 hn
  go_enter Try.func36, Try.ntmps36
  go_wp2
  go_quiet (fail)
  go_wp2
  go_ret
  exact ⟨rfl, _, rfl⟩
theorem cmpReads (m : Nat) (c g b : Nat) (t : List Int) (w : World) (hn : t.length = m + 1) (h8 : ∀ k, 0 ≤ t.getD k 0 ∧ t.getD k 0 ≤ 8) (hc : Holds w c [.slice (some ⟨g, 0, none⟩) (m + 1) (m + 1)] 24) (hg : Holds w g (intV t) 3) (hb : Holds w b (intV (natI (List.range (m + 1)))) 3) (hbc : c ≠ b) (hbg : g ≠ b) :
    CmpReads Try.prog 36 #[.pointer (some ⟨c, 0, none⟩)] (encF (m := m)) (cfI t) b 0 (m + 1) w := by
  intro q os dk hdk x y
  have hp := (put_row encF (tl := []) (by rw [List.append_nil]; exact hb) dk (by rw [hdk, intV_len]; simp [natI]) q os).2
  exact cmp_any c g (m + 1) t _ x.val y.val x.isLt y.isLt hn h8 (hc.upd hp hbc) (hg.upd hp hbg)
set_option maxHeartbeats 1000000 in
theorem stable_small (m : Nat) (hm : m + 1 < 20) (c g b cap : Nat) (t : List Int) (w : World) (hn : t.length = m + 1) (h8 : ∀ k, 0 ≤ t.getD k 0 ∧ t.getD k 0 ≤ 8) (hc : Holds w c [.slice (some ⟨g, 0, none⟩) (m + 1) (m + 1)] 24) (hg : Holds w g (intV t) 3) (hb : Holds w b (intV (natI (List.range (m + 1)))) 3) (hbc : c ≠ b) (hbg : g ≠ b) :
    Calls Try.prog 35 #[.slice (some ⟨b, 0, none⟩) (m + 1) cap, .func (.func 36) #[] #[.pointer (some ⟨c, 0, none⟩)]] w fun e w' => e = .returned (.tuple #[]) ∧ Holds w' b (intV (natI (ordL m t))) 3 ∧ Upd b w w' := by
  have eg : ∀ args w, (callFunc 36 args).run Try.prog w = .ok (.enter 36 args) w := enters_of Try.func36 (by kernel_rfl) rfl
  have hHs : Go.Sort.Holds (encF (m := m)) w b 0 (idA m) := fun j hj => by
    have hj' : j < m + 1 := by rw [idA_size] at hj; exact hj
    refine ⟨?_, hb.frozen _⟩
    rw [Nat.zero_add, hb.at j _ (intV_at _ j (by simp [natI]; omega)), idA_at j hj']
    simp [natI, encF, hj']
  have hI : Hid (Calls Try.prog 54 #[.slice (some ⟨b, 0, none⟩) (m + 1) cap, .int .i64 0, .int .i64 ((m + 1 : Nat) : Int), .func (.func 36) #[] #[.pointer (some ⟨c, 0, none⟩)]] w fun e w' => e = .returned (.tuple #[]) ∧ Holds w' b (intV (natI (ordL m t))) 3 ∧ Upd b w w') := by
    have h := Try.insertionSortCmpFunc_one (encF (m := m)) (fun x => rfl) (cfI t) 36 #[.pointer (some ⟨c, 0, none⟩)] b 0 cap 0 (m + 1) (idA m) w eg (by rw [idA_size]; exact cmpReads m c g b t w hn h8 hc hg hb hbc hbg) hHs (by omega) (by rw [idA_size]; omega) (by rw [idA_size]; omega)
    rw [idA_size] at h
    refine h.mono ?_
    rintro e w' ⟨rfl, n, rfl⟩
    rw [putRow_drewN]
    obtain ⟨hz, -⟩ := orderA_spec (m := m) t hn
    have hp := put_row encF (tl := []) (by rw [List.append_nil]; exact hb) (orderA (m := m) t) (by rw [hz, intV_len]; simp [natI]) n #[]
    rw [List.append_nil, encF_list] at hp
    exact ⟨rfl, hp.1, hp.2⟩
  clear hHs eg hc hg hb hn h8
  generalize hnn : m + 1 = n at *
  have h20 : ¬ (20 : Int) ≤ (n : Int) := by omega
  have h21 : ¬ (20 : Int) < (n : Int) := by omega
  have hS : Hid (Calls Try.prog 41 #[.slice (some ⟨b, 0, none⟩) n cap, .int .i64 (n : Int), .func (.func 36) #[] #[.pointer (some ⟨c, 0, none⟩)]] w fun e w' => e = .returned (.tuple #[]) ∧ Holds w' b (intV (natI (ordL m t))) 3 ∧ Upd b w w') := by
    show Calls _ _ _ _ _
    clear hnn hm
    go_enter Try.func41, Try.ntmps41
    go_wp2
    go_loopw [7, 8] (fun x y wr => x = .int .i64 0 ∧ y = .int .i64 20 ∧ wr = w) (fun _ _ _ => 0)
    case atStart => exact ⟨rfl, rfl, rfl⟩
    case round =>
    obtain ⟨rfl, rfl, rfl⟩ := hrel
    go_wp2_with (go_at_call 54; refine hI.out.mono ?_; rintro e w3 ⟨rfl, H3, U3⟩)
    have H3' : Hid (Holds w3 b (intV (natI (ordL m t))) 3) := H3
    have U3' : Hid (Upd b wr w3) := U3
    clear H3 U3
    go_loopw [6] (fun x wq => x = .int .i64 20 ∧ wq = w3) (fun _ _ => 0)
    case atStart => exact ⟨rfl, rfl⟩
    case round =>
    obtain ⟨rfl, rfl⟩ := hrel
    go_wp2
    go_end0
    exact ⟨rfl, H3'.out, U3'.out⟩
  clear hnn hm h20 h21 hI
  go_enter Try.func35, Try.ntmps35
  go_wp2_with (go_at_call 41; refine hS.out.mono ?_; rintro e w3 ⟨rfl, H3, U3⟩)
  go_end0
  exact ⟨rfl, H3, U3⟩
end Go.Proofs.Ytlliijodilnlgaa
