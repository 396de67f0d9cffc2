/- What package tree's Keys and Delete do. -/
import Derived.Test.YtbfadapffpijpaaDoorTrPut
import Derived.Test.YtbfadapffpijpaaDoorTrLevel
namespace Go.Proofs.YtbfadapffpijpaaDoor
open Go.RowKit Go.Maps Go.WideMaps

theorem keys_nil (i : Int) (w : World) : Calls Tryd.prog 12 #[.pointer none, .int .i64 i] w fun e w' => e = .returned (.slice none 0 0) ∧ w' = w := by
  go_enter Tryd.func12, Tryd.ntmps12
  go_wp2
  go_ret
  exact ⟨rfl, rfl⟩
theorem keys_out (b : Nat) (i : Int) (hi : ¬ (0 ≤ i ∧ i < 256)) (w : World) : Calls Tryd.prog 12 #[.pointer (some ⟨b, 0, none⟩), .int .i64 i] w fun e w' => e = .returned (.slice none 0 0) ∧ w' = w := by
  by_cases h0 : i < 0
  · go_enter Tryd.func12, Tryd.ntmps12
    go_wp2
    go_ret
    exact ⟨rfl, rfl⟩
  · have h1 : 256 ≤ i := by omega
    go_enter Tryd.func12, Tryd.ntmps12
    go_wp2
    go_ret
    exact ⟨rfl, rfl⟩
set_option maxHeartbeats 1000000 in
set_option maxRecDepth 100000 in
theorem keys_some (N b : Nat) (mv : List Value) (T : Tr) (hf : Fit T 536870912) (i : Nat) (hi : i < 256) (w : World) (h : TreeAt w N b mv T) :
    Calls Tryd.prog 12 #[.pointer (some ⟨b, 0, none⟩), .int .i64 (i : Int)] w fun e w' => ∃ u, e = .returned u ∧ w'.ownsRow w.heap.size 46 33 u (leafAt T i).length (cellsS (leafAt T i)) ∧ Below w.heap.size w w' := by
  have hm := leafAt_mem h.ok.lv hi
  have hw := hf _ hm
  have hc := h.holds.mapAt h.len (i := i) rfl hi
  have hR : Hid (Calls Tryd.prog 30 #[mv.getD i (.map none)] w fun e w' => ∃ u, e = .returned u ∧ w'.ownsRow w.heap.size 46 33 u (leafAt T i).length (cellsS (leafAt T i)) ∧ Below w.heap.size w w') :=
    trising_any _ _ (h.ok.rise _ hm) (h.ok.v32 _ hm) (fun p hp => by have := wt_key hp; unfold maxLen; omega) (by have := wt_len (leafAt T i); omega) w (h.maps i hi)
  generalize mv.getD i (.map none) = v at *
  have i0 : (0 : Int) ≤ (i : Int) := by omega
  have i1 : (i : Int) < 256 := by omega
  clear h hf hw
  go_enter Tryd.func12, Tryd.ntmps12
  go_wp2_with (go_at_call 30; refine hR.out.mono ?_; rintro e w1 ⟨u, rfl, hrow, b1⟩)
  go_ret
  exact ⟨u, rfl, hrow, b1⟩

/-- A list of texts in memory, where no tree's call reaches. -/
def StrsAt (w : World) (L : Nat → Prop) (v : Value) (l : List ByteArray) : Prop := ∃ a cap, v = .slice a l.length cap ∧ ∀ (i : Nat) (x : ByteArray), l[i]? = some x → ∃ g o, a = some ⟨g, o, none⟩ ∧ g < w.heap.size ∧ ¬ L g ∧ w.cell? ⟨g, o + i, none⟩ = some (.string x)
theorem StrsAt.tupd {w w' : World} {L : Nat → Prop} {v : Value} {l : List ByteArray} (h : StrsAt w L v l) (hu : TUpd L w w') : StrsAt w' L v l := by
  obtain ⟨a, cap, e, hc⟩ := h
  refine ⟨a, cap, e, fun i x hx => ?_⟩
  obtain ⟨g, o, e1, h1, h2, h3⟩ := hc i x hx
  exact ⟨g, o, e1, Nat.lt_of_lt_of_le h1 hu.size, h2, by rw [World.cell?_of_block (w := w) (hu.block g h1 h2)]; exact h3⟩
def delAll (T : Tr) (l : List ByteArray) : Tr := l.foldl (fun T k => delT T k.data.toList) T
theorem delAll_take (T : Tr) (l : List ByteArray) (k : Nat) (x : ByteArray) (h : l[k]? = some x) : delAll T (l.take (k + 1)) = delT (delAll T (l.take k)) x.data.toList := by
  rw [List.take_add_one, h, delAll, List.foldl_append]; rfl
theorem delAll_fit {T : Tr} {m : Nat} (ho : T.Ok) (hf : Fit T m) : ∀ l : List ByteArray, (delAll T l).Ok ∧ Fit (delAll T l) m := fun l => by
  induction l generalizing T with
  | nil => exact ⟨ho, hf⟩
  | cons x l ih => exact ih (delT_ok ho _) (fit_del ho hf _)
theorem delete_nil (v : Value) (w : World) : Calls Tryd.prog 8 #[.pointer none, v] w fun e w' => e = .returned (.tuple #[]) ∧ w' = w := by
  go_enter Tryd.func8, Tryd.ntmps8
  go_wp2
  exact bodyPost_ret (results_none (by kernel_rfl) _ _ _) rfl ⟨rfl, rfl⟩
set_option maxHeartbeats 4000000 in
set_option maxRecDepth 100000 in
theorem delete_some (N b : Nat) (mv : List Value) (T : Tr) (hf : Fit T 536870912) (v : Value) (l : List ByteArray) (hl : l.length ≤ 4611686018427387904) (hks : ∀ x ∈ l, x.size ≤ 140737488355328) (w : World) (hN2 : 2 ≤ N) (hL : Laid w) (h : TreeAt w N b mv T) (hv : StrsAt w (Own b mv) v l) :
    Calls Tryd.prog 8 #[.pointer (some ⟨b, 0, none⟩), v] w fun e w' => e = .returned (.tuple #[]) ∧ TreeAt w' N b mv (delAll T l) ∧ TUpd (Own b mv) w w' := by
  have hlen := h.len
  have hlow := h.low
  have hOF : Hid (∀ k : Nat, (delAll T (l.take k)).Ok ∧ Fit (delAll T (l.take k)) 536870912) := fun k => delAll_fit h.ok hf (l.take k)
  have hIn : Hid (∀ W, TUpd (Own b mv) w W → StrsAt W (Own b mv) v l) := fun W hu => hv.tupd hu
  obtain ⟨av, cv, rfl, hvx⟩ := hv
  clear hvx
  have hLa : Hid (∀ W, TUpd (Own b mv) w W → Laid W) := fun W hu => hL.tupd hu (fun i hi => Nat.le_trans hN2 (hlow i hi))
  have HKS : Hid (∀ x ∈ l, x.size ≤ 140737488355328) := hks
  obtain ⟨ln, hln⟩ : ∃ ln, l.length = ln := ⟨_, rfl⟩
  have HM : Hid (l.length = ln) := hln
  have HA0 : Hid (TreeAt w N b mv T) := h
  rw [hln] at hl ⊢
  clear h hL hks hf hlow hln
  go_enter Tryd.func8, Tryd.ntmps8
  go_wp2_with fail
  go_loopw [13] (fun c wr => ∃ k : Nat, k ≤ ln ∧ c = .int .i64 (k : Int) ∧ TreeAt wr N b mv (delAll T (l.take k)) ∧ TUpd (Own b mv) w wr) (fun c _ => ln - (intOf c).toNat)
  case atStart => exact ⟨0, by omega, rfl, HA0.out, TUpd.refl _ _⟩
  case round =>
    clear HA0
    obtain ⟨k, hk, rfl, hA, hU⟩ := hrel
    by_cases hlt : k < ln
    · obtain ⟨key, hx⟩ : ∃ x, l[k]? = some x := ⟨_, List.getElem?_eq_getElem (by rw [HM.out]; exact hlt)⟩
      obtain ⟨a', c', e', hcs⟩ := hIn.out wr hU
      cases e'
      obtain ⟨g, o, rfl, hgl, hgb, hc⟩ := hcs k key hx
      clear hcs
      have hks1 := HKS.out key (List.mem_of_getElem? hx)
      have hmx : key.size ≤ maxLen := by unfold maxLen; omega
      have hstep : Hid (delAll T (l.take (k + 1)) = delT (delAll T (l.take k)) key.data.toList) := delAll_take T l k key hx
      obtain ⟨hok, hfit⟩ := hOF.out k
      have hok1 : (delAll T (l.take (k + 1))).Ok := (hOF.out (k + 1)).1
      rw [hstep.out] at hok1
      generalize delAll T (l.take k) = S at *
      obtain ⟨i, hi⟩ : ∃ i, leafOf key.data.toList = i := ⟨_, rfl⟩
      have hi256 : i < 256 := hi ▸ leafOf_lt _
      have hmem := leafAt_mem hok.lv hi256
      have hrise := hok.rise _ hmem
      have hleaf : Hid (Calls Tryd.prog 25 #[.string key] wr fun e w' => e = .returned (.int .i64 (i : Int)) ∧ Below wr.heap.size wr w') := by
        have := tleaf_any key hks1 wr (hLa.out wr hU)
        rw [hi] at this
        exact this
      obtain ⟨v0, hv0⟩ : ∃ v0, mv.getD i (.map none) = v0 := ⟨_, rfl⟩
      have hAt : Hid (∀ W, Below wr.heap.size wr W → TreeAt W N b mv S) := fun W hW => hA.ofBelow hW
      have hCell : Hid (∀ W, Below wr.heap.size wr W → W.cell? ⟨b, i, none⟩ = some v0) := fun W hW => by
        have := (hAt.out W hW).holds.mapAt hlen (i := i) rfl hi256
        rw [hv0] at this
        exact this
      have hLook : Hid (∀ W, Below wr.heap.size wr W → (Instr.lookup 24 v0 (.string key) true).run Tryd.prog W = .ok (.tuple #[lookV (get (leafAt S i) key.data.toList), .bool (get (leafAt S i) key.data.toList).isSome]) W) := fun W hW => by
        have := ((hAt.out W hW).maps i hi256).look key hmx true
        rw [hv0] at this
        exact this
      have hMapAt := hA.maps i hi256
      rw [hv0] at hMapAt
      have HU : Hid (TUpd (Own b mv) w wr) := hU
      have i0 : (0 : Int) ≤ (i : Int) := by omega
      have i1 : (i : Int) < 256 := by omega
      have k0 : (0 : Int) ≤ (k : Int) := by omega
      have k1 : (k : Int) < (ln : Int) := by omega
      have hsz := hok.sz
      cases hg : get (leafAt S i) key.data.toList with
      | none =>
        rw [hg] at hLook
        simp only [lookV, Option.isSome_none] at hLook
        have he : delT S key.data.toList = S := by rw [delT, hi, hg]; rfl
        rw [he] at hstep
        clear hA hU hMapAt
        go_wp2_with (first
          | (go_at_call 25; refine hleaf.out.mono ?_; rintro e w2 ⟨rfl, b2⟩; have c2 := hCell.out w2 b2; have l2 := hLook.out w2 b2)
          | (refine wpList_alloc_new 7 rfl rfl 26 rfl w2.heap.size rfl _ (zero_of_info info26).1 ?_; intro w3 h3)
          | (refine wpList_store_all rfl 26 (.tmp 7) (.tmp 28) rfl w2.heap.size rfl (zero32.map byteV) rfl 26 _ h3.holds (by rw [(zero_of_info info26).2]; rfl) (by rfl) (byteV_one _) ?_; intro w4 h4; have B4 : Below wr.heap.size wr w4 := b2.trans ((h3.below.trans (h4.below (Nat.le_refl _))).mono b2.size)))
        exact ⟨⟨k + 1, by omega, by go_num, by rw [hstep.out]; exact hAt.out w4 B4, HU.out.trans (.ofBelow B4)⟩, by simp [intOf]; omega⟩
      | some f =>
        have hf32 : f.bytes.length = 32 := (hok.v32 _ hmem _ (get_mem hg)).1
        rw [hg] at hLook
        simp only [lookV, Option.isSome_some] at hLook
        have he : delT S key.data.toList = setT S i (del key.data.toList (leafAt S i)) := by rw [delT, hi, hg]; rfl
        rw [he] at hstep hok1
        obtain ⟨mb, rfl⟩ : ∃ mb, v0 = .map (some mb) := by
          rcases hMapAt with ⟨_, q⟩ | ⟨mb, q, _⟩
          · rw [q] at hg; cases hg
          · exact ⟨mb, q⟩
        have hmv : mv[i]? = some (.map (some mb)) := getD_mem hv0
        have hmb : b ≠ mb := fun e => hA.bm (e ▸ List.mem_of_getElem? hmv)
        clear hA hU hMapAt
        go_wp2_with (first
          | (go_at_call 25; refine hleaf.out.mono ?_; rintro e w2 ⟨rfl, b2⟩; have c2 := hCell.out w2 b2; have l2 := hLook.out w2 b2)
          | (refine wpList_alloc_new 7 rfl rfl 26 rfl w2.heap.size rfl _ (zero_of_info info26).1 ?_; intro w3 h3)
          | (refine wpList_store_all rfl 26 (.tmp 7) (.tmp 28) rfl w2.heap.size rfl (f.bytes.map byteV) rfl 26 _ h3.holds (by rw [(zero_of_info info26).2, List.length_map, hf32]) (by rw [List.length_map, List.length_map, hf32]; rfl) (byteV_one _) ?_; intro w4 h4; have B4 : Below wr.heap.size wr w4 := b2.trans ((h3.below.trans (h4.below (Nat.le_refl _))).mono b2.size); have c4 := hCell.out w4 B4; obtain ⟨w5, hdel, hk5, u5⟩ := ((hAt.out w4 B4).keys hmv).drop hrise key hmx; have h5 : Holds w5 b (treeV mv S) 32 := (hAt.out w4 B4).holds.tupd u5 hmb)
          | (go_at_call 26; refine (soil_any b i mv S hi256 hlen hsz w5 h5).mono ?_; rintro e w6 ⟨rfl, hh6, u6⟩))
        have A6 : TreeAt w6 N b mv (setT S i (del key.data.toList (leafAt S i))) := (hAt.out w4 B4).setMap hi256 hmv hok1 u5 hk5 u6 hh6
        have U6 : TUpd (Own b mv) w w6 := ((HU.out.trans (.ofBelow B4)).trans (u5.mono (fun x (hx : x = mb) => .inr (hx ▸ List.mem_of_getElem? hmv)))).trans (u6.mono (fun x hx => .inl hx))
        exact ⟨⟨k + 1, by omega, by go_num, by rw [hstep.out]; exact A6, U6⟩, by simp [intOf]; omega⟩
    · have i1 : ¬ (k : Int) < (ln : Int) := by omega
      have e : l.take k = l := List.take_of_length_le (by rw [HM.out]; omega)
      rw [e] at hA
      clear e
      have HA : Hid (TreeAt wr N b mv (delAll T l)) := hA
      have HU : Hid (TUpd (Own b mv) w wr) := hU
      clear hA hU
      go_wp2
      exact bodyPost_end (results_none (by kernel_rfl) _ _ _) rfl ⟨rfl, HA.out, HU.out⟩
end Go.Proofs.YtbfadapffpijpaaDoor
