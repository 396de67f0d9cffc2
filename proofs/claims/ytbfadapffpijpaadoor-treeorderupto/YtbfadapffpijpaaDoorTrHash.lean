/- What package tree's leaf.hash answers, of a leaf with keys. -/
import Derived.Test.YtbfadapffpijpaaDoorTrHashA
namespace Go.Proofs.YtbfadapffpijpaaDoor
open Go.RowKit Go.Maps Go.WideMaps
open Pk (Wr WUpd textL rawL wtexts_any wraws_any bytes_some Keep)

theorem leafB_take (l : Fs) (k : Nat) (p : List UInt8 × Fl) (h : l[k]? = some p) : leafB (l.take (k + 1)) = leafB (l.take k) ++ textL (strL p.1) ++ p.2.bytes := by
  rw [List.take_add_one, h, leafB, List.flatMap_append]
  simp only [leafB, Option.toList_some, List.flatMap_cons, List.flatMap_nil, List.append_nil, rowB, textL, List.append_assoc, strL_size, strL_data]
theorem leafB_take_le (l : Fs) (k : Nat) : (leafB (l.take k)).length ≤ (leafB l).length := by
  have : leafB l = leafB (l.take k) ++ leafB (l.drop k) := by rw [leafB, leafB, leafB, ← List.flatMap_append, List.take_append_drop]
  rw [this]; simp
theorem cellsS_range {w : World} {g cap : Nat} {base : Nat} {kv : Fs} (h : w.ownsRow base 46 33 (.slice (some ⟨g, 0, none⟩) kv.length cap) kv.length (cellsS kv)) (hv : ∀ p ∈ kv, p.2.bytes.length = 32 ∧ p.2.firm = 0) {k : Nat} {p : List UInt8 × Fl} (hp : kv[k]? = some p) : w.rangeAt g (k * 33) (cellS p) := by
  intro j u hu
  have hk : k < kv.length := (List.getElem?_eq_some_iff.1 hp).1
  have hj : j < 33 := by
    have := (List.getElem?_eq_some_iff.1 hu).1
    rw [cellS_len p (hv p (List.mem_of_getElem? hp)).1] at this
    exact this
  rw [h.cellAt (k * 33 + j) (by have : (k + 1) * 33 ≤ kv.length * 33 := Nat.mul_le_mul_right _ hk; omega)]
  have e1 : cellsS kv = cellsS (kv.take k) ++ (cellS p ++ cellsS (kv.drop (k + 1))) := by
    rw [← List.append_assoc, ← cellsS_take kv k p hp, cellsS, cellsS, cellsS, ← List.flatMap_append, List.take_append_drop]
  have l1 : (cellsS (kv.take k)).length = k * 33 := by
    rw [cellsS_len _ (fun q hq => hv q (List.mem_of_mem_take hq)), List.length_take, Nat.min_eq_left (by omega)]
  rw [e1, List.getElem?_append_right (by omega), l1, Nat.add_sub_cancel_left, List.getElem?_append_left (by rw [cellS_len p (hv p (List.mem_of_getElem? hp)).1]; exact hj)]
  exact hu
set_option maxHeartbeats 4000000 in
set_option maxRecDepth 100000 in
theorem hash_some (v : Value) (kv : Fs) (hne : kv.length ≠ 0) (hr : Rising kv) (hv : ∀ p ∈ kv, p.2.bytes.length = 32 ∧ p.2.firm = 0) (hwt : wt kv ≤ 140737488000000) (hl : kv.length ≤ 8388608) (w : World) (hL : Laid w) (h : MapIs w v kv) :
    Calls Tryd.prog 35 #[v] w fun e w' => e = .returned (.agg ((leafH kv).map byteV).toArray) ∧ Below w.heap.size w w' := by
  have hBl := leafB_len hv (by omega)
  obtain ⟨n, hn⟩ : ∃ n, w.heap.size = n := ⟨_, rfl⟩
  have hMap : Hid (∀ W, Below w.heap.size w W → MapIs W v kv) := fun W hW => h.same (fun x e => hW.block x (by
      rcases h with ⟨e2, _⟩ | ⟨mb, e2, hk⟩
      · rw [e2] at e; cases e
      · rw [e2] at e; cases e; exact hk.lt))
  have hLn : Hid (∀ W, Below w.heap.size w W → ∀ ty, (Builtin.len_ #[24] ty #[v]).run Tryd.prog W = .ok (.int .i64 (kv.length : Int)) W) := fun W hW ty => (hMap.out W hW).len hr ty
  have hRise : Hid (∀ W, Below w.heap.size w W → Calls Tryd.prog 30 #[v] W fun e w' => ∃ u, e = .returned u ∧ w'.ownsRow W.heap.size 46 33 u kv.length (cellsS kv) ∧ Below W.heap.size W w') := fun W hW =>
    trising_any v kv hr hv (fun p hp => by have := wt_key hp; unfold maxLen; omega) hl W (hMap.out W hW)
  have hSum : Hid (∀ W : World, Below w.heap.size w W → ∀ cap, Calls Tryd.prog 34 #[.slice (some ⟨W.heap.size, 0, none⟩) 1 cap] (W.alloc (.cells #[.string (strL (leafB kv))] 9)) fun e w' => e = .returned (.agg ((shaL (leafB kv)).map byteV).toArray) ∧ Below W.heap.size W w') := fun W hW cap =>
    sum_one (strL (leafB kv)) (by rw [strL_size]; omega) cap W (hL.below hW hL.two)
  have hle : leafH kv = shaL (leafB kv) := if_neg hne
  have hq := shaL_len (leafB kv)
  rw [hle]
  generalize shaL (leafB kv) = q at *
  obtain ⟨ln, hln⟩ : ∃ ln, kv.length = ln := ⟨_, rfl⟩
  have HM : Hid (kv.length = ln) := hln
  have HV : Hid (∀ p ∈ kv, p.2.bytes.length = 32 ∧ p.2.firm = 0) := hv
  have HBl : Hid ((leafB kv).length ≤ wt kv) := hBl
  have HWt : Hid (wt kv ≤ 140737488000000) := hwt
  have h0 : (ln : Int) ≠ 0 := by omega
  rw [hn] at hMap hLn hRise hSum ⊢
  rw [hln] at hLn hl
  obtain ⟨d46, hu46, hd46⟩ := und46
  clear h hr hv hBl hwt hle hne hL hln
  go_enter Tryd.func35, Tryd.ntmps35
  go_wp2_with (first
    | (refine wpList_alloc_new 2 rfl rfl 26 rfl n hn _ (zero_of_info info26).1 ?_; intro w1 h1; have hl1 := hLn.out w1 h1.below)
    | (refine wpList_build_none rfl 89 rfl #[.slice none 0 0] built89 ?_)
    | (refine wpList_box_new 11 rfl rfl 89 _ rfl (n + 1) h1.size [.slice none 0 0] rfl ?_; intro w2 h2; have b2 : Below n w w2 := h1.below.trans (h2.below.mono (by omega)))
    | (go_at_call 30; refine (hRise.out w2 b2).mono ?_; rintro e w3 ⟨u, rfl, hrow, b3⟩; obtain ⟨au, cu, rfl⟩ := row_slice hrow; rw [HM.out]))
  have z2 : w2.heap.size = n + 2 := h2.size
  have hW3 : Wr w3 (n + 1) [] := (wr_new h2).below b3
  have hR3 : Holds w3 n (zero32.map byteV) 26 := (h1.holds.below h2.below (by omega)).below b3 (by omega)
  have B3 : Below n w w3 := b2.trans (b3.mono (by omega))
  have C3 : Hid (∀ (W : World) (k : Nat) (p : List UInt8 × Fl), WUpd (n + 1) w3 W → kv[k]? = some p → ∃ g, au = some ⟨g, 0, none⟩ ∧ W.rangeAt g (k * 33) (cellS p)) := fun W k p hW hp => by
    have hk : k < kv.length := (List.getElem?_eq_some_iff.1 hp).1
    rcases hrow.2 with ⟨_, h0⟩ | ⟨g, cap, cur, e, hg1, hg2, _⟩
    · omega
    · cases e
      refine ⟨g, rfl, fun j u hu => ?_⟩
      rw [World.cell?_of_block (w := w3) (hW.other g (Array.getElem?_eq_some_iff.1 hg2).1 (by omega) (fun cs fr e => by rw [hg2] at e; cases e))]
      exact cellsS_range hrow HV.out hp j u hu
  clear hrow h1 h2 b2 b3
  go_loopw [15] (fun c wr => ∃ k : Nat, k ≤ ln ∧ c = .int .i64 (k : Int) ∧ Wr wr (n + 1) (leafB (kv.take k)) ∧ WUpd (n + 1) w3 wr) (fun c _ => ln - (intOf c).toNat)
  case atStart => exact ⟨0, by omega, rfl, by simpa [leafB] using hW3, WUpd.refl _ _⟩
  case round =>
    obtain ⟨k, hk, rfl, hWr, hU⟩ := hrel
    by_cases hlt : k < ln
    · obtain ⟨p, hp⟩ : ∃ p, kv[k]? = some p := ⟨_, List.getElem?_eq_getElem (by rw [HM.out]; exact hlt)⟩
      obtain ⟨g, rfl, hrg⟩ := C3.out _ k p hU hp
      have h32 := (HV.out p (List.mem_of_getElem? hp)).1
      have hcl : (cellS p).length = 33 := cellS_len p h32
      have htk := leafB_take kv k p hp
      have hlen1 : (leafB (kv.take (k + 1))).length ≤ 140737488000000 := Nat.le_trans (leafB_take_le kv (k + 1)) (Nat.le_trans HBl.out HWt.out)
      rw [htk, List.length_append, List.length_append] at hlen1
      obtain ⟨bs, hbs⟩ : ∃ bs, leafB (kv.take k) = bs := ⟨_, rfl⟩
      rw [hbs] at hlen1 hWr htk
      have HTK : Hid (leafB (kv.take (k + 1)) = bs ++ textL (strL p.1) ++ p.2.bytes) := htk
      obtain ⟨X, hX⟩ : ∃ X, wr.heap.size = X := ⟨_, rfl⟩
      have hnX : n + 1 < X := hX ▸ hWr.lt
      have HW : Hid (Wr wr (n + 1) bs) := hWr
      have HU : Hid (WUpd (n + 1) w3 wr) := hU
      have one1 : ∀ u ∈ cellS p, u.oneCell' = true := cellS_one p
      clear htk hWr hU hbs
      have i0 : (0 : Int) ≤ (k : Int) := by omega
      have i1 : (k : Int) < (ln : Int) := by omega
      go_wp2_with (first
        | (refine wpList_load_part rfl 46 (.tmp 17) rfl g (k * 33) rfl (cellS p) d46 hrg hu46 hd46 (by rw [hcl]; exact siz46) ?_)
        | (refine wpList_alloc_new 5 rfl rfl 46 rfl X hX _ zeroV46 ?_; intro w4 h4)
        | (refine wpList_store_all rfl 46 (.tmp 5) (.tmp 18) rfl X rfl (cellS p) rfl 46 _ h4.holds (by rw [hcl]; exact siz46) (by rw [hcl]; rfl) one1 ?_; intro w5 h5))
      have b5 : Below wr.heap.size wr w5 := hX ▸ (h4.below.trans (h5.below (Nat.le_refl _)))
      have hW5 : Wr w5 (n + 1) bs := HW.out.below b5
      have U5 : Hid (WUpd (n + 1) w3 w5) := HU.out.trans (WUpd.ofBelow (by omega) b5)
      have z5 : w5.heap.size = X + 1 := by rw [h5.size, h4.size]
      have hH5 : Holds w5 X (cellS p) 46 := h5.holds
      have TX : Hid (∀ (W : World) (L cap : Nat), Below w5.heap.size w5 W → Holds W L [.string (strL p.1)] 9 → Calls Tryd.prog 47 #[.pointer (some ⟨n + 1, 0, none⟩), .slice (some ⟨L, 0, none⟩) 1 cap] W fun e w' => e = .returned (.pointer (some ⟨n + 1, 0, none⟩)) ∧ Wr w' (n + 1) (bs ++ textL (strL p.1)) ∧ WUpd (n + 1) W w' ∧ WUpd (n + 1) w5 w') := fun W L cap q1 q2 => text_one (n + 1) bs (strL p.1) (by omega) w5 hW5 W L cap q1 q2
      have RX : Hid (∀ (Y W : World) (L cap : Nat), Wr Y (n + 1) (bs ++ textL (strL p.1)) → WUpd (n + 1) w5 Y → Below Y.heap.size Y W → Holds W L [.string (strL p.2.bytes)] 9 → Calls Tryd.prog 48 #[.pointer (some ⟨n + 1, 0, none⟩), .slice (some ⟨L, 0, none⟩) 1 cap] W fun e w' => e = .returned (.pointer (some ⟨n + 1, 0, none⟩)) ∧ Wr w' (n + 1) (leafB (kv.take (k + 1))) ∧ WUpd (n + 1) w3 w') := fun Y W L cap q1 q2 q3 q4 => by
        refine (raw_one (n + 1) _ (strL p.2.bytes) (by rw [List.length_append, strL_size]; omega) w5 Y q1 q2 W L cap q3 q4).mono ?_
        rintro e w' ⟨e1, e2, e3⟩
        rw [strL_data, ← HTK.out] at e2
        exact ⟨e1, e2, U5.out.trans e3⟩
      have hsl := fun W : World => run_slice32 W X 1
      have CV : Hid (∀ W, WUpd (n + 1) w5 W → (convert 73 9 (.slice (some ⟨X, 1, none⟩) 32 32)).run Tryd.prog W = .ok (.string (strL p.2.bytes)) W) := fun W hW => by
        have hq := hH5.wupd hW (by omega) (by decide)
        exact run_text32 W X 1 p.2.bytes h32 (hq.range 1 _ (fun j u hu => by
          rw [show 1 + j = j + 1 by omega]; exact hu))
      have C0 : Hid (∀ W, WUpd (n + 1) w5 W → W.cell? ⟨X, 0, none⟩ = some (.string (strL p.1))) := fun W hW => (hH5.wupd hW (by omega) (by decide)).at 0 _ rfl
      have z5' : n + 1 ≤ w5.heap.size := by omega
      have hA1 : Holds (w5.alloc (.cells #[.string (strL p.1)] 9)) (X + 1) [.string (strL p.1)] 9 := z5 ▸ holds_new w5 [.string (strL p.1)] 9
      have hA2 : Holds (w5.alloc (.cells #[.string (strL p.2.bytes)] 9)) (X + 1) [.string (strL p.2.bytes)] 9 := z5 ▸ holds_new w5 [.string (strL p.2.bytes)] 9
      have zA1 : (w5.alloc (.cells #[.string (strL p.1)] 9)).heap.size = X + 2 := by rw [World.size_alloc, z5]
      have zA2 : (w5.alloc (.cells #[.string (strL p.2.bytes)] 9)).heap.size = X + 2 := by rw [World.size_alloc, z5]
      have hA12 : Holds ((w5.alloc (.cells #[.string (strL p.1)] 9)).alloc (.cells #[.string (strL p.2.bytes)] 9)) (X + 2) [.string (strL p.2.bytes)] 9 := zA1 ▸ holds_new _ [.string (strL p.2.bytes)] 9
      have hA21 : Holds ((w5.alloc (.cells #[.string (strL p.2.bytes)] 9)).alloc (.cells #[.string (strL p.1)] 9)) (X + 2) [.string (strL p.1)] 9 := zA2 ▸ holds_new _ [.string (strL p.1)] 9
      have bA : ∀ o : Obj, Below w5.heap.size w5 (w5.alloc o) := fun o => (Below.refl _ _).alloc (Nat.le_refl _) o
      have bAA : ∀ o o' : Obj, Below w5.heap.size w5 ((w5.alloc o).alloc o') := fun o o' => (bA o).alloc (by simp) o'
      have cA := C0.out _ (WUpd.refl _ _)
      have cB := C0.out _ (WUpd.ofBelow z5' (bA (.cells #[.string (strL p.2.bytes)] 9)))
      have cA' := C0.out _ (WUpd.refl _ _).drew
      have cB' := C0.out _ (WUpd.ofBelow z5' (bA (.cells #[.string (strL p.2.bytes)] 9))).drew
      have vA := CV.out _ (WUpd.refl _ _)
      have vB := CV.out _ (WUpd.ofBelow z5' (bA (.cells #[.string (strL p.1)] 9)))
      have vA' := CV.out _ (WUpd.refl _ _).drew
      have vB' := CV.out _ (WUpd.ofBelow z5' (bA (.cells #[.string (strL p.1)] 9))).drew
      have HA1 : Hid (Holds (w5.alloc (.cells #[.string (strL p.1)] 9)) (X + 1) [.string (strL p.1)] 9) := hA1
      have HA2 : Hid (Holds (w5.alloc (.cells #[.string (strL p.2.bytes)] 9)) (X + 1) [.string (strL p.2.bytes)] 9) := hA2
      have HA12 : Hid (Holds ((w5.alloc (.cells #[.string (strL p.1)] 9)).alloc (.cells #[.string (strL p.2.bytes)] 9)) (X + 2) [.string (strL p.2.bytes)] 9) := hA12
      have HA21 : Hid (Holds ((w5.alloc (.cells #[.string (strL p.2.bytes)] 9)).alloc (.cells #[.string (strL p.1)] 9)) (X + 2) [.string (strL p.1)] 9) := hA21
      have BA : Hid (∀ o : Obj, Below w5.heap.size w5 (w5.alloc o)) := bA
      have BAA : Hid (∀ o o' : Obj, Below w5.heap.size w5 ((w5.alloc o).alloc o')) := bAA
      clear hrg h4 h5 b5 one1 hA1 hA2 hA12 hA21 bA bAA zA1 zA2 hH5 hW5
      go_region_with (first
        | (go_at_call 47; refine (TX.out _ _ _ ?tb ?th).mono ?_
           case tb => first | exact (BA.out _).drew | exact (BAA.out _ _).drew
           case th => first | exact HA1.out | exact HA21.out | exact HA1.out.alloc _
           rintro e w6 ⟨rfl, hW6, uA6, u6⟩
           have v6 := CV.out _ u6)
        | (go_at_call 48; refine (RX.out w6 _ _ _ hW6 u6 ?rb ?rh).mono ?_
           case rb => first | exact Below.refl _ _ | exact (Below.refl _ _).alloc (Nat.le_refl _) _
           case rh => first | exact holds_new _ [.string (strL p.2.bytes)] 9 | exact HA12.out.drew.wupd uA6 (by omega) (by decide) | exact (HA2.out.alloc _).drew.wupd uA6 (by omega) (by decide)
           rintro e w7 ⟨rfl, hW7, u7⟩))
      all_goals
        go_wp2
        exact ⟨⟨k + 1, by omega, by go_num, hW7, u7⟩, by simp [intOf]; omega⟩
    · obtain rfl : k = ln := by omega
      have e : leafB (kv.take k) = leafB kv := by rw [← HM.out, List.take_length]
      rw [e] at hWr
      have hBy : Hid (Calls Tryd.prog 49 #[.pointer (some ⟨n + 1, 0, none⟩)] wr fun e w' => e = .returned (.string (strL (leafB kv))) ∧ w' = wr) := bytes_some (n + 1) _ wr hWr
      have B4 : Below n w wr := B3.trans (hU.below (by omega))
      have hS4 := hSum.out wr B4
      have HS : Hid _ := hS4
      have hR4 : Holds wr n (zero32.map byteV) 26 := by
        unfold Holds
        rw [hU.low n (by omega)]; exact hR3
      have z4 : n < wr.heap.size := hR4.lt
      clear hS4 hWr hU e
      go_wp2_with (first
        | (go_at_call 49; refine hBy.out.mono ?_; rintro e w5 ⟨rfl, rfl⟩)
        | (go_at_call 34; refine (HS.out _).mono ?_; rintro e w6 ⟨rfl, h6⟩; have hR6 := hR4.below h6 z4)
        | (refine wpList_store_all rfl 26 (.tmp 2) (.tmp 33) rfl n rfl (q.map byteV) rfl 26 _ hR6 (by rw [(zero_of_info info26).2, List.length_map, hq]) (by rw [List.length_map, List.length_map, hq]; rfl) (byteV_one _) ?_; intro w7 h7))
      exact bodyPost_ret (results_cell_row (p := 2) (by kernel_rfl) _ w7 n 26 (q.map byteV).toArray (0, 0) _ rfl h7.holds und26 rfl (by rw [(zero_of_info info26).2, List.size_toArray, List.length_map, hq])) rfl ⟨rfl, (B4.trans (h6.mono (by omega))).trans (h7.below (Nat.le_refl _))⟩
/-- A leaf's hash. -/
theorem thash_any (v : Value) (kv : Fs) (hr : Rising kv) (hv : ∀ p ∈ kv, p.2.bytes.length = 32 ∧ p.2.firm = 0) (hwt : wt kv ≤ 536870912) (w : World) (hL : Laid w) (h : MapIs w v kv) :
    Calls Tryd.prog 35 #[v] w fun e w' => e = .returned (.agg ((leafH kv).map byteV).toArray) ∧ Below w.heap.size w w' := by
  by_cases h0 : kv.length = 0
  · obtain rfl := List.eq_nil_of_length_eq_zero h0
    exact hash_none v w h
  · exact hash_some v kv h0 hr hv (by omega) (by have := wt_len kv; omega) w hL h
end Go.Proofs.YtbfadapffpijpaaDoor
