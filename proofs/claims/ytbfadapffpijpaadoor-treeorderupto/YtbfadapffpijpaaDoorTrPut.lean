/- What package tree's Put does: the walk. -/
import Derived.Test.YtbfadapffpijpaaDoorTrPutA
namespace Go.Proofs.YtbfadapffpijpaaDoor
open Go.RowKit Go.Maps Go.WideMaps
attribute [local go_sem ↓] rule_eql rule_neq rule_eqlD rule_neqD rule26

/-- A map of a leaf is written. -/
theorem KeysAt.store {w : World} {mb : Nat} {kv : Fs} (h : KeysAt w mb kv) (hr : Rising kv) (hl : kv.length ≤ 8388608) (key : ByteArray) (hs : key.size ≤ maxLen) (s : List UInt8) (h32 : s.length = 32) :
    ∃ w', (Instr.mapUpdate 24 (.map (some mb)) (.string key) (.agg (s.map byteV).toArray)).run Tryd.prog w = .ok () w' ∧ KeysAt w' mb (put key.data.toList ⟨s, 0⟩ kv) ∧ TUpd (Is mb) w w' := by
  obtain ⟨n, D, hown, hat, hhas⟩ := h
  have hsz := keys_size hown hr hhas
  have hown2 := keys_tight hown
  obtain ⟨w1, hput, hown1, hturn1⟩ := hown2.store law9 und24 (by rw [hsz]; unfold maxLen; omega) (key_of key hs) (val := .agg (s.map byteV).toArray) (d := .lit (.string s)) (ps := []) (sumElem_of s h32)
  exact ⟨w1, hput, keys_put1 hown2 hat hhas key.data.toList ⟨s, 0⟩ hown1, (TUpd.refl _ w).grown hturn1.grown rfl⟩
theorem KeysAt.drop {w : World} {mb : Nat} {kv : Fs} (h : KeysAt w mb kv) (hr : Rising kv) (key : ByteArray) (hs : key.size ≤ maxLen) :
    ∃ w', (Builtin.delete_ #[24, 9] 0 #[.map (some mb), .string key]).run Tryd.prog w = .ok (.tuple #[]) w' ∧ KeysAt w' mb (del key.data.toList kv) ∧ TUpd (Is mb) w w' := by
  obtain ⟨n, D, hown, hat, hhas⟩ := h
  have hown2 := keys_tight hown
  obtain ⟨w1, hdel, hown1, hturn1⟩ := hown2.drop law9 und24 (key_of key hs) 0
  exact ⟨w1, hdel, keys_del1 hr hat hhas key.data.toList hown1, (TUpd.refl _ w).grown hturn1.grown rfl⟩
theorem eql_some (mb : Nat) (W : World) : (binOp .eql 24 (.map (some mb)) (.map none)).run Tryd.prog W = .ok (.bool false) W := by kernel_rfl
theorem make24 (W : World) : (Instr.makeMap 24 none).run Tryd.prog W = .ok (.map (some W.heap.size)) (W.alloc (.map #[] 0)) := by kernel_rfl
theorem eql_none (W : World) : (binOp .eql 24 (.map none) (.map none)).run Tryd.prog W = .ok (.bool true) W := by kernel_rfl
set_option maxHeartbeats 4000000 in
set_option maxRecDepth 100000 in
theorem tput_some (N b : Nat) (mv : List Value) (T : Tr) (key : ByteArray) (hks : key.size ≤ 140737488355328) (s : List UInt8) (h32 : s.length = 32) (hf : Fit T 536870912) (w : World) (hN : N ≤ w.heap.size) (hL : Laid w) (h : TreeAt w N b mv T) :
    Calls Tryd.prog 7 #[.pointer (some ⟨b, 0, none⟩), .string key, .agg (s.map byteV).toArray] w fun e w' => e = .returned (.tuple #[]) ∧ PutP N b mv (putT T key.data.toList s) w w' := by
  obtain ⟨i, hi⟩ : ∃ i, leafOf key.data.toList = i := ⟨_, rfl⟩
  have hi256 : i < 256 := hi ▸ leafOf_lt _
  have hmx : key.size ≤ maxLen := by unfold maxLen; omega
  have hlv := h.ok.lv
  have hmem := leafAt_mem hlv hi256
  have hrise := h.ok.rise _ hmem
  have hklen : (leafAt T i).length ≤ 8388608 := by have := hf _ hmem; have := wt_len (leafAt T i); omega
  have hleaf : Hid (∀ W, Below w.heap.size w W → Calls Tryd.prog 25 #[.string key] W fun e w' => e = .returned (.int .i64 (i : Int)) ∧ Below W.heap.size W w') := fun W hW => by
    have := tleaf_any key hks W (hL.below hW hL.two)
    rw [hi] at this
    exact this
  have hT : putT T key.data.toList s = if (get (leafAt T i) key.data.toList).map Fl.bytes = some s then T else setT T i (put key.data.toList ⟨s, 0⟩ (leafAt T i)) := by rw [putT, hi]
  have hOk := putT_ok h.ok key.data.toList s h32
  obtain ⟨n, hn⟩ : ∃ n, w.heap.size = n := ⟨_, rfl⟩
  have hbn : b < n := hn ▸ h.holds.lt
  have i0 : (0 : Int) ≤ (i : Int) := by omega
  have i1 : (i : Int) < 256 := by omega
  -- the look-up
  have hAt : Hid (∀ W, Below w.heap.size w W → TreeAt W N b mv T) := fun W hW => h.ofBelow hW
  obtain ⟨v0, hv0⟩ : ∃ v0, mv.getD i (.map none) = v0 := ⟨_, rfl⟩
  have hCell : Hid (∀ W, Below w.heap.size w W → W.cell? ⟨b, i, none⟩ = some v0) := fun W hW => by
    have := (hAt.out W hW).holds.mapAt h.len (i := i) rfl hi256
    rw [hv0] at this
    exact this
  have hLook : Hid (∀ W, Below w.heap.size w W → (Instr.lookup 24 v0 (.string key) true).run Tryd.prog W = .ok (.tuple #[lookV (get (leafAt T i) key.data.toList), .bool (get (leafAt T i) key.data.toList).isSome]) W) := fun W hW => by
    have := ((hAt.out W hW).maps i hi256).look key hmx true
    rw [hv0] at this
    exact this
  rw [hn] at hleaf hAt hCell hLook
  have hlen := h.len
  have hsz := h.ok.sz
  have hMapAt := h.maps i hi256
  rw [hv0] at hMapAt
  have hmvOf : ∀ mb, v0 = .map (some mb) → mv[i]? = some (.map (some mb)) := fun mb e => getD_mem (hv0.trans e)
  cases hg : get (leafAt T i) key.data.toList with
  | some f =>
    have hf32 : f.bytes.length = 32 := (h.ok.v32 _ hmem _ (get_mem hg)).1
    rw [hg] at hLook hT
    simp only [lookV, Option.isSome_some] at hLook
    by_cases hse : f.bytes = s
    · have e : putT T key.data.toList s = T := by rw [hT, if_pos (by rw [← hse]; rfl)]
      rw [e]
      rw [hse] at hLook
      have hx32 := h32
      have S := same32 s h32
      clear hT hOk
      go_enter Tryd.func7, Tryd.ntmps7
      go_wp2_with (first
        | (refine wpList_box_new 5 rfl rfl 26 _ rfl n hn (s.map byteV) rfl ?_; intro w1 h1)
        | (go_at_call 25; refine (hleaf.out w1 h1.below).mono ?_; rintro e w2 ⟨rfl, b2⟩; have B2 : Below n w w2 := h1.below.trans (b2.mono (by rw [h1.size]; omega)); have c2 := hCell.out w2 B2; have l2 := hLook.out w2 B2)
        | (refine wpList_alloc_new 7 rfl rfl 26 rfl w2.heap.size rfl _ (zero_of_info info26).1 ?_; intro w3 h3)
        | (refine wpList_store_all rfl 26 (.tmp 7) (.tmp 22) rfl w2.heap.size rfl (s.map byteV) rfl 26 _ h3.holds (by rw [(zero_of_info info26).2, List.length_map]; simp only [hx32]) (by rw [List.length_map, List.length_map]; simp only [hx32]; rfl) (byteV_one _) ?_; intro w4 h4; have r4 := h4.holds.row26 hx32; have Q4 := (((h1.holds.below b2 h1.holds.lt).below h3.below (h1.holds.below b2 h1.holds.lt).lt).below (h4.below (B := w2.heap.size) (Nat.le_refl _)) (h1.holds.below b2 h1.holds.lt).lt); have q4 := Q4.row26 h32; have B4 : Below n w w4 := B2.trans ((h3.below.trans (h4.below (Nat.le_refl _))).mono (by have := B2.size; omega)); have c4 := hCell.out w4 B4))
      exact bodyPost_ret (results_none (by kernel_rfl) _ _ _) rfl ⟨rfl, mv, hAt.out w4 B4, .ofBelow (hn ▸ B4), fun _ q => .inl q⟩
    · have e : putT T key.data.toList s = setT T i (put key.data.toList ⟨s, 0⟩ (leafAt T i)) := by rw [hT, if_neg (by simpa using hse)]
      rw [e] at hOk ⊢
      obtain ⟨mb, rfl⟩ : ∃ mb, v0 = .map (some mb) := by
        rcases hMapAt with ⟨_, q⟩ | ⟨mb, q, _⟩
        · rw [q] at hg; cases hg
        · exact ⟨mb, q⟩
      have hmv := hmvOf mb rfl
      have hx32 := hf32
      have D := diff32 f.bytes s hf32 h32 hse
      have qe := eql_some mb
      clear hT h hMapAt hmvOf
      go_enter Tryd.func7, Tryd.ntmps7
      go_wp2_with (first
        | (refine wpList_box_new 5 rfl rfl 26 _ rfl n hn (s.map byteV) rfl ?_; intro w1 h1)
        | (go_at_call 25; refine (hleaf.out w1 h1.below).mono ?_; rintro e w2 ⟨rfl, b2⟩; have B2 : Below n w w2 := h1.below.trans (b2.mono (by rw [h1.size]; omega)); have c2 := hCell.out w2 B2; have l2 := hLook.out w2 B2)
        | (refine wpList_alloc_new 7 rfl rfl 26 rfl w2.heap.size rfl _ (zero_of_info info26).1 ?_; intro w3 h3)
        | (refine wpList_store_all rfl 26 (.tmp 7) (.tmp 22) rfl w2.heap.size rfl (f.bytes.map byteV) rfl 26 _ h3.holds (by rw [(zero_of_info info26).2, List.length_map]; simp only [hx32]) (by rw [List.length_map, List.length_map]; simp only [hx32]; rfl) (byteV_one _) ?_; intro w4 h4; have r4 := h4.holds.row26 hx32; have Q4 := (((h1.holds.below b2 h1.holds.lt).below h3.below (h1.holds.below b2 h1.holds.lt).lt).below (h4.below (B := w2.heap.size) (Nat.le_refl _)) (h1.holds.below b2 h1.holds.lt).lt); have q4 := Q4.row26 h32; have B4 : Below n w w4 := B2.trans ((h3.below.trans (h4.below (Nat.le_refl _))).mono (by have := B2.size; omega)); have c4 := hCell.out w4 B4))
      have HQ : Hid (Holds w4 n (s.map byteV) 26) := Q4
      have A4 := hAt.out w4 B4
      have K4 : KeysAt w4.drew mb (leafAt T i) := (A4.keys hmv).same rfl
      obtain ⟨w5, hput, hk5, u5⟩ := K4.store hrise hklen key hmx s h32
      have A4d : TreeAt w4.drew N b mv T := A4.tupd (TUpd.refl (fun _ => False) w4).drew (fun _ _ q => q)
      have hmb : b ≠ mb := fun e => A4.bm (e ▸ List.mem_of_getElem? hmv)
      have h5 : Holds w5 b (treeV mv T) 32 := A4d.holds.tupd u5 hmb
      have hsoil : Hid (Calls Tryd.prog 26 #[.pointer (some ⟨b, 0, none⟩), .int .i64 (i : Int)] w5 fun e w' => e = .returned (.tuple #[]) ∧ Holds w' b (treeV mv (soilT T i)) 32 ∧ TUpd (Is b) w5 w') := soil_any b i mv T hi256 hlen hsz w5 h5
      have U5 : Hid (TUpd (Is mb) w4.drew w5) := u5
      have K5 : Hid (KeysAt w5 mb (put key.data.toList ⟨s, 0⟩ (leafAt T i))) := hk5
      have AD : Hid (TreeAt w4.drew N b mv T) := A4d
      have c4d : w4.drew.cell? ⟨b, i, none⟩ = some (.map (some mb)) := c4
      have q4d : rowOf w4.drew (.pointer (some ⟨n, 0, none⟩)) 32 = some (s.map byteV) := HQ.out.drew.row26 h32
      have hFin : Hid (∀ w6, Holds w6 b (treeV mv (soilT T i)) 32 → TUpd (Is b) w5 w6 → PutP N b mv (setT T i (put key.data.toList ⟨s, 0⟩ (leafAt T i))) w w6) := fun w6 hh hu => ⟨mv, AD.out.setMap hi256 hmv hOk U5.out K5.out hu hh, ((TUpd.ofBelow (hn ▸ B4)).drew.trans (U5.out.mono (fun x hx => .inr (hx ▸ List.mem_of_getElem? hmv)))).trans (hu.mono (fun x hx => .inl hx)), fun x hx => .inl hx⟩
      clear A4 K4 A4d h5 u5 hk5 Q4 q4 h1 h3 h4 r4 b2 c2 l2 B2
      go_region
      all_goals
        go_wp2_with (go_at_call 26; refine hsoil.out.mono ?_; rintro e w6 ⟨rfl, hh6, u6⟩)
        exact bodyPost_end (results_none (by kernel_rfl) _ _ _) rfl ⟨rfl, hFin.out w6 hh6 u6⟩
  | none =>
    rw [hg] at hLook hT
    simp only [lookV, Option.isSome_none] at hLook
    have e : putT T key.data.toList s = setT T i (put key.data.toList ⟨s, 0⟩ (leafAt T i)) := by rw [hT, if_neg (by simp)]
    rw [e] at hOk ⊢
    have hx32 : zero32.length = 32 := rfl
    rcases hMapAt with ⟨rfl, hkv⟩ | ⟨mb, rfl, _⟩
    · have qe := eql_none
      have mk := make24
      clear hT h hmvOf
      go_enter Tryd.func7, Tryd.ntmps7
      go_wp2_with (first
        | (refine wpList_box_new 5 rfl rfl 26 _ rfl n hn (s.map byteV) rfl ?_; intro w1 h1)
        | (go_at_call 25; refine (hleaf.out w1 h1.below).mono ?_; rintro e w2 ⟨rfl, b2⟩; have B2 : Below n w w2 := h1.below.trans (b2.mono (by rw [h1.size]; omega)); have c2 := hCell.out w2 B2; have l2 := hLook.out w2 B2)
        | (refine wpList_alloc_new 7 rfl rfl 26 rfl w2.heap.size rfl _ (zero_of_info info26).1 ?_; intro w3 h3)
        | (refine wpList_store_all rfl 26 (.tmp 7) (.tmp 22) rfl w2.heap.size rfl (zero32.map byteV) rfl 26 _ h3.holds (by rw [(zero_of_info info26).2, List.length_map]; simp only [hx32]) (by rw [List.length_map, List.length_map]; simp only [hx32]; rfl) (byteV_one _) ?_; intro w4 h4; have r4 := h4.holds.row26 hx32; have Q4 := (((h1.holds.below b2 h1.holds.lt).below h3.below (h1.holds.below b2 h1.holds.lt).lt).below (h4.below (B := w2.heap.size) (Nat.le_refl _)) (h1.holds.below b2 h1.holds.lt).lt); have q4 := Q4.row26 h32; have B4 : Below n w w4 := B2.trans ((h3.below.trans (h4.below (Nat.le_refl _))).mono (by have := B2.size; omega)); have c4 := hCell.out w4 B4; have f4a := ((hAt.out w4 B4).holds.alloc (.map #[] 0)).frozen i; have c4a := ((hAt.out w4 B4).holds.alloc (.map #[] 0)).mapAt hlen (i := i) rfl hi256; rw [hv0] at c4a))
      have A4 := (hAt.out w4 B4).newMap (by have := B4.size; omega) hi256 hv0
      have HQ : Hid (Holds ((w4.alloc (.map #[] 0)).setCell ⟨b, i, none⟩ (.map (some w4.heap.size))) n (s.map byteV) 26) := (Q4.alloc _).setOther b i _ (by omega)
      have B5 : TUpd (Is b) w ((w4.alloc (.map #[] 0)).setCell ⟨b, i, none⟩ (.map (some w4.heap.size))) := ((TUpd.ofBelow (hn ▸ B4)).alloc _).set b i _ rfl
      have hlen' : (mv.set i (.map (some w4.heap.size))).length = 256 := by simpa using hlen
      have hmv : (mv.set i (.map (some w4.heap.size)))[i]? = some (.map (some w4.heap.size)) := by rw [List.getElem?_set, if_pos rfl, if_pos (by omega)]
      have hOwn : Hid (∀ x, Own b (mv.set i (.map (some w4.heap.size))) x → Own b mv x ∨ w.heap.size ≤ x) := fun x hx => by
        rcases hx with hx | hx
        · exact .inl (.inl hx)
        · rcases List.mem_or_eq_of_mem_set hx with hx | hx
          · exact .inl (.inr hx)
          · cases hx; exact .inr (by have := B4.size; omega)
      have hMb : Hid (w.heap.size ≤ w4.heap.size) := B4.size
      have c5 := A4.holds.mapAt hlen' (i := i) rfl hi256
      rw [getD_set _ _ _ _ _ (by omega), if_pos rfl] at c5
      clear B4 h1 h3 h4 r4 b2 c2 l2 B2 q4 Q4 c4 c4a f4a mk qe
      obtain ⟨mvX, hmX⟩ : ∃ mvX, mv.set i (.map (some w4.heap.size)) = mvX := ⟨_, rfl⟩
      rw [hmX] at A4 hlen' hmv hOwn
      obtain ⟨mb, hmb0⟩ : ∃ mb, w4.heap.size = mb := ⟨_, rfl⟩
      rw [hmb0] at A4 hmv hMb c5 HQ B5 ⊢
      generalize (w4.alloc (.map #[] 0)).setCell ⟨b, i, none⟩ (.map (some mb)) = wX at *
      have K4 : KeysAt wX.drew mb (leafAt T i) := (A4.keys hmv).same rfl
      obtain ⟨w5, hput, hk5, u5⟩ := K4.store hrise hklen key hmx s h32
      have A4d : TreeAt wX.drew N b mvX T := A4.tupd (TUpd.refl (fun _ => False) wX).drew (fun _ _ q => q)
      have hmb : b ≠ mb := fun e => A4.bm (e ▸ List.mem_of_getElem? hmv)
      have h5 : Holds w5 b (treeV mvX T) 32 := A4d.holds.tupd u5 hmb
      have hsoil : Hid (Calls Tryd.prog 26 #[.pointer (some ⟨b, 0, none⟩), .int .i64 (i : Int)] w5 fun e w' => e = .returned (.tuple #[]) ∧ Holds w' b (treeV mvX (soilT T i)) 32 ∧ TUpd (Is b) w5 w') := soil_any b i mvX T hi256 hlen' hsz w5 h5
      have U5 : Hid (TUpd (Is mb) wX.drew w5) := u5
      have K5 : Hid (KeysAt w5 mb (put key.data.toList ⟨s, 0⟩ (leafAt T i))) := hk5
      have AD : Hid (TreeAt wX.drew N b mvX T) := A4d
      have c4d : wX.drew.cell? ⟨b, i, none⟩ = some (.map (some mb)) := c5
      have q4d : rowOf wX.drew (.pointer (some ⟨n, 0, none⟩)) 32 = some (s.map byteV) := HQ.out.drew.row26 h32
      have HB5 : Hid (TUpd (Is b) w wX) := B5
      have hFin : Hid (∀ w6, Holds w6 b (treeV mvX (soilT T i)) 32 → TUpd (Is b) w5 w6 → PutP N b mv (setT T i (put key.data.toList ⟨s, 0⟩ (leafAt T i))) w w6) := fun w6 hh hu => ⟨mvX, AD.out.setMap hi256 hmv hOk U5.out K5.out hu hh,
        TUpd.monoLt (L := fun x => Own b mv x ∨ w.heap.size ≤ x) (((HB5.out.mono (fun x hx => .inl (.inl hx))).drew.trans (U5.out.mono (fun x (hx : x = mb) => .inr (hx ▸ hMb.out)))).trans (hu.mono (fun x hx => .inl (.inl hx)))) (fun x hx q => q.elim id (fun q => absurd q (by omega))), hOwn.out⟩
      clear A4 K4 A4d h5 u5 hk5 B5
      go_region
      all_goals
        go_wp2_with (go_at_call 26; refine hsoil.out.mono ?_; rintro e w6 ⟨rfl, hh6, u6⟩)
        exact bodyPost_end (results_none (by kernel_rfl) _ _ _) rfl ⟨rfl, hFin.out w6 hh6 u6⟩
    · have hmv := hmvOf mb rfl
      have qe := eql_some mb
      clear hT h hmvOf
      go_enter Tryd.func7, Tryd.ntmps7
      go_wp2_with (first
        | (refine wpList_box_new 5 rfl rfl 26 _ rfl n hn (s.map byteV) rfl ?_; intro w1 h1)
        | (go_at_call 25; refine (hleaf.out w1 h1.below).mono ?_; rintro e w2 ⟨rfl, b2⟩; have B2 : Below n w w2 := h1.below.trans (b2.mono (by rw [h1.size]; omega)); have c2 := hCell.out w2 B2; have l2 := hLook.out w2 B2)
        | (refine wpList_alloc_new 7 rfl rfl 26 rfl w2.heap.size rfl _ (zero_of_info info26).1 ?_; intro w3 h3)
        | (refine wpList_store_all rfl 26 (.tmp 7) (.tmp 22) rfl w2.heap.size rfl (zero32.map byteV) rfl 26 _ h3.holds (by rw [(zero_of_info info26).2, List.length_map]; simp only [hx32]) (by rw [List.length_map, List.length_map]; simp only [hx32]; rfl) (byteV_one _) ?_; intro w4 h4; have r4 := h4.holds.row26 hx32; have Q4 := (((h1.holds.below b2 h1.holds.lt).below h3.below (h1.holds.below b2 h1.holds.lt).lt).below (h4.below (B := w2.heap.size) (Nat.le_refl _)) (h1.holds.below b2 h1.holds.lt).lt); have q4 := Q4.row26 h32; have B4 : Below n w w4 := B2.trans ((h3.below.trans (h4.below (Nat.le_refl _))).mono (by have := B2.size; omega)); have c4 := hCell.out w4 B4))
      have HQ : Hid (Holds w4 n (s.map byteV) 26) := Q4
      have A4 := hAt.out w4 B4
      have K4 : KeysAt w4.drew mb (leafAt T i) := (A4.keys hmv).same rfl
      obtain ⟨w5, hput, hk5, u5⟩ := K4.store hrise hklen key hmx s h32
      have A4d : TreeAt w4.drew N b mv T := A4.tupd (TUpd.refl (fun _ => False) w4).drew (fun _ _ q => q)
      have hmb : b ≠ mb := fun e => A4.bm (e ▸ List.mem_of_getElem? hmv)
      have h5 : Holds w5 b (treeV mv T) 32 := A4d.holds.tupd u5 hmb
      have hsoil : Hid (Calls Tryd.prog 26 #[.pointer (some ⟨b, 0, none⟩), .int .i64 (i : Int)] w5 fun e w' => e = .returned (.tuple #[]) ∧ Holds w' b (treeV mv (soilT T i)) 32 ∧ TUpd (Is b) w5 w') := soil_any b i mv T hi256 hlen hsz w5 h5
      have U5 : Hid (TUpd (Is mb) w4.drew w5) := u5
      have K5 : Hid (KeysAt w5 mb (put key.data.toList ⟨s, 0⟩ (leafAt T i))) := hk5
      have AD : Hid (TreeAt w4.drew N b mv T) := A4d
      have c4d : w4.drew.cell? ⟨b, i, none⟩ = some (.map (some mb)) := c4
      have q4d : rowOf w4.drew (.pointer (some ⟨n, 0, none⟩)) 32 = some (s.map byteV) := HQ.out.drew.row26 h32
      have hFin : Hid (∀ w6, Holds w6 b (treeV mv (soilT T i)) 32 → TUpd (Is b) w5 w6 → PutP N b mv (setT T i (put key.data.toList ⟨s, 0⟩ (leafAt T i))) w w6) := fun w6 hh hu => ⟨mv, AD.out.setMap hi256 hmv hOk U5.out K5.out hu hh, ((TUpd.ofBelow (hn ▸ B4)).drew.trans (U5.out.mono (fun x hx => .inr (hx ▸ List.mem_of_getElem? hmv)))).trans (hu.mono (fun x hx => .inl hx)), fun x hx => .inl hx⟩
      clear A4 K4 A4d h5 u5 hk5 Q4 q4 h1 h3 h4 r4 b2 c2 l2 B2
      go_region
      all_goals
        go_wp2_with (go_at_call 26; refine hsoil.out.mono ?_; rintro e w6 ⟨rfl, hh6, u6⟩)
        exact bodyPost_end (results_none (by kernel_rfl) _ _ _) rfl ⟨rfl, hFin.out w6 hh6 u6⟩
end Go.Proofs.YtbfadapffpijpaaDoor
