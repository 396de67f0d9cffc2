/- slices.SortFunc (59), SortedFunc (38) at members; rising (23). -/
import Derived.Shelf.SlSortCmp.WholeK
import Derived.Sort.Grow
import Derived.Test.YthmnjebmnocoiaaGreatYShelfB
import Derived.Test.YthmnjebmnocoiaaGreatYGsMem
namespace Go.Proofs.YthmnjebmnocoiaaGreat
open Go.RowKit Go.Shelf Go.Sort Go.Lib Go.Maps

set_option maxHeartbeats 1000000 in
theorem byNode_any (m o : Mb) (w : World) : Calls Tryz.prog 65 #[.agg (mbV m).toArray, .agg (mbV o).toArray] w fun e w' => e = .returned (.int .i64 (cmpN m.1 o.1)) ∧ ∃ q os', w' = grow (w.drewN q) os' := by
  obtain ⟨m1, m2, m3⟩ := m
  obtain ⟨o1, o2, o3⟩ := o
  have x0 := ((holds_new w (mbV (m1, m2, m3)) 53).alloc (.cells (mbV (o1, o2, o3)).toArray 53)).at 0 _ rfl
  have y0 := (holds_new (w.alloc (.cells (mbV (m1, m2, m3)).toArray 53)) (mbV (o1, o2, o3)) 53).at 0 _ rfl
  rw [World.size_alloc] at y0
  have h43 : Hid (∀ W, Calls Tryz.prog 66 #[.int .i64 m1, .int .i64 o1] W fun e w' => e = .returned (.int .i64 (cmpN m1 o1)) ∧ w' = W) := fun W => compare_int m1 o1 W
  show Calls Tryz.prog 65 _ w fun e w' => e = .returned (.int .i64 (cmpN m1 o1)) ∧ _
  generalize cmpN m1 o1 = r at *
  go_enter Tryz.func65, Tryz.ntmps65
  go_wp2_with (go_at_call 66; refine (h43.out _).mono ?_; rintro e w1 ⟨rfl, rfl⟩)
  go_ret
  exact ⟨rfl, 0, _, by rw [alloc_eq_grow, alloc_eq_grow, grow_grow]; rfl⟩
theorem cmpLaysP (blk off size : Nat) (w : World) : CmpLays Tryz.prog 65 #[] prC 3 cmpP blk off size w := fun _ _ _ _ x y => byNode_any x y _
theorem sortP_some (b m : Nat) (l : List Mb) (tl : List Value) (cap : Nat) (hm : m ≤ b) (hlen : l.length < 4611686018427387904) (w : World) (hb : Holds w b (cellsP l ++ tl) 53) :
    Calls Tryz.prog 92 #[.slice (some ⟨b, 0, none⟩) l.length cap, .func (.func 65) #[] #[]] w fun e w' =>
      e = .returned (.tuple #[]) ∧ ∃ l', l'.Perm l ∧ l'.Pairwise (fun x y => ¬ y.1 < x.1) ∧ l'.length = l.length ∧ Holds w' b (cellsP l' ++ tl) 53 ∧ Below m w w' := by
  have eg : ∀ args w, (callFunc 65 args).run Tryz.prog w = .ok (.enter 65 args) w := enters_of Tryz.func65 (by kernel_rfl) rfl
  have hp := AnyQ.slices_SortFunc_eq Tryz.sortMb 3 Tryz.isAgg53 Tryz.sizeOf53 prC (fun _ => rfl) (fun x v hv => by exact mbV_one x v hv) cmpP cmpP_swo 65 #[] b 0 cap l.toArray w eg (cmpLaysP b 0 _ w) (holdsK_pr hb) hb.lt (by simpa using hlen)
  change Calls Tryz.prog 92 _ _ _ at hp
  simp only [List.size_toArray] at hp
  refine hp.mono ?_
  rintro e w' ⟨rfl, n, os, rfl⟩
  have hs := pdq_sorts (ltOf cmpP) cmpP_swo l.toArray 0 l.length (Lib.bitLen l.length) true true (Nat.zero_le _) (by simp) (Or.inl rfl)
  obtain ⟨⟨hz, _, hperm⟩, hsort⟩ := hs
  generalize pdq (ltOf cmpP) l.toArray 0 l.length (Lib.bitLen l.length) true true = d' at *
  have hz' : d'.size = l.length := by simpa using hz
  rw [Array.extract_eq_self_of_le (by omega), Array.extract_eq_self_of_le (by simp)] at hperm
  have hlen' : d'.toList.length = l.length := by simpa using hz'
  have hb2 := put_blockP hb hm hlen' n os
  rw [Array.toArray_toList] at hb2
  refine ⟨rfl, d'.toList, by simpa using hperm, ?_, hlen', hb2.1, hb2.2⟩
  rw [List.pairwise_iff_getElem]
  intro i j hi hj hij
  have := hsort i j (Nat.zero_le _) hij (by omega)
  rw [cmpP_lt, decide_eq_false_iff_not] at this
  have ei : d'[i]! = d'.toList[i] := by simp [show i < d'.size by omega]
  have ej : d'[j]! = d'.toList[j] := by simp [show j < d'.size by omega]
  rw [ei, ej] at this
  exact this
set_option maxRecDepth 100000 in
set_option maxHeartbeats 1000000 in
theorem insP_none (cap : Nat) (w : World) : Calls Tryz.prog 116 #[.slice none 0 cap, .int .i64 0, .int .i64 0, .func (.func 65) #[] #[]] w fun e w' => e = .returned (.tuple #[]) ∧ w' = w := by
  go_enter Tryz.func116, Tryz.ntmps116
  go_wp2
  go_loopw [8] (fun p wr => p = .int .i64 1 ∧ wr = w) (fun _ _ => 0)
  case atStart => exact ⟨rfl, rfl⟩
  case round =>
    obtain ⟨rfl, rfl⟩ := hrel
    go_wp2
    go_end0
    exact ⟨rfl, rfl⟩
set_option maxRecDepth 100000 in
set_option maxHeartbeats 1000000 in
theorem pdqP_none (cap : Nat) (lim : Int) (w : World) : Calls Tryz.prog 109 #[.slice none 0 cap, .int .i64 0, .int .i64 0, .int .i64 lim, .func (.func 65) #[] #[]] w fun e w' => e = .returned (.tuple #[]) ∧ w' = w := by
  have hi := insP_none cap w
  go_enter Tryz.func109, Tryz.ntmps109
  go_wp2
  go_loopw [1, 2] (fun p q wr => p = .int .i64 0 ∧ q = .int .i64 0 ∧ wr = w) (fun _ _ _ => 0)
  case atStart => exact ⟨rfl, rfl, rfl⟩
  case round =>
    obtain ⟨rfl, rfl, rfl⟩ := hrel
    go_wp2_with (go_at_call 116; refine hi.mono ?_; rintro e w' ⟨rfl, rfl⟩)
    refine bodyPost_ret (results_none rfl _ _ _) rfl ?_
    exact ⟨rfl, rfl⟩
set_option maxRecDepth 100000 in
theorem sortP_none (cap : Nat) (w : World) :
    Calls Tryz.prog 92 #[.slice none 0 cap, .func (.func 65) #[] #[]] w fun e w' => e = .returned (.tuple #[]) ∧ w' = w := by
  have hp := fun lim => pdqP_none cap lim w
  have hl := Tryz.bits_Len 0 w (by omega) (by omega)
  go_enter Tryz.func92, Tryz.ntmps92
  go_wp2_with (first | (go_at_call 110; refine hl.mono ?_; rintro e w' ⟨rfl, rfl⟩) | (go_at_call 109; refine (hp _).mono ?_; rintro e w' ⟨rfl, rfl⟩))
  go_end0
  exact ⟨rfl, rfl⟩
theorem own_holdsP {W : World} {m n : Nat} {v : Value} {l : List Mb} (h : W.ownsRow m 53 3 v n (cellsP l)) (hn : n = l.length) :
    (v = .slice none 0 0 ∧ l = []) ∨ ∃ g cap tl, v = .slice (some ⟨g, 0, none⟩) l.length cap ∧ m ≤ g ∧ l.length ≤ cap ∧ cap ≤ maxLen ∧ (cellsP l ++ tl).length = cap * 3 ∧ Holds W g (cellsP l ++ tl) 53 := by
  subst hn
  obtain ⟨_, ⟨rfl, h0⟩ | ⟨g, cap, cur, rfl, hm, hh, hc, hc2, hc3, ht⟩⟩ := h
  · exact .inl ⟨rfl, List.eq_nil_of_length_eq_zero h0⟩
  · refine .inr ⟨g, cap, cur.toList.drop (l.length * 3), rfl, hm, hc, hc2, ?_, ?_⟩
    · rw [← ht, List.take_append_drop, Array.length_toList, hc3]
    · unfold Holds
      rw [← ht, List.take_append_drop, Array.toArray_toList]
      exact hh
theorem sortP_kv (m : Nat) (k : Kn) (hk : Right k) (hlen : (risL k).length ≤ 7) (W : World) (a : Option Addr) (n c : Nat) (ps : List Mb) (hp : ps.Perm (risL k)) (hn : n = ps.length) (hr : W.ownsRow m 53 3 (.slice a n c) ps.length (cellsP ps)) :
    Calls Tryz.prog 92 #[.slice a n c, .func (.func 65) #[] #[]] W fun e w' => e = .returned (.tuple #[]) ∧ w'.ownsRow m 53 3 (.slice a n c) (risL k).length (cellsP (risL k)) ∧ Below m W w' := by
  subst hn
  have hkl : (risL k).length = (risL k).length := rfl
  have hpl : ps.length = (risL k).length := hp.length_eq.trans hkl
  rcases own_holdsP hr rfl with ⟨e, rfl⟩ | ⟨g, cap, tl, e, hg, hcap, hcm, htl, hH⟩
  · obtain ⟨rfl, rfl⟩ : a = none ∧ c = 0 := by
      injection e with e1 e2 e3
      exact ⟨e1, e3⟩
    refine (sortP_none 0 W).mono ?_
    rintro e w' ⟨rfl, rfl⟩
    have : risL k = [] := hp.nil_eq.symm
    rw [this]
    exact ⟨rfl, World.ownsRow_nil _ _ _ _, Below.refl _ _⟩
  · obtain ⟨rfl, -, rfl⟩ : a = some ⟨g, 0, none⟩ ∧ ps.length = ps.length ∧ cap = c := by
      injection e with e1 e2 e3
      exact ⟨e1, e2, e3.symm⟩
    refine (sortP_some g m ps tl cap hg (by omega) W hH).mono ?_
    rintro e w' ⟨rfl, l', hp', hs', hl', hH', hB'⟩
    have e2 : l' = risL k := ris_sorted hk (hp'.trans hp) hs'
    subst e2
    refine ⟨rfl, ⟨by rw [cellsP_len], .inr ⟨g, cap, (cellsP (risL k) ++ tl).toArray, by rw [hpl], hg, hH', by omega, hcm, ?_, ?_⟩⟩, hB'⟩
    · rw [List.size_toArray, ← htl, List.length_append, List.length_append, cellsP_len, cellsP_len, hl']
    · rw [← cellsP_len, List.take_left']
      rfl
theorem collect_kv (Bm b nn : Nat) (D0 : DataW Unit) (k : Kn) (hk : Right k) (hM : MapOf D0 k) (hmax : Maps.size D0 ≤ 7) (w : World) (hBm : Bm < w.heap.size) (hm : w.cell? ⟨Bm, 0, none⟩ = some (.map (some b))) (hown : w.ownsMap Tryz.prog 3 mbElem b nn D0) :
    Calls Tryz.prog 91 #[.func (.func 93) #[] #[.pointer (some ⟨Bm, 0, none⟩)]] w fun e w' => ∃ a n c ps, e = .returned (.slice a n c) ∧ ps.Perm (risL k) ∧ n = ps.length ∧ w'.ownsRow w.heap.size 53 3 (.slice a n c) ps.length (cellsP ps) ∧ Below w.heap.size w w' := by
  have hD : Keyd D0 := fun x m h => by
    rw [hM.at_, pkM] at h
    split at h
    · cases h
    · rename_i hz
      rw [← mbD_inj h]; exact (hk.seen hz).2
  refine (collect_some Bm b nn D0 hD hmax w hBm hm hown).mono fun e w' ⟨v, ps, he, hA, hr, hB⟩ => ?_
  obtain ⟨a, c, rfl⟩ := row_slice hr
  exact ⟨a, _, c, ps, he, all_perm hk hM hA, rfl, hr, hB⟩
set_option maxRecDepth 100000 in
set_option maxHeartbeats 1000000 in
theorem sortedP_some (Bm b nn : Nat) (D0 : DataW Unit) (k : Kn) (hk : Right k) (hM : MapOf D0 k) (hmax : Maps.size D0 ≤ 7) (hlen : (risL k).length ≤ 7) (w : World) (hBm : Bm < w.heap.size) (hm : w.cell? ⟨Bm, 0, none⟩ = some (.map (some b))) (hown : w.ownsMap Tryz.prog 3 mbElem b nn D0) :
    Calls Tryz.prog 63 #[.func (.func 93) #[] #[.pointer (some ⟨Bm, 0, none⟩)], .func (.func 65) #[] #[]] w fun e w' => ∃ v, e = .returned v ∧ w'.ownsRow w.heap.size 53 3 v (risL k).length (cellsP (risL k)) ∧ Below w.heap.size w w' := by
  have hc : Hid (Calls Tryz.prog 91 #[.func (.func 93) #[] #[.pointer (some ⟨Bm, 0, none⟩)]] w fun e w' => ∃ a n c, e = .returned (.slice a n c) ∧ Hid ((∃ ps, ps.Perm (risL k) ∧ n = ps.length ∧ w'.ownsRow w.heap.size 53 3 (.slice a n c) ps.length (cellsP ps)) ∧ Below w.heap.size w w')) := (collect_kv Bm b nn D0 k hk hM hmax w hBm hm hown).mono fun e w' ⟨a, n, c, ps, h1, h2, h3, h4, h5⟩ => ⟨a, n, c, h1, ⟨ps, h2, h3, h4⟩, h5⟩
  have hs : Hid (∀ W a n c, Hid ((∃ ps, ps.Perm (risL k) ∧ n = ps.length ∧ W.ownsRow w.heap.size 53 3 (.slice a n c) ps.length (cellsP ps)) ∧ Below w.heap.size w W) → Calls Tryz.prog 92 #[.slice a n c, .func (.func 65) #[] #[]] W fun e w' => e = .returned (.tuple #[]) ∧ Hid (w'.ownsRow w.heap.size 53 3 (.slice a n c) (risL k).length (cellsP (risL k)) ∧ Below w.heap.size w w')) := fun W a n c ⟨⟨ps, h2, h3, h4⟩, h5⟩ => (sortP_kv w.heap.size k hk hlen W a n c ps h2 h3 h4).mono fun e w' ⟨q1, q2, q3⟩ => ⟨q1, q2, h5.trans q3⟩
  clear hown hm hM hmax hBm hk hlen
  go_enter Tryz.func63, Tryz.ntmps63
  go_wp2_with (first | (go_at_call 91; refine hc.out.mono ?_; rintro e w1 ⟨a, n, c, rfl, hr⟩) | (go_at_call 92; refine (hs.out w1 a n c hr).mono ?_; rintro e w2 ⟨rfl, hr2⟩))
  go_ret
  exact ⟨_, rfl, hr2.out.1, hr2.out.2⟩
set_option maxRecDepth 100000 in
set_option maxHeartbeats 1000000 in
theorem rising_any (mb : Nat) (k : Kn) (hk : Right k) (w : World) (h : KnAt w mb k) : Calls Tryz.prog 36 #[.map (some mb)] w fun e w' => ∃ v, e = .returned v ∧ Mems w'.heap.size w' v (risL k) ∧ (∀ g, v.ownBlock = some g → w.heap.size ≤ g) ∧ Below w.heap.size w w' := by
  obtain ⟨n, D, hown, hM⟩ := h
  have hsz := kn_keys hown hk hM
  have hB0 : Below w.heap.size w (w.alloc (.cells #[.map (some mb)] 56)) := (Below.refl _ w).alloc (Nat.le_refl _) _
  have hown' : (w.alloc (.cells #[.map (some mb)] 56)).ownsMap Tryz.prog 3 mbElem mb n D := by
    have hbl := hown.lt
    obtain ⟨es, clock, hb, Ft, hs, hD⟩ := hown
    exact ⟨es, clock, (hB0.block mb hbl).trans hb, Ft, hs, hD⟩
  have hso := sortedP_some w.heap.size mb n D k hk hM hsz (risL_len k) (w.alloc (.cells #[.map (some mb)] 56)) (by simp) ((holds_new w [.map (some mb)] 56).at 0 _ rfl) hown'
  have hv := fun W => callsIn_wide.1 (values_in Fence.wide 3 trivial rfl (some mb) W)
  clear hown hown' hM hsz
  go_enter Tryz.func36, Tryz.ntmps36
  go_wp2_with (first | (go_at_call 64; refine (hv _).mono ?_; rintro e w1 ⟨rfl, rfl⟩) | (go_at_call 63; refine hso.mono ?_; rintro e w2 ⟨v, rfl, hr, hB⟩))
  go_ret
  exact ⟨v, rfl, mems_of_row hr, fun g hg => by have := own3_base hr g hg; simp at this; omega, hB0.trans (hB.mono (by simp))⟩
theorem row_type {w : World} {base n size : Nat} {e : TypeId} {v : Value} {xs : List Value} (h : w.ownsRow base e size v n xs) (g : Nat) (hg : v.ownBlock = some g) : ∃ cs fr, w.heap[g]? = some (.cells cs e fr) := by
  rcases h.2 with ⟨rfl, _⟩ | ⟨b, cap, cur, rfl, _, hh, _⟩
  · cases hg
  · cases hg
    exact ⟨_, _, hh⟩
set_option maxRecDepth 100000 in
set_option maxHeartbeats 1000000 in
theorem rising_row (mb : Nat) (k : Kn) (hk : Right k) (w : World) (h : KnAt w mb k) : Calls Tryz.prog 36 #[.map (some mb)] w fun e w' => ∃ v, e = .returned v ∧ Mems w'.heap.size w' v (risL k) ∧ (∀ g, v.ownBlock = some g → w.heap.size ≤ g) ∧ (∀ g, v.ownBlock = some g → ∃ cs fr, w'.heap[g]? = some (.cells cs 53 fr)) ∧ Below w.heap.size w w' := by
  obtain ⟨n, D, hown, hM⟩ := h
  have hsz := kn_keys hown hk hM
  have hB0 : Below w.heap.size w (w.alloc (.cells #[.map (some mb)] 56)) := (Below.refl _ w).alloc (Nat.le_refl _) _
  have hown' : (w.alloc (.cells #[.map (some mb)] 56)).ownsMap Tryz.prog 3 mbElem mb n D := by
    have hbl := hown.lt
    obtain ⟨es, clock, hb, Ft, hs, hD⟩ := hown
    exact ⟨es, clock, (hB0.block mb hbl).trans hb, Ft, hs, hD⟩
  have hso := sortedP_some w.heap.size mb n D k hk hM hsz (risL_len k) (w.alloc (.cells #[.map (some mb)] 56)) (by simp) ((holds_new w [.map (some mb)] 56).at 0 _ rfl) hown'
  have hv := fun W => callsIn_wide.1 (values_in Fence.wide 3 trivial rfl (some mb) W)
  clear hown hown' hM hsz
  go_enter Tryz.func36, Tryz.ntmps36
  go_wp2_with (first | (go_at_call 64; refine (hv _).mono ?_; rintro e w1 ⟨rfl, rfl⟩) | (go_at_call 63; refine hso.mono ?_; rintro e w2 ⟨v, rfl, hr, hB⟩))
  go_ret
  exact ⟨v, rfl, mems_of_row hr, fun g hg => by have := own3_base hr g hg; simp at this; omega, fun g hg => row_type hr g hg, hB0.trans (hB.mono (by simp))⟩
end Go.Proofs.YthmnjebmnocoiaaGreat
