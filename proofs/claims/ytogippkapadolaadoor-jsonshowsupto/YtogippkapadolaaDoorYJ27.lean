/- JsRSaid, JsInB, JsShows. -/
import Derived.Test.YtogippkapadolaaDoorRows
import Derived.Test.YtogippkapadolaaDoorYJ26
import Derived.Test.YtogippkapadolaaDoorYJ20
import Derived.Test.YtogippkapadolaaDoorYJ18
/- Right and Show of the document. -/
namespace Go.Proofs.YtogippkapadolaaDoor
open Go.RowKit

set_option maxRecDepth 100000 in
theorem rright_any {w : World} {S : Nat → Prop} {j : J} {v : Value} (h : JAt w S j v) (hF : Fits j) : Calls Tryd.prog 19 #[v] w fun e w' => e = .returned (.bool (rightP 0 j)) ∧ Gr w w' := by
  obtain ⟨cs, rfl, h6, h1⟩ := jat_cells h
  have hr := rright_ok h hF (w.alloc (.cells cs.toArray 27)) 16 (Gr.alloc _ _) (by omega)
  have hg := Gr.alloc w (.cells cs.toArray 27)
  have hn := holds_new w cs 27
  rw [Nat.sub_self] at hr
  generalize rightP 0 j = X at *
  clear h hF
  have hr : Calls Tryd.prog 29 #[.agg cs.toArray, .int .i64 16] (w.alloc (.cells cs.toArray 27)) fun e w' => e = .returned (.bool X) ∧ Gr (w.alloc (.cells cs.toArray 27)) w' := hr
  go_enter Tryd.func19, Tryd.ntmps19
  go_wp2_with (first
    | (refine wpList_load_part rfl 27 (.tmp 1) rfl w.heap.size 0 rfl cs _ (range_of hn) Tryd.underlying27 rfl (by rw [h6]; kernel_rfl) ?_)
    | (go_at_call 29; refine hr.mono ?_; rintro e w3 ⟨rfl, hg3⟩))
  go_ret
  exact ⟨rfl, hg.trans hg3⟩
set_option maxHeartbeats 4000000 in
set_option maxRecDepth 100000 in
theorem rsaid_any {w : World} {S : Nat → Prop} {j : J} {v : Value} (h : JAt w S j v) (hF : Fits j) (hO : OpenJ j) (hlen : (showJ j).length ≤ 4611686018427387904) (htab : Tab w.heap.size w) :
    Calls Tryd.prog 17 #[v] w fun e w' => e = .returned (saidJ j) ∧ Gr w w' := by
  obtain ⟨cs, rfl, h6, h1⟩ := jat_cells h
  obtain ⟨W, hW⟩ : ∃ W, w.alloc (.cells cs.toArray 27) = W := ⟨_, rfl⟩
  have hg : Gr w W := hW ▸ Gr.alloc _ _
  have hr := rright_any (h.gr hg) hF
  have hn : Holds W w.heap.size cs 27 := hW ▸ holds_new w cs 27
  have hl : rightP 0 j = true → ∀ z, Gr W z → Calls Tryd.prog 27 #[.agg cs.toArray] z fun e w' => e = .returned (.string (strL (showJ j))) ∧ Gr z w' := fun hR z hz => rshow_ok htab h hR hO hlen z (hg.trans hz)
  clear h hF htab hlen
  unfold saidJ
  generalize rightP 0 j = X at *
  generalize showJ j = Y at *
  subst hW
  cases X with
  | false =>
    go_enter Tryd.func17, Tryd.ntmps17
    go_wp2_with (first
      | (refine wpList_load_part rfl 27 (.tmp 1) rfl w.heap.size 0 rfl cs _ (range_of hn) Tryd.underlying27 rfl (by rw [h6]; kernel_rfl) ?_)
      | (go_at_call 19; refine hr.mono ?_; rintro e w3 ⟨rfl, hg3⟩))
    go_ret2
    exact ⟨rfl, hg.trans hg3⟩
  | true =>
    go_enter Tryd.func17, Tryd.ntmps17
    go_wp2_with (first
      | (refine wpList_load_part rfl 27 (.tmp 1) rfl w.heap.size 0 rfl cs _ (range_of hn) Tryd.underlying27 rfl (by rw [h6]; kernel_rfl) ?_)
      | (go_at_call 19; refine hr.mono ?_; rintro e w3 ⟨rfl, hg3⟩; have hn := hn.gr hg3)
      | (go_at_call 27; refine (hl (by trivial) w3 hg3).mono ?_; rintro e w4 ⟨rfl, hg4⟩))
    go_ret2
    exact ⟨rfl, (hg.trans hg3).trans hg4⟩
end Go.Proofs.YtogippkapadolaaDoor

/- Values of JSON that came in, opened, with their bulk. -/
namespace Go.Proofs.YtogippkapadolaaDoor
open Go.ChangeShapes Go.RowKit

def namesB : List (List UInt8) → Nat
  | [] => 0
  | x :: r => x.length + 1 + namesB r
mutual
/-- How much a value holds. -/
def bulkJ : J → Nat
  | .mk _ _ _ s l names => s.length + namesB names + bulkL l + 4
def bulkL : List J → Nat
  | [] => 0
  | x :: r => bulkJ x + bulkL r
end
theorem bulkL_le {H : Type} : ∀ {l : List J} {ds : List (DataW H)}, l.length = ds.length → (∀ (i : Nat) (x : J) (d : DataW H), l[i]? = some x → ds[i]? = some d → bulkJ x ≤ Rows.uptoBulk d) → bulkL l ≤ Rows.uptoBulkAll ds
  | [], _, _, _ => Nat.zero_le _
  | x :: r, [], h, _ => by simp at h
  | x :: r, d :: ds, h, hx => by
    rw [bulkL, Rows.uptoBulkAll]
    have h1 := hx 0 x d rfl rfl
    have h2 := bulkL_le (l := r) (ds := ds) (by simpa using h) (fun i y e h3 h4 => hx (i + 1) y e (by simpa using h3) (by simpa using h4))
    omega
theorem namesB_le {H : Type} : ∀ (ss : List ByteArray), namesB (ss.map fun s => s.data.toList) = Rows.uptoBulkAll (strs (H := H) ss)
  | [] => rfl
  | s :: r => by
    have := namesB_le (H := H) r
    unfold strs at this ⊢
    rw [List.map_cons, List.map_cons, namesB, Rows.uptoBulkAll, Rows.uptoBulk, this]
/-- A row of texts that came in. -/
theorem open_textsB {H : Type} {enc : TypeId × Value → H} {W : World} {base n : Nat} {sp : Nat → Bool} {held : Bool} {cs : List Value} {x : DataW H × List MemPlace} (h : DataW.trod enc Tryd.prog W base sp held n 25 cs = some x) (hw : ∀ q ∈ DataW.weights Tryd.prog 25 x.1, q ≤ reachBytes) :
    ∃ (na : Option Addr) (nc : Nat) (names : List (List UInt8)), cs = [.slice na names.length nc] ∧ Lies W (fun _ => True) na (names.map strV1) ∧ names.length * 16 ≤ 140737488351232 ∧ (∀ x ∈ names, x.length ≤ 140737488351232) ∧ namesB names ≤ Rows.uptoBulk x.1 := by
  rcases open_strings Tryd.underlying25 Tryd.underlying9 (by kernel_rfl) h with ⟨rfl, rfl⟩ | ⟨a, len, cap, ss, rfl, _, hlc, hcm, hsl, rfl, hcell, hsz⟩
  · exact ⟨none, 0, [], rfl, .inl rfl, by simp, by simp, Nat.zero_le _⟩
  · have hln : len ≤ ss.length := by rw [hsl]; split <;> omega
    have htl : (ss.take len).length = len := by simp; omega
    have hnl : ((ss.take len).map fun s => s.data.toList).length = len := by simp; omega
    have hwt : ((ss.take len).length + (ss.drop len).length) * 16 ≤ reachBytes := by
      have := hw (((ss.take len).length + (ss.drop len).length) * 16) (by simp [DataW.weights, Tryd.underlying25, bytes9, strs])
      exact this
    refine ⟨some a, cap, (ss.take len).map fun s => s.data.toList, by rw [hnl], ?_, ?_, ?_, ?_⟩
    · rcases Nat.eq_zero_or_pos len with h0 | h0
      · subst h0; exact .inl (by simp)
      · obtain ⟨g, o, spot⟩ := a
        have hc0 := hcell 0 (by omega)
        have hspot : spot = none := by simpa [Addr.add] using World.cell?_spot hc0
        subst hspot
        rw [Addr.add_mid] at hc0
        refine .inr ⟨g, o, rfl, trivial, World.block_lt_of_cell? W _ hc0, fun i v hi => ?_⟩
        have hi' : i < len := by have := (List.getElem?_eq_some_iff.1 hi).1; simp at this; omega
        have hci := hcell i (by omega)
        rw [Addr.add_mid] at hci
        rw [hci]
        simp [hi', List.getD, strV1, List.getElem?_eq_getElem (show i < ss.length by omega)] at hi ⊢
        rw [← hi, strL_of]
    · rw [hnl, ← reach_is]
      refine Nat.le_trans ?_ hwt
      rw [htl]
      exact Nat.mul_le_mul_right _ (Nat.le_add_right _ _)
    · intro q hq
      obtain ⟨s, hs, rfl⟩ := List.mem_map.1 hq
      have := hw s.data.toList.length (by
        simp only [DataW.weights, Tryd.underlying25, List.mem_cons, List.mem_append]
        refine .inr (.inl (weightsAll_mem (d := .lit (.string s.data.toList)) ?_ (by simp [DataW.weights])))
        exact List.mem_map.2 ⟨s, hs, rfl⟩)
      rwa [reach_is] at this
    · rw [namesB_le (H := H)]
      simp only [Rows.uptoBulk]
      omega
set_option maxRecDepth 100000 in
/-- A value of JSON that came in, opened. -/
theorem open_jsonB {H : Type} {enc : TypeId × Value → H} {W : World} {base : Nat} {sp : Nat → Bool} {held : Bool} : ∀ (fuel : Nat) (cs : List Value) (x : DataW H × List MemPlace), DataW.trod enc Tryd.prog W base sp held fuel 27 cs = some x → (∀ q ∈ DataW.weights Tryd.prog 27 x.1, q ≤ reachBytes) →
    ∃ j, JAt W (fun _ => True) j (.agg cs.toArray) ∧ OpenJ j ∧ bulkJ j ≤ Rows.uptoBulk x.1 := by
  intro fuel
  induction fuel using Nat.strongRecOn with
  | _ fuel ih =>
  intro cs x h hw
  obtain ⟨xs, m, rfl, rfl, hlen, hxl, hf⟩ := DataW.trod_struct Tryd.underlying27 h
  rw [cells27] at hlen
  obtain ⟨c0, c1, c2, c3, c4, c5, rfl⟩ := len6 hlen
  obtain ⟨x0, x1, x2, x3, x4, x5, rfl⟩ := len6 (show xs.length = 6 from hxl)
  have f0 : DataW.trod enc Tryd.prog W base sp held m 3 [c0] = some x0 := hf 0 _ rfl
  have f1 : DataW.trod enc Tryd.prog W base sp held m 4 [c1] = some x1 := hf 1 _ rfl
  have f2 : DataW.trod enc Tryd.prog W base sp held m 2 [c2] = some x2 := hf 2 _ rfl
  have f3 : DataW.trod enc Tryd.prog W base sp held m 9 [c3] = some x3 := hf 3 _ rfl
  have f4 : DataW.trod enc Tryd.prog W base sp held m 24 [c4] = some x4 := hf 4 _ rfl
  have f5 : DataW.trod enc Tryd.prog W base sp held m 25 [c5] = some x5 := hf 5 _ rfl
  have hw3 : ∀ q ∈ DataW.weights Tryd.prog 9 x3.1, q ≤ reachBytes := fun q hq => hw q (by simp [DataW.weights, Tryd.underlying27, DataW.weightsEach, hq])
  have hw4 : ∀ q ∈ DataW.weights Tryd.prog 24 x4.1, q ≤ reachBytes := fun q hq => hw q (by simp [DataW.weights, Tryd.underlying27, DataW.weightsEach, hq])
  have hw5 : ∀ q ∈ DataW.weights Tryd.prog 25 x5.1, q ≤ reachBytes := fun q hq => hw q (by simp [DataW.weights, Tryd.underlying27, DataW.weightsEach, hq])
  obtain ⟨k, e0, q0, _⟩ := DataW.trod_int Tryd.underlying3 f0
  obtain ⟨b, e1, q1⟩ := DataW.trod_bool Tryd.underlying4 f1
  obtain ⟨n, e2, q2, wn⟩ := DataW.trod_int Tryd.underlying2 f2
  obtain ⟨s, e3, rfl, _⟩ := DataW.trod_string Tryd.underlying9 f3
  obtain ⟨na, nc, names, e5, hnl, hn1, hn2, hn3⟩ := open_textsB f5 hw5
  simp only [List.cons.injEq, and_true] at e0 e1 e2 e3 e5
  subst e0 e1 e2 e3 e5
  have hs : s.data.toList.length ≤ 140737488351232 := by
    have := hw3 s.data.toList.length (by simp [DataW.weights])
    rwa [reach_is] at this
  have main : ∃ (la : Option Addr) (lc : Nat) (l : List J) (es : List (List Value)), c4 = .slice la l.length lc ∧ es.length = l.length ∧ (∀ c ∈ es, c.length = 6) ∧ (∀ (i : Nat) (x : J) (c : List Value), l[i]? = some x → es[i]? = some c → JAt W (fun _ => True) x (.agg c.toArray)) ∧ Lies W (fun _ => True) la es.flatten ∧ l.length * 88 ≤ 140737488351232 ∧ (∀ x ∈ l, OpenJ x) ∧ bulkL l ≤ Rows.uptoBulk x4.1 := by
    rcases DataW.trod_slice Tryd.underlying24 f4 with ⟨e4, _⟩ | ⟨a, len, cap, elems, rest, m', hm', e4, rfl, _, hlc, hcm, hel, hcell, _, _⟩
    · simp only [List.cons.injEq, and_true] at e4
      exact ⟨none, 0, [], [], e4, rfl, (by simp), (by simp), .inl rfl, by simp, by simp, Nat.zero_le _⟩
    · simp only [List.cons.injEq, and_true] at e4
      subst e4
      rw [cells27] at hcell
      have hall : ∀ i : Fin len, ∃ p : J × List Value, p.2.length = 6 ∧ (∀ r v, p.2[r]? = some v → W.cell? (a.add (i.val * 6 + r)) = some v) ∧ JAt W (fun _ => True) p.1 (.agg p.2.toArray) ∧ OpenJ p.1 ∧ bulkJ p.1 ≤ Rows.uptoBulk ((elems[i.val]'(by rw [hel]; exact i.isLt)).1) := by
        intro i
        have hi := hcell i.val i.isLt
        have hy : elems[i.val]? = some (elems[i.val]'(by rw [hel]; exact i.isLt)) := List.getElem?_eq_getElem _
        rw [hy, Option.bind_eq_some_iff] at hi
        obtain ⟨c, hc, ht⟩ := hi
        obtain ⟨_, hc6, hcc⟩ := World.cells?_some hc
        obtain ⟨j, hJ, hO, hB⟩ := ih m' (by omega) c _ ht (fun q hq => hw4 q (by
          simp only [DataW.weights, Tryd.underlying24, List.mem_cons, List.mem_append]
          exact .inr (.inl (weightsAll_mem (List.mem_map.2 ⟨_, List.mem_of_getElem? hy, rfl⟩) hq))))
        refine ⟨(j, c), hc6, fun r v hr => ?_, hJ, hO, hB⟩
        have hr6 : r < 6 := by have h9 : r < c.length := (List.getElem?_eq_some_iff.1 hr).1; omega
        have := hcc r hr6
        rw [hr] at this
        rw [← this, Addr.add_add]
      obtain ⟨F, hF⟩ := Classical.axiomOfChoice hall
      have hll : (List.ofFn fun i => (F i).1).length = len := by simp
      refine ⟨some a, cap, List.ofFn fun i => (F i).1, List.ofFn fun i => (F i).2, by rw [hll], by simp, ?_, ?_, ?_, ?_, ?_, ?_⟩
      · intro c hc
        obtain ⟨i, rfl⟩ := List.mem_ofFn.1 hc
        exact (hF i).1
      · intro i x c h1 h2
        rw [List.getElem?_ofFn] at h1 h2
        split at h1
        · rename_i hi
          rw [dif_pos hi] at h2
          cases h1; cases h2
          exact (hF _).2.2.1
        · cases h1
      · rcases Nat.eq_zero_or_pos len with h0 | h0
        · subst h0; exact .inl (by simp)
        · have c00 : ∃ v, W.cell? (a.add (0 * 6 + 0)) = some v := by
            have h6 := (hF ⟨0, h0⟩).1
            exact ⟨_, (hF ⟨0, h0⟩).2.1 0 _ (List.getElem?_eq_getElem (by omega))⟩
          obtain ⟨v00, c00⟩ := c00
          obtain ⟨g, o, spot⟩ := a
          have hspot : spot = none := by simpa [Addr.add] using World.cell?_spot c00
          subst hspot
          rw [Addr.add_mid] at c00
          refine .inr ⟨g, o, rfl, trivial, World.block_lt_of_cell? W _ c00, fun q v hq => ?_⟩
          obtain ⟨c, h1, h2⟩ := flat_get (es := List.ofFn fun i => (F i).2) (fun c hc => by
            obtain ⟨i, rfl⟩ := List.mem_ofFn.1 hc
            exact (hF i).1) q v hq
          rw [List.getElem?_ofFn] at h1
          split at h1
          · rename_i hi
            cases h1
            have := (hF ⟨q / 6, hi⟩).2.1 _ _ h2
            rw [Addr.add_mid] at this
            rw [show o + q = o + (q / 6 * 6 + q % 6) by omega]
            exact this
          · cases h1
      · rw [hll]
        have := hw4 ((elems.length + rest.length) * 88) (by simp [DataW.weights, Tryd.underlying24, bytes27])
        rw [reach_is] at this
        refine Nat.le_trans ?_ this
        rw [hel]
        exact Nat.mul_le_mul_right _ (Nat.le_add_right _ _)
      · intro x hx
        obtain ⟨i, rfl⟩ := List.mem_ofFn.1 hx
        exact (hF i).2.2.2.1
      · have hb := bulkL_le (l := List.ofFn fun i => (F i).1) (ds := elems.map (·.1)) (by simp [hel]) (fun i x d h1 h2 => by
          rw [List.getElem?_ofFn] at h1
          split at h1
          · rename_i hi
            cases h1
            rw [List.getElem?_map, List.getElem?_eq_getElem (show i < elems.length by omega)] at h2
            cases h2
            exact (hF ⟨i, hi⟩).2.2.2.2
          · cases h1)
        simp only [Rows.uptoBulk]
        omega
  obtain ⟨la, lc, l, es, rfl, hes, h6, hl, hlies, hl88, hx, hbl⟩ := main
  refine ⟨.mk k b n s.data.toList l names, ?_, .mk (wfi64 wn) hs hl88 hn1 hn2 hx, ?_⟩
  case refine_2 =>
    rw [bulkJ]
    subst q0 q1 q2
    simp only [List.map_cons, List.map_nil, Rows.uptoBulk, Rows.uptoBulkAll]
    omega
  have := JAt.mk k b n s.data.toList l names la na lc nc es hes h6 hl hlies hnl
  unfold jsonV at this
  rw [strL_of] at this
  exact this
/-- Names of an object, from i on, are as many as the elements from i on. -/
def namesFrom (i : Nat) (names : List (List UInt8)) : Nat := namesB (names.drop i)
theorem namesFrom_next {i : Nat} {names : List (List UInt8)} : (names.getD i []).length + namesFrom (i + 1) names ≤ namesFrom i names := by
  unfold namesFrom
  rcases Nat.lt_or_ge i names.length with h | h
  · rw [List.drop_eq_getElem_cons h, namesB]
    have : names.getD i [] = names[i] := by simp [List.getD, List.getElem?_eq_getElem h]
    rw [this]; omega
  · rw [List.drop_of_length_le h, List.drop_of_length_le (by omega)]
    simp [List.getD, List.getElem?_eq_none h, namesB]
mutual
theorem show_bulk : ∀ (j : J), OpenJ j → (showJ j).length + 12 ≤ 30 * bulkJ j
  | .mk k b n s l names, h => by
    rw [bulkJ, showJ]
    cases h with
    | mk hn _ _ _ _ hx =>
    split
    · split <;> simp only [List.length_cons, List.length_nil] <;> omega
    split
    · have := itoa_len hn.1 hn.2
      omega
    split
    · rw [textJ_len]
      have := flat_len s
      omega
    split
    · have := parts_bulk false l 0 names hx
      simp only [List.length_append, List.length_cons, List.length_nil]
      unfold namesFrom at this
      rw [List.drop_zero] at this
      omega
    split
    · have := parts_bulk true l 0 names hx
      simp only [List.length_append, List.length_cons, List.length_nil]
      unfold namesFrom at this
      rw [List.drop_zero] at this
      omega
    · simp only [List.length_cons, List.length_nil]
      omega
theorem parts_bulk : ∀ (o : Bool) (l : List J) (i : Nat) (names : List (List UInt8)), (∀ x ∈ l, OpenJ x) → (partsJ o i l names).length ≤ 30 * bulkL l + 6 * namesFrom i names
  | o, [], i, names, _ => by rw [partsJ]; simp
  | o, x :: r, i, names, h => by
    rw [partsJ, bulkL]
    have h1 := show_bulk x (h x (by simp))
    have h2 := parts_bulk o r (i + 1) names (fun y hy => h y (by simp [hy]))
    have h3 := namesFrom_next (i := i) (names := names)
    have h4 := flat_len (names.getD i [])
    have h5 : ((if 0 < i then [44] else []) : List UInt8).length ≤ 1 := by split <;> simp
    have h6 : ((if o = true then textJ (names.getD i []) ++ [58] else []) : List UInt8).length ≤ 6 * (names.getD i []).length + 3 := by
      split
      · simp only [List.length_append, List.length_cons, List.length_nil, textJ_len]; omega
      · simp
    simp only [List.length_append]
    omega
end
theorem open_ints {j : J} (h : OpenJ j) : IntsJ j := by
  induction h with
  | mk hn hs hl hnl hns hx ih => exact .mk hn ih
theorem open_fit {j : J} (h : OpenJ j) : ∀ {w : Nat}, rightP w j = true → Fit j := by
  induction h with
  | @mk k b n s l names hn hs hl hnl hns hx ih =>
    intro w hR
    have hk : k = 5 → names.length = l.length := by
      intro e
      rcases right_kinds hR with q | ⟨_, q⟩ | ⟨_, q⟩ | ⟨_, q⟩ | ⟨_, q, _⟩ | ⟨_, _, q, _, _, q2, _⟩
      · unfold jnull at q; cases q; cases e
      · cases q; cases e
      · cases q; cases e
      · cases q; cases e
      · cases q; cases e
      · cases q; exact q2
    have hr : rightsP (w + 1) l = true := by
      rw [rightP, Bool.and_eq_true] at hR
      exact hR.2
    exact .mk hk hn.1 hn.2 (by omega) fun x hm => ih x hm (rights_mem hr x hm)
end Go.Proofs.YtogippkapadolaaDoor

/- JsonShows, walked (by gen_jsshows.py). -/
namespace Go.Proofs.YtogippkapadolaaDoor
open Go.RowKit

theorem neq4 (b : Bool) : ∀ w, (binOp .neq 4 (.bool b) (.bool b)).run Tryd.prog w = .ok (.bool false) w := by
  intro w
  cases b <;> kernel_rfl
theorem guard4n (b c : Bool) (u v : Operand) (w : World) : (eqGuard .neq 4 u v (.bool b) (.bool c)).run Tryd.prog w = .ok () w := by kernel_rfl
def q6_8 : Array Oper := #[{ dst := some 38, op := Op.move (Operand.tmp 8), type := 9, pos := "law.go:39", after := #[], guard := none }, { dst := some 39, op := Op.move (Operand.tmp 10), type := 9, pos := "law.go:39", after := #[], guard := none }, { dst := some 40, op := Op.binOp BinOp.neq 9 (Operand.tmp 38) (Operand.tmp 39) 9, type := 4, pos := "law.go:39", after := #[{ on := 0, ground := Ground.data }, { on := 1, ground := Ground.data }], guard := none }, { dst := some 41, op := Op.move (Operand.tmp 40), type := 4, pos := "law.go:39", after := #[{ on := 2, ground := Ground.data }], guard := none }, { dst := some 42, op := Op.move (Operand.tmp 9), type := 28, pos := "law.go:39", after := #[{ on := 3, ground := Ground.guard }], guard := some (3, false) }, { dst := some 43, op := Op.move (Operand.tmp 11), type := 28, pos := "law.go:39", after := #[{ on := 3, ground := Ground.guard }], guard := some (3, false) }, { dst := some 44, op := Op.binOp BinOp.neq 28 (Operand.tmp 42) (Operand.tmp 43) 28, type := 4, pos := "law.go:39", after := #[{ on := 4, ground := Ground.data }, { on := 5, ground := Ground.data }, { on := 3, ground := Ground.guard }], guard := some (3, false) }, { dst := some 45, op := Op.pick (Operand.tmp 41) (Operand.const (Value.bool true)) (Operand.tmp 44), type := 4, pos := "law.go:39", after := #[{ on := 3, ground := Ground.data }, { on := 6, ground := Ground.data }], guard := none }, { dst := some 46, op := Op.move (Operand.tmp 45), type := 4, pos := "law.go:39", after := #[{ on := 7, ground := Ground.data }, { on := 3, ground := Ground.chain }], guard := none }, { dst := some 47, op := Op.load 27 (Operand.tmp 2), type := 27, pos := "law.go:39", after := #[{ on := 8, ground := Ground.guard }], guard := some (8, false) }, { dst := some 48, op := Op.call { callee := Callee.value (Operand.func 18), args := #[Operand.tmp 47], argTypes := #[27] }, type := 4, pos := "law.go:39", after := #[{ on := 9, ground := Ground.data }, { on := 8, ground := Ground.chain }, { on := 8, ground := Ground.guard }], guard := some (8, false) }, { dst := some 49, op := Op.load 27 (Operand.tmp 2), type := 27, pos := "law.go:39", after := #[{ on := 8, ground := Ground.guard }], guard := some (8, false) }, { dst := some 50, op := Op.call { callee := Callee.value (Operand.func 19), args := #[Operand.tmp 49], argTypes := #[27] }, type := 4, pos := "law.go:39", after := #[{ on := 11, ground := Ground.data }, { on := 10, ground := Ground.chain }, { on := 8, ground := Ground.guard }], guard := some (8, false) }, { dst := some 51, op := Op.binOp BinOp.neq 4 (Operand.tmp 48) (Operand.tmp 50) 4, type := 4, pos := "law.go:39", after := #[{ on := 10, ground := Ground.data }, { on := 12, ground := Ground.data }, { on := 8, ground := Ground.guard }], guard := some (8, false) }, { dst := some 52, op := Op.pick (Operand.tmp 46) (Operand.const (Value.bool true)) (Operand.tmp 51), type := 4, pos := "law.go:39", after := #[{ on := 8, ground := Ground.data }, { on := 13, ground := Ground.data }], guard := none }, { dst := some 53, op := Op.move (Operand.tmp 52), type := 4, pos := "law.go:39", after := #[{ on := 14, ground := Ground.data }, { on := 12, ground := Ground.chain }], guard := none }, { dst := some 54, op := Op.load 27 (Operand.tmp 2), type := 27, pos := "law.go:39", after := #[{ on := 15, ground := Ground.guard }], guard := some (15, false) }, { dst := some 55, op := Op.load 27 (Operand.tmp 3), type := 27, pos := "law.go:39", after := #[{ on := 15, ground := Ground.guard }], guard := some (15, false) }, { dst := some 56, op := Op.call { callee := Callee.value (Operand.func 20), args := #[Operand.tmp 54, Operand.tmp 55], argTypes := #[27, 27] }, type := 4, pos := "law.go:39", after := #[{ on := 16, ground := Ground.data }, { on := 17, ground := Ground.data }, { on := 15, ground := Ground.chain }, { on := 15, ground := Ground.guard }], guard := some (15, false) }, { dst := some 57, op := Op.load 27 (Operand.tmp 2), type := 27, pos := "law.go:39", after := #[{ on := 15, ground := Ground.guard }], guard := some (15, false) }, { dst := some 58, op := Op.load 27 (Operand.tmp 3), type := 27, pos := "law.go:39", after := #[{ on := 15, ground := Ground.guard }], guard := some (15, false) }, { dst := some 59, op := Op.call { callee := Callee.value (Operand.func 15), args := #[Operand.tmp 57, Operand.tmp 58], argTypes := #[27, 27] }, type := 4, pos := "law.go:39", after := #[{ on := 19, ground := Ground.data }, { on := 20, ground := Ground.data }, { on := 18, ground := Ground.chain }, { on := 15, ground := Ground.guard }], guard := some (15, false) }, { dst := some 60, op := Op.binOp BinOp.neq 4 (Operand.tmp 56) (Operand.tmp 59) 4, type := 4, pos := "law.go:39", after := #[{ on := 18, ground := Ground.data }, { on := 21, ground := Ground.data }, { on := 15, ground := Ground.guard }], guard := some (15, false) }, { dst := some 61, op := Op.pick (Operand.tmp 53) (Operand.const (Value.bool true)) (Operand.tmp 60), type := 4, pos := "law.go:39", after := #[{ on := 15, ground := Ground.data }, { on := 22, ground := Ground.data }], guard := none }]
set_option maxRecDepth 100000 in
theorem r6_8 {Q : Exit → Act → World → Prop} {a0 : Act} {w : World} (hz : a0.tmps.size = 90) {a b : Nat} {cs ds : List Value} {T : ByteArray} {er : Int} {R X : Bool} (ha : Holds w a cs 27) (h6 : cs.length = 6) (hb : Holds w b ds 27) (k6 : ds.length = 6) (c18 : ∀ y, Gr w y → Calls Tryd.prog 18 #[.agg cs.toArray] y fun e z => e = .returned (.bool R) ∧ Gr y z)
    (c19 : ∀ y, Gr w y → Calls Tryd.prog 19 #[.agg cs.toArray] y fun e z => e = .returned (.bool R) ∧ Gr y z) (c20 : ∀ y, Gr w y → Calls Tryd.prog 20 #[.agg cs.toArray, .agg ds.toArray] y fun e z => e = .returned (.bool X) ∧ Gr y z) (c15 : ∀ y, Gr w y → Calls Tryd.prog 15 #[.agg cs.toArray, .agg ds.toArray] y fun e z => e = .returned (.bool X) ∧ Gr y z) (e2 : a0.eval (.tmp 2) = .pointer (some ⟨a, 0, none⟩)) (e3 : a0.eval (.tmp 3) = .pointer (some ⟨b, 0, none⟩)) (e8 : a0.eval (.tmp 8) = .string T) (e10 : a0.eval (.tmp 10) = .string T) (e9 : a0.eval (.tmp 9) = .int .i64 er) (e11 : a0.eval (.tmp 11) = .int .i64 er) (hend : ∀ ac wz, After [38, 39, 40, 41, 42, 43, 44, 45, 46, 47, 48, 49, 50, 51, 52, 53, 54, 55, 56, 57, 58, 59, 60, 61] a0 ac → ac.eval (.tmp 61) = .bool false → Gr w wz → Q .normal ac wz) : (Code.region 8 q6_8 true).wp Tryd.prog Q a0 w := by
  refine drawn_by (by kernel_rfl) (by kernel_rfl) (by kernel_rfl) [38, 39, 40, 41, 42, 43, 44, 45, 46, 47, 48, 49, 50, 51, 52, 53, 54, 55, 56, 57, 58, 59, 60, 61] (fun | 38 => .val (.string T) | 39 => .val (.string T) | 40 => .val (.bool false) | 41 => .val (.bool false) | 42 => .val (.int .i64 er) | 43 => .val (.int .i64 er) | 44 => .val (.bool false) | 45 => .val (.bool false) | 46 => .val (.bool false) | 47 => .val (.agg cs.toArray) | 48 => .val (.bool R) | 49 => .val (.agg cs.toArray) | 50 => .val (.bool R) | 51 => .val (.bool false) | 52 => .val (.bool false) | 53 => .val (.bool false) | 54 => .val (.agg cs.toArray) | 55 => .val (.agg ds.toArray) | 56 => .val (.bool X) | 57 => .val (.agg cs.toArray) | 58 => .val (.agg ds.toArray) | 59 => .val (.bool X) | 60 => .val (.bool false) | 61 => .val (.bool false) | _ => .any) (by kernel_rfl) (List.forall_mem_cons.2 ⟨?s0, List.forall_mem_cons.2 ⟨?s1, List.forall_mem_cons.2 ⟨?s2, List.forall_mem_cons.2 ⟨?s3, List.forall_mem_cons.2 ⟨?s4, List.forall_mem_cons.2 ⟨?s5, List.forall_mem_cons.2 ⟨?s6, List.forall_mem_cons.2 ⟨?s7, List.forall_mem_cons.2 ⟨?s8, List.forall_mem_cons.2 ⟨?s9, List.forall_mem_cons.2 ⟨?s10, List.forall_mem_cons.2 ⟨?s11, List.forall_mem_cons.2 ⟨?s12, List.forall_mem_cons.2 ⟨?s13, List.forall_mem_cons.2 ⟨?s14, List.forall_mem_cons.2 ⟨?s15, List.forall_mem_cons.2 ⟨?s16, List.forall_mem_cons.2 ⟨?s17, List.forall_mem_cons.2 ⟨?s18, List.forall_mem_cons.2 ⟨?s19, List.forall_mem_cons.2 ⟨?s20, List.forall_mem_cons.2 ⟨?s21, List.forall_mem_cons.2 ⟨?s22, List.forall_mem_cons.2 ⟨?s23, fun o ho => nomatch ho⟩⟩⟩⟩⟩⟩⟩⟩⟩⟩⟩⟩⟩⟩⟩⟩⟩⟩⟩⟩⟩⟩⟩⟩) ?e
  case s0 => exact sa_move (.tmp 8) 38 (.val (.string T)) (.inl rfl) rfl rfl (.old 8 _ (by decide) e8) rfl
  case s1 => exact sa_move (.tmp 10) 39 (.val (.string T)) (.inl rfl) rfl rfl (.old 10 _ (by decide) e10) rfl
  case s2 => exact sa_bin .neq 9 (.tmp 38) (.tmp 39) 9 40 (.string T) (.string T) (.bool false) rfl rfl rfl (.new 38 (by kernel_rfl) (by rw [hz]; decide)) (.new 39 (by kernel_rfl) (by rw [hz]; decide)) (fun w => guard9n _ _ _ _ w) (fun w => (neq9 _ _ w).trans (by simp)) rfl
  case s3 => exact sa_move (.tmp 40) 41 (.val (.bool false)) (.inl rfl) rfl rfl (.new 40 (by kernel_rfl) (by rw [hz]; decide)) rfl
  case s4 => exact sa_guardF 3 41 rfl rfl (by kernel_rfl) (by rw [hz]; decide) rfl (sa_move (.tmp 9) 42 (.val (.int .i64 er)) (.inl rfl) rfl rfl (.old 9 _ (by decide) e9) rfl)
  case s5 => exact sa_guardF 3 41 rfl rfl (by kernel_rfl) (by rw [hz]; decide) rfl (sa_move (.tmp 11) 43 (.val (.int .i64 er)) (.inl rfl) rfl rfl (.old 11 _ (by decide) e11) rfl)
  case s6 => exact sa_guardF 3 41 rfl rfl (by kernel_rfl) (by rw [hz]; decide) rfl (sa_bin .neq 28 (.tmp 42) (.tmp 43) 28 44 (.int .i64 er) (.int .i64 er) (.bool false) rfl rfl rfl (.new 42 (by kernel_rfl) (by rw [hz]; decide)) (.new 43 (by kernel_rfl) (by rw [hz]; decide)) guard_int (bin_neq (decide_eq_false (by simp))) rfl)
  case s7 => exact sa_pickF (.tmp 41) (.const _) (.tmp 44) 45 (.val (.bool false)) rfl rfl rfl (.new 41 (by kernel_rfl) (by rw [hz]; decide)) (.new 44 (by kernel_rfl) (by rw [hz]; decide)) rfl
  case s8 => exact sa_move (.tmp 45) 46 (.val (.bool false)) (.inl rfl) rfl rfl (.new 45 (by kernel_rfl) (by rw [hz]; decide)) rfl
  case s9 => exact sa_guardF 8 46 rfl rfl (by kernel_rfl) (by rw [hz]; decide) rfl (sa_row 27 (.tmp 2) 47 a (0) 6 _ cs rfl rfl rfl Tryd.underlying27 rfl siz27 h6 (.old 2 _ (by decide) e2) (fun y hy => range_of ((ha).gr hy)) rfl)
  case s10 => exact sa_guardF 8 46 rfl rfl (by kernel_rfl) (by rw [hz]; decide) rfl (sa_call1 18 (.tmp 47) _ 48 (.val (.agg cs.toArray)) rfl rfl rfl (.new 47 (by kernel_rfl) (by rw [hz]; decide)) (enters_of Tryd.func18 (by kernel_rfl) rfl) (fun v0 y hgy q0 => by rw [show v0 = _ from q0]; exact (c18 y hgy).mono fun e z ⟨e1, e2⟩ => ⟨_, e1, e2, rfl⟩))
  case s11 => exact sa_guardF 8 46 rfl rfl (by kernel_rfl) (by rw [hz]; decide) rfl (sa_row 27 (.tmp 2) 49 a (0) 6 _ cs rfl rfl rfl Tryd.underlying27 rfl siz27 h6 (.old 2 _ (by decide) e2) (fun y hy => range_of ((ha).gr hy)) rfl)
  case s12 => exact sa_guardF 8 46 rfl rfl (by kernel_rfl) (by rw [hz]; decide) rfl (sa_call1 19 (.tmp 49) _ 50 (.val (.agg cs.toArray)) rfl rfl rfl (.new 49 (by kernel_rfl) (by rw [hz]; decide)) (enters_of Tryd.func19 (by kernel_rfl) rfl) (fun v0 y hgy q0 => by rw [show v0 = _ from q0]; exact (c19 y hgy).mono fun e z ⟨e1, e2⟩ => ⟨_, e1, e2, rfl⟩))
  case s13 => exact sa_guardF 8 46 rfl rfl (by kernel_rfl) (by rw [hz]; decide) rfl (sa_bin .neq 4 (.tmp 48) (.tmp 50) 4 51 (.bool R) (.bool R) (.bool false) rfl rfl rfl (.new 48 (by kernel_rfl) (by rw [hz]; decide)) (.new 50 (by kernel_rfl) (by rw [hz]; decide)) (fun w => guard4n _ _ _ _ w) (neq4 _) rfl)
  case s14 => exact sa_pickF (.tmp 46) (.const _) (.tmp 51) 52 (.val (.bool false)) rfl rfl rfl (.new 46 (by kernel_rfl) (by rw [hz]; decide)) (.new 51 (by kernel_rfl) (by rw [hz]; decide)) rfl
  case s15 => exact sa_move (.tmp 52) 53 (.val (.bool false)) (.inl rfl) rfl rfl (.new 52 (by kernel_rfl) (by rw [hz]; decide)) rfl
  case s16 => exact sa_guardF 15 53 rfl rfl (by kernel_rfl) (by rw [hz]; decide) rfl (sa_row 27 (.tmp 2) 54 a (0) 6 _ cs rfl rfl rfl Tryd.underlying27 rfl siz27 h6 (.old 2 _ (by decide) e2) (fun y hy => range_of ((ha).gr hy)) rfl)
  case s17 => exact sa_guardF 15 53 rfl rfl (by kernel_rfl) (by rw [hz]; decide) rfl (sa_row 27 (.tmp 3) 55 b (0) 6 _ ds rfl rfl rfl Tryd.underlying27 rfl siz27 k6 (.old 3 _ (by decide) e3) (fun y hy => range_of ((hb).gr hy)) rfl)
  case s18 => exact sa_guardF 15 53 rfl rfl (by kernel_rfl) (by rw [hz]; decide) rfl (sa_call2 20 (.tmp 54) (.tmp 55) _ 56 (.val (.agg cs.toArray)) (.val (.agg ds.toArray)) rfl rfl rfl (.new 54 (by kernel_rfl) (by rw [hz]; decide)) (.new 55 (by kernel_rfl) (by rw [hz]; decide)) (enters_of Tryd.func20 (by kernel_rfl) rfl) (fun v0 v1 y hgy q0 q1 => by rw [show v0 = _ from q0]; rw [show v1 = _ from q1]; exact (c20 y hgy).mono fun e z ⟨e1, e2⟩ => ⟨_, e1, e2, rfl⟩))
  case s19 => exact sa_guardF 15 53 rfl rfl (by kernel_rfl) (by rw [hz]; decide) rfl (sa_row 27 (.tmp 2) 57 a (0) 6 _ cs rfl rfl rfl Tryd.underlying27 rfl siz27 h6 (.old 2 _ (by decide) e2) (fun y hy => range_of ((ha).gr hy)) rfl)
  case s20 => exact sa_guardF 15 53 rfl rfl (by kernel_rfl) (by rw [hz]; decide) rfl (sa_row 27 (.tmp 3) 58 b (0) 6 _ ds rfl rfl rfl Tryd.underlying27 rfl siz27 k6 (.old 3 _ (by decide) e3) (fun y hy => range_of ((hb).gr hy)) rfl)
  case s21 => exact sa_guardF 15 53 rfl rfl (by kernel_rfl) (by rw [hz]; decide) rfl (sa_call2 15 (.tmp 57) (.tmp 58) _ 59 (.val (.agg cs.toArray)) (.val (.agg ds.toArray)) rfl rfl rfl (.new 57 (by kernel_rfl) (by rw [hz]; decide)) (.new 58 (by kernel_rfl) (by rw [hz]; decide)) (enters_of Tryd.func15 (by kernel_rfl) rfl) (fun v0 v1 y hgy q0 q1 => by rw [show v0 = _ from q0]; rw [show v1 = _ from q1]; exact (c15 y hgy).mono fun e z ⟨e1, e2⟩ => ⟨_, e1, e2, rfl⟩))
  case s22 => exact sa_guardF 15 53 rfl rfl (by kernel_rfl) (by rw [hz]; decide) rfl (sa_bin .neq 4 (.tmp 56) (.tmp 59) 4 60 (.bool X) (.bool X) (.bool false) rfl rfl rfl (.new 56 (by kernel_rfl) (by rw [hz]; decide)) (.new 59 (by kernel_rfl) (by rw [hz]; decide)) (fun w => guard4n _ _ _ _ w) (neq4 _) rfl)
  case s23 => exact sa_pickF (.tmp 53) (.const _) (.tmp 60) 61 (.val (.bool false)) rfl rfl rfl (.new 53 (by kernel_rfl) (by rw [hz]; decide)) (.new 60 (by kernel_rfl) (by rw [hz]; decide)) rfl
  case e =>
  intro ac wz hA hgr hv
  exact hend ac wz hA (hv 61 (by kernel_rfl) (by rw [hz]; decide)) hgr
set_option maxHeartbeats 8000000 in
set_option maxRecDepth 100000 in
theorem shows_law {w : World} (hB : Base w) {j q : J} {cs ds : List Value} (h6 : cs.length = 6) (hJ : JAt w (fun _ => True) j (.agg cs.toArray)) (hO : OpenJ j) (k6 : ds.length = 6) (hQ : JAt w (fun _ => True) q (.agg ds.toArray)) (hP : OpenJ q) (hbj : bulkJ j ≤ 1048576) :
    Calls Tryd.prog 6 #[.agg cs.toArray, .agg ds.toArray] w fun e w' => e = .returned (.bool true) ∧ Gr w w' := by
  have hg0 : Gr w ((w.alloc (.cells cs.toArray 27)).alloc (.cells ds.toArray 27)) := (Gr.alloc _ _).trans (Gr.alloc _ _)
  have haw := awake_any (hB.gr hg0)
  have hW2 : Holds ((w.alloc (.cells cs.toArray 27)).alloc (.cells ds.toArray 27)) w.heap.size cs 27 := (holds_new w cs 27).alloc _
  have hW3 : Holds ((w.alloc (.cells cs.toArray 27)).alloc (.cells ds.toArray 27)) (w.heap.size + 1) ds 27 := by
    have := holds_new (w.alloc (.cells cs.toArray 27)) ds 27
    simpa using this
  have hna := fun y (hy : Gr w y) => nodes_ok (by omega) hJ (open_names hO) y 500 hy (by omega) (by omega)
  have hnb := fun y (hy : Gr w y) => nodes_ok (by omega) hQ (open_names hP) y 500 hy (by omega) (by omega)
  have sj : nodesP 500 j ≤ 500 → SmallJ j := fun h => small_of j 500 (by omega) (by omega) h
  have sq : nodesP 500 q ≤ 500 → SmallJ q := fun h => small_of q 500 (by omega) (by omega) h
  generalize nodesP 500 j = n0 at *
  generalize nodesP 500 q = n1 at *
  rcases Int.lt_or_le 500 n0 with hn | hn
  · have g0 : n0 > 500 := hn
    clear hJ hQ sj sq
    go_enter Tryd.func6, Tryd.ntmps6
    go_wp2_with (first
      | (go_at_call 8; refine haw.mono ?_; rintro e w1 ⟨rfl, hg1⟩; clear haw; have ha1 := hW2.gr hg1; have hb1 := hW3.gr hg1)
      | (refine wpList_load_part rfl 27 (.tmp 2) rfl w.heap.size 0 rfl cs _ (range_of (by assumption)) Tryd.underlying27 rfl (by rw [h6]; kernel_rfl) ?_)
      | (go_at_call 13; refine (hna w1 (hg0.trans hg1)).mono ?_; rintro e w2 ⟨rfl, hg2⟩; have ha2 := ha1.gr hg2; have hb2 := hb1.gr hg2; clear hna)
      | (refine wpList_load_part rfl 27 (.tmp 3) rfl (w.heap.size + 1) 0 rfl ds _ (range_of (by assumption)) Tryd.underlying27 rfl (by rw [k6]; kernel_rfl) ?_)
      | (go_at_call 13; refine (hnb w2 ((hg0.trans hg1).trans hg2)).mono ?_; rintro e w3 ⟨rfl, hg3⟩; have ha3 := ha2.gr hg3; have hb3 := hb2.gr hg3; have hgw := ((hg0.trans hg1).trans hg2).trans hg3; clear hnb))
    go_ret
    exact ⟨rfl, hgw⟩
  rcases Int.lt_or_le 500 n1 with hm | hm
  · have g0 : ¬ n0 > 500 := by omega
    have g1 : n1 > 500 := hm
    clear hJ hQ sj sq
    go_enter Tryd.func6, Tryd.ntmps6
    go_wp2_with (first
      | (go_at_call 8; refine haw.mono ?_; rintro e w1 ⟨rfl, hg1⟩; clear haw; have ha1 := hW2.gr hg1; have hb1 := hW3.gr hg1)
      | (refine wpList_load_part rfl 27 (.tmp 2) rfl w.heap.size 0 rfl cs _ (range_of (by assumption)) Tryd.underlying27 rfl (by rw [h6]; kernel_rfl) ?_)
      | (go_at_call 13; refine (hna w1 (hg0.trans hg1)).mono ?_; rintro e w2 ⟨rfl, hg2⟩; have ha2 := ha1.gr hg2; have hb2 := hb1.gr hg2; clear hna)
      | (refine wpList_load_part rfl 27 (.tmp 3) rfl (w.heap.size + 1) 0 rfl ds _ (range_of (by assumption)) Tryd.underlying27 rfl (by rw [k6]; kernel_rfl) ?_)
      | (go_at_call 13; refine (hnb w2 ((hg0.trans hg1).trans hg2)).mono ?_; rintro e w3 ⟨rfl, hg3⟩; have ha3 := ha2.gr hg3; have hb3 := hb2.gr hg3; have hgw := ((hg0.trans hg1).trans hg2).trans hg3; clear hnb))
    go_ret
    exact ⟨rfl, hgw⟩
  have g0 : ¬ n0 > 500 := by omega
  have g1 : ¬ n1 > 500 := by omega
  have hFj := small_fits (sj hn) hO
  have hFq := small_fits (sq hm) hP
  have hlen : (showJ j).length ≤ 31457280 := by have := show_bulk j hO; omega
  have c11 := fun y (hy : Gr w y) => show_any (jat_lt (hJ.gr hy)) (fun i h => h) hFj (fun hR => ⟨open_fit hO hR, by omega⟩) (hB.gr hy).tab
  have c17 := fun y (hy : Gr w y) => rsaid_any (hJ.gr hy) hFj hO (by omega) (hB.gr hy).tab
  have c18 := fun y (hy : Gr w y) => right_any (hJ.gr hy) hFj
  have c19 := fun y (hy : Gr w y) => rright_any (hJ.gr hy) hFj
  have c20 := fun y (hy : Gr w y) => same_ok hJ hQ hFj hFq y hy
  have c15 := fun y (hy : Gr w y) => rsame_ok hJ hQ hFj hFq y hy
  clear sj sq
  cases hR : rightP 0 j with
  | false =>
    have hsd : saidJ j = .tuple #[.string ⟨#[]⟩, .int .i64 1] := by unfold saidJ; rw [hR]; rfl
    rw [hsd] at c11 c17
    clear hJ hQ
    go_enter Tryd.func6, Tryd.ntmps6
    go_upto_region 8 with (first
      | (go_at_call 8; refine haw.mono ?_; rintro e w1 ⟨rfl, hg1⟩; clear haw; have ha1 := hW2.gr hg1; have hb1 := hW3.gr hg1)
      | (refine wpList_load_part rfl 27 (.tmp 2) rfl w.heap.size 0 rfl cs _ (range_of (by assumption)) Tryd.underlying27 rfl (by rw [h6]; kernel_rfl) ?_)
      | (go_at_call 13; refine (hna w1 (hg0.trans hg1)).mono ?_; rintro e w2 ⟨rfl, hg2⟩; have ha2 := ha1.gr hg2; have hb2 := hb1.gr hg2; clear hna)
      | (refine wpList_load_part rfl 27 (.tmp 3) rfl (w.heap.size + 1) 0 rfl ds _ (range_of (by assumption)) Tryd.underlying27 rfl (by rw [k6]; kernel_rfl) ?_)
      | (go_at_call 13; refine (hnb w2 ((hg0.trans hg1).trans hg2)).mono ?_; rintro e w3 ⟨rfl, hg3⟩; have ha3 := ha2.gr hg3; have hb3 := hb2.gr hg3; have hgw := ((hg0.trans hg1).trans hg2).trans hg3; clear hnb)
      | (go_at_call 11; refine (c11 w3 hgw).mono ?_; rintro e w4 ⟨rfl, hg4⟩; have ha4 := ha3.gr hg4; have hb4 := hb3.gr hg4)
      | (go_at_call 17; refine (c17 w4 (hgw.trans hg4)).mono ?_; rintro e w5 ⟨rfl, hg5⟩; have ha5 := ha4.gr hg5; have hb5 := hb4.gr hg5))
    have hw5 := (hgw.trans hg4).trans hg5
    refine r6_8 rfl ha5 h6 hb5 k6 (fun y hy => c18 y (hw5.trans hy)) (fun y hy => c19 y (hw5.trans hy)) (fun y hy => c20 y (hw5.trans hy)) (fun y hy => c15 y (hw5.trans hy)) rfl rfl rfl rfl rfl rfl fun ac wz hA h61 hgz => ?_
    rename_i hK
    refine hK _ _ ?_
    have e : ac = ⟨(ac.eval (.tmp 0) :: ac.eval (.tmp 1) :: ac.eval (.tmp 2) :: ac.eval (.tmp 3) :: ac.eval (.tmp 4) :: ac.eval (.tmp 5) :: ac.eval (.tmp 6) :: ac.eval (.tmp 7) :: ac.eval (.tmp 8) :: ac.eval (.tmp 9) :: ac.eval (.tmp 10) :: ac.eval (.tmp 11) :: ac.eval (.tmp 12) :: ac.eval (.tmp 13) :: ac.eval (.tmp 14) :: ac.eval (.tmp 15) :: ac.eval (.tmp 16) :: ac.eval (.tmp 17) :: ac.eval (.tmp 18) :: ac.eval (.tmp 19) :: ac.eval (.tmp 20) :: ac.eval (.tmp 21) :: ac.eval (.tmp 22) :: ac.eval (.tmp 23) :: ac.eval (.tmp 24) :: ac.eval (.tmp 25) :: ac.eval (.tmp 26) :: ac.eval (.tmp 27) :: ac.eval (.tmp 28) :: ac.eval (.tmp 29) :: ac.eval (.tmp 30) :: ac.eval (.tmp 31) :: ac.eval (.tmp 32) :: ac.eval (.tmp 33) :: ac.eval (.tmp 34) :: ac.eval (.tmp 35) :: ac.eval (.tmp 36) :: ac.eval (.tmp 37) :: ac.eval (.tmp 38) :: ac.eval (.tmp 39) :: ac.eval (.tmp 40) :: ac.eval (.tmp 41) :: ac.eval (.tmp 42) :: ac.eval (.tmp 43) :: ac.eval (.tmp 44) :: ac.eval (.tmp 45) :: ac.eval (.tmp 46) :: ac.eval (.tmp 47) :: ac.eval (.tmp 48) :: ac.eval (.tmp 49) :: ac.eval (.tmp 50) :: ac.eval (.tmp 51) :: ac.eval (.tmp 52) :: ac.eval (.tmp 53) :: ac.eval (.tmp 54) :: ac.eval (.tmp 55) :: ac.eval (.tmp 56) :: ac.eval (.tmp 57) :: ac.eval (.tmp 58) :: ac.eval (.tmp 59) :: ac.eval (.tmp 60) :: ac.eval (.tmp 61) :: ac.eval (.tmp 62) :: ac.eval (.tmp 63) :: ac.eval (.tmp 64) :: ac.eval (.tmp 65) :: ac.eval (.tmp 66) :: ac.eval (.tmp 67) :: ac.eval (.tmp 68) :: ac.eval (.tmp 69) :: ac.eval (.tmp 70) :: ac.eval (.tmp 71) :: ac.eval (.tmp 72) :: ac.eval (.tmp 73) :: ac.eval (.tmp 74) :: ac.eval (.tmp 75) :: ac.eval (.tmp 76) :: ac.eval (.tmp 77) :: ac.eval (.tmp 78) :: ac.eval (.tmp 79) :: ac.eval (.tmp 80) :: ac.eval (.tmp 81) :: ac.eval (.tmp 82) :: ac.eval (.tmp 83) :: ac.eval (.tmp 84) :: ac.eval (.tmp 85) :: ac.eval (.tmp 86) :: ac.eval (.tmp 87) :: ac.eval (.tmp 88) :: ac.eval (.tmp 89) :: ([] : List Value)).toArray, ac.defers⟩ := (act_lit2 (hA.size.trans rfl)).trans rfl
    rw [hA.defers, (hA.old 0 (by decide)).trans rfl, (hA.old 1 (by decide)).trans rfl, (hA.old 2 (by decide)).trans rfl, (hA.old 3 (by decide)).trans rfl, (hA.old 4 (by decide)).trans rfl, (hA.old 5 (by decide)).trans rfl, (hA.old 6 (by decide)).trans rfl, (hA.old 7 (by decide)).trans rfl, (hA.old 8 (by decide)).trans rfl, (hA.old 9 (by decide)).trans rfl, (hA.old 10 (by decide)).trans rfl, (hA.old 11 (by decide)).trans rfl, (hA.old 12 (by decide)).trans rfl, (hA.old 13 (by decide)).trans rfl, (hA.old 14 (by decide)).trans rfl, (hA.old 15 (by decide)).trans rfl, (hA.old 16 (by decide)).trans rfl, (hA.old 17 (by decide)).trans rfl, (hA.old 18 (by decide)).trans rfl, (hA.old 19 (by decide)).trans rfl, (hA.old 20 (by decide)).trans rfl, (hA.old 21 (by decide)).trans rfl, (hA.old 22 (by decide)).trans rfl, (hA.old 23 (by decide)).trans rfl, (hA.old 24 (by decide)).trans rfl, (hA.old 25 (by decide)).trans rfl, (hA.old 26 (by decide)).trans rfl, (hA.old 27 (by decide)).trans rfl, (hA.old 28 (by decide)).trans rfl, (hA.old 29 (by decide)).trans rfl, (hA.old 30 (by decide)).trans rfl, (hA.old 31 (by decide)).trans rfl, (hA.old 32 (by decide)).trans rfl, (hA.old 33 (by decide)).trans rfl, (hA.old 34 (by decide)).trans rfl, (hA.old 35 (by decide)).trans rfl, (hA.old 36 (by decide)).trans rfl, (hA.old 37 (by decide)).trans rfl, (hA.old 62 (by decide)).trans rfl, (hA.old 63 (by decide)).trans rfl, (hA.old 64 (by decide)).trans rfl, (hA.old 65 (by decide)).trans rfl, (hA.old 66 (by decide)).trans rfl, (hA.old 67 (by decide)).trans rfl, (hA.old 68 (by decide)).trans rfl, (hA.old 69 (by decide)).trans rfl, (hA.old 70 (by decide)).trans rfl, (hA.old 71 (by decide)).trans rfl, (hA.old 72 (by decide)).trans rfl, (hA.old 73 (by decide)).trans rfl, (hA.old 74 (by decide)).trans rfl, (hA.old 75 (by decide)).trans rfl, (hA.old 76 (by decide)).trans rfl, (hA.old 77 (by decide)).trans rfl, (hA.old 78 (by decide)).trans rfl, (hA.old 79 (by decide)).trans rfl, (hA.old 80 (by decide)).trans rfl, (hA.old 81 (by decide)).trans rfl, (hA.old 82 (by decide)).trans rfl, (hA.old 83 (by decide)).trans rfl, (hA.old 84 (by decide)).trans rfl, (hA.old 85 (by decide)).trans rfl, (hA.old 86 (by decide)).trans rfl, (hA.old 87 (by decide)).trans rfl, (hA.old 88 (by decide)).trans rfl, (hA.old 89 (by decide)).trans rfl, h61] at e
    generalize ac.eval (.tmp 38) = x38 at e
    generalize ac.eval (.tmp 39) = x39 at e
    generalize ac.eval (.tmp 40) = x40 at e
    generalize ac.eval (.tmp 41) = x41 at e
    generalize ac.eval (.tmp 42) = x42 at e
    generalize ac.eval (.tmp 43) = x43 at e
    generalize ac.eval (.tmp 44) = x44 at e
    generalize ac.eval (.tmp 45) = x45 at e
    generalize ac.eval (.tmp 46) = x46 at e
    generalize ac.eval (.tmp 47) = x47 at e
    generalize ac.eval (.tmp 48) = x48 at e
    generalize ac.eval (.tmp 49) = x49 at e
    generalize ac.eval (.tmp 50) = x50 at e
    generalize ac.eval (.tmp 51) = x51 at e
    generalize ac.eval (.tmp 52) = x52 at e
    generalize ac.eval (.tmp 53) = x53 at e
    generalize ac.eval (.tmp 54) = x54 at e
    generalize ac.eval (.tmp 55) = x55 at e
    generalize ac.eval (.tmp 56) = x56 at e
    generalize ac.eval (.tmp 57) = x57 at e
    generalize ac.eval (.tmp 58) = x58 at e
    generalize ac.eval (.tmp 59) = x59 at e
    generalize ac.eval (.tmp 60) = x60 at e
    subst e
    go_wp2
    go_ret
    exact ⟨rfl, hw5.trans hgz⟩
  | true =>
    have hsd : saidJ j = .tuple #[.string (strL (showJ j)), .int .i64 0] := by unfold saidJ; rw [hR]; rfl
    rw [hsd] at c11 c17
    have hwb := whole_back hR (open_ints hO)
    have hpo := fun y (hy : Gr w y) => parse_ok (s := strL (showJ j)) (hB.gr hy) (by rw [strL_size]; omega) (by rw [strL_list]; exact hwb)
    have hJw := hJ
    clear hQ hwb hJ
    generalize strL (showJ j) = T at *
    go_enter Tryd.func6, Tryd.ntmps6
    go_upto_region 8 with (first
      | (go_at_call 8; refine haw.mono ?_; rintro e w1 ⟨rfl, hg1⟩; clear haw; have ha1 := hW2.gr hg1; have hb1 := hW3.gr hg1)
      | (refine wpList_load_part rfl 27 (.tmp 2) rfl w.heap.size 0 rfl cs _ (range_of (by assumption)) Tryd.underlying27 rfl (by rw [h6]; kernel_rfl) ?_)
      | (go_at_call 13; refine (hna w1 (hg0.trans hg1)).mono ?_; rintro e w2 ⟨rfl, hg2⟩; have ha2 := ha1.gr hg2; have hb2 := hb1.gr hg2; clear hna)
      | (refine wpList_load_part rfl 27 (.tmp 3) rfl (w.heap.size + 1) 0 rfl ds _ (range_of (by assumption)) Tryd.underlying27 rfl (by rw [k6]; kernel_rfl) ?_)
      | (go_at_call 13; refine (hnb w2 ((hg0.trans hg1).trans hg2)).mono ?_; rintro e w3 ⟨rfl, hg3⟩; have ha3 := ha2.gr hg3; have hb3 := hb2.gr hg3; have hgw := ((hg0.trans hg1).trans hg2).trans hg3; clear hnb)
      | (go_at_call 11; refine (c11 w3 hgw).mono ?_; rintro e w4 ⟨rfl, hg4⟩; have ha4 := ha3.gr hg4; have hb4 := hb3.gr hg4)
      | (go_at_call 17; refine (c17 w4 (hgw.trans hg4)).mono ?_; rintro e w5 ⟨rfl, hg5⟩; have ha5 := ha4.gr hg5; have hb5 := hb4.gr hg5))
    have hw5 := (hgw.trans hg4).trans hg5
    refine r6_8 rfl ha5 h6 hb5 k6 (fun y hy => c18 y (hw5.trans hy)) (fun y hy => c19 y (hw5.trans hy)) (fun y hy => c20 y (hw5.trans hy)) (fun y hy => c15 y (hw5.trans hy)) rfl rfl rfl rfl rfl rfl fun ac wz hA h61 hgz => ?_
    rename_i hK
    refine hK _ _ ?_
    have e : ac = ⟨(ac.eval (.tmp 0) :: ac.eval (.tmp 1) :: ac.eval (.tmp 2) :: ac.eval (.tmp 3) :: ac.eval (.tmp 4) :: ac.eval (.tmp 5) :: ac.eval (.tmp 6) :: ac.eval (.tmp 7) :: ac.eval (.tmp 8) :: ac.eval (.tmp 9) :: ac.eval (.tmp 10) :: ac.eval (.tmp 11) :: ac.eval (.tmp 12) :: ac.eval (.tmp 13) :: ac.eval (.tmp 14) :: ac.eval (.tmp 15) :: ac.eval (.tmp 16) :: ac.eval (.tmp 17) :: ac.eval (.tmp 18) :: ac.eval (.tmp 19) :: ac.eval (.tmp 20) :: ac.eval (.tmp 21) :: ac.eval (.tmp 22) :: ac.eval (.tmp 23) :: ac.eval (.tmp 24) :: ac.eval (.tmp 25) :: ac.eval (.tmp 26) :: ac.eval (.tmp 27) :: ac.eval (.tmp 28) :: ac.eval (.tmp 29) :: ac.eval (.tmp 30) :: ac.eval (.tmp 31) :: ac.eval (.tmp 32) :: ac.eval (.tmp 33) :: ac.eval (.tmp 34) :: ac.eval (.tmp 35) :: ac.eval (.tmp 36) :: ac.eval (.tmp 37) :: ac.eval (.tmp 38) :: ac.eval (.tmp 39) :: ac.eval (.tmp 40) :: ac.eval (.tmp 41) :: ac.eval (.tmp 42) :: ac.eval (.tmp 43) :: ac.eval (.tmp 44) :: ac.eval (.tmp 45) :: ac.eval (.tmp 46) :: ac.eval (.tmp 47) :: ac.eval (.tmp 48) :: ac.eval (.tmp 49) :: ac.eval (.tmp 50) :: ac.eval (.tmp 51) :: ac.eval (.tmp 52) :: ac.eval (.tmp 53) :: ac.eval (.tmp 54) :: ac.eval (.tmp 55) :: ac.eval (.tmp 56) :: ac.eval (.tmp 57) :: ac.eval (.tmp 58) :: ac.eval (.tmp 59) :: ac.eval (.tmp 60) :: ac.eval (.tmp 61) :: ac.eval (.tmp 62) :: ac.eval (.tmp 63) :: ac.eval (.tmp 64) :: ac.eval (.tmp 65) :: ac.eval (.tmp 66) :: ac.eval (.tmp 67) :: ac.eval (.tmp 68) :: ac.eval (.tmp 69) :: ac.eval (.tmp 70) :: ac.eval (.tmp 71) :: ac.eval (.tmp 72) :: ac.eval (.tmp 73) :: ac.eval (.tmp 74) :: ac.eval (.tmp 75) :: ac.eval (.tmp 76) :: ac.eval (.tmp 77) :: ac.eval (.tmp 78) :: ac.eval (.tmp 79) :: ac.eval (.tmp 80) :: ac.eval (.tmp 81) :: ac.eval (.tmp 82) :: ac.eval (.tmp 83) :: ac.eval (.tmp 84) :: ac.eval (.tmp 85) :: ac.eval (.tmp 86) :: ac.eval (.tmp 87) :: ac.eval (.tmp 88) :: ac.eval (.tmp 89) :: ([] : List Value)).toArray, ac.defers⟩ := (act_lit2 (hA.size.trans rfl)).trans rfl
    rw [hA.defers, (hA.old 0 (by decide)).trans rfl, (hA.old 1 (by decide)).trans rfl, (hA.old 2 (by decide)).trans rfl, (hA.old 3 (by decide)).trans rfl, (hA.old 4 (by decide)).trans rfl, (hA.old 5 (by decide)).trans rfl, (hA.old 6 (by decide)).trans rfl, (hA.old 7 (by decide)).trans rfl, (hA.old 8 (by decide)).trans rfl, (hA.old 9 (by decide)).trans rfl, (hA.old 10 (by decide)).trans rfl, (hA.old 11 (by decide)).trans rfl, (hA.old 12 (by decide)).trans rfl, (hA.old 13 (by decide)).trans rfl, (hA.old 14 (by decide)).trans rfl, (hA.old 15 (by decide)).trans rfl, (hA.old 16 (by decide)).trans rfl, (hA.old 17 (by decide)).trans rfl, (hA.old 18 (by decide)).trans rfl, (hA.old 19 (by decide)).trans rfl, (hA.old 20 (by decide)).trans rfl, (hA.old 21 (by decide)).trans rfl, (hA.old 22 (by decide)).trans rfl, (hA.old 23 (by decide)).trans rfl, (hA.old 24 (by decide)).trans rfl, (hA.old 25 (by decide)).trans rfl, (hA.old 26 (by decide)).trans rfl, (hA.old 27 (by decide)).trans rfl, (hA.old 28 (by decide)).trans rfl, (hA.old 29 (by decide)).trans rfl, (hA.old 30 (by decide)).trans rfl, (hA.old 31 (by decide)).trans rfl, (hA.old 32 (by decide)).trans rfl, (hA.old 33 (by decide)).trans rfl, (hA.old 34 (by decide)).trans rfl, (hA.old 35 (by decide)).trans rfl, (hA.old 36 (by decide)).trans rfl, (hA.old 37 (by decide)).trans rfl, (hA.old 62 (by decide)).trans rfl, (hA.old 63 (by decide)).trans rfl, (hA.old 64 (by decide)).trans rfl, (hA.old 65 (by decide)).trans rfl, (hA.old 66 (by decide)).trans rfl, (hA.old 67 (by decide)).trans rfl, (hA.old 68 (by decide)).trans rfl, (hA.old 69 (by decide)).trans rfl, (hA.old 70 (by decide)).trans rfl, (hA.old 71 (by decide)).trans rfl, (hA.old 72 (by decide)).trans rfl, (hA.old 73 (by decide)).trans rfl, (hA.old 74 (by decide)).trans rfl, (hA.old 75 (by decide)).trans rfl, (hA.old 76 (by decide)).trans rfl, (hA.old 77 (by decide)).trans rfl, (hA.old 78 (by decide)).trans rfl, (hA.old 79 (by decide)).trans rfl, (hA.old 80 (by decide)).trans rfl, (hA.old 81 (by decide)).trans rfl, (hA.old 82 (by decide)).trans rfl, (hA.old 83 (by decide)).trans rfl, (hA.old 84 (by decide)).trans rfl, (hA.old 85 (by decide)).trans rfl, (hA.old 86 (by decide)).trans rfl, (hA.old 87 (by decide)).trans rfl, (hA.old 88 (by decide)).trans rfl, (hA.old 89 (by decide)).trans rfl, h61] at e
    generalize ac.eval (.tmp 38) = x38 at e
    generalize ac.eval (.tmp 39) = x39 at e
    generalize ac.eval (.tmp 40) = x40 at e
    generalize ac.eval (.tmp 41) = x41 at e
    generalize ac.eval (.tmp 42) = x42 at e
    generalize ac.eval (.tmp 43) = x43 at e
    generalize ac.eval (.tmp 44) = x44 at e
    generalize ac.eval (.tmp 45) = x45 at e
    generalize ac.eval (.tmp 46) = x46 at e
    generalize ac.eval (.tmp 47) = x47 at e
    generalize ac.eval (.tmp 48) = x48 at e
    generalize ac.eval (.tmp 49) = x49 at e
    generalize ac.eval (.tmp 50) = x50 at e
    generalize ac.eval (.tmp 51) = x51 at e
    generalize ac.eval (.tmp 52) = x52 at e
    generalize ac.eval (.tmp 53) = x53 at e
    generalize ac.eval (.tmp 54) = x54 at e
    generalize ac.eval (.tmp 55) = x55 at e
    generalize ac.eval (.tmp 56) = x56 at e
    generalize ac.eval (.tmp 57) = x57 at e
    generalize ac.eval (.tmp 58) = x58 at e
    generalize ac.eval (.tmp 59) = x59 at e
    generalize ac.eval (.tmp 60) = x60 at e
    subst e
    have hwz := hw5.trans hgz
    have haz := ha5.gr hgz
    clear c11 c17 c18 c19 c20 c15 ha5 hb5 ha4 hb4 ha3 hb3
    go_wp2_with (first
      | (go_at_call 9; refine (hpo wz hwz).mono ?_; rintro e w6 ⟨c6, rfl, c66, c61, hJ6, hg6'⟩; have hg6 := hwz.trans hg6'; have ha6 := haz.gr hg6')
      | (refine wpList_store_all rfl 27 (.tmp 12) (.tmp 72) rfl w6.heap.size rfl c6 rfl 27 zeroJ (holds_new w6 zeroJ 27) (by rw [c66]; kernel_rfl) c66.symm c61 ?_; intro w7 hT7; have hg7 := hg6.trans (gr_new hT7); have v7 := Var.new hJ6 c66 hT7; have ha7 := ha6.gr (gr_new hT7))
      | (refine wpList_load_part rfl 27 (.tmp 12) rfl w6.heap.size 0 rfl c6 _ (range_of v7.holds) Tryd.underlying27 rfl (by rw [c66]; kernel_rfl) ?_)
      | (refine wpList_load_part rfl 27 (.tmp 2) rfl w.heap.size 0 rfl cs _ (range_of ha7) Tryd.underlying27 rfl (by rw [h6]; kernel_rfl) ?_)
      | (go_at_call 15; refine ((rsame_ok v7.says (hJw.gr hg7) hFj hFj) w7 (Gr.refl _)).mono ?_; rw [sameB_eq.2 rfl]; rintro e w8 ⟨rfl, hg8'⟩; have hg8 := hg7.trans hg8'))
    go_ret
    exact ⟨rfl, hg8⟩
end Go.Proofs.YtogippkapadolaaDoor
