/- JsNodes, JsIn. -/
import Derived.SliceStrings
import Derived.SizedLaws
import Derived.OpenShut
import Derived.Stop.Joined
import Derived.Test.YtogippkapadolaaDoorYJ14
import Derived.Test.YtogippkapadolaaDoorYJ12
/- How many values a value has, up to so many. -/
namespace Go.Proofs.YtogippkapadolaaDoor
open Go.RowKit

mutual
/-- What the law's own count comes to. -/
def nodesP (most : Int) : J → Int
  | .mk _ _ _ _ l names => nodesL most (1 + (names.length : Int)) l
def nodesL (most n : Int) : List J → Int
  | [] => n
  | x :: r => if n ≤ most then nodesL most (n + nodesP (most - n) x) r else n
end
/-- Names that a memory can have. -/
inductive NamesM (M : Nat) : J → Prop where
  | mk {k : Int} {b : Bool} {n : Int} {s : List UInt8} {l : List J} {names : List (List UInt8)} (hn : names.length < M) (hl : l.length ≤ 9223372036854775806) (hx : ∀ x ∈ l, NamesM M x) : NamesM M (.mk k b n s l names)
mutual
theorem nodes_range {M : Nat} : ∀ (j : J) (m : Int), 0 ≤ m → NamesM M j → 1 ≤ nodesP m j ∧ nodesP m j ≤ m + M
  | .mk k b n s l names, m, h0, h => by
    rw [nodesP]
    cases h with
    | mk hn _ hx => exact nodesL_range l m _ h0 (by omega) (by omega) hx
theorem nodesL_range {M : Nat} : ∀ (l : List J) (m n : Int), 0 ≤ m → 1 ≤ n → n ≤ m + M → (∀ x ∈ l, NamesM M x) → 1 ≤ nodesL m n l ∧ nodesL m n l ≤ m + M
  | [], m, n, _, h1, h2, _ => by rw [nodesL]; exact ⟨h1, h2⟩
  | x :: r, m, n, h0, h1, h2, hx => by
    rw [nodesL]
    split
    · rename_i hle
      have hr := nodes_range x (m - n) (by omega) (hx x (by simp))
      exact nodesL_range r m _ h0 (by omega) (by omega) (fun y hy => hx y (by simp [hy]))
    · exact ⟨h1, h2⟩
end
def NodesC (w0 : World) (j : J) (v : Value) : Prop := ∀ (w : World) (m : Int), Gr w0 w → 0 ≤ m → m ≤ 500 → Calls Tryd.prog 13 #[v, .int .i64 m] w fun e w' => e = .returned (.int .i64 (nodesP m j)) ∧ Gr w w'
theorem cell_new27 (w : World) (c : Array Value) (i : Nat) (v : Value) (h : c[i]? = some v) : ∀ y, Gr (w.alloc (.cells c 27)) y → y.cell? ⟨w.heap.size, i, none⟩ = some v := fun y hy => by
  have h1 : Holds (w.alloc (.cells c.toList.toArray 27)) w.heap.size c.toList 27 := heap_alloc_new w _
  exact ((by simpa using h1 : Holds (w.alloc (.cells c 27)) w.heap.size c.toList 27).gr hy).at i v (by simpa using h)
set_option maxHeartbeats 4000000 in
set_option maxRecDepth 100000 in
theorem nodes_any {M : Nat} (hM : M ≤ 17592186044416) {w0 : World} {S : Nat → Prop} {k : Int} {b : Bool} {n : Int} {s : List UInt8} {l : List J} {na : Option Addr} {nl nc : Nat} {la : Option Addr} {lc : Nat} {es : List (List Value)} (hes : es.length = l.length) (h6' : ∀ c ∈ es, c.length = 6) (hlies : Lies w0 S la es.flatten) (hl : l.length ≤ 9223372036854775806) (hnl : nl < M)
    (hx' : ∀ x ∈ l, NamesM M x) (ih : ∀ (i : Nat) (x : J) (c : List Value), l[i]? = some x → es[i]? = some c → NodesC w0 x (.agg c.toArray)) (w : World) (hw : Gr w0 w) (m : Int) (hm0 : 0 ≤ m) (hm : m ≤ 500) :
    Calls Tryd.prog 13 #[.agg #[.int .i64 k, .bool b, .int .i64 n, .string (strL s), .slice la l.length lc, .slice na nl nc], .int .i64 m] w fun e w' => e = .returned (.int .i64 (nodesL m (1 + (nl : Int)) l)) ∧ Gr w w' := by
  obtain ⟨L, hL⟩ : ∃ L, l.length = L := ⟨_, rfl⟩
  obtain ⟨X, hX⟩ : ∃ X, nodesL m (1 + (nl : Int)) l = X := ⟨_, rfl⟩
  rw [hL, hX]
  have c4 := cell_new27 w #[.int .i64 k, .bool b, .int .i64 n, .string (strL s), .slice la L lc, .slice na nl nc] 4 _ rfl
  have g0 := Gr.alloc w (.cells #[.int .i64 k, .bool b, .int .i64 n, .string (strL s), .slice la L lc, .slice na nl nc] 27)
  go_enter Tryd.func13, Tryd.ntmps13
  go_wp2_with fail
  go_loopw [5, 6] (fun c d wr => ∃ (q : Int) (i : Nat), c = .int .i64 q ∧ d = .int .i64 (i : Int) ∧ i ≤ L ∧ 1 ≤ q ∧ q ≤ m + M ∧ nodesL m q (l.drop i) = X ∧ Gr (w.alloc (.cells #[.int .i64 k, .bool b, .int .i64 n, .string (strL s), .slice la L lc, .slice na nl nc] 27)) wr) (fun _ d _ => L - (intOf d).toNat)
  case atStart => exact ⟨1 + (nl : Int), 0, rfl, rfl, by omega, by omega, by omega, by rw [List.drop_zero]; exact hX, Gr.refl _⟩
  case round =>
    obtain ⟨q, i, rfl, rfl, hi, hq1, hq2, hE, hg⟩ := hrel
    have c4r := c4 wr hg
    rcases Nat.lt_or_ge i L with hlt | hge
    · have hx : l[i]? = some l[i] := List.getElem?_eq_getElem (by omega)
      have hce : es[i]? = some (es[i]'(by omega)) := List.getElem?_eq_getElem (by omega)
      have h6 := h6' _ (List.mem_of_getElem? hce)
      have ihx := ih i _ _ hx hce
      have hnx := hx' _ (List.mem_of_getElem? hx)
      have hgw := hw.trans (g0.trans hg)
      obtain ⟨g, off, rfl, hgS, hrng⟩ := hlies.elemG hgw h6' hce
      have hixa : ∀ w, (Instr.indexAt 24 (.slice (some ⟨g, off, none⟩) L lc) (.int .i64 (i : Int))).run Tryd.prog w = .ok (.pointer (some ⟨g, off + i * 6, none⟩)) w := ix_slice und24 size27 hlt rfl
      rw [List.drop_eq_getElem_cons (by omega), nodesL] at hE
      have g1 : (i : Int) < (L : Int) := by omega
      have hw1 : IntKind.i64.wrap ((i : Int) + 1) = ((i + 1 : Nat) : Int) := by rw [wrap_in (by omega) (by omega)]; omega
      generalize l[i] = x at *
      generalize es[i]'(by omega) = c at *
      clear ih hlies
      by_cases hle : q ≤ m
      · rw [if_pos hle] at hE
        have hr := nodes_range x (m - q) (by omega) hnx
        have hsub : IntKind.i64.wrap (m - q) = m - q := wrap_in (by omega) (by omega)
        have hadd : IntKind.i64.wrap (q + nodesP (m - q) x) = q + nodesP (m - q) x := wrap_in (by omega) (by omega)
        have ihy := ihx wr (m - q) hgw (by omega) (by omega)
        generalize nodesP (m - q) x = z at *
        go_wp2_with (first
          | (refine wpList_load_part rfl 27 (.tmp 27) rfl g (off + i * 6) rfl c _ hrng Tryd.underlying27 rfl (by rw [h6]; kernel_rfl) ?_)
          | (go_at_call 13; refine ihy.mono ?_; rintro e w3 ⟨rfl, hg3⟩))
        exact ⟨⟨q + z, i + 1, rfl, rfl, by omega, by omega, by omega, hE, hg.trans hg3⟩, by simp; omega⟩
      · rw [if_neg hle] at hE
        subst hE
        go_wp2
        go_ret
        exact ⟨rfl, g0.trans hg⟩
    · have hin : i = L := by omega
      subst hin
      have g1 : ¬ (i : Int) < (i : Int) := by omega
      rw [List.drop_of_length_le (by omega), nodesL] at hE
      subst hE
      go_wp2
      go_ret
      exact ⟨rfl, g0.trans hg⟩
theorem nodes_ok {M : Nat} (hM : M ≤ 17592186044416) {w0 : World} {S : Nat → Prop} : ∀ {j : J} {v : Value}, JAt w0 S j v → NamesM M j → NodesC w0 j v := by
  intro j v hJ
  induction hJ with
  | mk k b n s l names la na lc nc es hes h6 hl hlies hnames ih =>
    intro hF w m hw h0 hm
    obtain ⟨hnl, hll, hfx⟩ := hF
    rw [nodesP]
    exact nodes_any hM hes h6 hlies hll hnl hfx (fun i x c h1 h2 => ih i x c h1 h2 (hfx x (List.mem_of_getElem? h1))) w hw m h0 hm
end Go.Proofs.YtogippkapadolaaDoor

/- Values of JSON that came in, opened. -/
namespace Go.Proofs.YtogippkapadolaaDoor
open Go.ChangeShapes Go.RowKit

/-- What a value that came in keeps to: whole numbers of 64 bits, rows that a memory has. -/
inductive OpenJ : J → Prop where
  | mk {k : Int} {b : Bool} {n : Int} {s : List UInt8} {l : List J} {names : List (List UInt8)} (hn : -9223372036854775808 ≤ n ∧ n ≤ 9223372036854775807) (hs : s.length ≤ 140737488351232)
      (hl : l.length * 88 ≤ 140737488351232) (hnl : names.length * 16 ≤ 140737488351232) (hns : ∀ x ∈ names, x.length ≤ 140737488351232) (hx : ∀ x ∈ l, OpenJ x) : OpenJ (.mk k b n s l names)
theorem wfi64 {k : Int} (h : (Lit.int .i64 k).wf = true) : -9223372036854775808 ≤ k ∧ k ≤ 9223372036854775807 := by
  simp only [Lit.wf, Bool.and_eq_true, decide_eq_true_eq] at h
  have h1 : IntKind.i64.min = -9223372036854775808 := by decide
  have h2 : IntKind.i64.max = 9223372036854775807 := by decide
  omega
theorem flat_get : ∀ {es : List (List Value)} (_ : ∀ c ∈ es, c.length = 6) (j : Nat) (v : Value), es.flatten[j]? = some v → ∃ c, es[j / 6]? = some c ∧ c[j % 6]? = some v
  | [], _, j, v, h => by simp at h
  | c :: t, h6, j, v, h => by
    have hc := h6 c (by simp)
    rw [List.flatten_cons] at h
    rcases Nat.lt_or_ge j 6 with hj | hj
    · rw [List.getElem?_append_left (by omega)] at h
      exact ⟨c, by rw [Nat.div_eq_of_lt hj]; rfl, by rw [Nat.mod_eq_of_lt hj]; exact h⟩
    · rw [List.getElem?_append_right (by omega), hc] at h
      obtain ⟨d, h1, h2⟩ := flat_get (fun x hx => h6 x (by simp [hx])) (j - 6) v h
      refine ⟨d, ?_, ?_⟩
      · have : j / 6 = (j - 6) / 6 + 1 := by omega
        rw [this, List.getElem?_cons_succ]; exact h1
      · have : j % 6 = (j - 6) % 6 := by omega
        rw [this]; exact h2
theorem weightsAll_mem {H : Type} {P : Program} {e : TypeId} : ∀ {l : List (DataW H)} {d : DataW H} {n : Nat}, d ∈ l → n ∈ d.weights P e → n ∈ DataW.weightsAll P e l
  | d0 :: r, d, n, hd, hn => by
    rw [DataW.weightsAll, List.mem_append]
    rcases List.mem_cons.1 hd with rfl | h
    · exact .inl hn
    · exact .inr (weightsAll_mem h hn)
theorem reach_is : reachBytes = 140737488351232 := by decide
theorem cells27 : Tryd.prog.cellsOf 27 = 6 := by kernel_rfl
theorem bytes27 : Tryd.prog.bytesOf 27 = 88 := by kernel_rfl
theorem bytes9 : Tryd.prog.bytesOf 9 = 16 := by kernel_rfl
/-- A row of texts that came in. -/
theorem open_texts {H : Type} {enc : TypeId × Value → H} {W : World} {base n : Nat} {sp : Nat → Bool} {held : Bool} {cs : List Value} {x : DataW H × List MemPlace} (h : DataW.trod enc Tryd.prog W base sp held n 25 cs = some x) (hw : ∀ q ∈ DataW.weights Tryd.prog 25 x.1, q ≤ reachBytes) :
    ∃ (na : Option Addr) (nc : Nat) (names : List (List UInt8)), cs = [.slice na names.length nc] ∧ Lies W (fun _ => True) na (names.map strV1) ∧ names.length * 16 ≤ 140737488351232 ∧ (∀ x ∈ names, x.length ≤ 140737488351232) := by
  rcases open_strings Tryd.underlying25 Tryd.underlying9 (by kernel_rfl) h with ⟨rfl, rfl⟩ | ⟨a, len, cap, ss, rfl, _, hlc, hcm, hsl, rfl, hcell, hsz⟩
  · exact ⟨none, 0, [], rfl, .inl rfl, by simp, by simp⟩
  · have hln : len ≤ ss.length := by rw [hsl]; split <;> omega
    have htl : (ss.take len).length = len := by simp; omega
    have hnl : ((ss.take len).map fun s => s.data.toList).length = len := by simp; omega
    have hwt : ((ss.take len).length + (ss.drop len).length) * 16 ≤ reachBytes := by
      have := hw (((ss.take len).length + (ss.drop len).length) * 16) (by simp [DataW.weights, Tryd.underlying25, bytes9, strs])
      exact this
    refine ⟨some a, cap, (ss.take len).map fun s => s.data.toList, by rw [hnl], ?_, ?_, ?_⟩
    · rcases Nat.eq_zero_or_pos len with h0 | h0
      · subst h0; exact .inl (by simp)
      · obtain ⟨g, o, spot⟩ := a
        have hc0 := hcell 0 (by omega)
        have hspot : spot = none := by simpa [Addr.add] using World.cell?_spot hc0
        subst hspot
        rw [Addr.add_mid] at hc0
        refine .inr ⟨g, o, rfl, trivial, World.block_lt_of_cell? W _ hc0, fun i v hi => ?_⟩
        have hi' : i < len := by have := (List.getElem?_eq_some_iff.1 hi).1; simp at this; omega
        have hci := hcell i (by omega)
        rw [Addr.add_mid] at hci
        rw [hci]
        simp [hi', List.getD, strV1, List.getElem?_eq_getElem (show i < ss.length by omega)] at hi ⊢
        rw [← hi, strL_of]
    · rw [hnl, ← reach_is]
      refine Nat.le_trans ?_ hwt
      rw [htl]
      exact Nat.mul_le_mul_right _ (Nat.le_add_right _ _)
    · intro q hq
      obtain ⟨s, hs, rfl⟩ := List.mem_map.1 hq
      have := hw s.data.toList.length (by
        simp only [DataW.weights, Tryd.underlying25, List.mem_cons, List.mem_append]
        refine .inr (.inl (weightsAll_mem (d := .lit (.string s.data.toList)) ?_ (by simp [DataW.weights])))
        exact List.mem_map.2 ⟨s, hs, rfl⟩)
      rwa [reach_is] at this
theorem len6 {α : Type} {l : List α} (h : l.length = 6) : ∃ a b c d e f, l = [a, b, c, d, e, f] := by
  match l, h with
  | [a, b, c, d, e, f], _ => exact ⟨a, b, c, d, e, f, rfl⟩
set_option maxRecDepth 100000 in
/-- A value of JSON that came in, opened. -/
theorem open_json {H : Type} {enc : TypeId × Value → H} {W : World} {base : Nat} {sp : Nat → Bool} {held : Bool} : ∀ (fuel : Nat) (cs : List Value) (x : DataW H × List MemPlace), DataW.trod enc Tryd.prog W base sp held fuel 27 cs = some x → (∀ q ∈ DataW.weights Tryd.prog 27 x.1, q ≤ reachBytes) →
    ∃ j, JAt W (fun _ => True) j (.agg cs.toArray) ∧ OpenJ j := by
  intro fuel
  induction fuel using Nat.strongRecOn with
  | _ fuel ih =>
  intro cs x h hw
  obtain ⟨xs, m, rfl, rfl, hlen, hxl, hf⟩ := DataW.trod_struct Tryd.underlying27 h
  rw [cells27] at hlen
  obtain ⟨c0, c1, c2, c3, c4, c5, rfl⟩ := len6 hlen
  obtain ⟨x0, x1, x2, x3, x4, x5, rfl⟩ := len6 (show xs.length = 6 from hxl)
  have f0 : DataW.trod enc Tryd.prog W base sp held m 3 [c0] = some x0 := hf 0 _ rfl
  have f1 : DataW.trod enc Tryd.prog W base sp held m 4 [c1] = some x1 := hf 1 _ rfl
  have f2 : DataW.trod enc Tryd.prog W base sp held m 2 [c2] = some x2 := hf 2 _ rfl
  have f3 : DataW.trod enc Tryd.prog W base sp held m 9 [c3] = some x3 := hf 3 _ rfl
  have f4 : DataW.trod enc Tryd.prog W base sp held m 24 [c4] = some x4 := hf 4 _ rfl
  have f5 : DataW.trod enc Tryd.prog W base sp held m 25 [c5] = some x5 := hf 5 _ rfl
  have hw3 : ∀ q ∈ DataW.weights Tryd.prog 9 x3.1, q ≤ reachBytes := fun q hq => hw q (by simp [DataW.weights, Tryd.underlying27, DataW.weightsEach, hq])
  have hw4 : ∀ q ∈ DataW.weights Tryd.prog 24 x4.1, q ≤ reachBytes := fun q hq => hw q (by simp [DataW.weights, Tryd.underlying27, DataW.weightsEach, hq])
  have hw5 : ∀ q ∈ DataW.weights Tryd.prog 25 x5.1, q ≤ reachBytes := fun q hq => hw q (by simp [DataW.weights, Tryd.underlying27, DataW.weightsEach, hq])
  obtain ⟨k, e0, _, _⟩ := DataW.trod_int Tryd.underlying3 f0
  obtain ⟨b, e1, _⟩ := DataW.trod_bool Tryd.underlying4 f1
  obtain ⟨n, e2, _, wn⟩ := DataW.trod_int Tryd.underlying2 f2
  obtain ⟨s, e3, rfl, _⟩ := DataW.trod_string Tryd.underlying9 f3
  obtain ⟨na, nc, names, e5, hnl, hn1, hn2⟩ := open_texts f5 hw5
  simp only [List.cons.injEq, and_true] at e0 e1 e2 e3 e5
  subst e0 e1 e2 e3 e5
  have hs : s.data.toList.length ≤ 140737488351232 := by
    have := hw3 s.data.toList.length (by simp [DataW.weights])
    rwa [reach_is] at this
  have main : ∃ (la : Option Addr) (lc : Nat) (l : List J) (es : List (List Value)), c4 = .slice la l.length lc ∧ es.length = l.length ∧ (∀ c ∈ es, c.length = 6) ∧ (∀ (i : Nat) (x : J) (c : List Value), l[i]? = some x → es[i]? = some c → JAt W (fun _ => True) x (.agg c.toArray)) ∧ Lies W (fun _ => True) la es.flatten ∧ l.length * 88 ≤ 140737488351232 ∧ ∀ x ∈ l, OpenJ x := by
    rcases DataW.trod_slice Tryd.underlying24 f4 with ⟨e4, _⟩ | ⟨a, len, cap, elems, rest, m', hm', e4, rfl, _, hlc, hcm, hel, hcell, _, _⟩
    · simp only [List.cons.injEq, and_true] at e4
      exact ⟨none, 0, [], [], e4, rfl, (by simp), (by simp), .inl rfl, by simp, by simp⟩
    · simp only [List.cons.injEq, and_true] at e4
      subst e4
      rw [cells27] at hcell
      have hall : ∀ i : Fin len, ∃ p : J × List Value, p.2.length = 6 ∧ (∀ r v, p.2[r]? = some v → W.cell? (a.add (i.val * 6 + r)) = some v) ∧ JAt W (fun _ => True) p.1 (.agg p.2.toArray) ∧ OpenJ p.1 := by
        intro i
        have hi := hcell i.val i.isLt
        have hy : elems[i.val]? = some (elems[i.val]'(by rw [hel]; exact i.isLt)) := List.getElem?_eq_getElem _
        rw [hy, Option.bind_eq_some_iff] at hi
        obtain ⟨c, hc, ht⟩ := hi
        obtain ⟨_, hc6, hcc⟩ := World.cells?_some hc
        obtain ⟨j, hJ, hO⟩ := ih m' (by omega) c _ ht (fun q hq => hw4 q (by
          simp only [DataW.weights, Tryd.underlying24, List.mem_cons, List.mem_append]
          exact .inr (.inl (weightsAll_mem (List.mem_map.2 ⟨_, List.mem_of_getElem? hy, rfl⟩) hq))))
        refine ⟨(j, c), hc6, fun r v hr => ?_, hJ, hO⟩
        have hr6 : r < 6 := by have h9 : r < c.length := (List.getElem?_eq_some_iff.1 hr).1; omega
        have := hcc r hr6
        rw [hr] at this
        rw [← this, Addr.add_add]
      obtain ⟨F, hF⟩ := Classical.axiomOfChoice hall
      have hll : (List.ofFn fun i => (F i).1).length = len := by simp
      refine ⟨some a, cap, List.ofFn fun i => (F i).1, List.ofFn fun i => (F i).2, by rw [hll], by simp, ?_, ?_, ?_, ?_, ?_⟩
      · intro c hc
        obtain ⟨i, rfl⟩ := List.mem_ofFn.1 hc
        exact (hF i).1
      · intro i x c h1 h2
        rw [List.getElem?_ofFn] at h1 h2
        split at h1
        · rename_i hi
          rw [dif_pos hi] at h2
          cases h1; cases h2
          exact (hF _).2.2.1
        · cases h1
      · rcases Nat.eq_zero_or_pos len with h0 | h0
        · subst h0; exact .inl (by simp)
        · have c00 : ∃ v, W.cell? (a.add (0 * 6 + 0)) = some v := by
            have h6 := (hF ⟨0, h0⟩).1
            exact ⟨_, (hF ⟨0, h0⟩).2.1 0 _ (List.getElem?_eq_getElem (by omega))⟩
          obtain ⟨v00, c00⟩ := c00
          obtain ⟨g, o, spot⟩ := a
          have hspot : spot = none := by simpa [Addr.add] using World.cell?_spot c00
          subst hspot
          rw [Addr.add_mid] at c00
          refine .inr ⟨g, o, rfl, trivial, World.block_lt_of_cell? W _ c00, fun q v hq => ?_⟩
          obtain ⟨c, h1, h2⟩ := flat_get (es := List.ofFn fun i => (F i).2) (fun c hc => by
            obtain ⟨i, rfl⟩ := List.mem_ofFn.1 hc
            exact (hF i).1) q v hq
          rw [List.getElem?_ofFn] at h1
          split at h1
          · rename_i hi
            cases h1
            have := (hF ⟨q / 6, hi⟩).2.1 _ _ h2
            rw [Addr.add_mid] at this
            rw [show o + q = o + (q / 6 * 6 + q % 6) by omega]
            exact this
          · cases h1
      · rw [hll]
        have := hw4 ((elems.length + rest.length) * 88) (by simp [DataW.weights, Tryd.underlying24, bytes27])
        rw [reach_is] at this
        refine Nat.le_trans ?_ this
        rw [hel]
        exact Nat.mul_le_mul_right _ (Nat.le_add_right _ _)
      · intro x hx
        obtain ⟨i, rfl⟩ := List.mem_ofFn.1 hx
        exact (hF i).2.2.2
  obtain ⟨la, lc, l, es, rfl, hes, h6, hl, hlies, hl88, hx⟩ := main
  refine ⟨.mk k b n s.data.toList l names, ?_, .mk (wfi64 wn) hs hl88 hn1 hn2 hx⟩
  have := JAt.mk k b n s.data.toList l names la na lc nc es hes h6 hl hlies hnl
  unfold jsonV at this
  rw [strL_of] at this
  exact this
/-- A row of values of JSON that came in. -/
theorem open_jsons {H : Type} {enc : TypeId × Value → H} {W : World} {base m : Nat} {sp : Nat → Bool} {held : Bool} {c4 : Value} {x4 : DataW H × List MemPlace} (f4 : DataW.trod enc Tryd.prog W base sp held m 24 [c4] = some x4) (hw4 : ∀ q ∈ DataW.weights Tryd.prog 24 x4.1, q ≤ reachBytes) :
    ∃ (la : Option Addr) (lc : Nat) (l : List J) (es : List (List Value)), c4 = .slice la l.length lc ∧ es.length = l.length ∧ (∀ c ∈ es, c.length = 6) ∧ (∀ (i : Nat) (x : J) (c : List Value), l[i]? = some x → es[i]? = some c → JAt W (fun _ => True) x (.agg c.toArray)) ∧ Lies W (fun _ => True) la es.flatten ∧ l.length * 88 ≤ 140737488351232 ∧ ∀ x ∈ l, OpenJ x := by
  rcases DataW.trod_slice Tryd.underlying24 f4 with ⟨e4, _⟩ | ⟨a, len, cap, elems, rest, m', hm', e4, rfl, _, hlc, hcm, hel, hcell, _, _⟩
  · simp only [List.cons.injEq, and_true] at e4
    exact ⟨none, 0, [], [], e4, rfl, (by simp), (by simp), .inl rfl, by simp, by simp⟩
  · simp only [List.cons.injEq, and_true] at e4
    subst e4
    rw [cells27] at hcell
    have hall : ∀ i : Fin len, ∃ p : J × List Value, p.2.length = 6 ∧ (∀ r v, p.2[r]? = some v → W.cell? (a.add (i.val * 6 + r)) = some v) ∧ JAt W (fun _ => True) p.1 (.agg p.2.toArray) ∧ OpenJ p.1 := by
      intro i
      have hi := hcell i.val i.isLt
      have hy : elems[i.val]? = some (elems[i.val]'(by rw [hel]; exact i.isLt)) := List.getElem?_eq_getElem _
      rw [hy, Option.bind_eq_some_iff] at hi
      obtain ⟨c, hc, ht⟩ := hi
      obtain ⟨_, hc6, hcc⟩ := World.cells?_some hc
      obtain ⟨j, hJ, hO⟩ := open_json m' c _ ht (fun q hq => hw4 q (by
        simp only [DataW.weights, Tryd.underlying24, List.mem_cons, List.mem_append]
        exact .inr (.inl (weightsAll_mem (List.mem_map.2 ⟨_, List.mem_of_getElem? hy, rfl⟩) hq))))
      refine ⟨(j, c), hc6, fun r v hr => ?_, hJ, hO⟩
      have hr6 : r < 6 := by have h9 : r < c.length := (List.getElem?_eq_some_iff.1 hr).1; omega
      have := hcc r hr6
      rw [hr] at this
      rw [← this, Addr.add_add]
    obtain ⟨F, hF⟩ := Classical.axiomOfChoice hall
    have hll : (List.ofFn fun i => (F i).1).length = len := by simp
    refine ⟨some a, cap, List.ofFn fun i => (F i).1, List.ofFn fun i => (F i).2, by rw [hll], by simp, ?_, ?_, ?_, ?_, ?_⟩
    · intro c hc
      obtain ⟨i, rfl⟩ := List.mem_ofFn.1 hc
      exact (hF i).1
    · intro i x c h1 h2
      rw [List.getElem?_ofFn] at h1 h2
      split at h1
      · rename_i hi
        rw [dif_pos hi] at h2
        cases h1; cases h2
        exact (hF _).2.2.1
      · cases h1
    · rcases Nat.eq_zero_or_pos len with h0 | h0
      · subst h0; exact .inl (by simp)
      · have c00 : ∃ v, W.cell? (a.add (0 * 6 + 0)) = some v := by
          have h6 := (hF ⟨0, h0⟩).1
          exact ⟨_, (hF ⟨0, h0⟩).2.1 0 _ (List.getElem?_eq_getElem (by omega))⟩
        obtain ⟨v00, c00⟩ := c00
        obtain ⟨g, o, spot⟩ := a
        have hspot : spot = none := by simpa [Addr.add] using World.cell?_spot c00
        subst hspot
        rw [Addr.add_mid] at c00
        refine .inr ⟨g, o, rfl, trivial, World.block_lt_of_cell? W _ c00, fun q v hq => ?_⟩
        obtain ⟨c, h1, h2⟩ := flat_get (es := List.ofFn fun i => (F i).2) (fun c hc => by
          obtain ⟨i, rfl⟩ := List.mem_ofFn.1 hc
          exact (hF i).1) q v hq
        rw [List.getElem?_ofFn] at h1
        split at h1
        · rename_i hi
          cases h1
          have := (hF ⟨q / 6, hi⟩).2.1 _ _ h2
          rw [Addr.add_mid] at this
          rw [show o + q = o + (q / 6 * 6 + q % 6) by omega]
          exact this
        · cases h1
    · rw [hll]
      have := hw4 ((elems.length + rest.length) * 88) (by simp [DataW.weights, Tryd.underlying24, bytes27])
      rw [reach_is] at this
      refine Nat.le_trans ?_ this
      rw [hel]
      exact Nat.mul_le_mul_right _ (Nat.le_add_right _ _)
    · intro x hx
      obtain ⟨i, rfl⟩ := List.mem_ofFn.1 hx
      exact (hF i).2.2.2
end Go.Proofs.YtogippkapadolaaDoor
