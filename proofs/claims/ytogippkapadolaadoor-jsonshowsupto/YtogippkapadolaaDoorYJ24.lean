/- JsAskP, JsAsks. -/
import Derived.Test.YtogippkapadolaaDoorYJ20
import Derived.Test.YtogippkapadolaaDoorYJ23
/- Values of at most 500 parts: what all functions want of them. -/
namespace Go.Proofs.YtogippkapadolaaDoor
open Go.RowKit

mutual
theorem nodes_ge : ∀ (j : J) (m : Int), 1 ≤ nodesP m j
  | .mk k b n s l names, m => by
    rw [nodesP]
    have := nodesL_ge l m (1 + (names.length : Int))
    omega
theorem nodesL_ge : ∀ (l : List J) (m n : Int), n ≤ nodesL m n l
  | [], m, n => by rw [nodesL]; exact Int.le_refl _
  | x :: r, m, n => by
    rw [nodesL]
    split
    · have := nodes_ge x (m - n)
      have := nodesL_ge r m (n + nodesP (m - n) x)
      omega
    · exact Int.le_refl _
end
inductive SmallJ : J → Prop where
  | mk {k : Int} {b : Bool} {n : Int} {s : List UInt8} {l : List J} {names : List (List UInt8)} (hl : l.length ≤ 500) (hn : names.length ≤ 500) (hx : ∀ x ∈ l, SmallJ x) : SmallJ (.mk k b n s l names)
mutual
theorem small_of : ∀ (j : J) (m : Int), 0 ≤ m → m ≤ 500 → nodesP m j ≤ m → SmallJ j
  | .mk k b n s l names, m, h0, h5, h => by
    rw [nodesP] at h
    have h1 := nodesL_ge l m (1 + (names.length : Int))
    obtain ⟨h2, h3⟩ := smallL_of l m (1 + (names.length : Int)) h0 h5 (by omega) h
    exact .mk (by omega) (by omega) h3
theorem smallL_of : ∀ (l : List J) (m n : Int), 0 ≤ m → m ≤ 500 → 0 ≤ n → nodesL m n l ≤ m → n + (l.length : Int) ≤ m ∧ ∀ x ∈ l, SmallJ x
  | [], m, n, _, _, _, h => by rw [nodesL] at h; exact ⟨by simpa using h, by simp⟩
  | x :: r, m, n, h0, h5, hn, h => by
    rw [nodesL] at h
    split at h
    · rename_i hle
      have g1 := nodes_ge x (m - n)
      have g2 := nodesL_ge r m (n + nodesP (m - n) x)
      obtain ⟨h2, h3⟩ := smallL_of r m _ h0 h5 (by omega) h
      have hx := small_of x (m - n) (by omega) (by omega) (by omega)
      refine ⟨by simp only [List.length_cons]; omega, fun y hy => ?_⟩
      rcases List.mem_cons.1 hy with rfl | hy
      · exact hx
      · exact h3 y hy
    · omega
end
theorem open_names {j : J} (h : OpenJ j) : NamesM 17592186044416 j := by
  induction h with
  | mk hn hs hl hnl hns hx ih => exact .mk (by omega) (by omega) ih
theorem small_fits {j : J} (h : SmallJ j) (o : OpenJ j) : Fits j := by
  induction h with
  | mk hl hn hx ih =>
    cases o with
    | mk _ _ _ _ hns hox => exact .mk (by unfold maxLen; omega) (by unfold maxLen; omega) (fun x hx => by have := hns x hx; unfold maxLen; omega) fun x hx => ih x hx (hox x hx)
theorem small_fitc {j : J} (h : SmallJ j) : FitC j := by
  induction h with
  | mk hl hn hx ih => exact .mk (by omega) (by omega) ih
theorem fits_get : ∀ (path : List (List UInt8)) {j x : J}, Fits j → getP j path = some x → Fits x
  | [], j, x, h, e => by
    have : j = x := by cases j; simpa [getP] using e
    exact this ▸ h
  | nm :: r, .mk k b n s l names, x, h, e => by
    rw [getP] at e
    split at e
    · split at e
      · split at e
        · rename_i y hy
          cases h with
          | mk _ _ _ hx => exact fits_get r (hx y (List.mem_of_getElem? hy)) e
        · cases e
      · cases e
    · cases e
theorem fits_null : Fits jnull := .mk (by decide) (by decide) (by intro x hx; simp at hx) (by intro x hx; simp at hx)
theorem fits_getD {path : List (List UInt8)} {j : J} (h : Fits j) : Fits ((getP j path).getD jnull) := by
  cases e : getP j path with
  | none => exact fits_null
  | some x => exact fits_get path h e
theorem make_mem : ∀ (ls : List J) (names : List (List UInt8)) (es : List J), (∀ y ∈ (makeF ls names es).2, y ∈ es ∨ y ∈ ls) ∧ (∀ y ∈ (makeF ls names es).1, y ∈ names ∨ ∃ x ∈ ls, y = x.str) ∧ (makeF ls names es).1.length ≤ names.length + ls.length ∧ (makeF ls names es).2.length ≤ es.length + ls.length
  | [], names, es => ⟨fun y h => .inl h, fun y h => .inl h, by simp [makeF], by simp [makeF]⟩
  | [_], names, es => ⟨fun y h => .inl h, fun y h => .inl h, by simp [makeF], by simp [makeF]⟩
  | x :: z :: r, names, es => by
    have up : ∀ {names' es'} (_ : ∀ y ∈ es', y ∈ es ∨ y = z) (_ : ∀ y ∈ names', y ∈ names ∨ y = x.str) (_ : names'.length ≤ names.length + 1) (_ : es'.length ≤ es.length + 1), (∀ y ∈ (makeF r names' es').2, y ∈ es ∨ y ∈ x :: z :: r) ∧ (∀ y ∈ (makeF r names' es').1, y ∈ names ∨ ∃ q ∈ x :: z :: r, y = q.str) ∧ (makeF r names' es').1.length ≤ names.length + (x :: z :: r).length ∧ (makeF r names' es').2.length ≤ es.length + (x :: z :: r).length := by
      intro names' es' h1 h2 h3 h4
      obtain ⟨m1, m2, m3, m4⟩ := make_mem r names' es'
      refine ⟨fun y hy => ?_, fun y hy => ?_, by simp only [List.length_cons]; omega, by simp only [List.length_cons]; omega⟩
      · rcases m1 y hy with q | q
        · rcases h1 y q with q | q
          · exact .inl q
          · exact .inr (by simp [q])
        · exact .inr (by simp [q])
      · rcases m2 y hy with q | ⟨q, hq, e⟩
        · rcases h2 y q with q | q
          · exact .inl q
          · exact .inr ⟨x, by simp, q⟩
        · exact .inr ⟨q, by simp [hq], e⟩
    rw [makeF]
    split
    · split
      · exact up (fun y h => .inl h) (fun y h => .inl h) (by omega) (by omega)
      · exact up (fun y h => by simpa using h) (fun y h => by simpa using h) (by simp) (by simp)
    · exact up (fun y h => .inl h) (fun y h => .inl h) (by omega) (by omega)
theorem fits_make {ls : List J} (hl : ls.length ≤ 500) (hF : ∀ x ∈ ls, Fits x) (hO : ∀ x ∈ ls, OpenJ x) : Fits (makeJ ls) := by
  obtain ⟨m1, m2, m3, m4⟩ := make_mem ls [] []
  simp only [List.length_nil, Nat.zero_add] at m3 m4
  refine .mk (by unfold maxLen; omega) (by unfold maxLen; omega) (fun y hy => ?_) (fun y hy => ?_)
  · rcases m2 y hy with q | ⟨x, hx, rfl⟩
    · simp at q
    · have := hO x hx
      cases this with
      | mk _ hs => unfold J.str maxLen; dsimp only; omega
  · rcases m1 y hy with q | q
    · simp at q
    · exact hF y q
/-- What Get tells, in one form. -/
theorem got_all {w w' : World} {r : Option J} {e : Ending} (h : GotP w r e w') : ∃ cs : List Value, e = .returned (.tuple #[.agg cs.toArray, .bool r.isSome]) ∧ cs.length = 6 ∧ (∀ x ∈ cs, x.oneCell' = true) ∧ JAt w' (fun _ => True) (r.getD jnull) (.agg cs.toArray) ∧ Gr w w' := by
  cases r with
  | none =>
    obtain ⟨hg, rfl⟩ := h
    exact ⟨zeroJ, rfl, rfl, one_zero, leaf_jat _ _ 0 false 0 [], hg⟩
  | some x =>
    obtain ⟨hg, u, rfl, hJ⟩ := h
    obtain ⟨cs, rfl, h6, h1⟩ := jat_cells hJ
    exact ⟨cs, rfl, h6, h1, hJ.mono fun _ _ _ => ⟨trivial, rfl⟩, hg⟩
theorem gotR_all {w w' : World} {r : Option J} {e : Ending} (h : GotR w r e w') : ∃ cs : List Value, e = .returned (.tuple #[.agg cs.toArray, .bool r.isSome]) ∧ cs.length = 6 ∧ (∀ x ∈ cs, x.oneCell' = true) ∧ JAt w' (fun _ => True) (r.getD jnull) (.agg cs.toArray) ∧ Gr w w' := by
  cases r with
  | none =>
    obtain ⟨hg, rfl⟩ := h
    exact ⟨zeroJ, rfl, rfl, one_zero, leaf_jat _ _ 0 false 0 [], hg⟩
  | some x =>
    obtain ⟨hg, u, rfl, hJ⟩ := h
    obtain ⟨cs, rfl, h6, h1⟩ := jat_cells hJ
    exact ⟨cs, rfl, h6, h1, hJ, hg⟩
/-- The count over a row of values. -/
def sumN (n : Int) : List J → Int
  | [] => n
  | x :: r => if n ≤ 500 then sumN (n + nodesP 500 x) r else n
theorem sumN_ge : ∀ (l : List J) (n : Int), n ≤ sumN n l
  | [], n => Int.le_refl _
  | x :: r, n => by
    rw [sumN]
    split
    · have := nodes_ge x 500
      have := sumN_ge r (n + nodesP 500 x)
      omega
    · exact Int.le_refl _
theorem sumN_small : ∀ (l : List J) (n : Int), 0 ≤ n → sumN n l ≤ 500 → n + (l.length : Int) ≤ 500 ∧ ∀ x ∈ l, SmallJ x
  | [], n, _, h => by rw [sumN] at h; exact ⟨by simpa using h, by simp⟩
  | x :: r, n, hn, h => by
    rw [sumN] at h
    split at h
    · have g1 := nodes_ge x 500
      have g2 := sumN_ge r (n + nodesP 500 x)
      obtain ⟨h2, h3⟩ := sumN_small r _ (by omega) h
      have hx := small_of x 500 (by omega) (by omega) (by omega)
      refine ⟨by simp only [List.length_cons]; omega, fun y hy => ?_⟩
      rcases List.mem_cons.1 hy with rfl | hy
      · exact hx
      · exact h3 y hy
    · omega
end Go.Proofs.YtogippkapadolaaDoor

/- JsonAsks, walked. -/
namespace Go.Proofs.YtogippkapadolaaDoor
open Go.RowKit

theorem nodes_le {j : J} (h : NamesM 17592186044416 j) : nodesP 500 j ≤ 17592186044916 := by
  have := (nodes_range j 500 (by omega) h).2
  omega
set_option maxHeartbeats 8000000 in
set_option maxRecDepth 100000 in
theorem asks_law {w : World} (hB : Base w) {j : J} {cs : List Value} (h6 : cs.length = 6) (hJ : JAt w (fun _ => True) j (.agg cs.toArray)) (hO : OpenJ j)
    {na : Option Addr} {nc : Nat} {names : List (List UInt8)} (hnm : Lies w (fun _ => True) na (names.map strV1)) (hnl : names.length * 16 ≤ 140737488351232)
    {la : Option Addr} {lc : Nat} {l : List J} {es : List (List Value)} (hes : es.length = l.length) (k6 : ∀ c ∈ es, c.length = 6) (hl : ∀ (i : Nat) (x : J) (c : List Value), l[i]? = some x → es[i]? = some c → JAt w (fun _ => True) x (.agg c.toArray)) (hlies : Lies w (fun _ => True) la es.flatten) (hll : l.length * 88 ≤ 140737488351232) (hOl : ∀ x ∈ l, OpenJ x) :
    Calls Tryd.prog 5 #[.agg cs.toArray, .slice na names.length nc, .slice la l.length lc] w fun e w' => e = .returned (.bool true) ∧ Gr w w' := by
  obtain ⟨L, hL⟩ : ∃ L, l.length = L := ⟨_, rfl⟩
  obtain ⟨X, hX⟩ : ∃ X, sumN (nodesP 500 j) l = X := ⟨_, rfl⟩
  have haw := awake_any (hB.gr (Gr.alloc w (.cells cs.toArray 27)))
  have hbx : Holds (w.alloc (.cells cs.toArray 27)) w.heap.size cs 27 := holds_new w cs 27
  have hg0 := Gr.alloc w (.cells cs.toArray 27)
  have hnd := nodes_ok (by omega) hJ (open_names hO)
  have hn0 := nodes_le (open_names hO)
  have hn1 := nodes_ge j 500
  have hpl : names.length < maxLen := by unfold maxLen; omega
  generalize hnn : nodesP 500 j = n0 at *
  have hnd0 : ∀ y, Gr w y → Calls Tryd.prog 13 #[.agg cs.toArray, .int .i64 500] y fun e w' => e = .returned (.int .i64 n0) ∧ Gr y w' := fun y hy => by have := hnd y 500 hy (by omega) (by omega); rwa [hnn] at this
  rw [hL]
  go_enter Tryd.func5, Tryd.ntmps5
  go_wp2_with (first
    | (go_at_call 8; refine haw.mono ?_; rintro e w1 ⟨rfl, hg1⟩; clear haw; have hb1 := hbx.gr hg1)
    | (refine wpList_load_part rfl 27 (.tmp 3) rfl w.heap.size 0 rfl cs _ (range_of hb1) Tryd.underlying27 rfl (by rw [h6]; kernel_rfl) ?_)
    | (go_at_call 13; refine (hnd0 w1 (hg0.trans hg1)).mono ?_; rintro e w2 ⟨rfl, hg2⟩; have hb2 := hb1.gr hg2))
  go_loopw [8, 9] (fun a c wr => ∃ (q : Int) (i : Nat), a = .int .i64 q ∧ c = .int .i64 (i : Int) ∧ i ≤ L ∧ sumN q (l.drop i) = X ∧ 1 ≤ q ∧ q ≤ 17592186045416 ∧ Gr w2 wr) (fun _ c _ => L - (intOf c).toNat)
  case atStart => exact ⟨n0, 0, rfl, rfl, by omega, by rw [List.drop_zero]; exact hX, hn1, by omega, Gr.refl _⟩
  case round =>
    obtain ⟨q, i, rfl, rfl, hi, hE, hq1, hq2, hg3⟩ := hrel
    have hgw : Gr w wr := (hg0.trans hg1).trans (hg2.trans hg3)
    have hb3 := hb2.gr hg3
    have tail : ¬ q > 500 → sumN q (l.drop i) ≤ 500 → l.length ≤ 500 ∧ SmallJ j ∧ ∀ x ∈ l, SmallJ x := fun _ h => by
      rw [hE, ← hX] at h
      have h2 := sumN_small l n0 (by omega) h
      have h3 := sumN_ge l n0
      exact ⟨by omega, small_of j 500 (by omega) (by omega) (by omega), h2.2⟩
    have big : q > 500 ∨ (q ≤ 500 ∧ i = L) → True := fun _ => trivial
    rcases Int.lt_or_le 500 q with hq | hq
    · have gq : q > 500 := hq
      have gq2 : ¬ q ≤ 500 := by omega
      clear hnd hnd0 hl hlies hnm hJ hE hX tail hn0 hnn
      rcases Nat.lt_or_ge i L with hlt | hge
      · have g1 : (i : Int) < (L : Int) := by omega
        go_wp2
        go_ret
        exact ⟨rfl, hgw⟩
      · have g1 : ¬ (i : Int) < (L : Int) := by omega
        go_wp2
        go_ret
        exact ⟨rfl, hgw⟩
    · have gq : ¬ q > 500 := by omega
      rcases Nat.lt_or_ge i L with hlt | hge
      · have g1 : (i : Int) < (L : Int) := by omega
        have hx : l[i]? = some l[i] := List.getElem?_eq_getElem (by omega)
        have hce : es[i]? = some (es[i]'(by omega)) := List.getElem?_eq_getElem (by omega)
        have d6 := k6 _ (List.mem_of_getElem? hce)
        have hJx := hl i _ _ hx hce
        have hOx := hOl _ (List.mem_of_getElem? hx)
        have hndx := (nodes_ok (by omega) hJx (open_names hOx)) wr 500 hgw (by omega) (by omega)
        have hxn := nodes_le (open_names hOx)
        have hxg := nodes_ge l[i] 500
        obtain ⟨g, off, rfl, hgS, hrng⟩ := hlies.elemG hgw k6 hce
        have hixa : ∀ w, (Instr.indexAt 24 (.slice (some ⟨g, off, none⟩) L lc) (.int .i64 (i : Int))).run Tryd.prog w = .ok (.pointer (some ⟨g, off + i * 6, none⟩)) w := ix_slice und24 size27 hlt rfl
        rw [List.drop_eq_getElem_cons (by omega), sumN, if_pos hq] at hE
        generalize l[i] = x at *
        generalize es[i]'(by omega) = c at *
        generalize nodesP 500 x = nx at *
        have hw1 : IntKind.i64.wrap ((i : Int) + 1) = ((i + 1 : Nat) : Int) := by rw [wrap_in (by omega) (by omega)]; omega
        have hw2 : IntKind.i64.wrap (q + nx) = q + nx := wrap_in (by omega) (by omega)
        clear hnd hnd0 hl hlies hnm hJ hX tail hnn
        go_wp2_with (first
          | (refine wpList_load_part rfl 27 (.tmp 32) rfl g (off + i * 6) rfl c _ hrng Tryd.underlying27 rfl (by rw [d6]; kernel_rfl) ?_)
          | (go_at_call 13; refine hndx.mono ?_; rintro e w4 ⟨rfl, hg4⟩))
        exact ⟨⟨q + nx, i + 1, rfl, rfl, by omega, hE, by omega, by omega, hg3.trans hg4⟩, by simp; omega⟩
      · have g1 : ¬ (i : Int) < (L : Int) := by omega
        have hdr : l.drop i = [] := List.drop_of_length_le (by omega)
        obtain ⟨hL5, hSj, hSl⟩ := tail gq (by rw [hdr, sumN]; exact hq)
        have hFj := small_fits hSj hO
        have hFl : ∀ x ∈ l, Fits x := fun x hx => small_fits (hSl x hx) (hOl x hx)
        have hget := fun y (hy : Gr w y) => get_any (pc := nc) hJ hFj (small_fitc hSj) hy (hnm.mono fun k h1 h2 => ⟨h1, hy.block k h2⟩) hpl
        have hrget := fun y (hy : Gr w y) => rget_any (pc := nc) hJ hFj hy hnm hpl
        have hmk := fun y (hy : Gr w y) => make_any (lc := lc) hes k6 hl hlies (by omega) (fun x hx => small_fitc (hSl x hx)) (fun x hx => by cases (hOl x hx) with | mk _ hs => unfold J.str maxLen; dsimp only; omega) hy
        have hrmk := fun y (hy : Gr w y) => rmake_any (lc := lc) hes k6 hl hlies (by omega) hy
        have hFg := fits_getD (path := names) hFj
        have hFm := fits_make hL5 hFl hOl
        rw [hL] at hmk hrmk
        generalize hgr : getP j names = R at *
        generalize makeJ l = mj at *
        clear hnd hnd0 hl hlies hnm hJ hX hE tail hnn hFj hFl
        go_wp2_with (first
          | (refine wpList_load_part rfl 27 (.tmp 3) rfl w.heap.size 0 rfl cs _ (range_of (by assumption)) Tryd.underlying27 rfl (by rw [h6]; kernel_rfl) ?_)
          | (go_at_call 12; refine (hget _ hgw).mono fun e w4 h => ?_; obtain ⟨c4, rfl, c46, c41, hJ4, hg4'⟩ := got_all h; have hg4 := hgw.trans hg4'; have hb4 := hb3.gr hg4'; clear hb3)
          | (refine wpList_store_all rfl 27 (.tmp 10) (.tmp 43) rfl w4.heap.size rfl c4 rfl 27 zeroJ (holds_new w4 zeroJ 27) (by rw [c46]; kernel_rfl) c46.symm c41 ?_; intro w5 hT5; have hg5 := hg4.trans (gr_new hT5); have v5 := Var.new hJ4 c46 hT5; have hb5 := hb4.gr (gr_new hT5); clear hb4 hJ4)
          | (go_at_call 14; refine (hrget _ hg5).mono fun e w6 h => ?_; obtain ⟨c6, rfl, c66, c61, hJ6, hg6'⟩ := gotR_all h; have hg6 := hg5.trans hg6'; have v6 := v5.gr hg6'; clear v5)
          | (refine wpList_store_all rfl 27 (.tmp 12) (.tmp 49) rfl w6.heap.size rfl c6 rfl 27 zeroJ (holds_new w6 zeroJ 27) (by rw [c66]; kernel_rfl) c66.symm c61 ?_; intro w7 hT7; have hg7 := hg6.trans (gr_new hT7); have v7 := v6.gr (gr_new hT7); have x7 := Var.new hJ6 c66 hT7; clear v6 hJ6)
          | (refine wpList_load_part rfl 27 (.tmp 10) rfl w4.heap.size 0 rfl c4 _ (range_of v7.holds) Tryd.underlying27 rfl (by rw [c46]; kernel_rfl) ?_)
          | (refine wpList_load_part rfl 27 (.tmp 12) rfl w6.heap.size 0 rfl c6 _ (range_of x7.holds) Tryd.underlying27 rfl (by rw [c66]; kernel_rfl) ?_)
          | (go_at_call 15; refine ((rsame_ok v7.says x7.says hFg hFg) w7 (Gr.refl _)).mono ?_; rw [sameB_eq.2 rfl]; rintro e w8 ⟨rfl, hg8'⟩; have hg8 := hg7.trans hg8'; clear v7 x7)
          | (go_at_call 10; refine (hmk _ hg8).mono ?_; rintro e w9 ⟨u9, rfl, hg9', hJ9⟩; have hg9 := hg8.trans hg9')
          | (go_at_call 16; refine (hrmk _ hg9).mono ?_; rintro e w10 ⟨u10, rfl, hg10', hJ10⟩; have hg10 := hg9.trans hg10')
          | (go_at_call 15; refine ((rsame_ok (hJ9.gr hg10') hJ10 hFm hFm) w10 (Gr.refl _)).mono ?_; rw [sameB_eq.2 rfl]; rintro e w11 ⟨rfl, hg11'⟩; have hg11 := hg10.trans hg11'))
        go_ret
        exact ⟨rfl, hg11⟩
end Go.Proofs.YtogippkapadolaaDoor
