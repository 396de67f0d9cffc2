/- The document's Due (12). -/
import Derived.Test.YtklkonmdllgeeaaRfAsk
namespace Go.Proofs.Ytklkonmdllgeeaa
open Go.RowKit Go.Maps

theorem due_stop {l : Ts} {now : Int} (h : l = [] ∨ now < minT l) : dueT now l = [] ∧ leftT now l = l := by
  have hall : ∀ x ∈ l, now < x.2.1 := fun x hx => by
    rcases h with rfl | h
    · cases hx
    · have := minT_le hx; omega
  have h1 : leftT now l = l := List.filter_eq_self.2 fun x hx => by have := hall x hx; simpa using this
  have h2 := due_left now l
  rw [h1] at h2
  exact ⟨List.eq_nil_of_length_eq_zero (by omega), h1⟩
theorem due_step {l : Ts} {t : Nat} (hf : Fine l t) {now : Int} (hm : minT l ≤ now) {i : Nat} {x : Tm} (hi : l[i]? = some x) (hx : x.2.1 = minT l) (hb : ∀ j y, j < i → l[j]? = some y → y.2.1 ≠ minT l) :
    dueT now l = x :: dueT now (dropT x.1 l) ∧ leftT now (dropT x.1 l) = leftT now l := by
  have hxl : x ∈ l := List.mem_of_getElem? hi
  constructor
  · refine (due_sorted hf ?_ ?_).symm
    · have hp : l.Perm (x :: dropT x.1 l) := by
        have hn : l.Nodup := (List.pairwise_map.1 hf.nodup).imp fun {a b} h e => h (congrArg Prod.fst e)
        have hn2 : (x :: dropT x.1 l).Nodup := List.nodup_cons.2 ⟨fun q => (mem_dropT.1 q).2 rfl, (dropT_sub x.1 l).nodup hn⟩
        refine (List.perm_ext_iff_of_nodup hn hn2).2 fun y => ?_
        rw [List.mem_cons, mem_dropT]
        constructor
        · intro hy
          by_cases e : y.1 = x.1
          · exact .inl (nodup_one hf.nodup hy hxl e)
          · exact .inr ⟨hy, e⟩
        · rintro (rfl | h)
          · exact hxl
          · exact h.1
      have h2 : (upT now l).Perm (upT now (x :: dropT x.1 l)) := hp.filter _
      have h3 : upT now (x :: dropT x.1 l) = x :: upT now (dropT x.1 l) := by
        unfold upT
        rw [List.filter_cons_of_pos (by simp; omega)]
      rw [h3] at h2
      exact ((dueT_perm now (dropT x.1 l)).cons x).trans h2.symm
    · refine List.pairwise_cons.2 ⟨fun y hy => ?_, dueT_sorted _ _⟩
      obtain ⟨q1, q2⟩ := mem_dueT.1 hy
      obtain ⟨q3, q4⟩ := mem_dropT.1 q1
      have hle := minT_le q3
      obtain ⟨j, hj, ej⟩ := List.getElem_of_mem q3
      have hj' : l[j]? = some y := by rw [List.getElem?_eq_getElem hj, ej]
      obtain ⟨hil, ei⟩ := List.getElem?_eq_some_iff.1 hi
      have hne : j ≠ i := fun e => by subst e; rw [hi] at hj'; exact q4 (by rw [Option.some.inj hj'])
      simp only [leT, decide_eq_true_eq]
      by_cases hlt : x.2.1 < y.2.1
      · exact .inl hlt
      · refine .inr ⟨by omega, ?_⟩
        rcases Nat.lt_or_ge j i with g | g
        · exact absurd (by omega) (hb j y g hj')
        · have := List.pairwise_iff_getElem.1 hf.rise i j hil hj (by omega)
          rw [ei, ej] at this
          omega
  · unfold leftT dropT
    rw [List.filter_filter]
    refine List.filter_congr fun y hy => ?_
    by_cases e : y.1 = x.1
    · have := nodup_one hf.nodup hy hxl e
      subst this
      have : ¬ now < y.2.1 := by omega
      simp [this]
    · simp [e]
/-- How many timers the document's wheel has, by its world. -/
def refLen (w : World) (r : Nat) : Nat := match w.cell? ⟨r, 0, none⟩ with | some (.slice _ n _) => n | _ => 0
theorem RefAt.len {N : Nat} {w : World} {r : Nat} {l : Ts} (h : RefAt N w r l) : refLen w r = l.length := by
  obtain ⟨v, hH, hrow⟩ := h.mem
  obtain ⟨a, c, rfl⟩ := row_slice hrow
  unfold refLen
  rw [hH.at 0 _ rfl]
/-- What Due's loop holds. -/
structure DuR (N r H : Nat) (l : Ts) (t : Nat) (now : Int) (w : World) (m ds : Ts) (o : Value) (wr : World) : Prop where
  due : dueT now l = ds ++ dueT now m
  left : leftT now m = leftT now l
  fine : Fine m t
  len : m.length + ds.length ≤ l.length
  ref : RefAt N wr r m
  row : wr.ownsRow H 9 1 o ds.length (namesV (ds.map (·.1)))
  upd : RUpd N r w wr
theorem RefAt.app {N : Nat} {w w' : World} {r H : Nat} {l : Ts} {v : Value} {n : Nat} {xs : List Value} (h : RefAt N w r l) (hr : w.ownsRow H 9 1 v n xs) (gr : w.grownBy w' v.ownBlock) : RefAt N w' r l := by
  obtain ⟨h1, u, hH, hrow⟩ := h
  have hne : ∀ g cs t fr, w.heap[g]? = some (.cells cs t fr) → t ≠ 9 → some g ≠ v.ownBlock := fun g cs t fr hg ht q => by
    rcases hr.2 with ⟨e, _⟩ | ⟨j, cap, cur, e, hb, hj, _⟩
    · rw [e] at q; cases q
    · rw [e] at q
      have : g = j := by simpa [Value.ownBlock] using q
      rw [this, hj] at hg
      simp at hg
      exact ht hg.2.1.symm
  refine ⟨h1, u, ?_, own_same hrow fun i cs fr _ hc => gr.block i (Array.getElem?_eq_some_iff.1 hc).1 (hne i cs 53 fr hc (by decide))⟩
  have hl := hH.lt
  unfold Holds at *
  rw [gr.block r hl (hne r _ 29 _ hH (by decide))]
  exact hH
theorem RUpd.app {N r : Nat} {w wr w' : World} {H : Nat} {v : Value} {n : Nat} {xs : List Value} (h : RUpd N r w wr) (hH : w.heap.size = H) (hN : N ≤ H) (hr : wr.ownsRow H 9 1 v n xs) (gr : wr.grownBy w' v.ownBlock) : RUpd N r w w' := by
  have hs := h.size
  refine ⟨gr.os.trans h.os, gr.tape.trans h.tape, gr.output.trans h.output, Nat.le_trans h.size gr.size, fun g hg => (gr.block g (by omega) (row_up hr (by omega))).trans (h.low g hg), fun g o hne hg hn => ?_⟩
  have hgl := (Array.getElem?_eq_some_iff.1 hg).1
  exact (gr.block g (by omega) (row_up hr (by omega))).trans (h.rest g o hne hg hn)
set_option maxHeartbeats 3200000 in
set_option maxRecDepth 100000 in
theorem rdue_any (N r : Nat) (l : Ts) (t : Nat) (now : Int) (hf : Fine l t) (ht : t < 1073741824) (w : World) (h : RefAt N w r l) : Calls Try.prog 12 #[.pointer (some ⟨r, 0, none⟩), .int .i64 now] w fun e w' => ∃ v, e = .returned v ∧ Hid (w'.ownsRow w.heap.size 9 1 v ((dueT now l).map (·.1)).length (namesV ((dueT now l).map (·.1))) ∧ RefAt N w' r (leftT now l) ∧ RUpd N r w w') := by
  obtain ⟨i9, F9', hz9, hs9, hb9⟩ := inf9
  have F9 : Hid (Try.prog.info? 9 = some i9) := F9'
  clear F9'
  have hll := hf.len
  have hNr := h.low
  have hrl := h.lt
  obtain ⟨H, hHs⟩ : ∃ H, w.heap.size = H := ⟨_, rfl⟩
  have HHs : Hid (w.heap.size = H) := hHs
  rw [hHs] at hrl ⊢
  have H0 : Hid (DuR N r H l t now w l [] (.slice none 0 0) w) := ⟨rfl, rfl, hf, by simp, h, World.ownsRow_nil _ _ _ _, RUpd.refl _ _ _⟩
  clear h hf hHs
  go_enter Try.func12, Try.ntmps12
  go_upto_region 2 with fail
  go_loopw [5, 6, 7, 8] (fun o _ _ _ wr => ∃ m ds : Ts, Hid (DuR N r H l t now w m ds o wr)) (fun _ _ _ _ wr => refLen wr r)
  case atStart => exact ⟨l, [], H0⟩
  case round =>
    clear H0
    obtain ⟨m, ds, hR⟩ := hrel
    obtain ⟨oa, oc, rfl⟩ := row_slice hR.out.row
    have hml : m.length + ds.length < 1073741824 := by have := hR.out.len; omega
    have HML : Hid (refLen wr r = m.length) := hR.out.ref.len
    have hnx : Hid (Calls Try.prog 16 #[.pointer (some ⟨r, 0, none⟩)] wr fun e w' => e = .returned (.tuple #[.int .i64 (minT m), .bool (someB m)]) ∧ Hid (DuR N r H l t now w m ds (.slice oa ds.length oc) w')) := (rnext_any N r m (by omega) wr hR.out.ref).mono fun e w' ⟨e1, e2⟩ => ⟨e1, by
      have hb := e2.out
      have hR := hR.out
      exact ⟨hR.due, hR.left, hR.fine, hR.len, hR.ref.below hb, own_same hR.row (fun i cs fr _ hc => hb.block i (Array.getElem?_eq_some_iff.1 hc).1), hR.upd.trans (RUpd.ofBelow hb (by have := hR.ref.lt; omega))⟩⟩
    obtain ⟨nd, hnd⟩ : ∃ nd, ds.length = nd := ⟨_, rfl⟩
    have HND : Hid (ds.length = nd) := hnd
    obtain ⟨lp, hlp⟩ : ∃ lp, minT m = lp := ⟨_, rfl⟩
    have HLP : Hid (minT m = lp) := hlp
    obtain ⟨sb, hsb⟩ : ∃ sb, someB m = sb := ⟨_, rfl⟩
    have HSB : Hid (someB m = sb) := hsb
    rw [hnd, hlp, hsb] at hnx
    rw [hnd] at hml ⊢
    clear hnd hR hlp hsb
    have hstop : Hid (m = [] ∨ now < minT m → ∀ W, DuR N r H l t now w m ds (.slice oa nd oc) W → W.ownsRow H 9 1 (.slice oa nd oc) ((dueT now l).map (·.1)).length (namesV ((dueT now l).map (·.1))) ∧ RefAt N W r (leftT now l) ∧ RUpd N r w W) := fun hst W hD => by
      obtain ⟨hs1, hs2⟩ := due_stop hst
      have e1 : dueT now l = ds := by rw [hD.due, hs1, List.append_nil]
      have e2 : leftT now l = m := by rw [← hD.left, hs2]
      rw [e1, e2, List.length_map]
      exact ⟨hD.row, hD.ref, hD.upd⟩
    cases sb with
    | false =>
      have hm0 : m = [] := by have := HSB.out; cases m with | nil => rfl | cons => simp [someB] at this
      go_wp2_with (go_at_call 16; refine hnx.out.mono ?_; rintro e w2 ⟨rfl, h2⟩; clear hnx)
      go_ret
      exact ⟨_, rfl, hstop.out (.inl hm0) _ h2.out⟩
    | true =>
      by_cases hst : now < lp
      · have hst2 : ¬ lp ≤ now := by omega
        go_wp2_with (go_at_call 16; refine hnx.out.mono ?_; rintro e w2 ⟨rfl, h2⟩; clear hnx)
        go_ret
        exact ⟨_, rfl, hstop.out (.inr (by rw [HLP.out]; exact hst)) _ h2.out⟩
      · have hst2 : lp ≤ now := by omega
        have hm0 : m ≠ [] := fun q => by have := HSB.out; rw [q] at this; cases this
        clear hstop
        go_upto_region 6 with (go_at_call 16; refine hnx.out.mono ?_; rintro e w2 ⟨rfl, h2⟩; clear hnx)
        obtain ⟨v, hH, hrow⟩ := h2.out.ref.mem
        obtain ⟨a, c, rfl⟩ := row_slice hrow
        have c0 := hH.at 0 _ rfl
        have HROW : Hid (w2.ownsRow N 53 2 (.slice a m.length c) m.length (cellsR m)) := hrow
        obtain ⟨nm, hnm⟩ : ∃ nm, m.length = nm := ⟨_, rfl⟩
        have HNM : Hid (m.length = nm) := hnm
        rw [hnm] at c0 hml
        clear hH hrow hnm
        go_loopw [5, 8] (fun o ci wx => ∃ i : Nat, ci = .int .i64 (i : Int) ∧ i ≤ nm ∧ o = .slice oa nd oc ∧ Hid (∀ j y, j < i → m[j]? = some y → y.2.1 ≠ minT m) ∧ wx = w2) (fun _ ci _ => nm - (intOf ci).toNat)
        case atStart => exact ⟨0, rfl, Nat.zero_le _, rfl, fun j y hj => absurd hj (Nat.not_lt_zero _), rfl⟩
        case round =>
          obtain ⟨i, rfl, hi, rfl, hF, rfl⟩ := hrel
          by_cases hlt : i < nm
          · have g1 : (i : Int) < (nm : Int) := by omega
            have g0 : (0 : Int) ≤ (i : Int) := by omega
            obtain ⟨⟨x1, x2, x3⟩, hx⟩ : ∃ x, m[i]? = some x := ⟨_, List.getElem?_eq_getElem (by rw [HNM.out]; exact hlt)⟩
            obtain ⟨g, rfl, hg, d0, d1⟩ := row_rf HROW.out hx
            by_cases he : x2 = lp
            · subst he
              have hxm : x1 = x1 := rfl
              obtain ⟨hst1, hst3⟩ := due_step h2.out.fine (now := now) (by rw [HLP.out]; exact hst2) hx HLP.out.symm hF.out
              have hNw : N ≤ wr.heap.size := by have := h2.out.ref.lt; omega
              have hHw : H ≤ wr.heap.size := by have := h2.out.upd.size; have := HHs.out; omega
              have HOW : Hid (wr.ownsRow H 9 1 (.slice oa nd oc) nd (namesV (ds.map (·.1)))) := by
                have := h2.out.row
                rw [HND.out] at this
                exact this
              have HNC : Hid (∀ (j : Nat) (u : Value), [Value.string (strL x1)][j]? = some u → (wr.alloc (.cells #[.string (strL x1)] 9)).cell? (Addr.add ⟨wr.heap.size, 0, none⟩ j) = some u) := fun j u hu => World.news_of_block (heap_alloc_new wr _) j u hu
              have hxl : (x1, x2, x3) ∈ m := List.mem_of_getElem? hx
              have hlen : (dropT x1 m).length < m.length := by
                have hs := dropT_sub x1 m
                refine Nat.lt_of_le_of_ne hs.length_le fun q => ?_
                have := hs.eq_of_length q
                rw [← this] at hxl
                exact (mem_dropT.1 hxl).2 rfl
              have hAft : Hid (∀ w3 : World, (wr.alloc (.cells #[.string (strL x1)] 9)).grownBy w3 (Value.slice oa nd oc).ownBlock → RefAt N w3 r m ∧ RUpd N r w w3) := fun w3 gr => by
                have hb : Below wr.heap.size wr (wr.alloc (.cells #[.string (strL x1)] 9)) := (Below.refl _ _).alloc (Nat.le_refl _) _
                exact ⟨(h2.out.ref.below hb).app (HOW.out.alloc _) gr, (h2.out.upd.trans (RUpd.ofBelow hb hNw)).app HHs.out (by omega) (HOW.out.alloc _) gr⟩
              have HX : Hid (m[i]? = some (x1, x2, x3)) := hx
              have HD1 : Hid (dueT now l = (ds ++ [(x1, x2, x3)]) ++ dueT now (dropT x1 m)) := by
                show dueT now l = _
                rw [h2.out.due, hst1]; simp
              have HD2 : Hid (leftT now (dropT x1 m) = leftT now l) := hst3.trans h2.out.left
              have HD3 : Hid (Fine (dropT x1 m) t) := h2.out.fine.drop x1
              have HD4 : Hid ((dropT x1 m).length + (ds ++ [(x1, x2, x3)]).length ≤ l.length) := by
                show _ ≤ _
                have := h2.out.len
                rw [List.length_append]
                simp only [List.length_cons, List.length_nil]
                omega
              have HLEN : Hid ((dropT x1 m).length < m.length) := hlen
              clear hx hst1 hst3 hxl hlen hF HROW h2 hxm
              go_upto_region 10 with (first
                | (at_builtin; refine wpList_append_src rfl (.tmp 41) (.tmp 50) 30 rfl H 9 i9 _ 1 16 und30 F9.out hz9 hs9 hb9 (by rfl) (by omega) _ _ _ (HOW.out.alloc _) rfl [.string (strL x1)] _ 1 1 rfl (by rfl) (fun _ => ⟨_, rfl, fun j u hu => HNC.out j u hu⟩) (fun u hu => by simp at hu; subst hu; rfl) (by unfold maxLen; omega) (by omega) (by simp; omega) ?_; intro v3 w3 own3 gr3 _)
                | go_in)
              obtain ⟨hR3, hU3⟩ := hAft.out w3 gr3
              have hca : Hid (Calls Try.prog 8 #[.pointer (some ⟨r, 0, none⟩), .string (strL x1)] w3 fun e w' => ∃ z : Int, e = .returned (.int .i64 z) ∧ Hid (RefAt N w' r (dropT x1 m) ∧ RUpd N r w3 w')) := (rcancel_any N r m x1 (by have := HNM.out; omega) w3 hR3).mono fun e w' ⟨e1, e2⟩ => ⟨_, e1, e2⟩
              have HU3 : Hid (RUpd N r w w3) := hU3
              obtain ⟨v4, hH4, hrow4⟩ := hR3.mem
              obtain ⟨a4, c4, rfl⟩ := row_slice hrow4
              have k0 := hH4.at 0 _ rfl
              rw [HNM.out] at k0
              obtain ⟨g4, rfl, hg4, k1, k2⟩ := row_rf hrow4 HX.out
              have OWN3 : Hid (w3.ownsRow H 9 1 v3 (nd + 1) (namesV (ds.map (·.1)) ++ [.string (strL x1)])) := own3
              have HSL : Hid (∃ a c, v3 = .slice a (nd + 1) c) := row_slice own3
              clear hR3 hU3 hH4 hrow4 gr3 own3 d0 d1 c0 HNC hAft HOW
              go_wp2_with (go_at_call 8; refine hca.out.mono ?_; rintro e w4 ⟨z, rfl, h4⟩)
              go_roundw
              case rel =>
                refine ⟨dropT x1 m, ds ++ [(x1, x2, x3)], ⟨HD1.out, HD2.out, HD3.out, HD4.out, h4.out.1, ?_, HU3.out.trans h4.out.2⟩⟩
                rw [List.length_append, HND.out, List.map_append]
                have e : namesV (ds.map (·.1) ++ [(x1, x2, x3)].map (·.1)) = namesV (ds.map (·.1)) ++ [.string (strL x1)] := by simp [namesV]
                rw [e]
                exact own_same OWN3.out fun j cs fr hj hc => (h4.out.2.rest j _ (by omega) hc (fun cs fr q => by cases q)).trans hc.symm
              case measure => rw [h4.out.1.len, HML.out]; exact HLEN.out
            · have z1 : (x2 == lp) = false := by simpa using he
              have HF : Hid (∀ j y, j < i + 1 → m[j]? = some y → y.2.1 ≠ minT m) := fun j y hj hy => by
                by_cases hji : j < i
                · exact hF.out j y hji hy
                · obtain rfl : j = i := by omega
                  rw [hx] at hy
                  rw [← Option.some.inj hy, HLP.out]
                  exact he
              clear hx
              go_wp2
              go_roundw
              case rel => exact ⟨i + 1, by go_num, by omega, rfl, HF, trivial⟩
              case measure => simp [intOf]; omega
          · exfalso
            obtain ⟨y, hy, ey⟩ := minT_mem hm0
            obtain ⟨j, hj, ej⟩ := List.getElem_of_mem hy
            exact hF.out j y (by have := HNM.out; omega) (by rw [List.getElem?_eq_getElem hj, ej]) ey
end Go.Proofs.Ytklkonmdllgeeaa
