/- said (16): the nodes that have said so; Open (12) of none. -/
import Derived.Test.YtmhpfncbbboamaaGreatQmNew
namespace Go.Proofs.YtmhpfncbbboamaaGreat
open Go.RowKit Go.Maps

theorem said_nil (k : Int) (w : World) : Calls Tryz.prog 16 #[.pointer none, .int .i64 k] w fun e w' => e = .returned (.slice none 0 0) ∧ w' = w := by
  go_enter Tryz.func16, Tryz.ntmps16
  go_wp2
  go_ret
  exact ⟨rfl, rfl⟩
theorem open_nil (w : World) : Calls Tryz.prog 12 #[.pointer none] w fun e w' => e = .returned (.slice none 0 0) ∧ w' = w := by
  have h16 : Hid (∀ W, Calls Tryz.prog 16 #[.pointer none, .int .i64 0] W fun e w' => e = .returned (.slice none 0 0) ∧ w' = W) := said_nil 0
  go_enter Tryz.func12, Tryz.ntmps12
  go_wp2_with (go_at_call 16; refine (h16.out _).mono ?_; rintro e w2 ⟨rfl, rfl⟩)
  go_ret
  exact ⟨rfl, rfl⟩
def slN (l : Ses) (k : Nat) : List Int := (l.filter fun s => s.2.2 == k).map (·.1)
theorem slN_snoc (l : Ses) (s : Se) (k : Nat) : slN (l ++ [s]) k = slN l k ++ (if s.2.2 = k then [s.1] else []) := by
  unfold slN
  rw [List.filter_append, List.map_append]
  congr 1
  by_cases h : s.2.2 = k <;> simp [h]
def intsV (xs : List Int) : List Value := xs.map fun x => .int .i64 x
theorem und46 : Tryz.prog.underlying 46 = some (.slice 3) := by kernel_rfl
theorem info3x : ∃ i, Tryz.prog.info? 3 = some i ∧ i.zero = some (.int .i64 0) ∧ i.size = 1 ∧ i.bytes = 8 := by
  have : (Tryz.prog.info? 3).map (fun i => (i.zero, i.size, i.bytes)) = some (some (.int .i64 0), 1, 8) := by kernel_rfl
  cases h : Tryz.prog.info? 3 with
  | none => rw [h] at this; cases this
  | some i =>
    rw [h] at this
    simp at this
    exact ⟨i, rfl, this⟩
theorem gr_grown {w x y : World} {N : Nat} {v : Value} {n : Nat} {xs : List Value} (h : Gr w x) (hN : w.heap.size = N) (hR : x.ownsRow N 3 1 v n xs) (hg : x.grownBy y v.ownBlock) : Gr w y := by
  refine Below.trans h ⟨hg.os, hg.tape, hg.output, hg.size, fun k hk => hg.block k (Nat.lt_of_lt_of_le hk h.size) (fun e => ?_)⟩
  obtain ⟨_, ⟨rfl, _⟩ | ⟨g, cap, cur, rfl, hb, _⟩⟩ := hR
  · cases e
  · have e2 : g = k := (Option.some.inj e).symm
    omega
set_option maxRecDepth 100000 in
set_option maxHeartbeats 1600000 in
theorem said_any {lo hi : Nat} {rest : List Value} {ty : TypeId} {need prime : Int} {w : World} {b : Nat} {l : Ses} (h : TyAt lo hi rest ty need prime w b l) (k : Nat) :
    Calls Tryz.prog 16 #[.pointer (some ⟨b, 0, none⟩), .int .i64 (k : Int)] w fun e w' => ∃ u, e = .returned u ∧ w'.ownsRow w.heap.size 3 1 u (slN l k).length (intsV (slN l k)) ∧ Gr w w' := by
  obtain ⟨h1, h2, h3, h4, v, mb, hH, hm, hP, hR, hv⟩ := h
  obtain ⟨av, cv, rfl⟩ := row_slice hR
  obtain ⟨i0, hi0, hz0, hsz0, hby0⟩ := info3x
  have F0 : Hid (Tryz.prog.info? 3 = some i0) := hi0
  have c0 := hH.at 0 _ rfl
  have HRw : Hid (w.ownsRow 0 77 3 (.slice av l.length cv) l.length (sesF l)) := hR
  obtain ⟨n, hn⟩ : ∃ n, l.length = n := ⟨_, rfl⟩
  have HN : Hid (l.length = n) := hn
  rw [hn] at c0 h4
  obtain ⟨N, hN0⟩ : ∃ N, w.heap.size = N := ⟨_, rfl⟩
  have HN0 : Hid (w.heap.size = N) := hN0
  rw [hN0]
  clear hi0 hH hP hR hv hm h1 h2 hn hN0
  go_enter Tryz.func16, Tryz.ntmps16
  go_wp2
  go_loopw [5, 15] (fun v c wr => ∃ i : Nat, c = .int .i64 (i : Int) ∧ i ≤ n ∧ Hid (wr.ownsRow N 3 1 v (slN (l.take i) k).length (intsV (slN (l.take i) k)) ∧ Gr w wr)) (fun _ c _ => n - (intOf c).toNat)
  case atStart => exact ⟨0, rfl, Nat.zero_le _, ⟨rfl, .inl ⟨rfl, rfl⟩⟩, Gr.refl w⟩
  case round =>
    obtain ⟨i, rfl, hi, hRel⟩ := hrel
    by_cases hlt : i < n
    · have hil : i < l.length := by rw [HN.out]; exact hlt
      obtain ⟨s, hs⟩ : ∃ s, l[i]? = some s := ⟨_, List.getElem?_eq_getElem hil⟩
      obtain ⟨x, f, sd⟩ := s
      obtain ⟨g, cap, gs, ev, hG, g0, g1, g2, _⟩ := seat_at HRw.out hs
      have ev' : av = some ⟨g, 0, none⟩ := (Value.slice.inj ev).1
      subst ev'
      have hG2 := hG.below hRel.out.2 hG.lt
      have r0 := hG2.at _ _ g0
      have r1 := hG2.at _ _ g1
      have r2 := hG2.at _ _ g2
      have hst : slN (l.take (i + 1)) k = slN (l.take i) k ++ (if sd = k then [x] else []) := by
        rw [take_snoc l i hil, slN_snoc]
        rw [List.getElem?_eq_getElem hil] at hs
        rw [Option.some.inj hs]
      obtain ⟨ax, cx, rfl⟩ := row_slice hRel.out.1
      have hsl : (slN (l.take i) k).length ≤ i := by
        unfold slN
        rw [List.length_map]
        exact Nat.le_trans (List.length_filter_le _ _) (by rw [List.length_take]; omega)
      generalize slN (l.take i) k = P0 at *
      generalize hP1 : slN (l.take (i + 1)) k = P1 at *
      have HP1 : Hid (slN (l.take (i + 1)) k = P1) := hP1
      have HR : Hid (wr.ownsRow N 3 1 (.slice ax P0.length cx) P0.length (intsV P0) ∧ Gr w wr) := hRel
      clear hP1 hRel hG hG2 ev g0 g1 g2
      generalize hkk : P0.length = kk at *
      have HK : Hid (P0.length = kk) := hkk
      clear hkk
      by_cases hq : sd = k
      · have hq' : ((sd : Int) == (k : Int)) = true := by simp [hq]
        rw [if_pos hq] at hst
        have HST : Hid (P1 = P0 ++ [x]) := hst
        clear hst
        subst hq
        clear hq'
        have g1 : Gr wr (wr.alloc (.cells #[.int .i64 x, .int .i64 f, .int .i64 (sd : Int)] 77)) := Gr.alloc _ _
        have HO : Hid (((wr.alloc (.cells #[.int .i64 x, .int .i64 f, .int .i64 (sd : Int)] 77)).alloc (.cells #[.int .i64 x] 3)).ownsRow N 3 1 (.slice ax kk cx) kk (intsV P0)) := owns_same HR.out.1 fun g' q => Below.block (al2 (o1 := .cells #[.int .i64 x, .int .i64 f, .int .i64 (sd : Int)] 77) (o2 := .cells #[.int .i64 x] 3)) g' (owns_lt HR.out.1 q)
        have HG : Hid (Gr w ((wr.alloc (.cells #[.int .i64 x, .int .i64 f, .int .i64 (sd : Int)] 77)).alloc (.cells #[.int .i64 x] 3))) := HR.out.2.trans al2
        have HNC : Hid (∀ (j : Nat) (u : Value), [Value.int .i64 x][j]? = some u → ((wr.alloc (.cells #[.int .i64 x, .int .i64 f, .int .i64 (sd : Int)] 77)).alloc (.cells #[.int .i64 x] 3)).cell? (Addr.add ⟨wr.heap.size + 1, 0, none⟩ j) = some u) := fun j u hu => World.news_of_block new2 j u hu
        have hNw : N ≤ wr.heap.size := by rw [← HN0.out]; exact HR.out.2.size
        clear HR g1
        go_wp2_with (first
          | (at_builtin; refine wpList_append_src rfl (.tmp 23) (.tmp 27) 46 rfl N 3 i0 _ 1 8 und46 F0.out hz0 hsz0 hby0 (by rfl) (by omega) _ _ _ HO.out rfl [.int .i64 x] _ 1 1 rfl (by rfl) (fun _ => ⟨_, rfl, fun j u hu => HNC.out j u (by simpa using hu)⟩) (by intro v hv; simp at hv; subst hv; rfl) (by unfold maxLen; omega) (by omega) (by simp; omega) ?_; intro v3 w4 own3 gr3 _)
          | go_in)
        refine ⟨⟨i + 1, by simp, by omega, ?_⟩, by simp [intOf]; omega⟩
        rw [HP1.out, HST.out, List.length_append, HK.out, intsV, List.map_append]
        exact ⟨own3, gr_grown HG.out HN0.out HO.out gr3⟩
      · have hq' : ((sd : Int) == (k : Int)) = false := by
          have : ¬ (sd : Int) = (k : Int) := by omega
          simpa using this
        rw [if_neg hq, List.append_nil] at hst
        have HO : Hid ((wr.alloc (.cells #[.int .i64 x, .int .i64 f, .int .i64 (sd : Int)] 77)).ownsRow N 3 1 (.slice ax kk cx) kk (intsV P0) ∧ Gr w (wr.alloc (.cells #[.int .i64 x, .int .i64 f, .int .i64 (sd : Int)] 77))) := ⟨owns_same HR.out.1 fun g' q => Below.block (al1 (o := .cells #[.int .i64 x, .int .i64 f, .int .i64 (sd : Int)] 77)) g' (owns_lt HR.out.1 q), HR.out.2.trans al1⟩
        clear HR
        go_wp2
        refine ⟨⟨i + 1, by simp, by omega, ?_⟩, by simp [intOf]; omega⟩
        rw [HP1.out, hst, HK.out]
        exact HO
    · obtain rfl : i = n := by omega
      have : l.take i = l := List.take_of_length_le (by rw [HN.out]; exact Nat.le_refl _)
      rw [this] at hRel
      go_wp2
      go_ret
      exact ⟨_, rfl, hRel.out⟩
end Go.Proofs.YtmhpfncbbboamaaGreat
