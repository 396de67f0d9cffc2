/- upTo (20) and Due (10), given that timers are sorted as SortOk says. -/
import Derived.Test.YtklkonmdllgeeaaWhNext
import Derived.Test.YtklkonmdllgeeaaWhSetW
namespace Go.Proofs.Ytklkonmdllgeeaa
open Go.RowKit Go.Maps Go.WideMaps

def cellsT (ps : Ts) : List Value := ps.flatMap tmV
theorem cellsT_append (a b : Ts) : cellsT (a ++ b) = cellsT a ++ cellsT b := by simp [cellsT]
theorem cellsT_len (l : Ts) : (cellsT l).length = l.length * 3 := by
  induction l with
  | nil => rfl
  | cons p l ih => simp [cellsT, tmV] at ih ⊢; omega
/-- slices.SortFunc (21) at timers. -/
def SortOk : Prop := ∀ (m : Nat) (W : World) (a : Option Addr) (n c : Nat) (ps : Ts), ps.length < 4294967296 → W.ownsRow m 57 3 (.slice a n c) ps.length (cellsT ps) →
  Calls Try.prog 21 #[.slice a n c, .func (.func 22) #[] #[]] W fun e w' => e = .returned (.tuple #[]) ∧ ∃ l' : Ts, l'.Perm ps ∧ l'.Pairwise (fun x y => leT x y = true) ∧ w'.ownsRow m 57 3 (.slice a n c) l'.length (cellsT l') ∧ Below m W w'
theorem und54 : Try.prog.underlying 54 = some (.slice 57) := by kernel_rfl
theorem und30 : Try.prog.underlying 30 = some (.slice 9) := by kernel_rfl
theorem full57 : (Try.prog.info? 57).map (fun i => (i.zero, i.size, i.bytes)) = some (some (.agg #[.string ⟨#[]⟩, .int .i64 0, .int .u64 0]), 3, 32) := by kernel_rfl
theorem full9 : (Try.prog.info? 9).map (fun i => (i.zero, i.size, i.bytes)) = some (some (.string ⟨#[]⟩), 1, 16) := by kernel_rfl
theorem inf57 : ∃ i, Try.prog.info? 57 = some i ∧ i.zero = some (.agg #[.string ⟨#[]⟩, .int .i64 0, .int .u64 0]) ∧ i.size = 3 ∧ i.bytes = 32 := by
  have := full57
  cases h : Try.prog.info? 57 with
  | none => simp [h] at this
  | some i =>
    simp [h] at this
    exact ⟨i, rfl, this.1, this.2.1, this.2.2⟩
theorem inf9 : ∃ i, Try.prog.info? 9 = some i ∧ i.zero = some (.string ⟨#[]⟩) ∧ i.size = 1 ∧ i.bytes = 16 := by
  have := full9
  cases h : Try.prog.info? 9 with
  | none => simp [h] at this
  | some i =>
    simp [h] at this
    exact ⟨i, rfl, this.1, this.2.1, this.2.2⟩
theorem own_mono {w : World} {m k : Nat} {e : TypeId} {size : Nat} {v : Value} {n : Nat} {xs : List Value} (h : w.ownsRow m e size v n xs) (hk : k ≤ m) : w.ownsRow k e size v n xs := by
  refine ⟨h.1, ?_⟩
  rcases h.2 with h | ⟨g, cap, cur, e1, hb, r⟩
  · exact .inl h
  · exact .inr ⟨g, cap, cur, e1, Nat.le_trans hk hb, r⟩
theorem own_ne {w : World} {m : Nat} {e : TypeId} {size : Nat} {v : Value} {n : Nat} {xs : List Value} (h : w.ownsRow m e size v n xs) (j : Nat) (hj : ∀ cs t fr, w.heap[j]? ≠ some (.cells cs t fr)) : some j ≠ v.ownBlock := fun q => by
  rcases h.2 with ⟨rfl, _⟩ | ⟨g, cap, cur, rfl, hb, hg, r⟩
  · cases q
  · have : j = g := by simpa [Value.ownBlock] using q
    subst this
    exact hj _ _ _ hg
theorem own_same {w w' : World} {m : Nat} {e : TypeId} {size : Nat} {v : Value} {n : Nat} {xs : List Value} (h : w.ownsRow m e size v n xs) (hs : ∀ (i : Nat) cs fr, m ≤ i → w.heap[i]? = some (Obj.cells cs e fr) → w'.heap[i]? = w.heap[i]?) : w'.ownsRow m e size v n xs := by
  refine ⟨h.1, ?_⟩
  rcases h.2 with h | ⟨g, cap, cur, e1, hb, hg, r⟩
  · exact .inl h
  · exact .inr ⟨g, cap, cur, e1, hb, (hs g cur (0, 0) hb hg).trans hg, r⟩
theorem row_slice {w : World} {base : Nat} {e : TypeId} {size : Nat} {v : Value} {n : Nat} {xs : List Value} (h : w.ownsRow base e size v n xs) : ∃ a c, v = .slice a n c := by
  rcases h.2 with ⟨rfl, h0⟩ | ⟨g, cap, cur, rfl, _⟩
  · exact ⟨_, _, by rw [h0]⟩
  · exact ⟨_, _, rfl⟩
/-- What upTo's loop holds. -/
structure UpR (H mb n : Nat) (D : DataW Unit) (l : Ts) (now : Int) (w : World) (left : Lit → Bool) (cnt : Nat) (ps : Ts) (v : Value) (wr : World) : Prop where
  rg : wr.ranges Try.prog 9 tmElem mb H n D left cnt
  came : Came D l left cnt ps
  row : wr.ownsRow (H + 1) 57 3 v (upT now ps).length (cellsT (upT now ps))
  below : Below H w wr
  size : H + 1 ≤ wr.heap.size
theorem upT_snoc (now : Int) (ps : Ts) (x : Tm) : upT now (ps ++ [x]) = if x.2.1 ≤ now then upT now ps ++ [x] else upT now ps := by
  unfold upT
  rw [List.filter_append]
  by_cases h : x.2.1 ≤ now <;> simp [h]
theorem ranges_not {w : World} {mb H n : Nat} {D : DataW Unit} {left : Lit → Bool} {cnt : Nat} (h : w.ranges Try.prog 9 tmElem mb H n D left cnt) : (∀ cs t fr, w.heap[mb]? ≠ some (.cells cs t fr)) ∧ (∀ cs t fr, w.heap[H]? ≠ some (.cells cs t fr)) := by
  obtain ⟨es, clock, since, seen, c0, hb, _, _, _, hr, _⟩ := h
  exact ⟨fun cs t fr q => (by rw [hb] at q; cases q), fun cs t fr q => (by rw [hr] at q; cases q)⟩
/-- Behind an append. -/
theorem up_app {H mb n : Nat} {D : DataW Unit} {w W w3 : World} {left : Lit → Bool} {cnt k : Nat} {v : Value} {cs : List Value} (hR : W.ranges Try.prog 9 tmElem mb H n D left cnt) (hO : W.ownsRow (H + 1) 57 3 v k cs) (hB : Below H w W) (hz : H + 1 ≤ W.heap.size) (gr : W.grownBy w3 v.ownBlock) : w3.ranges Try.prog 9 tmElem mb H n D left cnt ∧ Below H w w3 ∧ H + 1 ≤ w3.heap.size := by
  have hn := ranges_not hR
  refine ⟨hR.kept gr (own_ne hO mb hn.1) (own_ne hO H hn.2), hB.trans ⟨gr.os, gr.tape, gr.output, gr.size, fun g hg => gr.block g (by omega) (fun e => ?_)⟩, Nat.le_trans hz gr.size⟩
  have := (hO.lt g e.symm).1
  omega
set_option maxHeartbeats 3200000 in
set_option maxRecDepth 100000 in
theorem upTo_any (hsort : SortOk) (N b : Nat) (l : Ts) (t : Nat) (now : Int) (ht : t < 1073741824) (w : World) (h : WheelAt N w b l t) : Calls Try.prog 20 #[.pointer (some ⟨b, 0, none⟩), .int .i64 now] w fun e w' => ∃ v, e = .returned v ∧ w'.ownsRow w.heap.size 57 3 v (dueT now l).length (cellsT (dueT now l)) ∧ Below w.heap.size w w' := by
  obtain ⟨i57, F57', hz57, hs57, hb57⟩ := inf57
  have F57 : Hid (Try.prog.info? 57 = some i57) := F57'
  clear F57'
  obtain ⟨h1, h2, h3, mv, hH, ⟨rfl, rfl⟩ | ⟨mb, rfl, hmb, hT⟩⟩ := h
  · have c0 := hH.at 0 _ rfl
    have hrg := run_range_nilMap (P := Try.prog) w 47 9 57 und47
    have hnx : ∀ ty, (Instr.next (.pointer (some ⟨w.heap.size, 0, none⟩)) false ty).run Try.prog (w.alloc (.mapIter none 0 #[] 0)) = _ := fun ty => run_next_nilMap w ty 0 0 #[]
    have hd : dueT now ([] : Ts) = [] := by simp [dueT, upT]
    rw [hd]
    have hso := hsort w.heap.size (w.alloc (.mapIter none 0 #[] 0)) none 0 0 [] (by simp) (World.ownsRow_nil _ _ _ _)
    go_enter Try.func20, Try.ntmps20
    go_wp2_with fail
    go_loopw [5] (fun v wr => v = .slice none 0 0 ∧ wr = w.alloc (.mapIter none 0 #[] 0)) (fun _ _ => 0)
    case atStart => exact ⟨rfl, rfl⟩
    case round =>
      obtain ⟨rfl, rfl⟩ := hrel
      go_wp2_with (go_at_call 21; refine hso.mono ?_; rintro e w2 ⟨rfl, l', hp, hs, hr, hb⟩)
      go_ret
      obtain rfl : l' = [] := hp.eq_nil
      exact ⟨_, rfl, hr, ((Below.refl _ _).alloc (Nat.le_refl _) _).trans hb⟩
  · have c0 := hH.at 0 _ rfl
    obtain ⟨n, D, hown, hM⟩ := hT
    have hsz := names_size hown h2.nodup hM
    obtain ⟨H, hHs⟩ : ∃ H, w.heap.size = H := ⟨_, rfl⟩
    have HH : Hid (w.heap.size = H) := hHs
    have hmbH : mb < H := hHs ▸ hown.lt
    rw [hHs]
    have hMM : Hid (MapOf D l) := hM
    have hFF : Hid (Fine l t) := h2
    have hDs : Hid (Maps.size D < 1073741824) := by have := h2.len; show Maps.size D < 1073741824; omega
    have HSo : Hid SortOk := hsort
    clear hM h2 hH hsz hsort
    go_enter Try.func20, Try.ntmps20
    go_wp2_with (first
      | (at_range; refine wpList_range_own _ rfl _ 47 rfl 9 57 law9 und47 tmElem mb n D rfl hown ?_; intro w0 hrg0 hg0 hs0; rw [HH.out] at hrg0)
      | go_in)
    go_frame
    rw [hHs]
    go_loopw [5] (fun v wr => ∃ left cnt ps, Hid (UpR H mb n D l now w left cnt ps v wr)) (fun _ wr => wr.rangeLeft mb H)
    case atStart => exact ⟨_, _, [], ⟨hrg0, Came.start D l, World.ownsRow_nil _ _ _ _, ⟨hg0.os, hg0.tape, hg0.output, hg0.size, fun k hk => hg0.block k (by omega) (by simp)⟩, by rw [hs0, hHs]; exact Nat.le_refl _⟩⟩
    case round =>
      clear hrg0 hg0 hs0
      obtain ⟨left, cnt, ps, hR⟩ := hrel
      obtain ⟨a, c, rfl⟩ := row_slice hR.out.row
      have hm0 : Hid (wr.rangeLeft mb H = cnt) := hR.out.rg.left_eq
      go_wp2_with (first
        | (at_next; refine wpList_next_tms _ rfl _ rfl mb H n D hMM.out _ _ ps hR.out.came rfl hR.out.rg ?_ ?_)
        | go_in)
      · intro hl0
        have hp := hR.out.came.all hMM.out hFF.out.nodup hl0
        have hpu : (upT now ps).Perm (upT now l) := hp.filter _
        have hso : Hid (Calls Try.prog 21 #[.slice a (upT now ps).length c, .func (.func 22) #[] #[]] wr fun e w' => e = .returned (.tuple #[]) ∧ Hid (w'.ownsRow H 57 3 (.slice a (upT now ps).length c) (dueT now l).length (cellsT (dueT now l)) ∧ Below H w w')) := by
          refine (HSo.out (H + 1) wr a _ c (upT now ps) ?_ hR.out.row).mono ?_
          · have h1 := hR.out.came.cnt
            have h2 : (upT now ps).length ≤ ps.length := List.length_filter_le _ _
            have := hDs.out
            omega
          · rintro e w' ⟨e1, l', hp', hs', hr', hb'⟩
            have : l' = dueT now l := due_sorted hFF.out (hp'.trans hpu) hs'
            subst this
            exact ⟨e1, own_mono hr' (by omega), hR.out.below.trans (hb'.mono (by omega))⟩
        clear hpu hp hR hm0
        generalize (upT now ps).length = k at *
        go_wp2_with (go_at_call 21; refine hso.out.mono ?_; rintro e w2 ⟨rfl, hr⟩)
        go_ret
        exact ⟨_, rfl, hr.out.1, hr.out.2⟩
      · intro x1 x2 x3 w1 left1 cnt1 hxl hrg1 hC1 hlt hg1 hs1 hen
        have hne := ranges_not hR.out.rg
        have hrow1 : w1.ownsRow (H + 1) 57 3 (.slice a (upT now ps).length c) (upT now ps).length (cellsT (upT now ps)) := own_same hR.out.row (fun i cs fr hi hc => hg1.block i (Array.getElem?_eq_some_iff.1 hc).1 (fun e => by cases e; omega))
        have hb1 : Below H w w1 := hR.out.below.trans ⟨hg1.os, hg1.tape, hg1.output, hg1.size, fun k hk => hg1.block k (by have := hR.out.size; omega) (fun e => by cases e; omega)⟩
        have hz1 : H + 1 ≤ w1.heap.size := by rw [hs1]; exact hR.out.size
        have hcl := hR.out.came.cnt
        have hR1 : Hid (Came D l left1 cnt1 (ps ++ [(x1, x2, x3)]) ∧ cnt1 < cnt ∧ Below H w w1) := ⟨hC1, hlt, hb1⟩
        have hlen : (upT now ps).length < 1073741824 := by
          have h2 : (upT now ps).length ≤ ps.length := List.length_filter_le _ _
          have := hDs.out
          omega
        simp only [tmV] at hen
        clear hR hC1 hb1 hs1 hcl hne hg1 hlt
        by_cases hx : x2 ≤ now
        · have HUP : Hid (upT now (ps ++ [(x1, x2, x3)]) = upT now ps ++ [(x1, x2, x3)]) := by
            show upT now (ps ++ [(x1, x2, x3)]) = _
            rw [upT_snoc, if_pos hx]
          have HRG : Hid (w1.ranges Try.prog 9 tmElem mb H n D left1 cnt1) := hrg1
          have HOW : Hid (w1.ownsRow (H + 1) 57 3 (.slice a (upT now ps).length c) (upT now ps).length (cellsT (upT now ps))) := hrow1
          have hzz : ((w1.alloc (.cells #[.string (strL x1), .int .i64 x2, .int .u64 (x3 : Int)] 57))).heap.size = w1.heap.size + 1 := by simp
          have HNC : Hid (∀ (j : Nat) (u : Value), [Value.string (strL x1), .int .i64 x2, .int .u64 (x3 : Int)][j]? = some u → ((w1.alloc (.cells #[.string (strL x1), .int .i64 x2, .int .u64 (x3 : Int)] 57)).alloc (.cells #[.string (strL x1), .int .i64 x2, .int .u64 (x3 : Int)] 57)).cell? (Addr.add ⟨w1.heap.size + 1, 0, none⟩ j) = some u) := fun j u hu => by
            have := World.news_of_block (heap_alloc_new (w1.alloc (.cells #[.string (strL x1), .int .i64 x2, .int .u64 (x3 : Int)] 57)) (.cells #[.string (strL x1), .int .i64 x2, .int .u64 (x3 : Int)] 57)) j u hu
            rw [hzz] at this
            exact this
          clear hrg1 hrow1
          obtain ⟨cs, hcs⟩ : ∃ cs, cellsT (upT now ps) = cs := ⟨_, rfl⟩
          obtain ⟨k, hkk⟩ : ∃ k, (upT now ps).length = k := ⟨_, rfl⟩
          have HCS : Hid (cellsT (upT now ps) = cs) := hcs
          have HK : Hid ((upT now ps).length = k) := hkk
          rw [hcs, hkk] at HOW
          rw [hkk] at hlen ⊢
          clear hcs hkk
          go_wp2_with (first
            | (at_builtin; refine wpList_append_src rfl (.tmp 21) (.tmp 23) 54 rfl (H + 1) 57 i57 _ 3 32 und54 F57.out hz57 hs57 hb57 (by rfl) (by omega) _ _ _ ((HOW.out.alloc _).alloc _) rfl [.string (strL x1), .int .i64 x2, .int .u64 (x3 : Int)] _ 1 1 rfl (by rfl) (fun _ => ⟨_, rfl, fun j u hu => HNC.out j u hu⟩) (fun u hu => by simp at hu; rcases hu with rfl | rfl | rfl <;> rfl) (by unfold maxLen; omega) (by omega) (by simp; omega) ?_; intro v3 w3 own3 gr3 _)
            | go_in)
          obtain ⟨q1, q2, q3⟩ := up_app ((HRG.out.alloc _).alloc _) ((HOW.out.alloc _).alloc _) ((hR1.out.2.2.alloc (by omega) _).alloc (by simp; omega) _) (by simp; omega) gr3
          go_roundw
          case rel =>
            refine ⟨left1, cnt1, ps ++ [(x1, x2, x3)], ⟨q1, hR1.out.1, ?_, q2, q3⟩⟩
            rw [HUP.out, cellsT_append, List.length_append, HCS.out, HK.out]
            exact own3
          case measure => rw [q1.left_eq, hm0.out]; exact hR1.out.2.1
        · have HUP : Hid (upT now (ps ++ [(x1, x2, x3)]) = upT now ps) := by
            show upT now (ps ++ [(x1, x2, x3)]) = _
            rw [upT_snoc, if_neg hx]
          have HRG : Hid (w1.ranges Try.prog 9 tmElem mb H n D left1 cnt1) := hrg1
          have HOW : Hid (w1.ownsRow (H + 1) 57 3 (.slice a (upT now ps).length c) (upT now ps).length (cellsT (upT now ps))) := hrow1
          clear hrg1 hrow1
          go_wp2
          go_roundw
          case rel =>
            refine ⟨left1, cnt1, ps ++ [(x1, x2, x3)], ⟨HRG.out.alloc _, hR1.out.1, ?_, hR1.out.2.2.alloc (by omega) _, by simp; omega⟩⟩
            rw [HUP.out]
            exact HOW.out.alloc _
          case measure => rw [(HRG.out.alloc _).left_eq, hm0.out]; exact hR1.out.2.1
end Go.Proofs.Ytklkonmdllgeeaa
