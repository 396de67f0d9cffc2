/- Read (30): what is read is told only if it is written so. -/
import Derived.Test.YtbmeflildmeecaaClText
import Derived.Test.YtbmeflildmeecaaPkReaders
namespace Go.Proofs.Ytbmeflildmeecaa
open Go.RowKit Go.Shelf Go.Sort Go.Lib Pk

/-- A reader's Num, at what is left and its error. -/
def rdN (st : ByteArray × Int) : Nat × (ByteArray × Int) := if st.2 = 0 then (nV st.1, (restR (nE st.1) (nR st.1), nE st.1)) else (0, st)
def rdDots : Nat → ByteArray × Int → List Dt × (ByteArray × Int)
  | 0, st => ([], st)
  | k + 1, st => ((rdDots k st).1 ++ [((rdN (rdDots k st).2).1, (rdN (rdN (rdDots k st).2).2).1)], (rdN (rdN (rdDots k st).2).2).2)
def rdMany (s : ByteArray) : ByteArray × Int := (restR (manyE s 2) (nR s), manyE s 2)
def readL (s : ByteArray) : List Dt := (rdDots (mnV s 2) (rdMany s)).1
theorem rdN_lt (st : ByteArray × Int) : (rdN st).1 < 18446744073709551616 := by
  unfold rdN
  split
  · exact nV_lt _
  · show 0 < _; omega
theorem rdN_size (st : ByteArray × Int) : (rdN st).2.1.size ≤ st.1.size := by
  unfold rdN
  split
  · show (restR _ _).size ≤ _
    unfold restR
    split
    · exact nR_size _
    · exact Nat.zero_le _
  · exact Nat.le_refl _
theorem rdDots_len (k : Nat) (st : ByteArray × Int) : (rdDots k st).1.length = k := by
  induction k with
  | zero => rfl
  | succ k ih => rw [rdDots, List.length_append, ih]; rfl
theorem rdDots_size (k : Nat) (st : ByteArray × Int) : (rdDots k st).2.1.size ≤ st.1.size := by
  induction k with
  | zero => exact Nat.le_refl _
  | succ k ih => exact Nat.le_trans (rdN_size _) (Nat.le_trans (rdN_size _) ih)
theorem rdDots_fit (k : Nat) (st : ByteArray × Int) : Fit (rdDots k st).1 := by
  induction k with
  | zero => intro d hd; cases hd
  | succ k ih =>
    intro d hd
    rw [rdDots, List.mem_append] at hd
    rcases hd with h | h
    · exact ih d h
    · simp at h; rw [h]; exact ⟨rdN_lt _, rdN_lt _⟩
theorem readL_fit (s : ByteArray) : Fit (readL s) := rdDots_fit _ _
theorem mnV_le (s : ByteArray) : mnV s 2 ≤ s.size := by
  unfold mnV
  by_cases h : manyE s 2 = 0
  · rw [if_pos h]
    unfold manyE at h
    by_cases h1 : nE s = 0
    · rw [if_pos h1] at h
      by_cases h2 : (nR s).size / (max (2 : Int) 1).toNat < nV s
      · rw [if_pos h2] at h; cases h
      · have := nR_size s
        have e : (max (2 : Int) 1).toNat = 2 := rfl
        rw [e] at h2
        omega
    · rw [if_neg h1] at h; exact absurd h h1
  · rw [if_neg h]; exact Nat.zero_le _
theorem rdMany_size (s : ByteArray) : (rdMany s).1.size ≤ s.size := by
  show (restR _ _).size ≤ _
  unfold restR
  split
  · exact nR_size _
  · exact Nat.zero_le _
theorem readL_len (s : ByteArray) : (readL s).length ≤ s.size := by rw [readL, rdDots_len]; exact mnV_le s

theorem num_u (b : Nat) (st : ByteArray × Int) (hs : st.1.size < 9223372036854775808) (w : World) (hr : Rd w b st.1 st.2) :
    Calls Try.prog 49 #[.pointer (some ⟨b, 0, none⟩)] w fun x w' => x = .returned (.int .u64 ((rdN st).1 : Int)) ∧ Rd w' b (rdN st).2.1 (rdN st).2.2 ∧ Upd b w w' := by
  obtain ⟨s, E⟩ := st
  by_cases h : E = 0
  · subst h
    have := num_ok b s hs w hr
    have e : rdN (s, 0) = (nV s, (restR (nE s) (nR s), nE s)) := rfl
    rw [e]
    exact this
  · have := num_err b s E h w hr
    have e : rdN (s, E) = (0, (s, E)) := by unfold rdN; rw [if_neg h]
    rw [e]
    exact this.mono (by rintro x w' ⟨rfl, rfl⟩; exact ⟨rfl, hr, Upd.refl _ _⟩)
theorem own_upd {w w' : World} {m n b : Nat} {v : Value} {xs : List Value} (h : w.ownsRow m 33 2 v n xs) (hu : Upd b w w') (hb : ∀ cs fr, w.heap[b]? ≠ some (.cells cs 33 fr)) : w'.ownsRow m 33 2 v n xs := by
  obtain ⟨h1, h2⟩ := h
  refine ⟨h1, ?_⟩
  rcases h2 with q | ⟨g, cap, cur, e, hg, hh, r⟩
  · exact .inl q
  · refine .inr ⟨g, cap, cur, e, hg, ?_, r⟩
    rw [hu.block g (Array.getElem?_eq_some_iff.1 hh).1 (fun e => hb cur (0, 0) (by rw [← e]; exact hh))]
    exact hh
theorem str_ne {a b : ByteArray} (h : ¬ a = b) : (a.toList == b.toList) = false := by
  refine beq_eq_false_iff_ne.2 (fun e => h ?_)
  rw [ByteArray.toList_eq, ByteArray.toList_eq] at e
  obtain ⟨a⟩ := a
  obtain ⟨b⟩ := b
  exact congrArg ByteArray.mk (Array.toList_inj.1 e)
/-- What Read tells. -/
def rdOk (s : ByteArray) : Bool := decide (strL (bytesC (readL s)) = s)
def rdV (s : ByteArray) : List Dt := if rdOk s then readL s else []
def rdE (s : ByteArray) : Int := if rdOk s then 0 else 31
def MakesE (w : World) (c : List Dt) (E : Int) (e : Ending) (w' : World) : Prop := ∃ a cap, e = .returned (.tuple #[.slice a c.length cap, .int .i64 E]) ∧ Clk (From w.heap.size w') w' (.slice a c.length cap) c ∧ Below w.heap.size w w'

set_option maxRecDepth 100000 in
set_option maxHeartbeats 8000000 in
theorem cread_any (s : ByteArray) (hs : s.size ≤ 549755813888) (w : World) : Calls Try.prog 30 #[.string s] w (MakesE w (rdV s) (rdE s)) := by
  obtain ⟨i0, hi, hz0, hz1, hz2⟩ := info_parts info33
  have F33 : Hid (Try.prog.info? 33 = some i0) := hi
  clear hi
  have h47 := read_any s w
  have h48 := fun W hr => many_ok w.heap.size s (by omega) 2 W hr
  obtain ⟨n, hn⟩ : ∃ n, mnV s 2 = n := ⟨_, rfl⟩
  have hnl := mnV_le s
  have hms := rdMany_size s
  rw [hn] at h48 hnl
  unfold TakeP at h48
  obtain ⟨m, hm⟩ : ∃ m, w.heap.size = m := ⟨_, rfl⟩
  rw [hm] at h47 h48
  go_enter Try.func30, Try.ntmps30
  go_wp2_with (first
    | (go_at_call 48; refine (h48 _ hR1).mono ?_; rintro e w2 ⟨rfl, hR2, hU2⟩)
    | (go_at_call 47; refine h47.mono ?_; rintro e w1 ⟨rfl, hR1, hB1⟩))
  have hB2 : Below m w w2 := hB1.trans (hU2.below (Nat.le_refl _) (by have := hB1.size; omega))
  go_loopw [4, 10] (fun v c wr => ∃ k : Nat, k ≤ n ∧ c = .int .i64 (k : Int) ∧ wr.ownsRow m 33 2 v k (cellsD (rdDots k (rdMany s)).1) ∧ Rd wr m (rdDots k (rdMany s)).2.1 (rdDots k (rdMany s)).2.2 ∧ Below m w wr) (fun _ c _ => n - (intOf c).toNat)
  case atStart => exact ⟨0, by omega, rfl, World.ownsRow_nil _ _ _ _, hR2, hB2⟩
  case round =>
    obtain ⟨k, hk, rfl, hown, hR, hB⟩ := hrel
    rcases Nat.lt_or_ge k n with hlt | hge
    · have hsz := rdDots_size k (rdMany s)
      have hd : rdDots (k + 1) (rdMany s) = ((rdDots k (rdMany s)).1 ++ [((rdN (rdDots k (rdMany s)).2).1, (rdN (rdN (rdDots k (rdMany s)).2).2).1)], (rdN (rdN (rdDots k (rdMany s)).2).2).2) := rfl
      generalize hdk1 : rdDots (k + 1) (rdMany s) = dk1 at *
      generalize hdk : rdDots k (rdMany s) = dk at *
      obtain ⟨l, st⟩ := dk
      dsimp only at hown hR hd hsz
      have n1 := fun W h => num_u m st (by omega) W h
      have n2 := fun W h => num_u m (rdN st).2 (by have := rdN_size st; omega) W h
      generalize (rdN (rdN st).2) = r2 at *
      obtain ⟨x2, st2⟩ := r2
      have hst := rdN_size st
      generalize rdN st = r1 at *
      obtain ⟨x1, st1⟩ := r1
      dsimp only at n1 n2 hd
      have hle : m ≤ wr.heap.size := by have := hB.size; omega
      have hno : ∀ W sx (E : Int), Rd W m sx E → ∀ cs fr, W.heap[m]? ≠ some (.cells cs 33 fr) := fun W sx E h cs fr e => by
        have h' : W.heap[m]? = some (.cells (Pk.rdV sx E).toArray 91 (0, 0)) := h
        rw [h'] at e
        simp at e
      have hstep : ∀ w4 w5 : World, ∀ g cap', Rd w4 m st2.1 st2.2 → w4.ownsRow m 33 2 u4 k (cellsD l) → Below m w w4 →
          w5.ownsRow m 33 2 (.slice (some ⟨g, 0, none⟩) (k + 1) cap') (k + 1) (cellsD l ++ [.int .u64 (x1 : Int), .int .u64 (x2 : Int)]) → (w4.alloc (.cells #[.int .u64 (x1 : Int), .int .u64 (x2 : Int)] 33)).grownBy w5 u4.ownBlock →
          w5.ownsRow m 33 2 (.slice (some ⟨g, 0, none⟩) (k + 1) cap') (k + 1) (cellsD dk1.1) ∧ Rd w5 m dk1.2.1 dk1.2.2 ∧ Below m w w5 := by
        intro w4 w5 g cap' hR4 hown4 hB4 hown5 hgrow
        have hle4 : m ≤ w4.heap.size := by have := hB4.size; omega
        subst hd
        refine ⟨?_, ?_, ?_⟩
        · show w5.ownsRow m 33 2 _ (k + 1) (cellsD (l ++ [(x1, x2)]))
          rw [cellsD_append]; exact hown5
        · have h4 := Holds.alloc hR4 (.cells #[.int .u64 (x1 : Int), .int .u64 (x2 : Int)] 33)
          show w5.heap[m]? = _
          rw [hgrow.block m h4.lt (fun e => by
            rcases hown4.2 with ⟨e2, _⟩ | ⟨g2, c2, cur, e2, _, hh, _⟩
            · rw [e2] at e; cases e
            · rw [e2] at e; cases e; exact hno _ _ _ hR4 _ _ hh)]
          exact h4
        · exact (hB4.alloc hle4 _).grown hgrow (by simp; omega) (fun j e => own_base hown4 j e)
      clear hd
      have hnews : ∀ W : World, ∀ (j : Nat) (u : Value), [Value.int .u64 (x1 : Int), .int .u64 (x2 : Int)][j]? = some u → (W.alloc (.cells #[.int .u64 (x1 : Int), .int .u64 (x2 : Int)] 33)).cell? ((⟨W.heap.size, 0, none⟩ : Addr).add j) = some u := fun W => World.news_of_block (heap_alloc_new W _)
      have HN : Hid (∀ W : World, ∀ (j : Nat) (u : Value), [Value.int .u64 (x1 : Int), .int .u64 (x2 : Int)][j]? = some u → (W.alloc (.cells #[.int .u64 (x1 : Int), .int .u64 (x2 : Int)] 33)).cell? ((⟨W.heap.size, 0, none⟩ : Addr).add j) = some u) := hnews
      clear hnews
      go_wp2_with (first
        | (at_builtin; refine wpList_append_lies _ rfl (.tmp 12) (.tmp 18) 28 rfl m 33 i0 (.agg #[.int .u64 0, .int .u64 0]) 2 16 Try.underlying28 F33.out hz0 hz1 hz2 rfl (by omega) u4 k (cellsD l) rfl (hown4.alloc _) ⟨w4.heap.size, 0, none⟩ 1 1 [.int .u64 (x1 : Int), .int .u64 (x2 : Int)] rfl rfl (HN.out w4) (by intro u hu; simp at hu; rcases hu with rfl | rfl <;> rfl) (by omega) (by unfold maxLen; omega) (by omega) (by simp; omega) (w4.heap.size + 1) (by simp) ?_; intro g cap' w5 hown5 hgrow hat hlt5; obtain ⟨r1, r2, r3⟩ := hstep w4 w5 g cap' hR4 hown4 hB4 hown5 hgrow)
        | (go_at_call 49; refine (n2 w3 hR3).mono ?_; rintro e w4 ⟨rfl, hR4, hU4⟩; have hown4 := own_upd hown3 hU4 (hno _ _ _ hR3); have hle3 := hB3.size; have hB4 : Below m w w4 := hB3.trans (hU4.below (Nat.le_refl _) (by omega)); have hle4 : m ≤ w4.heap.size := (by have := hB4.size; omega))
        | (go_at_call 49; refine (n1 wr hR).mono ?_; rintro e w3 ⟨rfl, hR3, hU3⟩; have hown3 := own_upd hown hU3 (hno _ _ _ hR); have hB3 : Below m w w3 := hB.trans (hU3.below (Nat.le_refl _) hle)))
      go_roundw
      case rel => exact ⟨k + 1, by omega, by simp, by rw [hdk1]; exact r1, by rw [hdk1]; exact r2, r3⟩
      case measure => simp; omega
    · obtain rfl : k = n := by omega
      have hLe : (rdDots k (rdMany s)).1 = readL s := by unfold readL; rw [hn]
      rw [hLe] at hown
      have hLl : (readL s).length = k := by rw [← hLe, rdDots_len]
      have hclk : Clk (From m wr) wr u4 (readL s) := by
        rcases own_holds hown hLl.symm with ⟨rfl, e⟩ | ⟨g, cap, tl, rfl, hg, _, hH⟩
        · rw [e]; exact Clk.nil _ _ _ _
        · exact clk_row ⟨hg, hH.lt⟩ hH.row
      have h28 := bytes_any u4 (readL s) (by omega) (readL_fit s) wr hclk.made
      obtain ⟨a4, c4, rfl, _⟩ := id hclk
      have R1 : strL (bytesC (readL s)) = s → ∀ w6, Below wr.heap.size wr w6 → MakesE w (rdV s) (rdE s) (.returned (.tuple #[.slice a4 (readL s).length c4, .int .i64 0])) w6 := fun hok w6 b6 => by
        have e1 : rdV s = readL s := by unfold rdV rdOk; rw [decide_eq_true hok]; rfl
        have e2 : rdE s = 0 := by unfold rdE rdOk; rw [decide_eq_true hok]; rfl
        rw [e1, e2]
        have hle : m ≤ wr.heap.size := by have := hB.size; omega
        refine ⟨a4, c4, rfl, ?_, hm ▸ hB.trans (b6.mono hle)⟩
        exact (hclk.keep (Kp.ofBelow b6 (fun k hk => hk.2))).mono (fun k hk => ⟨hm ▸ hk.1, Nat.lt_of_lt_of_le hk.2 b6.size⟩)
      have R2 : ¬ strL (bytesC (readL s)) = s → ∀ w6, Below wr.heap.size wr w6 → MakesE w (rdV s) (rdE s) (.returned (.tuple #[.slice none 0 0, .int .i64 31])) w6 := fun hok w6 b6 => by
        have e1 : rdV s = [] := by unfold rdV rdOk; rw [decide_eq_false hok]; rfl
        have e2 : rdE s = 31 := by unfold rdE rdOk; rw [decide_eq_false hok]; rfl
        rw [e1, e2]
        have hle : m ≤ wr.heap.size := by have := hB.size; omega
        exact ⟨none, 0, rfl, Clk.nil _ _ _ _, hm ▸ hB.trans (b6.mono hle)⟩
      have H28 : Hid (Calls Try.prog 28 #[.slice a4 (readL s).length c4] wr fun e w' => e = .returned (.string (strL (bytesC (readL s)))) ∧ Below wr.heap.size wr w') := h28
      clear hown hR hclk h28 hLe hnl hms hB
      generalize strL (bytesC (readL s)) = T at *
      rw [hLl] at H28 R1 ⊢
      clear hLl
      by_cases hok : T = s
      · subst hok
        have R := R1 rfl
        clear R1 R2
        have HR : Hid (∀ w6, Below wr.heap.size wr w6 → MakesE w (rdV T) (rdE T) (.returned (.tuple #[.slice a4 k c4, .int .i64 0])) w6) := R
        clear R
        go_wp2_with (go_at_call 28; refine H28.out.mono ?_; rintro e w6 ⟨rfl, b6⟩)
        go_ret2
        exact HR.out w6 b6
      · have R := R2 hok
        clear R1 R2
        have HR : Hid (∀ w6, Below wr.heap.size wr w6 → MakesE w (rdV s) (rdE s) (.returned (.tuple #[.slice none 0 0, .int .i64 31])) w6) := R
        clear R
        have hok' : (T.toList == s.toList) = false := str_ne hok
        clear hok
        go_wp2_with (go_at_call 28; refine H28.out.mono ?_; rintro e w6 ⟨rfl, b6⟩)
        go_ret2
        exact HR.out w6 b6
end Go.Proofs.Ytbmeflildmeecaa
