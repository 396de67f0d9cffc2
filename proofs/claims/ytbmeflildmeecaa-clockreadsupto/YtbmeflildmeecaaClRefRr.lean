/- The document's Read (36): what it takes is what the program's takes. -/
import Derived.Test.YtbmeflildmeecaaClRefTk
import Derived.Test.YtbmeflildmeecaaClRefBytes
namespace Go.Proofs.Ytbmeflildmeecaa
open Go.RowKit Go.Shelf Go.Sort Go.Lib Pk

theorem bytes_ext {a b : ByteArray} (h : a.data.toList = b.data.toList) : a = b := by
  obtain ⟨a⟩ := a
  obtain ⟨b⟩ := b
  exact congrArg ByteArray.mk (Array.toList_inj.1 h)
theorem list_app (a b : ByteArray) : (a ++ b).data.toList = a.data.toList ++ b.data.toList := by simp
theorem nE_split {s : ByteArray} (h : nE s = 0) : s = strL (numL (nV s)) ++ nR s := by
  have h1 : numL (nV s) = numB s.data.toList := num_one h
  apply bytes_ext
  rw [list_app, strL_list, h1]
  unfold nR numB
  rw [ext_tail, List.take_append_drop]
theorem rdN_ok {st : ByteArray × Int} (h : (rdN st).2.2 = 0) : st.2 = 0 ∧ st.1 = strL (numL (rdN st).1) ++ (rdN st).2.1 := by
  unfold rdN at h ⊢
  by_cases h0 : st.2 = 0
  · rw [if_pos h0] at h ⊢
    have h : nE st.1 = 0 := h
    refine ⟨h0, ?_⟩
    show st.1 = strL (numL (nV st.1)) ++ restR (nE st.1) (nR st.1)
    unfold restR
    rw [if_pos h]
    exact nE_split h
  · rw [if_neg h0] at h
    exact absurd h h0
theorem rdDots_ok (k : Nat) (st : ByteArray × Int) (h : (rdDots k st).2.2 = 0) : st.2 = 0 ∧ st.1 = strL ((rdDots k st).1.flatMap dotB) ++ (rdDots k st).2.1 := by
  induction k with
  | zero =>
    refine ⟨h, ?_⟩
    apply bytes_ext
    rw [list_app]
    rfl
  | succ k ih =>
    obtain ⟨e1, e2⟩ := rdDots_step k st
    rw [e2] at h
    obtain ⟨h1, h2⟩ := rdN_ok h
    obtain ⟨h3, h4⟩ := rdN_ok h1
    obtain ⟨h5, h6⟩ := ih h3
    refine ⟨h5, ?_⟩
    rw [e1, e2, h6, List.flatMap_append]
    generalize (rdDots k st).1.flatMap dotB = T
    rw [h4, h2]
    apply bytes_ext
    simp [strL, dotB]
def rrOk (s : ByteArray) : Bool := tkB s && decide ((tkS s).1.size = 0)
theorem size_zero {s : ByteArray} (h : s.size = 0) : s = ⟨#[]⟩ := by
  obtain ⟨d⟩ := s
  have : d = #[] := Array.eq_empty_of_size_eq_zero h
  rw [this]
theorem tk_bytes {s : ByteArray} (h : (tkS s).2 = 0) : s = strL (bytesR (readL s)) ++ (tkS s).1 := by
  obtain ⟨h1, h2⟩ := rdDots_ok _ _ h
  have hE : manyE s 2 = 0 := h1
  have hn : nE s = 0 := by
    unfold manyE at hE
    by_cases q : nE s = 0
    · exact q
    · rw [if_neg q] at hE; exact hE
  have hm : mnV s 2 = nV s := by unfold mnV; rw [if_pos hE]
  have hM : (rdMany s).1 = nR s := by
    show restR (manyE s 2) (nR s) = _
    unfold restR
    rw [if_pos hE]
  rw [hM] at h2
  have hl : (readL s).length = nV s := by unfold readL; rw [rdDots_len, hm]
  have h3 := nE_split hn
  rw [h2] at h3
  unfold bytesR
  rw [hl]
  have h4 : strL (numL (nV s) ++ (readL s).flatMap dotB) = strL (numL (nV s)) ++ strL ((readL s).flatMap dotB) := (strL_append _ _).symm
  rw [h4]
  refine h3.trans ?_
  apply bytes_ext
  simp only [list_app, List.append_assoc]
  rfl
theorem back_all (c : List Dt) (hf : Fit c) (hl : c.length < 18446744073709551616) : rdDots (mnV (strL (bytesR c)) 2) (rdMany (strL (bytesR c))) = (c, (strL [], 0)) := by
  have hb := num_back c.length hl (c.flatMap dotB)
  have h1 : nE (strL (bytesR c)) = 0 := hb.1
  have h2 : nV (strL (bytesR c)) = c.length := hb.2.1
  have h3 : nR (strL (bytesR c)) = strL (c.flatMap dotB) := nR_back c.length hl _
  have h4 : manyE (strL (bytesR c)) 2 = 0 := by
    unfold manyE
    rw [if_pos h1, h3, h2, if_neg]
    have e : (max (2 : Int) 1).toNat = 2 := rfl
    have := dotB_min c
    rw [e, strL_size]
    omega
  have h5 : mnV (strL (bytesR c)) 2 = c.length := by unfold mnV; rw [if_pos h4, h2]
  unfold rdMany
  rw [h5, h4, h3]
  show rdDots c.length (strL (c.flatMap dotB), 0) = _
  rw [rdDots_back c hf c.length (Nat.le_refl _)]
  simp
theorem rr_eq (s : ByteArray) (hs : s.size ≤ 549755813888) : rrOk s = rdOk s := by
  rw [Bool.eq_iff_iff]
  constructor
  · intro h
    unfold rrOk tkB at h
    simp only [Bool.and_eq_true, decide_eq_true_eq] at h
    obtain ⟨⟨h1, h2⟩, h3⟩ := h
    have hb := tk_bytes h1
    rw [size_zero h3] at hb
    unfold rdOk bytesC
    rw [norm_id h2]
    refine decide_eq_true (hb.trans ?_).symm
    apply bytes_ext
    rw [list_app]
    simp
  · intro h
    have hb : strL (bytesC (readL s)) = s := of_decide_eq_true h
    have hf := (readL_fit s).norm
    have hl : (norm (readL s)).length < 18446744073709551616 := by
      have h1 := norm_len (readL s)
      have h2 := readL_len s
      omega
    have hR := norm_right (readL s)
    unfold bytesC at hb
    generalize norm (readL s) = c at *
    subst hb
    have ha := back_all c hf hl
    unfold rrOk tkB tkS readL
    rw [ha]
    simp only [Bool.and_eq_true, decide_eq_true_eq]
    exact ⟨⟨trivial, hR⟩, rfl⟩
set_option maxRecDepth 100000 in
set_option maxHeartbeats 2000000 in
theorem refRead_any (s : ByteArray) (hs : s.size ≤ 549755813888) (w : World) : Calls Try.prog 36 #[.string s] w (MakesE w (rdV s) (rdE s)) := by
  have hq : Rq (w.alloc (.cells #[.string s, .int .i64 0] 78)) w.heap.size s 0 := holds_new w [.string s, .int .i64 0] 78
  have h52 := take_any w.heap.size s hs (w.alloc (.cells #[.string s, .int .i64 0] 78)) hq
  have hrr := rr_eq s hs
  have hEnd : Hid (∀ (w' : World) (a : Option Addr) (cap : Nat), Clk (From (w.alloc (.cells #[.string s, .int .i64 0] 78)).heap.size w') w' (.slice a (tkV s).length cap) (tkV s) → Upd w.heap.size (w.alloc (.cells #[.string s, .int .i64 0] 78)) w' → Below w.heap.size w w' ∧ Clk (From w.heap.size w') w' (.slice a (tkV s).length cap) (tkV s)) := fun w' a cap hc hu => by
    have hB := below_alloc w (.cells #[.string s, .int .i64 0] 78)
    refine ⟨⟨hu.os.trans hB.os, hu.tape.trans hB.tape, hu.output.trans hB.output, Nat.le_trans hB.size hu.size, fun k hk => (hu.block k (Nat.lt_of_lt_of_le hk hB.size) (Nat.ne_of_lt hk)).trans (hB.block k hk)⟩, hc.mono (fun k hk => ⟨Nat.le_trans hB.size hk.1, hk.2⟩)⟩
  unfold TakeR at h52
  cases hT : tkB s with
  | false =>
    have hok : rdOk s = false := by rw [← hrr]; unfold rrOk; rw [hT]; rfl
    have hv : rdV s = [] := by unfold rdV; rw [hok]; rfl
    have he : rdE s = 31 := by unfold rdE; rw [hok]; rfl
    have hk : tkV s = [] := by unfold tkV; rw [hT]; rfl
    rw [hv, he]
    rw [hT] at h52
    clear hrr hok hv he hT
    rw [hk] at h52 hEnd
    clear hk
    go_enter Try.func36, Try.ntmps36
    go_wp2_with (go_at_call 52; refine h52.mono ?_; rintro e w1 ⟨a1, c1, rfl, k1, S1, u1⟩)
    exact bodyPost_ret (results_tmp2 (t := 2) (u := 3) (by kernel_rfl) _ _ _) rfl ⟨none, 0, rfl, Clk.nil _ _ _ _, (hEnd.out _ _ _ k1 u1).1⟩
  | true =>
    have hk : tkV s = readL s := by unfold tkV; rw [hT]; rfl
    rw [hT] at h52
    have h0 : (tkS s).2 = 0 := by unfold tkB at hT; exact (of_decide_eq_true hT).1
    have hD : Hid (∀ W, Sim W w.heap.size (tkS s) → Calls Try.prog 53 #[.pointer (some ⟨w.heap.size, 0, none⟩)] W fun e w' => ∃ E : Int, (E = 0 ↔ (tkS s).2 = 0 ∧ (tkS s).1.size = 0) ∧ e = .returned (.int .i64 E) ∧ w' = W) := fun W h => rdone_sim w.heap.size (tkS s) W h
    by_cases hz : (tkS s).1.size = 0
    · have hok : rdOk s = true := by rw [← hrr]; unfold rrOk; rw [hT, hz]; rfl
      have hv : rdV s = readL s := by unfold rdV; rw [hok]; rfl
      have he : rdE s = 0 := by unfold rdE; rw [hok]; rfl
      have hD0 : Hid (∀ W, Sim W w.heap.size (tkS s) → Calls Try.prog 53 #[.pointer (some ⟨w.heap.size, 0, none⟩)] W fun e w' => e = .returned (.int .i64 0) ∧ w' = W) := fun W h => (hD.out W h).mono (by
        rintro e w' ⟨E, h1, rfl, h2⟩
        obtain rfl := h1.2 ⟨h0, hz⟩
        exact ⟨rfl, h2⟩)
      rw [hv, he]
      rw [hk] at h52 hEnd
      clear hrr hok hv he hT hk h0 hD hz
      go_enter Try.func36, Try.ntmps36
      go_wp2_with (first
        | (go_at_call 53; refine (hD0.out w1 S1).mono ?_; rintro e w2 ⟨rfl, hw2⟩; have hw2 := hw2.symm; subst hw2)
        | (go_at_call 52; refine h52.mono ?_; rintro e w1 ⟨a1, c1, rfl, k1, S1, u1⟩))
      exact bodyPost_ret (results_tmp2 (t := 2) (u := 3) (by kernel_rfl) _ _ _) rfl ⟨a1, c1, rfl, (hEnd.out _ _ _ k1 u1).2, (hEnd.out _ _ _ k1 u1).1⟩
    · have hok : rdOk s = false := by rw [← hrr]; unfold rrOk; rw [hT, decide_eq_false hz]; rfl
      have hv : rdV s = [] := by unfold rdV; rw [hok]; rfl
      have he : rdE s = 31 := by unfold rdE; rw [hok]; rfl
      have hD0 : Hid (∀ W, Sim W w.heap.size (tkS s) → Calls Try.prog 53 #[.pointer (some ⟨w.heap.size, 0, none⟩)] W fun e w' => ∃ E : Int, E ≠ 0 ∧ e = .returned (.int .i64 E) ∧ w' = W) := fun W h => (hD.out W h).mono (by
        rintro e w' ⟨E, h1, rfl, h2⟩
        exact ⟨E, fun q => hz (h1.1 q).2, rfl, h2⟩)
      rw [hv, he]
      rw [hk] at h52 hEnd
      clear hrr hok hv he hT hk h0 hD hz
      go_enter Try.func36, Try.ntmps36
      go_wp2_with (first
        | (go_at_call 53; refine (hD0.out w1 S1).mono ?_; rintro e w2 ⟨E, hE, rfl, hw2⟩; have hw2 := hw2.symm; subst hw2; have hEb : (E == 0) = false := beq_eq_false_iff_ne.2 hE; have hEn : (E != 0) = true := by simp [hE])
        | (go_at_call 52; refine h52.mono ?_; rintro e w1 ⟨a1, c1, rfl, k1, S1, u1⟩))
      exact bodyPost_ret (results_tmp2 (t := 2) (u := 3) (by kernel_rfl) _ _ _) rfl ⟨none, 0, rfl, Clk.nil _ _ _ _, (hEnd.out _ _ _ k1 u1).1⟩
end Go.Proofs.Ytbmeflildmeecaa
