/- What WheelPlays holds in memory: both wheels and the call at hand. -/
import Derived.Test.YtklkonmdllgeeaaRfDue
import Derived.Test.YtklkonmdllgeeaaWhAwake
namespace Go.Proofs.Ytklkonmdllgeeaa
open Go.RowKit Go.Maps

structure Pl (B g : Nat) (w1 : World) (ov : List Value) (l : Ts) (t : Nat) (m : Ts) (W : World) : Prop where
  whl : WheelAt B W B l t
  ref : RefAt B W (B + 1) m
  ops : Holds W g ov 32
  low : Below B w1 W
theorem WheelAt.cells50 {N : Nat} {w : World} {b : Nat} {l : Ts} {t : Nat} (h : WheelAt N w b l t) : ∃ cs fr, w.heap[b]? = some (.cells cs 50 fr) := by
  obtain ⟨h1, h2, h3, mv, hH, hm⟩ := h
  exact ⟨_, _, hH⟩
theorem RefAt.holds29 {N : Nat} {w : World} {r : Nat} {l : Ts} (h : RefAt N w r l) : ∃ v, Holds w r [v] 29 := by
  obtain ⟨v, hH, _⟩ := h.mem
  exact ⟨v, hH⟩
theorem Pl.wheel {B g : Nat} {w1 : World} {ov : List Value} {l l' : Ts} {t t' : Nat} {m : Ts} {W W' : World} (h : Pl B g w1 ov l t m W) (hw : WUpd B B W W') (h2 : WheelAt B W' B l' t') : Pl B g w1 ov l' t' m W' := by
  refine ⟨h2, h.ref.wupd hw h.whl.cells50, h.ops.wupd hw (fun e => ?_), h.low.trans hw.toBelow⟩
  obtain ⟨cs, fr, hb⟩ := h.whl.cells50
  have := h.ops
  unfold Holds at this
  rw [e, hb] at this
  simp at this
theorem Pl.refd {B g : Nat} {w1 : World} {ov : List Value} {l : Ts} {t : Nat} {m m' : Ts} {W W' : World} (h : Pl B g w1 ov l t m W) (hr : RUpd B (B + 1) W W') (h2 : RefAt B W' (B + 1) m') : Pl B g w1 ov l t m' W' := by
  refine ⟨h.whl.rupd hr (by omega) h.ref.holds29, h2, hr.rest g _ (fun e => ?_) h.ops (fun cs fr q => by cases q), h.low.trans ⟨hr.os, hr.tape, hr.output, hr.size, hr.low⟩⟩
  obtain ⟨v, hv⟩ := h.ref.holds29
  have := h.ops
  unfold Holds at this hv
  rw [e, hv] at this
  simp at this
theorem Pl.size {B g : Nat} {w1 : World} {ov : List Value} {l : Ts} {t : Nat} {m : Ts} {W : World} (h : Pl B g w1 ov l t m W) : B + 2 ≤ W.heap.size := by
  have := h.ref.lt
  omega
theorem Pl.below {B g : Nat} {w1 : World} {ov : List Value} {l : Ts} {t : Nat} {m : Ts} {W W' : World} (h : Pl B g w1 ov l t m W) (hb : Below W.heap.size W W') : Pl B g w1 ov l t m W' :=
  ⟨h.whl.same hb, h.ref.below hb, h.ops.below hb h.ops.lt, h.low.trans (hb.mono (by have := h.size; omega))⟩
/-- A list that was told is written. -/
theorem Pl.mine {B g : Nat} {w1 : World} {ov : List Value} {l : Ts} {t : Nat} {m : Ts} {W : World} (h : Pl B g w1 ov l t m W) (d i : Nat) (v : Value) (cs : List Value) (hd : Holds W d cs 9) (hB : B < d) : Pl B g w1 ov l t m (W.setCell ⟨d, i, none⟩ v) := by
  have hu := (Upd.refl d W).setCell i v
  have hne : ∀ k cs' t' fr, W.heap[k]? = some (.cells cs' t' fr) → t' ≠ 9 → k ≠ d := fun k cs' t' fr hk ht e => by
    unfold Holds at hd
    rw [e, hd] at hk
    simp at hk
    exact ht hk.2.1.symm
  obtain ⟨cs5, fr5, hb5⟩ := h.whl.cells50
  refine ⟨h.whl.set d i v (fun e => hne B _ _ _ hb5 (by decide) e.symm) cs 9 hd, ?_, h.ops.setOther d i v (hne g _ _ _ h.ops (by decide)), ?_⟩
  · obtain ⟨h1, u, hH, hrow⟩ := h.ref
    exact ⟨h1, u, hH.setOther d i v (hne _ _ _ _ hH (by decide)), own_same hrow fun j cs' fr' _ hc => heap_setCell_other W ⟨d, i, none⟩ j v (hne j _ _ _ hc (by decide))⟩
  · have := hd.lt
    exact h.low.trans ⟨hu.os, hu.tape, hu.output, hu.size, fun k hk => hu.block k (by omega) (by omega)⟩
theorem pl_set {B g : Nat} {w1 : World} {ov : List Value} {l : Ts} {t : Nat} {m : Ts} {W : World} (h : Pl B g w1 ov l t m W) (a : Int) (v : Value) (ks : List (List UInt8)) (hk : ∀ k ∈ ks, k.length ≤ maxLen) (ht : t + ks.length < 1073741824) (hs : Strs B W v ks) :
    Calls Try.prog 13 #[.pointer (some ⟨B, 0, none⟩), .int .i64 a, v] W fun e w' => e = .returned (.tuple #[]) ∧ Hid (Pl B g w1 ov (setAll a ks l t) (t + ks.length) m w') :=
  (set_any B B l t a v ks hk (by omega) W h.whl hs).mono fun _ _ ⟨e1, e2, e3⟩ => ⟨e1, h.wheel e3 e2⟩
theorem pl_cancel {B g : Nat} {w1 : World} {ov : List Value} {l : Ts} {t : Nat} {m : Ts} {W : World} (h : Pl B g w1 ov l t m W) (v : Value) (ks : List (List UInt8)) (hk : ∀ k ∈ ks, k.length ≤ maxLen) (hl : ks.length ≤ maxLen) (ht : t < 1073741824) (hs : Strs B W v ks) :
    Calls Try.prog 9 #[.pointer (some ⟨B, 0, none⟩), v] W fun e w' => e = .returned (.int .i64 ((l.length : Int) - ((dropAll ks l).length : Int))) ∧ Hid (Pl B g w1 ov (dropAll ks l) t m w') :=
  (cancel_any B B l t v ks hk hl (by omega) W h.whl hs).mono fun _ _ ⟨e1, e2, e3⟩ => ⟨e1, h.wheel e3 e2⟩
theorem pl_due (hsort : SortOk) {B g : Nat} {w1 : World} {ov : List Value} {l : Ts} {t : Nat} {m : Ts} {W : World} (h : Pl B g w1 ov l t m W) (now : Int) (ht : t < 1073741824) (n : Nat) (hn : (dueT now l).length = n) :
    Calls Try.prog 10 #[.pointer (some ⟨B, 0, none⟩), .int .i64 now] W fun e w' => ∃ a c, e = .returned (.slice a n c) ∧ Hid (Pl B g w1 ov (leftT now l) t m w' ∧ w'.ownsRow (B + 2) 9 1 (.slice a n c) ((dueT now l).map (·.1)).length (namesV ((dueT now l).map (·.1)))) :=
  (due_any hsort B B l t now ht W h.whl).mono fun _ _ ⟨v, e1, e2⟩ => by
    have hr := e2.out.1
    obtain ⟨a, c, rfl⟩ := row_slice hr
    have hl : ((dueT now l).map (·.1)).length = n := by rw [List.length_map, hn]
    rw [hl] at e1 hr
    exact ⟨a, c, e1, h.wheel e2.out.2.2 e2.out.2.1, by rw [hl]; exact own_mono hr h.size⟩
theorem pl_next {B g : Nat} {w1 : World} {ov : List Value} {l : Ts} {t : Nat} {m : Ts} {W : World} (h : Pl B g w1 ov l t m W) : Calls Try.prog 15 #[.pointer (some ⟨B, 0, none⟩)] W fun e w' => e = .returned (.tuple #[.int .i64 (minT l), .bool (someB l)]) ∧ Hid (Pl B g w1 ov l t m w') :=
  (next_any B B l t W h.whl).mono fun _ _ ⟨e1, e2⟩ => ⟨e1, h.below e2⟩
theorem pl_at {B g : Nat} {w1 : World} {ov : List Value} {l : Ts} {t : Nat} {m : Ts} {W : World} (h : Pl B g w1 ov l t m W) (k : List UInt8) (hk : k.length ≤ maxLen) : Calls Try.prog 18 #[.pointer (some ⟨B, 0, none⟩), .string (strL k)] W fun e w' => e = .returned (.tuple #[.int .i64 (atI (findT l k)), .bool (findT l k).isSome]) ∧ Hid (Pl B g w1 ov l t m w') :=
  (at_any B B l t k hk W h.whl).mono fun _ _ ⟨e1, e2⟩ => ⟨e1, h.below e2⟩
theorem pl_rset {B g : Nat} {w1 : World} {ov : List Value} {l : Ts} {t : Nat} {m : Ts} {W : World} (h : Pl B g w1 ov l t m W) (hm : m.length < 1073741824) (k : List UInt8) (a : Int) (u : Nat) :
    Calls Try.prog 14 #[.pointer (some ⟨B + 1, 0, none⟩), .int .i64 a, .string (strL k)] W fun e w' => e = .returned (.tuple #[]) ∧ Hid (Pl B g w1 ov l t (setT k a u m) w') :=
  (rset_any B (B + 1) m k a u hm W h.ref).mono fun _ _ ⟨e1, e2⟩ => ⟨e1, h.refd e2.out.2 e2.out.1⟩
theorem pl_rcancel {B g : Nat} {w1 : World} {ov : List Value} {l : Ts} {t : Nat} {m : Ts} {W : World} (h : Pl B g w1 ov l t m W) (hm : m.length < 1073741824) (k : List UInt8) :
    Calls Try.prog 8 #[.pointer (some ⟨B + 1, 0, none⟩), .string (strL k)] W fun e w' => e = .returned (.int .i64 ((m.length : Int) - ((dropT k m).length : Int))) ∧ Hid (Pl B g w1 ov l t (dropT k m) w') :=
  (rcancel_any B (B + 1) m k hm W h.ref).mono fun _ _ ⟨e1, e2⟩ => ⟨e1, h.refd e2.out.2 e2.out.1⟩
theorem pl_rnext {B g : Nat} {w1 : World} {ov : List Value} {l : Ts} {t : Nat} {m : Ts} {W : World} (h : Pl B g w1 ov l t m W) (hm : m.length < 1073741824) : Calls Try.prog 16 #[.pointer (some ⟨B + 1, 0, none⟩)] W fun e w' => e = .returned (.tuple #[.int .i64 (minT m), .bool (someB m)]) ∧ Hid (Pl B g w1 ov l t m w') :=
  (rnext_any B (B + 1) m hm W h.ref).mono fun _ _ ⟨e1, e2⟩ => ⟨e1, h.below e2.out⟩
theorem pl_rat {B g : Nat} {w1 : World} {ov : List Value} {l : Ts} {t : Nat} {m : Ts} {W : World} (h : Pl B g w1 ov l t m W) (hm : m.length < 1073741824) (k : List UInt8) : Calls Try.prog 19 #[.pointer (some ⟨B + 1, 0, none⟩), .string (strL k)] W fun e w' => e = .returned (.tuple #[.int .i64 (atI (findT m k)), .bool (findT m k).isSome]) ∧ w' = W :=
  rat_any B (B + 1) m k hm W h.ref
theorem pl_rdue {B g : Nat} {w1 : World} {ov : List Value} {l : Ts} {t : Nat} {m : Ts} {W : World} (h : Pl B g w1 ov l t m W) (now : Int) (u : Nat) (hf : Fine m u) (hu : u < 1073741824) (n : Nat) (ks : List (List UInt8)) (hks : (dueT now m).map (·.1) = ks) (hn : ks.length = n) (a0 : Option Addr) (c0 : Nat) (hrow : W.ownsRow (B + 2) 9 1 (.slice a0 n c0) n (namesV ks)) :
    Calls Try.prog 12 #[.pointer (some ⟨B + 1, 0, none⟩), .int .i64 now] W fun e w' => ∃ a c, e = .returned (.slice a n c) ∧ Hid (Pl B g w1 ov l t (leftT now m) w' ∧ w'.ownsRow (B + 2) 9 1 (.slice a0 n c0) n (namesV ks) ∧ Strs B w' (.slice a0 n c0) ks ∧ Strs B w' (.slice a n c) ks) :=
  (rdue_any B (B + 1) m u now hf hu W h.ref).mono fun _ w' ⟨v, e1, e2⟩ => by
    have hr := e2.out.1
    obtain ⟨a, c, rfl⟩ := row_slice hr
    rw [hks, hn] at hr
    rw [hks, hn] at e1
    have hrow' : w'.ownsRow (B + 2) 9 1 (.slice a0 n c0) n (namesV ks) := own_same hrow fun j cs fr hj hc => (e2.out.2.2.rest j _ (by omega) hc (fun cs fr q => by cases q)).trans hc.symm
    refine ⟨a, c, e1, h.refd e2.out.2.2 e2.out.2.1, hrow', ?_, ?_⟩
    · have := strs_of_row (b := B) (ks := ks) (by rw [hn]; exact hrow') (by omega)
      exact this
    · have := strs_of_row (b := B) (ks := ks) (by rw [hn]; exact hr) (by have := h.size; omega)
      exact this
theorem pl_len {B g : Nat} {w1 : World} {ov : List Value} {l : Ts} {t : Nat} {m : Ts} {W : World} (h : Pl B g w1 ov l t m W) : Calls Try.prog 17 #[.pointer (some ⟨B, 0, none⟩)] W fun e w' => e = .returned (.int .i64 (l.length : Int)) ∧ w' = W := len_any B B l t W h.whl
theorem Pl.refSlice {B g : Nat} {w1 : World} {ov : List Value} {l : Ts} {t : Nat} {m : Ts} {W : World} (h : Pl B g w1 ov l t m W) : ∃ a c, W.cell? ⟨B + 1, 0, none⟩ = some (.slice a m.length c) := by
  obtain ⟨v, hH, hrow⟩ := h.ref.mem
  obtain ⟨a, c, rfl⟩ := row_slice hrow
  exact ⟨a, c, hH.at 0 _ rfl⟩
end Go.Proofs.Ytklkonmdllgeeaa
