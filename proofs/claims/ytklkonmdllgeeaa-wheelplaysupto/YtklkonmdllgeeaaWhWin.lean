/- A wheel in the middle of a law. -/
import Derived.Test.YtklkonmdllgeeaaWhDue
namespace Go.Proofs.Ytklkonmdllgeeaa
open Go.RowKit Go.Maps Go.WideMaps

/-- The wheel at b, and what was done since w. -/
structure Win (N b : Nat) (w : World) (l : Ts) (t : Nat) (W : World) : Prop where
  at_ : WheelAt N W b l t
  upd : WUpd N b w W
theorem Win.below {N b : Nat} {w : World} {l : Ts} {t : Nat} {W W' : World} (h : Win N b w l t W) (hb : Below W.heap.size W W') (hN : N ≤ W.heap.size) : Win N b w l t W' := ⟨h.at_.same hb, h.upd.trans (WUpd.ofBelow hb hN)⟩
theorem Win.low {N b : Nat} {w : World} {l : Ts} {t : Nat} {W : World} (h : Win N b w l t W) : N ≤ W.heap.size := by
  have := h.at_.lt
  have := h.at_.low
  omega
theorem Win.alloc {N b : Nat} {w : World} {l : Ts} {t : Nat} {W : World} (h : Win N b w l t W) (o : Obj) : Win N b w l t (W.alloc o) := h.below ((Below.refl _ _).alloc (Nat.le_refl _) _) h.low
theorem strs_new (b : Nat) (W : World) (ks : List (List UInt8)) (hb : b < W.heap.size) : Strs b (W.alloc (.cells (namesV ks).toArray 9)) (.slice (some ⟨W.heap.size, 0, none⟩) ks.length ks.length) ks := by
  have hH := holds_new W (namesV ks) 9
  refine ⟨_, _, rfl, .inr ⟨W.heap.size, 0, _, 9, (0, 0), rfl, by omega, hH, fun i k hi => ?_⟩⟩
  rw [Nat.zero_add, hH.cell i]
  simp [namesV, hi]
theorem win_set {N b : Nat} {w : World} {l : Ts} {t : Nat} {W : World} (h : Win N b w l t W) (a : Int) (v : Value) (ks : List (List UInt8)) (hk : ∀ k ∈ ks, k.length ≤ maxLen) (ht : t + ks.length < 1073741824) (hs : Strs b W v ks) :
    Calls Try.prog 13 #[.pointer (some ⟨b, 0, none⟩), .int .i64 a, v] W fun e w' => e = .returned (.tuple #[]) ∧ Hid (Win N b w (setAll a ks l t) (t + ks.length) w') :=
  (set_any N b l t a v ks hk (by omega) W h.at_ hs).mono fun _ _ ⟨e1, e2, e3⟩ => ⟨e1, e2, h.upd.trans e3⟩
theorem win_set_lit {N b : Nat} {w : World} {l : Ts} {t : Nat} {W : World} (h : Win N b w l t W) (a : Int) (ks : List (List UInt8)) (hk : ∀ k ∈ ks, k.length ≤ maxLen) (ht : t + ks.length < 1073741824) :
    Calls Try.prog 13 #[.pointer (some ⟨b, 0, none⟩), .int .i64 a, .slice (some ⟨W.heap.size, 0, none⟩) ks.length ks.length] (W.alloc (.cells (namesV ks).toArray 9)) fun e w' => e = .returned (.tuple #[]) ∧ Hid (Win N b w (setAll a ks l t) (t + ks.length) w') :=
  win_set (h.alloc _) a _ ks hk ht (strs_new b W ks h.at_.lt)
theorem win_cancel {N b : Nat} {w : World} {l : Ts} {t : Nat} {W : World} (h : Win N b w l t W) (v : Value) (ks : List (List UInt8)) (hk : ∀ k ∈ ks, k.length ≤ maxLen) (hl : ks.length ≤ maxLen) (ht : t < 1073741824) (hs : Strs b W v ks) :
    Calls Try.prog 9 #[.pointer (some ⟨b, 0, none⟩), v] W fun e w' => e = .returned (.int .i64 ((l.length : Int) - ((dropAll ks l).length : Int))) ∧ Hid (Win N b w (dropAll ks l) t w') :=
  (cancel_any N b l t v ks hk hl (by omega) W h.at_ hs).mono fun _ _ ⟨e1, e2, e3⟩ => ⟨e1, e2, h.upd.trans e3⟩
theorem win_cancel_lit {N b : Nat} {w : World} {l : Ts} {t : Nat} {W : World} (h : Win N b w l t W) (ks : List (List UInt8)) (hk : ∀ k ∈ ks, k.length ≤ maxLen) (hl : ks.length ≤ maxLen) (ht : t < 1073741824) :
    Calls Try.prog 9 #[.pointer (some ⟨b, 0, none⟩), .slice (some ⟨W.heap.size, 0, none⟩) ks.length ks.length] (W.alloc (.cells (namesV ks).toArray 9)) fun e w' => e = .returned (.int .i64 ((l.length : Int) - ((dropAll ks l).length : Int))) ∧ Hid (Win N b w (dropAll ks l) t w') :=
  win_cancel (h.alloc _) _ ks hk hl ht (strs_new b W ks h.at_.lt)
theorem win_next {N b : Nat} {w : World} {l : Ts} {t : Nat} {W : World} (h : Win N b w l t W) : Calls Try.prog 15 #[.pointer (some ⟨b, 0, none⟩)] W fun e w' => e = .returned (.tuple #[.int .i64 (minT l), .bool (someB l)]) ∧ Hid (Win N b w l t w') ∧ Hid (Below W.heap.size W w') :=
  (next_any N b l t W h.at_).mono fun _ _ ⟨e1, e2⟩ => ⟨e1, h.below e2 h.low, e2⟩
theorem win_at {N b : Nat} {w : World} {l : Ts} {t : Nat} {W : World} (h : Win N b w l t W) (k : List UInt8) (hk : k.length ≤ maxLen) : Calls Try.prog 18 #[.pointer (some ⟨b, 0, none⟩), .string (strL k)] W fun e w' => e = .returned (.tuple #[.int .i64 (atI (findT l k)), .bool (findT l k).isSome]) ∧ Hid (Win N b w l t w') ∧ Hid (Below W.heap.size W w') :=
  (at_any N b l t k hk W h.at_).mono fun _ _ ⟨e1, e2⟩ => ⟨e1, h.below e2 h.low, e2⟩
theorem win_len {N b : Nat} {w : World} {l : Ts} {t : Nat} {W : World} (h : Win N b w l t W) : Calls Try.prog 17 #[.pointer (some ⟨b, 0, none⟩)] W fun e w' => e = .returned (.int .i64 (l.length : Int)) ∧ w' = W :=
  len_any N b l t W h.at_
theorem win_due (hsort : SortOk) {N b : Nat} {w : World} {l : Ts} {t : Nat} {W : World} (h : Win N b w l t W) (now : Int) (ht : t < 1073741824) (n : Nat) (hn : (dueT now l).length = n) : Calls Try.prog 10 #[.pointer (some ⟨b, 0, none⟩), .int .i64 now] W fun e w' => ∃ a c, e = .returned (.slice a n c) ∧ Hid (Strs b w' (.slice a n c) ((dueT now l).map (·.1)) ∧ Win N b w (leftT now l) t w' ∧ w'.ownsRow W.heap.size 9 1 (.slice a n c) ((dueT now l).map (·.1)).length (namesV ((dueT now l).map (·.1))) ∧ WUpd N b W w') :=
  (due_any hsort N b l t now ht W h.at_).mono fun _ _ ⟨v, e1, e2⟩ => by
    have hr := e2.out.1
    obtain ⟨a, c, rfl⟩ := row_slice hr
    have hl : ((dueT now l).map (·.1)).length = n := by rw [List.length_map, hn]
    rw [hl] at e1
    refine ⟨a, c, e1, ?_, ⟨e2.out.2.1, h.upd.trans e2.out.2.2⟩, ?_, e2.out.2.2⟩
    · have := strs_of_row hr h.at_.lt
      rw [hl] at this; exact this
    · rw [hl] at hr
      rw [hl]; exact hr
theorem win_new (w : World) : Calls Try.prog 7 #[] w fun e w' => e = .returned (.pointer (some ⟨w.heap.size, 0, none⟩)) ∧ Hid (Win w.heap.size w.heap.size w [] 0 w') :=
  (new_any w).mono fun _ _ ⟨e1, e2⟩ => ⟨e1, by
    subst e2
    exact ⟨wheel_new _ w (Nat.le_refl _), WUpd.ofBelow ((Below.refl _ _).alloc (Nat.le_refl _) _) (Nat.le_refl _)⟩⟩
end Go.Proofs.Ytklkonmdllgeeaa
