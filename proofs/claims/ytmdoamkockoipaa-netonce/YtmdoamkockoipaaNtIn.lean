/- A net in the middle of a law: its calls. -/
import Derived.Test.YtmdoamkockoipaaNtLose
namespace Go.Proofs.Ytmdoamkockoipaa
open Go.RowKit Go.Maps

/-- All nodes that messages name are integers. -/
def OkS (s : Nt) : Prop := ∀ m ∈ s.l, okI m.2.1 ∧ okI m.2.2.1
structure NIn (G : Nat → Prop) (N : Nat) (w0 : World) (b : Nat) (s : Nt) (W : World) : Prop where
  net : NetAt G W b s
  below : Below N w0 W
  low : ∀ k, k < N → G k
theorem NIn.alloc {G : Nat → Prop} {N : Nat} {w0 : World} {b : Nat} {s : Nt} {W : World} (h : NIn G N w0 b s W) (o : Obj) : NIn G N w0 b s (W.alloc o) :=
  ⟨h.net.alloc o, h.below.alloc (by rcases Nat.lt_or_ge W.heap.size N with q | q; exact absurd (h.net.low _ (h.low _ q)) (Nat.lt_irrefl _); exact q) o, h.low⟩
theorem NIn.size {G : Nat → Prop} {N : Nat} {w0 : World} {b : Nat} {s : Nt} {W : World} (h : NIn G N w0 b s W) : N ≤ W.heap.size := by
  rcases Nat.lt_or_ge W.heap.size N with q | q
  · exact absurd (h.net.low _ (h.low _ q)) (Nat.lt_irrefl _)
  · exact q
theorem NIn.of {G : Nat → Prop} {N : Nat} {w0 : World} {b : Nat} {s s' : Nt} {W w' : World} (h : NIn G N w0 b s W) (hn : NetAt G w' b s') (hk : Keeps G W w') : NIn G N w0 b s' w' :=
  ⟨hn, h.below.trans (hk.toBelow h.low), h.low⟩
theorem NIn.ofBelow {G : Nat → Prop} {N : Nat} {w0 : World} {b : Nat} {s : Nt} {W w' : World} (h : NIn G N w0 b s W) (hb : Below W.heap.size W w') : NIn G N w0 b s w' := h.of (h.net.below hb) (Keeps.ofBelow hb h.net.low)
/-- One block more is guarded: the one that was made last. -/
theorem NIn.guard {G : Nat → Prop} {N : Nat} {w0 : World} {b : Nat} {s : Nt} {W : World} (h : NIn G N w0 b s W) (o : Obj) : NIn (fun k => G k ∨ k = W.heap.size) N w0 b s (W.alloc o) :=
  ⟨h.net.guard ((Below.refl _ _).alloc (Nat.le_refl _) o) (fun k hk => hk.imp id (fun e => by subst e; simp)), (h.alloc o).below, fun k hk => .inl (h.low k hk)⟩
theorem NIn.less {G G' : Nat → Prop} {N : Nat} {w0 : World} {b : Nat} {s : Nt} {W : World} (h : NIn G N w0 b s W) (hG : ∀ k, G' k → G k) (hl : ∀ k, k < N → G' k) : NIn G' N w0 b s W := ⟨h.net.less hG, h.below, hl⟩
theorem in_new (N : Nat) (w : World) (hN : w.heap.size = N) : Calls Try.prog 8 #[] w fun e w' => e = .returned (.pointer (some ⟨N, 0, none⟩)) ∧ Hid (NIn (fun k => k < N) N w N nt0 w') ∧ w'.heap.size = N + 1 := by
  subst hN
  refine (new_any w).mono ?_
  rintro e w' ⟨rfl, rfl⟩
  exact ⟨rfl, ⟨net_new _ w (fun k hk => hk), (Below.refl _ _).alloc (Nat.le_refl _) _, fun k hk => hk⟩, by simp⟩
def strV (bs : List ByteArray) : List Value := bs.map Value.string
theorem in_send {G : Nat → Prop} {N : Nat} {w0 : World} {b : Nat} {s : Nt} {W : World} (h : NIn G N w0 b s W) (f t : Int) (bs : List ByteArray) (hbl : bs.length < 4611686018427387904) (hlast : s.last + 4096 < 4611686018427387904) :
    Calls Try.prog 9 #[.pointer (some ⟨b, 0, none⟩), .int .i64 f, .int .i64 t, .slice (some ⟨W.heap.size, 0, none⟩) bs.length bs.length] (W.alloc (.cells (strV bs).toArray 9)) fun e w' => e = .returned (.int .i64 (fitN s bs : Int)) ∧ Hid (NIn G N w0 b (sendN s f t (bs.take (fitN s bs))) w' ∧ Keeps G W w') := by
  have hg := h.guard (.cells (strV bs).toArray 9)
  refine (send_any f t _ bs hbl hlast hg.net ⟨W.heap.size, 0, bs.length, rfl, Nat.le_refl _, .inr rfl, fun i x hi => ?_⟩).mono ?_
  · rw [Nat.zero_add]
    exact (holds_new W (strV bs) 9).at i _ (by simp [strV, hi])
  · rintro e w' ⟨rfl, h2⟩
    refine ⟨rfl, (hg.of h2.out.1 h2.out.2).less (fun k hk => .inl hk) h.low, (Keeps.ofBelow ((Below.refl _ _).alloc (Nat.le_refl _) _) h.net.low).trans (h2.out.2.mono fun k hk => .inl hk)⟩
theorem in_cut {G : Nat → Prop} {N : Nat} {w0 : World} {b : Nat} {s : Nt} {W : World} (h : NIn G N w0 b s W) (a c : Int) (ha : okI a) (hc : okI c) (hl : s.cuts.length < 4611686018427387904) :
    Calls Try.prog 10 #[.pointer (some ⟨b, 0, none⟩), .int .i64 a, .int .i64 c] W fun e w' => e = .returned (.tuple #[]) ∧ Hid (NIn G N w0 b { s with cuts := cutL s.cuts a c } w' ∧ Keeps G W w') :=
  (cut_any a c ha hc hl h.net).mono fun _ _ ⟨e1, h2⟩ => ⟨e1, h.of h2.out.1 h2.out.2, h2.out.2⟩
theorem in_heal {G : Nat → Prop} {N : Nat} {w0 : World} {b : Nat} {s : Nt} {W : World} (h : NIn G N w0 b s W) (hl : s.cuts.length < 4611686018427387904) :
    Calls Try.prog 13 #[.pointer (some ⟨b, 0, none⟩), .slice none 0 0] W fun e w' => e = .returned (.int .i64 ((s.cuts.length : Int) - ((healL [] s.cuts).length : Int))) ∧ Hid (NIn G N w0 b (healN s []) w' ∧ Keeps G W w') :=
  (heal_any _ [] (by simp) (by simp) (ints_nil W) h.net hl).mono fun _ _ ⟨e1, h2⟩ => ⟨e1, h.of h2.out.1 h2.out.2, h2.out.2⟩
theorem in_heal1 {G : Nat → Prop} {N : Nat} {w0 : World} {b : Nat} {s : Nt} {W : World} (h : NIn G N w0 b s W) (a : Int) (ha : okI a) (hl : s.cuts.length < 4611686018427387904) :
    Calls Try.prog 13 #[.pointer (some ⟨b, 0, none⟩), .slice (some ⟨W.heap.size, 0, none⟩) 1 1] (W.alloc (.cells #[.int .i64 a] 3)) fun e w' => ∃ k, e = .returned (.int .i64 k) ∧ Hid (NIn G N w0 b (healN s [a]) w' ∧ Keeps G W w') :=
  (heal_any _ [a] (by simpa using ha) (by simp) (ints_one W a) (h.alloc _).net hl).mono fun _ _ ⟨e1, h2⟩ => ⟨_, e1, (h.alloc _).of h2.out.1 h2.out.2, (Keeps.ofBelow ((Below.refl _ _).alloc (Nat.le_refl _) _) h.net.low).trans h2.out.2⟩
theorem in_joined {G : Nat → Prop} {N : Nat} {w0 : World} {b : Nat} {s : Nt} {W : World} (h : NIn G N w0 b s W) (a c : Int) (ha : okI a) (hc : okI c) :
    Calls Try.prog 12 #[.pointer (some ⟨b, 0, none⟩), .int .i64 a, .int .i64 c] W fun e w' => e = .returned (.bool (joinedB s.cuts a c)) ∧ Hid (NIn G N w0 b s w' ∧ Below W.heap.size W w') :=
  (joined_any a c ha hc h.net).mono fun _ _ ⟨e1, h2⟩ => ⟨e1, h.ofBelow h2, h2⟩
/-- What a Take takes: the place among all, and the message; none where there is none. -/
def pickO (s : Nt) (p : Int) : Option (Nat × Mg) := ((openI s)[placeN p (openI s).length]?).bind fun i => (s.l[i]?).map fun m => (i, m)
theorem pickO_none {s : Nt} {p : Int} (h : pickO s p = none) : openI s = [] := by
  unfold pickO at h
  cases ho : openI s with
  | nil => rfl
  | cons x r =>
    exfalso
    rw [ho] at h
    have hlt : placeN p (x :: r).length < (x :: r).length := placeN_lt (by simp)
    rw [List.getElem?_eq_getElem hlt] at h
    obtain ⟨m, hm, _⟩ := openI_mem (s := s) (i := (x :: r)[placeN p (x :: r).length]) (by rw [ho]; exact List.getElem_mem hlt)
    rw [Option.bind_some, hm] at h
    cases h
theorem pickO_some {s : Nt} {p : Int} {i : Nat} {m : Mg} (h : pickO s p = some (i, m)) : (openI s)[placeN p (openI s).length]? = some i ∧ s.l[i]? = some m ∧ mayB s.cuts m = true := by
  unfold pickO at h
  cases ho : (openI s)[placeN p (openI s).length]? with
  | none => rw [ho] at h; cases h
  | some j =>
    rw [ho] at h
    cases hm : s.l[j]? with
    | none => simp [hm] at h
    | some m' =>
      simp [hm] at h
      obtain ⟨rfl, rfl⟩ := h
      obtain ⟨m2, h2, h3⟩ := openI_mem (List.mem_of_getElem? ho)
      rw [hm] at h2
      cases h2
      exact ⟨rfl, hm, h3⟩
theorem in_take_none {G : Nat → Prop} {N : Nat} {w0 : World} {b : Nat} {s : Nt} {W : World} (h : NIn G N w0 b s W) (hok : OkS s) (p : Int) (hp : pickO s p = none) :
    Calls Try.prog 11 #[.pointer (some ⟨b, 0, none⟩), .int .i64 p] W fun e w' => e = .returned (.tuple #[.agg (mgV nullM).toArray, .bool false]) ∧ Hid (NIn G N w0 b s w' ∧ Keeps G W w') :=
  (take_none p hok (pickO_none hp) h.net).mono fun _ _ ⟨e1, h2⟩ => ⟨e1, h.ofBelow h2, Keeps.ofBelow h2 h.net.low⟩
theorem in_take_some {G : Nat → Prop} {N : Nat} {w0 : World} {b : Nat} {s : Nt} {W : World} (h : NIn G N w0 b s W) (hok : OkS s) (p : Int) (hpk : okI p) (i : Nat) (m : Mg) (hp : pickO s p = some (i, m)) :
    Calls Try.prog 11 #[.pointer (some ⟨b, 0, none⟩), .int .i64 p] W fun e w' => e = .returned (.tuple #[.agg (mgV m).toArray, .bool true]) ∧ Hid (NIn G N w0 b (dropN s i) w' ∧ Keeps G W w') := by
  obtain ⟨h1, h2, _⟩ := pickO_some hp
  exact (take_some p hpk hok i m h1 h2 h.net).mono fun _ _ ⟨e1, h2⟩ => ⟨e1, h.of h2.out.1 h2.out.2, h2.out.2⟩
theorem in_waits {G : Nat → Prop} {N : Nat} {w0 : World} {b : Nat} {s : Nt} {W : World} (h : NIn G N w0 b s W) (hok : OkS s) :
    Calls Try.prog 14 #[.pointer (some ⟨b, 0, none⟩), .slice none 0 0] W fun e w' => ∃ a c, e = .returned (.slice a (mayL s).length c) ∧ Hid (NIn G N w0 b s w' ∧ Below W.heap.size W w') := by
  refine (waits_any _ [] (by simp) (by simp) hok (ints_nil W) h.net).mono ?_
  rintro e w' ⟨x, rfl, q1, q2⟩
  obtain ⟨a, c, rfl⟩ := row_slice q1
  have e1 : waitL s [] = mayL s := List.filter_eq_self.2 fun m _ => rfl
  rw [e1]
  exact ⟨a, c, rfl, h.ofBelow q2, q2⟩
end Go.Proofs.Ytmdoamkockoipaa
