/- Two trees in memory, apart from each other; what a law calls of them. -/
import Derived.Test.YtbfadapffpijpaaDoorTrKeys
import Derived.Test.YtbfadapffpijpaaDoorTrDiff
namespace Go.Proofs.YtbfadapffpijpaaDoor
open Go.RowKit Go.Maps Go.WideMaps

/-- Block i holds cells that are no tree's. -/
def Foreign (W : World) (i : Nat) : Prop := ∃ cs t fr, W.heap[i]? = some (.cells cs t fr) ∧ t ≠ 32
theorem Foreign.of {W W' : World} {i : Nat} (h : Foreign W i) (e : W'.heap[i]? = W.heap[i]?) : Foreign W' i := by
  obtain ⟨cs, t, fr, h1, h2⟩ := h
  exact ⟨cs, t, fr, e.trans h1, h2⟩
theorem Foreign.lt {W : World} {i : Nat} (h : Foreign W i) : i < W.heap.size := by
  obtain ⟨cs, t, fr, h1, h2⟩ := h
  exact (Array.getElem?_eq_some_iff.1 h1).1
/-- What is no tree's is as it was. -/
structure FUpd (W W' : World) : Prop where
  size : W.heap.size ≤ W'.heap.size
  block : ∀ i, Foreign W i → W'.heap[i]? = W.heap[i]?
theorem FUpd.refl (W : World) : FUpd W W := ⟨Nat.le_refl _, fun _ _ => rfl⟩
theorem FUpd.trans {x y z : World} (h : FUpd x y) (k : FUpd y z) : FUpd x z := ⟨Nat.le_trans h.size k.size, fun i hi => (k.block i (hi.of (h.block i hi))).trans (h.block i hi)⟩
theorem FUpd.ofBelow {x y : World} (h : Below x.heap.size x y) : FUpd x y := ⟨h.size, fun i hi => h.block i hi.lt⟩
theorem FUpd.drew {x y : World} (h : FUpd x y) : FUpd x y.drew := ⟨h.size, h.block⟩
theorem FUpd.alloc {x y : World} (h : FUpd x y) (o : Obj) : FUpd x (y.alloc o) := h.trans (.ofBelow ((Below.refl _ _).alloc (Nat.le_refl _) o))
theorem Holds.foreign {W : World} {g : Nat} {cs : List Value} {t : TypeId} (h : Holds W g cs t) (ht : t ≠ 32) : Foreign W g := ⟨_, t, _, h, ht⟩
theorem Holds.fupd {W W' : World} {g : Nat} {cs : List Value} {t : TypeId} (h : Holds W g cs t) (hu : FUpd W W') (ht : t ≠ 32) : Holds W' g cs t := by
  unfold Holds
  rw [hu.block g (h.foreign ht)]; exact h
theorem TreeAt.own_not {W : World} {N b : Nat} {mv : List Value} {T : Tr} (h : TreeAt W N b mv T) {i : Nat} (hi : Own b mv i) : ¬ Foreign W i := fun ⟨cs, t, fr, h1, h2⟩ => by
  rcases hi with rfl | hi
  · have := h.holds
    unfold Holds at this
    rw [this] at h1
    simp at h1
    exact h2 h1.2.1.symm
  · obtain ⟨j, _, hj⟩ := map_mem hi
    obtain ⟨es, c, hb⟩ := (h.keys hj).isMap
    rw [hb] at h1; cases h1
theorem TreeAt.fupd {W W' : World} {N b : Nat} {mv : List Value} {T : Tr} (h : TreeAt W N b mv T) (hu : TUpd (Own b mv) W W') : FUpd W W' := ⟨hu.size, fun i hi => hu.block i hi.lt (fun q => h.own_not q hi)⟩
/-- Two trees a and b, made since w0 (which had n blocks). -/
structure Duo (w0 : World) (n : Nat) (W : World) (a b : Nat) (A B : Tr) : Prop where
  ex : ∃ ma mb, TreeAt W n a ma A ∧ TreeAt W n b mb B ∧ ∀ i, Own a ma i → Own b mb i → False
  below : Below n w0 W
  laid : Laid W
  two : 2 ≤ n
  size : n ≤ W.heap.size
theorem Duo.swap {w0 W : World} {n a b : Nat} {A B : Tr} (h : Duo w0 n W a b A B) : Duo w0 n W b a B A := by
  obtain ⟨ma, mb, h1, h2, h3⟩ := h.ex
  exact ⟨⟨mb, ma, h2, h1, fun i x y => h3 i y x⟩, h.below, h.laid, h.two, h.size⟩
theorem Duo.step {w0 W W' : World} {n a b : Nat} {A B A' : Tr} {ma mb ma' : List Value} (h : Duo w0 n W a b A B) (h1 : TreeAt W n a ma A) (h2 : TreeAt W n b mb B) (h3 : ∀ i, Own a ma i → Own b mb i → False)
    (hA : TreeAt W' n a ma' A') (hu : TUpd (Own a ma) W W') (ho : ∀ i, Own a ma' i → Own a ma i ∨ W.heap.size ≤ i) : Duo w0 n W' a b A' B ∧ FUpd W W' := by
  refine ⟨⟨⟨ma', mb, hA, h2.tupd hu (fun i hi q => h3 i q hi), fun i x y => ?_⟩, h.below.trans (hu.below h.size h1.low), h.laid.tupd hu (fun i hi => Nat.le_trans h.two (h1.low i hi)), h.two, Nat.le_trans h.size hu.size⟩, h1.fupd hu⟩
  rcases ho i x with q | q
  · exact h3 i q y
  · have := h2.lt i y; omega
theorem Duo.ofBelow {w0 W W' : World} {n a b : Nat} {A B : Tr} (h : Duo w0 n W a b A B) (hb : Below W.heap.size W W') : Duo w0 n W' a b A B := by
  obtain ⟨ma, mb, h1, h2, h3⟩ := h.ex
  exact ⟨⟨ma, mb, h1.ofBelow hb, h2.ofBelow hb, h3⟩, h.below.trans (hb.mono h.size), h.laid.below hb h.laid.two, h.two, Nat.le_trans h.size hb.size⟩
theorem Duo.root {w0 W : World} {n a b : Nat} {A B : Tr} (h : Duo w0 n W a b A B) (hf : Fit A 536870912) : Calls Tryd.prog 10 #[.pointer (some ⟨a, 0, none⟩)] W fun e w' => e = .returned (.agg ((rootH A).map byteV).toArray) ∧ Duo w0 n w' a b (reckT A) B ∧ FUpd W w' := by
  obtain ⟨ma, mb, h1, h2, h3⟩ := h.ex
  refine (root_some n a ma A hf W (Nat.le_trans h.two (h1.low a (.inl rfl))) h.laid h1).mono ?_
  rintro e w' ⟨e1, e2, e3⟩
  exact ⟨e1, h.step h1 h2 h3 e2 (e3.mono fun i hi => .inl hi) (fun i hi => .inl hi)⟩
theorem Duo.put {w0 W : World} {n a b : Nat} {A B : Tr} (h : Duo w0 n W a b A B) (hf : Fit A 536870912) (key : ByteArray) (hk : key.size ≤ 140737488355328) (s : List UInt8) (h32 : s.length = 32) : Calls Tryd.prog 7 #[.pointer (some ⟨a, 0, none⟩), .string key, .agg (s.map byteV).toArray] W fun e w' => e = .returned (.tuple #[]) ∧ Duo w0 n w' a b (putT A key.data.toList s) B ∧ FUpd W w' := by
  obtain ⟨ma, mb, h1, h2, h3⟩ := h.ex
  refine (tput_some n a ma A key hk s h32 hf W h.size h.laid h1).mono ?_
  rintro e w' ⟨e1, mv', e2, e3, e4⟩
  exact ⟨e1, h.step h1 h2 h3 e2 e3 e4⟩
theorem Duo.del {w0 W : World} {n a b : Nat} {A B : Tr} (h : Duo w0 n W a b A B) (hf : Fit A 536870912) (v : Value) (l : List ByteArray) (hl : l.length ≤ 4611686018427387904) (hks : ∀ x ∈ l, x.size ≤ 140737488355328) (hv : StrsAt w0 (fun _ => False) v l) (hn : w0.heap.size ≤ n) : Calls Tryd.prog 8 #[.pointer (some ⟨a, 0, none⟩), v] W fun e w' => e = .returned (.tuple #[]) ∧ Duo w0 n w' a b (delAll A l) B ∧ FUpd W w' := by
  obtain ⟨ma, mb, h1, h2, h3⟩ := h.ex
  have hv' : StrsAt W (Own a ma) v l := by
    obtain ⟨av, cap, e, hc⟩ := hv
    refine ⟨av, cap, e, fun i x hx => ?_⟩
    obtain ⟨g, o, e1, q1, _, q3⟩ := hc i x hx
    refine ⟨g, o, e1, Nat.lt_of_lt_of_le q1 (Nat.le_trans hn h.size), fun q => ?_, ?_⟩
    · have := h1.low g q; omega
    · rw [h.below.cell (p := ⟨g, o + i, none⟩) (by show g < n; omega)]; exact q3
  refine (delete_some n a ma A hf v l hl hks W h.two h.laid h1 hv').mono ?_
  rintro e w' ⟨e1, e2, e3⟩
  exact ⟨e1, h.step h1 h2 h3 e2 e3 (fun i hi => .inl hi)⟩
/-- A list of integers in memory, no tree's. -/
def IntsF (W : World) (v : Value) (l : List Int) : Prop := ∃ a cap, v = .slice a l.length cap ∧ ∀ (i : Nat) (x : Int), l[i]? = some x → ∃ g o, a = some ⟨g, o, none⟩ ∧ Foreign W g ∧ W.cell? ⟨g, o + i, none⟩ = some (.int .i64 x)
theorem IntsF.fupd {W W' : World} {v : Value} {l : List Int} (h : IntsF W v l) (hu : FUpd W W') : IntsF W' v l := by
  obtain ⟨a, cap, e, hc⟩ := h
  refine ⟨a, cap, e, fun i x hx => ?_⟩
  obtain ⟨g, o, e1, h1, h3⟩ := hc i x hx
  exact ⟨g, o, e1, h1.of (hu.block g h1), by rw [World.cell?_of_block (w := W) (hu.block g h1)]; exact h3⟩
theorem intsF_none (W : World) : IntsF W (.slice none 0 0) [] := ⟨none, 0, rfl, fun i x h => by simp at h⟩
theorem Duo.level {w0 W : World} {n a b : Nat} {A B : Tr} (h : Duo w0 n W a b A B) (hf : Fit A 536870912) (v : Value) (l : List Int) (hl : l.length ≤ 68719476736) (hv : IntsF W v l) : Calls Tryd.prog 11 #[.pointer (some ⟨a, 0, none⟩), v] W fun e w' => ∃ u, e = .returned u ∧ w'.ownsRow W.heap.size 26 32 u (levelT A l).length (rowsV (levelT A l)) ∧ Duo w0 n w' a b (reckT A) B ∧ FUpd W w' := by
  obtain ⟨ma, mb, h1, h2, h3⟩ := h.ex
  have hv' : IntsAt W a v l := by
    obtain ⟨av, cap, e, hc⟩ := hv
    refine ⟨av, cap, e, fun i x hx => ?_⟩
    obtain ⟨g, o, e1, q1, q3⟩ := hc i x hx
    exact ⟨g, o, e1, q1.lt, fun q => h1.own_not (.inl q) q1, q3⟩
  refine (level_some n a ma A hf v l hl W (Nat.le_trans h.two (h1.low a (.inl rfl))) h.laid h1 hv').mono ?_
  rintro e w' ⟨u, e1, e0, e2, e3⟩
  exact ⟨u, e1, e0, h.step h1 h2 h3 e2 (e3.mono fun i hi => .inl hi) (fun i hi => .inl hi)⟩
theorem Duo.dirty {w0 W : World} {n a b : Nat} {A B : Tr} (h : Duo w0 n W a b A B) : Calls Tryd.prog 14 #[.pointer (some ⟨a, 0, none⟩)] W fun e w' => e = .returned (.int .i64 (dirtyT A : Int)) ∧ w' = W := by
  obtain ⟨ma, mb, h1, h2, h3⟩ := h.ex
  exact dirty_some n a ma A W h1
theorem Duo.len {w0 W : World} {n a b : Nat} {A B : Tr} (h : Duo w0 n W a b A B) (hf : Fit A 536870912) : Calls Tryd.prog 13 #[.pointer (some ⟨a, 0, none⟩)] W fun e w' => e = .returned (.int .i64 (lenT A : Int)) ∧ w' = W := by
  obtain ⟨ma, mb, h1, h2, h3⟩ := h.ex
  exact len_some n a ma A 536870912 hf (by decide) W h1
theorem Duo.keys {w0 W : World} {n a b : Nat} {A B : Tr} (h : Duo w0 n W a b A B) (hf : Fit A 536870912) (i : Nat) (hi : i < 256) : Calls Tryd.prog 12 #[.pointer (some ⟨a, 0, none⟩), .int .i64 (i : Int)] W fun e w' => ∃ u, e = .returned u ∧ w'.ownsRow W.heap.size 46 33 u (leafAt A i).length (cellsS (leafAt A i)) ∧ Below W.heap.size W w' := by
  obtain ⟨ma, mb, h1, h2, h3⟩ := h.ex
  exact keys_some n a ma A hf i hi W h1
theorem RowsAt.fupd {W W' : World} {base : Nat} {v : Value} {l : List (List UInt8)} (h32 : ∀ s ∈ l, s.length = 32) (h : W.ownsRow base 26 32 v l.length (rowsV l)) (hu : FUpd W W') : RowsAt W' v l :=
  .of (base := base) h32 (row_same h (fun i cs fr hi => hu.block i ⟨cs, 26, fr, hi, by decide⟩))
/-- Two new trees. -/
theorem duo_new {w0 w1 w2 : World} {n : Nat} (hL : Laid w0) (h1 : Anew n w0 w1 (treeV noMaps newT) 32) (h2 : Anew (n + 1) w1 w2 (treeV noMaps newT) 32) : Duo w0 n w2 n (n + 1) newT newT := by
  have hs := h1.old
  have htwo := hL.two
  have b2 : Below w1.heap.size w1 w2 := h1.size ▸ h2.below
  refine ⟨⟨noMaps, noMaps, (tree_new h1 n (Nat.le_refl _)).ofBelow b2, tree_new h2 n (by omega), fun i x y => ?_⟩, h1.below.trans (h2.below.mono (by omega)), hL.below (h1.below.trans (h2.below.mono (by omega))) (by omega), by omega, by rw [h2.size]; omega⟩
  rcases x with x | x
  · rcases y with y | y
    · omega
    · have := List.eq_of_mem_replicate y; cases this
  · have := List.eq_of_mem_replicate x; cases this
end Go.Proofs.YtbfadapffpijpaaDoor
