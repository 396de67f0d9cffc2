/- The document's own disk in memory: the same state, in one row of files. -/
import Derived.Test.YthaknjbcmflegaaAppend
import Derived.Test.YthaknjbcmflegaaMove
namespace Go.Proofs.Ythaknjbcmflegaa
open Go.RowKit Go.Maps Go.WideMaps

def armI (S : Dk) : Int := if S.armed = true then S.ahead else -1
def flV (p : List UInt8 × Fl) : List Value := [.string (strL p.1), .string (strL p.2.bytes), .int .i64 (p.2.firm : Int)]
def rowV (fs : Fs) : List Value := fs.flatMap flV
def refV (v : Value) (S : Dk) : List Value := [v, .int .i64 (S.room : Int), .int .i64 (armI S), .bool (!S.on), .int .i64 S.steps]
structure Dk.Good (S : Dk) : Prop extends Dk.Fine S where
  arm : S.armed = true → 0 ≤ S.ahead
  firm : ∀ p ∈ S.fs, p.2.firm ≤ p.2.bytes.length
def RefAt (w : World) (N r : Nat) (S : Dk) : Prop := ∃ v, Holds w r (refV v S) 35 ∧ N ≤ r ∧ w.ownsRow N 63 3 v S.fs.length (rowV S.fs) ∧ S.Good

theorem flV_len (p : List UInt8 × Fl) : (flV p).length = 3 := rfl
theorem rowV_len (fs : Fs) : (rowV fs).length = 3 * fs.length := by
  induction fs with
  | nil => rfl
  | cons p r ih =>
    show (flV p ++ rowV r).length = _
    rw [List.length_append, ih, flV_len, List.length_cons]; omega
theorem rowV_at : ∀ (fs : Fs) (i : Nat) (p : List UInt8 × Fl), fs[i]? = some p → ∀ j, j < 3 → (rowV fs)[i * 3 + j]? = (flV p)[j]?
  | [], _, _, h, _, _ => by simp at h
  | u :: r, 0, t, h, j, hj => by
    simp at h
    subst h
    show (flV u ++ rowV r)[_]? = _
    rw [List.getElem?_append_left (by rw [flV_len]; omega)]
    simp
  | u :: r, i + 1, t, h, j, hj => by
    show (flV u ++ rowV r)[_]? = _
    rw [List.getElem?_append_right (by rw [flV_len]; omega), flV_len]
    rw [show (i + 1) * 3 + j - 3 = i * 3 + j by omega]
    exact rowV_at r i t (by simpa using h) j hj
/-- Where the files lie. -/
theorem row63 {w : World} {N n : Nat} {v : Value} {fs : Fs} (h : w.ownsRow N 63 3 v n (rowV fs)) (hn : fs.length = n) :
    ∃ a c, v = .slice a n c ∧ (n = 0 ∨ ∃ g, a = some ⟨g, 0, none⟩ ∧ ∀ (i : Nat) (p : List UInt8 × Fl), fs[i]? = some p → ∀ (j : Nat) (u : Value), (flV p)[j]? = some u → w.cell? ⟨g, i * 3 + j, none⟩ = some u) := by
  rcases h.2 with ⟨rfl, h0⟩ | ⟨g, cap, cur, rfl, hb, hg, h1, h2, h3, h4⟩
  · subst h0
    exact ⟨_, _, rfl, .inl rfl⟩
  · refine ⟨_, _, rfl, .inr ⟨g, rfl, fun i p hi j u hu => ?_⟩⟩
    have hj : j < 3 := (List.getElem?_eq_some_iff.1 hu).1
    have := rowV_at fs i p hi j hj
    rw [hu, ← h4, List.getElem?_take] at this
    rw [cell_of_row w g _ cur 63 (0, 0) hg]
    split at this
    · simpa using this
    · cases this

/-- Memory that is the document's disk's. -/
def RefB (w : World) (i : Nat) : Prop := ∃ cs t fr, w.heap[i]? = some (.cells cs t fr) ∧ (t = 35 ∨ t = 63)
structure RUpd (N : Nat) (w w' : World) : Prop where
  os : w'.os = w.os
  tape : w'.tape = w.tape
  output : w'.output = w.output
  size : w.heap.size ≤ w'.heap.size
  block : ∀ i, i < w.heap.size → i < N ∨ ¬ RefB w i → w'.heap[i]? = w.heap[i]?
theorem RUpd.refl (N : Nat) (w : World) : RUpd N w w := ⟨rfl, rfl, rfl, Nat.le_refl _, fun _ _ _ => rfl⟩
theorem RefB.of {w w' : World} {i : Nat} (h : RefB w' i) (e : w'.heap[i]? = w.heap[i]?) : RefB w i := by
  obtain ⟨cs, t, fr, h, r⟩ := h
  exact ⟨cs, t, fr, e.symm.trans h, r⟩
theorem RUpd.trans {N : Nat} {x y z : World} (h : RUpd N x y) (k : RUpd N y z) : RUpd N x z :=
  ⟨k.os.trans h.os, k.tape.trans h.tape, k.output.trans h.output, Nat.le_trans h.size k.size, fun i hi hc =>
    have e := h.block i hi hc
    (k.block i (Nat.lt_of_lt_of_le hi h.size) (hc.imp id fun f g => f (g.of e))).trans e⟩
theorem RUpd.ofBelow {N : Nat} {x y : World} (h : Below x.heap.size x y) : RUpd N x y := ⟨h.os, h.tape, h.output, h.size, fun k hk _ => h.block k hk⟩
theorem RUpd.alloc {N : Nat} {x y : World} (h : RUpd N x y) (o : Obj) : RUpd N x (y.alloc o) := h.trans (RUpd.ofBelow ((Below.refl _ _).alloc (Nat.le_refl _) o))
theorem RUpd.drew {N : Nat} {x y : World} (h : RUpd N x y) : RUpd N x y.drew := ⟨h.os, h.tape, h.output, h.size, h.block⟩
theorem RUpd.below {N : Nat} {x y : World} (h : RUpd N x y) (hN : N ≤ x.heap.size) : Below N x y :=
  ⟨h.os, h.tape, h.output, h.size, fun k hk => h.block k (by omega) (.inl hk)⟩

theorem DiskAt.rupd {w w' : World} {N d : Nat} {S : Dk} (h : DiskAt w N d S) (hu : RUpd N w w') : DiskAt w' N d S := by
  obtain ⟨mv, st, A, V, h1, h2, h3, h4, h5⟩ := h
  refine ⟨mv, st, A, V, ?_, h2, h3.same (fun i es c hi => hu.block i (Array.getElem?_eq_some_iff.1 hi).1 (.inr ?_)), h4.same (fun i cs t fr hi ht => hu.block i (Array.getElem?_eq_some_iff.1 hi).1 (.inr ?_)), h5⟩
  · unfold Holds at h1 ⊢
    rw [hu.block d (Array.getElem?_eq_some_iff.1 h1).1 (.inr ?_)]
    · exact h1
    · rintro ⟨cs, t, fr, e, ht⟩
      rw [h1] at e
      rcases ht with rfl | rfl <;> simp at e
  · rintro ⟨cs, t, fr, e, ht⟩
    rw [hi] at e
    cases e
  · rintro ⟨cs', t', fr', e, ht'⟩
    rw [hi] at e
    rcases ht with rfl | rfl <;> rcases ht' with rfl | rfl <;> simp at e
theorem row_same {w w' : World} {N n size : Nat} {e : TypeId} {v : Value} {xs : List Value} (h : w.ownsRow N e size v n xs) (hs : ∀ (i : Nat) cs fr, w.heap[i]? = some (Obj.cells cs e fr) → w'.heap[i]? = w.heap[i]?) : w'.ownsRow N e size v n xs := by
  refine ⟨h.1, ?_⟩
  rcases h.2 with h | ⟨g, cap, cur, e, hb, hg, r⟩
  · exact .inl h
  · exact .inr ⟨g, cap, cur, e, hb, (hs g _ _ hg).trans hg, r⟩
theorem RefAt.dupd {w w' : World} {N r : Nat} {S : Dk} (h : RefAt w N r S) (hu : DUpd N w w') : RefAt w' N r S := by
  obtain ⟨v, h1, h2, h3, h4⟩ := h
  exact ⟨v, h1.dupd hu (by decide) (by decide) (by decide), h2, row_same h3 (fun i cs fr hi => hu.block i (Array.getElem?_eq_some_iff.1 hi).1 (.inr ⟨cs, 63, fr, hi, by decide, by decide, by decide⟩)), h4⟩
theorem RefAt.keep {w w' : World} {N r : Nat} {S : Dk} (h : RefAt w N r S) (hs : ∀ i, i < w.heap.size → w'.heap[i]? = w.heap[i]?) : RefAt w' N r S := by
  obtain ⟨v, h1, h2, h3, h4⟩ := h
  refine ⟨v, ?_, h2, row_same h3 (fun i cs fr hi => hs i (Array.getElem?_eq_some_iff.1 hi).1), h4⟩
  unfold Holds at h1 ⊢
  rw [hs r (Array.getElem?_eq_some_iff.1 h1).1]; exact h1
theorem RefAt.alloc {w : World} {N r : Nat} {S : Dk} (h : RefAt w N r S) (o : Obj) : RefAt (w.alloc o) N r S := h.keep ((Below.refl _ _).alloc (Nat.le_refl _) o).block
theorem RefAt.drew {w : World} {N r : Nat} {S : Dk} (h : RefAt w N r S) : RefAt w.drew N r S := h.keep (fun _ _ => rfl)
theorem RefAt.good {w : World} {N r : Nat} {S : Dk} (h : RefAt w N r S) : S.Good := by
  obtain ⟨v, _, _, _, h4⟩ := h
  exact h4
/-- A field of the document's disk is set. -/
theorem ref_set {w : World} {N r : Nat} {S T : Dk} {v : Value} (hH : Holds w r (refV v S) 35) (hN : N ≤ r) (hR : w.ownsRow N 63 3 v S.fs.length (rowV S.fs)) (hfs : T.fs = S.fs) (i : Nat) (u : Value) (e : (refV v S).set i u = refV v T) :
    Holds (w.setCell ⟨r, i, none⟩ u) r (refV v T) 35 ∧ (w.setCell ⟨r, i, none⟩ u).ownsRow N 63 3 v T.fs.length (rowV T.fs) ∧ RUpd N w (w.setCell ⟨r, i, none⟩ u) := by
  refine ⟨by rw [← e]; exact hH.set i u, ?_, rfl, rfl, rfl, by simp, fun j hj hc => heap_setCell_other w ⟨r, i, none⟩ j u (fun (e : j = r) => ?_)⟩
  · rw [hfs]
    refine row_same hR (fun j cs fr hj => heap_setCell_other w ⟨r, i, none⟩ j u (fun (e : j = r) => ?_))
    subst e
    unfold Holds at hH
    rw [hH] at hj
    simp at hj
  · subst e
    rcases hc with hc | hc
    · omega
    · exact hc ⟨_, 35, _, hH, .inl rfl⟩
/-- The row is another one. -/
theorem ref_row {w : World} {N r : Nat} {S T : Dk} {v v' : Value} (hH : Holds w r (refV v S) 35) (hN : N ≤ r) (hR : w.ownsRow N 63 3 v' T.fs.length (rowV T.fs)) (hT : T.Good) (e : (refV v S).set 0 v' = refV v' T) :
    RefAt (w.setCell ⟨r, 0, none⟩ v') N r T ∧ RUpd N w (w.setCell ⟨r, 0, none⟩ v') := by
  refine ⟨⟨v', by rw [← e]; exact hH.set 0 v', hN, ?_, hT⟩, rfl, rfl, rfl, by simp, fun j hj hc => heap_setCell_other w ⟨r, 0, none⟩ j v' (fun (e : j = r) => ?_)⟩
  · refine row_same hR (fun j cs fr hj => heap_setCell_other w ⟨r, 0, none⟩ j v' (fun (e : j = r) => ?_))
    subst e
    unfold Holds at hH
    rw [hH] at hj
    simp at hj
  · subst e
    rcases hc with hc | hc
    · omega
    · exact hc ⟨_, 35, _, hH, .inl rfl⟩
end Go.Proofs.Ythaknjbcmflegaa
