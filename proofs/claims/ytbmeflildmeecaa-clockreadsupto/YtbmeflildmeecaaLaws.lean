/- Letters for what memory holds, over whatever program: a block, a block that is new, what a call may have turned. -/
import Derived.WalkKit
import Derived.WalkSpells
import Derived.WalkLawsBesides
import Derived.Deep.MidRow
import Derived.Deep.WholeRow
import Derived.Deep.AppendLies
import Derived.Lib.AppendStr
namespace Go.Proofs.Ytbmeflildmeecaa
open Go.RowKit
variable {P : Program}

/-- Block b holds the cells cs. -/
def Holds (w : World) (b : Nat) (cs : List Value) (t : TypeId) : Prop := w.heap[b]? = some (.cells cs.toArray t (0, 0))

theorem Holds.lt {w : World} {b : Nat} {cs : List Value} {t : TypeId} (h : Holds w b cs t) : b < w.heap.size := by
  unfold Holds at h
  rcases Nat.lt_or_ge b w.heap.size with g | g
  · exact g
  · simp [Array.getElem?_eq_none g] at h
theorem Holds.cell {w : World} {b : Nat} {cs : List Value} {t : TypeId} (h : Holds w b cs t) (i : Nat) : w.cell? ⟨b, i, none⟩ = cs[i]? := by
  have := cell_of_row w b i cs.toArray t (0, 0) h
  simpa using this
theorem Holds.at {w : World} {b : Nat} {cs : List Value} {t : TypeId} (h : Holds w b cs t) (i : Nat) (v : Value) (hv : cs[i]? = some v) : w.cell? ⟨b, i, none⟩ = some v := by
  rw [h.cell, hv]
theorem Holds.frozen {w : World} {b : Nat} {cs : List Value} {t : TypeId} (h : Holds w b cs t) (i : Nat) : w.frozen? ⟨b, i, none⟩ = false :=
  frozen_of_row w b i cs.toArray t h
theorem Holds.set {w : World} {b : Nat} {cs : List Value} {t : TypeId} (h : Holds w b cs t) (i : Nat) (v : Value) : Holds (w.setCell ⟨b, i, none⟩ v) b (cs.set i v) t := by
  have := heap_setCell_same w b i cs.toArray t v h
  unfold Holds
  rw [this]; simp
theorem Holds.setOther {w : World} {b : Nat} {cs : List Value} {t : TypeId} (h : Holds w b cs t) (g i : Nat) (v : Value) (hne : b ≠ g) : Holds (w.setCell ⟨g, i, none⟩ v) b cs t := by
  unfold Holds
  rw [heap_setCell_other w ⟨g, i, none⟩ b v hne]; exact h
theorem Holds.drew {w : World} {b : Nat} {cs : List Value} {t : TypeId} (h : Holds w b cs t) : Holds w.drew b cs t := h
theorem Holds.below {w w' : World} {b B : Nat} {cs : List Value} {t : TypeId} (h : Holds w b cs t) (hb : Below B w w') (hB : b < B) : Holds w' b cs t := by
  unfold Holds
  rw [hb.block b hB]; exact h
theorem holds_new (w : World) (cs : List Value) (t : TypeId) : Holds (w.alloc (.cells cs.toArray t)) w.heap.size cs t := heap_alloc_new w _
theorem Holds.alloc {w : World} {b : Nat} {cs : List Value} {t : TypeId} (h : Holds w b cs t) (o : Obj) : Holds (w.alloc o) b cs t :=
  h.below ((Below.refl _ _).alloc (Nat.le_refl _) o) h.lt
theorem Holds.inj {w : World} {b : Nat} {cs ds : List Value} {t u : TypeId} (h : Holds w b cs t) (k : Holds w b ds u) : cs = ds ∧ t = u := by
  unfold Holds at h k
  rw [h] at k
  simp at k
  exact k
theorem Holds.range {w : World} {b : Nat} {cs : List Value} {t : TypeId} (h : Holds w b cs t) (o : Nat) (ds : List Value) (hd : ∀ j v, ds[j]? = some v → cs[o + j]? = some v) : w.rangeAt b o ds :=
  fun j v hv => h.at _ _ (hd j v hv)

/-- What behind a call that may turn block b alone is told of the world. -/
structure Upd (b : Nat) (w w' : World) : Prop where
  os : w'.os = w.os
  tape : w'.tape = w.tape
  output : w'.output = w.output
  size : w.heap.size ≤ w'.heap.size
  block : ∀ k, k < w.heap.size → k ≠ b → w'.heap[k]? = w.heap[k]?
theorem Upd.refl (b : Nat) (w : World) : Upd b w w := ⟨rfl, rfl, rfl, Nat.le_refl _, fun _ _ _ => rfl⟩
theorem Upd.trans {b : Nat} {x y z : World} (h : Upd b x y) (k : Upd b y z) : Upd b x z :=
  ⟨k.os.trans h.os, k.tape.trans h.tape, k.output.trans h.output, Nat.le_trans h.size k.size, fun i hi hb => (k.block i (Nat.lt_of_lt_of_le hi h.size) hb).trans (h.block i hi hb)⟩
theorem Upd.drew {b : Nat} {x y : World} (h : Upd b x y) : Upd b x y.drew := ⟨h.os, h.tape, h.output, h.size, h.block⟩
theorem Upd.setCell {b : Nat} {x y : World} (h : Upd b x y) (i : Nat) (v : Value) : Upd b x (y.setCell ⟨b, i, none⟩ v) :=
  h.trans ⟨rfl, rfl, rfl, by simp, fun k _ hk => heap_setCell_other y ⟨b, i, none⟩ k v hk⟩
theorem Upd.ofBelow {b : Nat} {x y : World} (h : Below x.heap.size x y) : Upd b x y := ⟨h.os, h.tape, h.output, h.size, fun k hk _ => h.block k hk⟩
theorem Upd.alloc {b : Nat} {x y : World} (h : Upd b x y) (o : Obj) : Upd b x (y.alloc o) := h.trans (Upd.ofBelow ((Below.refl _ _).alloc (Nat.le_refl _) o))
theorem Upd.below {b B : Nat} {x y : World} (h : Upd b x y) (hB : B ≤ b) (hs : B ≤ x.heap.size) : Below B x y :=
  ⟨h.os, h.tape, h.output, h.size, fun k hk => h.block k (by omega) (by omega)⟩
theorem Holds.upd {w w' : World} {b g : Nat} {cs : List Value} {t : TypeId} (h : Holds w g cs t) (hu : Upd b w w') (hne : g ≠ b) : Holds w' g cs t := by
  unfold Holds
  rw [hu.block g h.lt hne]; exact h

theorem wrap_u64 (n : Int) : IntKind.u64.wrap n = n % 18446744073709551616 := by simp [IntKind.wrap, IntKind.bits, IntKind.signed]
theorem wrap_u8 (n : Int) : IntKind.u8.wrap n = n % 256 := by simp [IntKind.wrap, IntKind.bits, IntKind.signed]
theorem ret_int {k : IntKind} {a b : Int} (h : a = b) : Ending.returned (.int k a) = .returned (.int k b) := by rw [h]

/-- What a slot holds as an integer. -/
def intOf : Value → Int
  | .int _ n => n
  | _ => 0
@[simp] theorem intOf_int (k : IntKind) (n : Int) : intOf (.int k n) = n := rfl
end Go.Proofs.Ytbmeflildmeecaa
