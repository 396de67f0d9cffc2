/- Laws, Pure, Mem, MemB. -/
import Derived.WalkKit
import Derived.WalkSpells
import Derived.WalkLawsBesides
import Derived.Deep.MidRow
import Derived.Deep.WholeRow
import Derived.Deep.AppendLies
import Derived.Lib.AppendStr
import Derived.Sort.KeysCollected
import Derived.Test.YtfmmholkeadejaaGreatDoorProg
import Derived.Maps.OwnSet
import Derived.Maps.RangeWalk
import Derived.StringKeys
/- Letters for what memory holds, over whatever program: a block, a block that is new, what a call may have turned. -/
namespace Go.Proofs.YtfmmholkeadejaaGreatDoor
open Go.RowKit
variable {P : Program}

/-- Block b holds the cells cs. -/
def Holds (w : World) (b : Nat) (cs : List Value) (t : TypeId) : Prop := w.heap[b]? = some (.cells cs.toArray t (0, 0))

theorem Holds.lt {w : World} {b : Nat} {cs : List Value} {t : TypeId} (h : Holds w b cs t) : b < w.heap.size := by
  unfold Holds at h
  rcases Nat.lt_or_ge b w.heap.size with g | g
  · exact g
  · simp [Array.getElem?_eq_none g] at h
theorem Holds.cell {w : World} {b : Nat} {cs : List Value} {t : TypeId} (h : Holds w b cs t) (i : Nat) : w.cell? ⟨b, i, none⟩ = cs[i]? := by
  have := cell_of_row w b i cs.toArray t (0, 0) h
  simpa using this
theorem Holds.at {w : World} {b : Nat} {cs : List Value} {t : TypeId} (h : Holds w b cs t) (i : Nat) (v : Value) (hv : cs[i]? = some v) : w.cell? ⟨b, i, none⟩ = some v := by
  rw [h.cell, hv]
theorem Holds.frozen {w : World} {b : Nat} {cs : List Value} {t : TypeId} (h : Holds w b cs t) (i : Nat) : w.frozen? ⟨b, i, none⟩ = false :=
  frozen_of_row w b i cs.toArray t h
theorem Holds.set {w : World} {b : Nat} {cs : List Value} {t : TypeId} (h : Holds w b cs t) (i : Nat) (v : Value) : Holds (w.setCell ⟨b, i, none⟩ v) b (cs.set i v) t := by
  have := heap_setCell_same w b i cs.toArray t v h
  unfold Holds
  rw [this]; simp
theorem Holds.setOther {w : World} {b : Nat} {cs : List Value} {t : TypeId} (h : Holds w b cs t) (g i : Nat) (v : Value) (hne : b ≠ g) : Holds (w.setCell ⟨g, i, none⟩ v) b cs t := by
  unfold Holds
  rw [heap_setCell_other w ⟨g, i, none⟩ b v hne]; exact h
theorem Holds.drew {w : World} {b : Nat} {cs : List Value} {t : TypeId} (h : Holds w b cs t) : Holds w.drew b cs t := h
theorem Holds.below {w w' : World} {b B : Nat} {cs : List Value} {t : TypeId} (h : Holds w b cs t) (hb : Below B w w') (hB : b < B) : Holds w' b cs t := by
  unfold Holds
  rw [hb.block b hB]; exact h
theorem holds_new (w : World) (cs : List Value) (t : TypeId) : Holds (w.alloc (.cells cs.toArray t)) w.heap.size cs t := heap_alloc_new w _
theorem Holds.alloc {w : World} {b : Nat} {cs : List Value} {t : TypeId} (h : Holds w b cs t) (o : Obj) : Holds (w.alloc o) b cs t :=
  h.below ((Below.refl _ _).alloc (Nat.le_refl _) o) h.lt
theorem Holds.inj {w : World} {b : Nat} {cs ds : List Value} {t u : TypeId} (h : Holds w b cs t) (k : Holds w b ds u) : cs = ds ∧ t = u := by
  unfold Holds at h k
  rw [h] at k
  simp at k
  exact k
theorem Holds.range {w : World} {b : Nat} {cs : List Value} {t : TypeId} (h : Holds w b cs t) (o : Nat) (ds : List Value) (hd : ∀ j v, ds[j]? = some v → cs[o + j]? = some v) : w.rangeAt b o ds :=
  fun j v hv => h.at _ _ (hd j v hv)

/-- What behind a call that may turn block b alone is told of the world. -/
structure Upd (b : Nat) (w w' : World) : Prop where
  os : w'.os = w.os
  tape : w'.tape = w.tape
  output : w'.output = w.output
  size : w.heap.size ≤ w'.heap.size
  block : ∀ k, k < w.heap.size → k ≠ b → w'.heap[k]? = w.heap[k]?
theorem Upd.refl (b : Nat) (w : World) : Upd b w w := ⟨rfl, rfl, rfl, Nat.le_refl _, fun _ _ _ => rfl⟩
theorem Upd.trans {b : Nat} {x y z : World} (h : Upd b x y) (k : Upd b y z) : Upd b x z :=
  ⟨k.os.trans h.os, k.tape.trans h.tape, k.output.trans h.output, Nat.le_trans h.size k.size, fun i hi hb => (k.block i (Nat.lt_of_lt_of_le hi h.size) hb).trans (h.block i hi hb)⟩
theorem Upd.drew {b : Nat} {x y : World} (h : Upd b x y) : Upd b x y.drew := ⟨h.os, h.tape, h.output, h.size, h.block⟩
theorem Upd.setCell {b : Nat} {x y : World} (h : Upd b x y) (i : Nat) (v : Value) : Upd b x (y.setCell ⟨b, i, none⟩ v) :=
  h.trans ⟨rfl, rfl, rfl, by simp, fun k _ hk => heap_setCell_other y ⟨b, i, none⟩ k v hk⟩
theorem Upd.ofBelow {b : Nat} {x y : World} (h : Below x.heap.size x y) : Upd b x y := ⟨h.os, h.tape, h.output, h.size, fun k hk _ => h.block k hk⟩
theorem Upd.alloc {b : Nat} {x y : World} (h : Upd b x y) (o : Obj) : Upd b x (y.alloc o) := h.trans (Upd.ofBelow ((Below.refl _ _).alloc (Nat.le_refl _) o))
theorem Upd.below {b B : Nat} {x y : World} (h : Upd b x y) (hB : B ≤ b) (hs : B ≤ x.heap.size) : Below B x y :=
  ⟨h.os, h.tape, h.output, h.size, fun k hk => h.block k (by omega) (by omega)⟩
theorem Holds.upd {w w' : World} {b g : Nat} {cs : List Value} {t : TypeId} (h : Holds w g cs t) (hu : Upd b w w') (hne : g ≠ b) : Holds w' g cs t := by
  unfold Holds
  rw [hu.block g h.lt hne]; exact h

theorem wrap_u64 (n : Int) : IntKind.u64.wrap n = n % 18446744073709551616 := by simp [IntKind.wrap, IntKind.bits, IntKind.signed]
theorem wrap_u8 (n : Int) : IntKind.u8.wrap n = n % 256 := by simp [IntKind.wrap, IntKind.bits, IntKind.signed]
theorem ret_int {k : IntKind} {a b : Int} (h : a = b) : Ending.returned (.int k a) = .returned (.int k b) := by rw [h]

/-- What a slot holds as an integer. -/
def intOf : Value → Int
  | .int _ n => n
  | _ => 0
@[simp] theorem intOf_int (k : IntKind) (n : Int) : intOf (.int k n) = n := rfl
end Go.Proofs.YtfmmholkeadejaaGreatDoor

/- Files by their names, as lists: what a disk has, without memory. -/
namespace Go.Proofs.YtfmmholkeadejaaGreatDoor

/-- A file: its bytes, and how many of the first ones are firm. -/
structure Fl where
  bytes : List UInt8
  firm : Nat
/-- Names with their files, by rising names. -/
abbrev Fs := List (List UInt8 × Fl)
def get : Fs → List UInt8 → Option Fl
  | [], _ => none
  | p :: r, k => if k = p.1 then some p.2 else get r k
def put (k : List UInt8) (f : Fl) : Fs → Fs
  | [] => [(k, f)]
  | p :: r => if k = p.1 then (k, f) :: r else if k < p.1 then (k, f) :: p :: r else p :: put k f r
def del (k : List UInt8) : Fs → Fs
  | [] => []
  | p :: r => if k = p.1 then r else p :: del k r
def used : Fs → Nat
  | [] => 0
  | p :: r => p.2.bytes.length + used r
def Rising (l : Fs) : Prop := l.Pairwise fun p q => p.1 < q.1

theorem get_put (k : List UInt8) (f : Fl) : ∀ (l : Fs) (k' : List UInt8), get (put k f l) k' = if k' = k then some f else get l k'
  | [], k' => by
    by_cases h : k' = k <;> simp [put, get, h]
  | p :: r, k' => by
    have ih := get_put k f r k'
    unfold put
    by_cases h : k = p.1
    · rw [if_pos h]
      by_cases h2 : k' = k
      · simp [get, h2]
      · rw [get, if_neg h2, if_neg h2, get, if_neg (by rw [← h]; exact h2)]
    · rw [if_neg h]
      by_cases h3 : k < p.1
      · rw [if_pos h3]
        by_cases h2 : k' = k <;> simp [get, h2]
      · rw [if_neg h3, get, ih]
        by_cases h2 : k' = k
        · subst h2
          rw [if_neg h, if_pos rfl, if_pos rfl]
        · rw [if_neg h2, if_neg h2, get]
theorem keys_put (k : List UInt8) (f : Fl) : ∀ (l : Fs) (p : List UInt8 × Fl), p ∈ put k f l → p = (k, f) ∨ p ∈ l
  | [], p, h => by
    rw [put] at h
    exact .inl (by simpa using h)
  | q :: r, p, h => by
    rw [put] at h
    split at h
    · rcases List.mem_cons.1 h with h | h
      · exact .inl h
      · exact .inr (List.mem_cons_of_mem _ h)
    · split at h
      · rcases List.mem_cons.1 h with h | h
        · exact .inl h
        · exact .inr h
      · rcases List.mem_cons.1 h with h | h
        · exact .inr (by rw [h]; exact List.mem_cons_self ..)
        · rcases keys_put k f r p h with h | h
          · exact .inl h
          · exact .inr (List.mem_cons_of_mem _ h)
theorem lt_of_not {a b : List UInt8} (h1 : ¬ a = b) (h2 : ¬ a < b) : b < a := by
  have h3 : b ≤ a := List.not_lt.1 h2
  exact List.not_le.1 (fun h => h1 (List.le_antisymm h h3))
theorem Rising.put {l : Fs} (h : Rising l) (k : List UInt8) (f : Fl) : Rising (put k f l) := by
  induction l with
  | nil => exact List.pairwise_cons.2 ⟨by simp, List.Pairwise.nil⟩
  | cons p r ih =>
    obtain ⟨h1, h2⟩ := List.pairwise_cons.1 h
    unfold YtfmmholkeadejaaGreatDoor.put
    split
    · rename_i e
      exact List.pairwise_cons.2 ⟨fun q hq => by rw [e]; exact h1 q hq, h2⟩
    · split
      · rename_i e e2
        refine List.pairwise_cons.2 ⟨fun q hq => ?_, h⟩
        rcases List.mem_cons.1 hq with rfl | hq
        · exact e2
        · exact List.lt_trans e2 (h1 q hq)
      · rename_i e e2
        refine List.pairwise_cons.2 ⟨fun q hq => ?_, ih h2⟩
        rcases keys_put k f r q hq with rfl | hq
        · exact lt_of_not e e2
        · exact h1 q hq
theorem get_none_of_lt {l : Fs} {k : List UInt8} (h : ∀ p ∈ l, k < p.1) : get l k = none := by
  induction l with
  | nil => rfl
  | cons p r ih =>
    rw [get, if_neg (fun e => by have := h p (List.mem_cons_self ..); rw [e] at this; exact List.lt_irrefl _ this)]
    exact ih (fun q hq => h q (List.mem_cons_of_mem _ hq))
theorem get_isSome (l : Fs) (k : List UInt8) : (get l k).isSome = true ↔ k ∈ l.map Prod.fst := by
  induction l with
  | nil => simp [get]
  | cons p r ih =>
    rw [get]
    by_cases h : k = p.1
    · rw [if_pos h]; simp [h]
    · rw [if_neg h, ih]
      simp [h]
theorem del_sub (k : List UInt8) : ∀ l : Fs, (del k l).Sublist l
  | [] => List.Sublist.refl _
  | p :: r => by
    unfold del
    split
    · exact List.sublist_cons_self _ _
    · exact List.Sublist.cons_cons _ (del_sub k r)
theorem Rising.del {l : Fs} (h : Rising l) (k : List UInt8) : Rising (del k l) := h.sublist (del_sub k l)
theorem get_del {l : Fs} (hl : Rising l) (k k' : List UInt8) : get (del k l) k' = if k' = k then none else get l k' := by
  induction l with
  | nil => simp [del, get]
  | cons p r ih =>
    obtain ⟨h1, h2⟩ := List.pairwise_cons.1 hl
    unfold del
    by_cases h : k = p.1
    · rw [if_pos h]
      by_cases h2' : k' = k
      · rw [if_pos h2', h2', h]
        exact get_none_of_lt h1
      · rw [if_neg h2', get, if_neg (by rw [← h]; exact h2')]
    · rw [if_neg h, get, ih h2]
      by_cases h2' : k' = k
      · subst h2'
        rw [if_neg h, if_pos rfl, if_pos rfl]
      · rw [if_neg h2', if_neg h2', get]
/-- How many bytes a name's file has. -/
def lenAt (l : Fs) (k : List UInt8) : Nat := match get l k with | some f => f.bytes.length | none => 0
theorem lenAt_cons_ne (p : List UInt8 × Fl) (r : Fs) (k : List UInt8) (h : ¬ k = p.1) : lenAt (p :: r) k = lenAt r k := by
  unfold lenAt
  rw [get, if_neg h]
theorem lenAt_cons_eq (p : List UInt8 × Fl) (r : Fs) : lenAt (p :: r) p.1 = p.2.bytes.length := by
  unfold lenAt
  rw [get, if_pos rfl]
theorem lenAt_none {l : Fs} {k : List UInt8} (h : get l k = none) : lenAt l k = 0 := by
  unfold lenAt
  rw [h]
theorem lenAt_some {l : Fs} {k : List UInt8} {f : Fl} (h : get l k = some f) : lenAt l k = f.bytes.length := by
  unfold lenAt
  rw [h]
theorem used_put {l : Fs} (hl : Rising l) (k : List UInt8) (f : Fl) : used (put k f l) + lenAt l k = used l + f.bytes.length := by
  induction l with
  | nil => simp [put, used, lenAt, get]
  | cons p r ih =>
    obtain ⟨h1, h2⟩ := List.pairwise_cons.1 hl
    unfold put
    by_cases h : k = p.1
    · rw [if_pos h, h, lenAt_cons_eq]; simp only [used]; omega
    · rw [if_neg h, lenAt_cons_ne p r k h]
      by_cases h3 : k < p.1
      · rw [if_pos h3, lenAt_none (get_none_of_lt (fun q hq => List.lt_trans h3 (h1 q hq)))]
        simp only [used]; omega
      · rw [if_neg h3]
        have := ih h2
        simp only [used]; omega
theorem used_del (l : Fs) (k : List UInt8) : used (del k l) + lenAt l k = used l := by
  induction l with
  | nil => simp [del, used, lenAt, get]
  | cons p r ih =>
    unfold del
    by_cases h : k = p.1
    · rw [if_pos h, h, lenAt_cons_eq, used]; omega
    · rw [if_neg h, lenAt_cons_ne p r k h]
      simp only [used]; omega
theorem len_put_le (l : Fs) (k : List UInt8) (f : Fl) : (put k f l).length ≤ l.length + 1 := by
  induction l with
  | nil => simp [put]
  | cons p r ih =>
    unfold put
    split
    · simp
    · split
      · simp
      · simp; omega
theorem len_put_old {l : Fs} (hl : Rising l) (k : List UInt8) (f g : Fl) (h : get l k = some g) : (put k f l).length = l.length := by
  induction l with
  | nil => simp [get] at h
  | cons p r ih =>
    obtain ⟨h1, h2⟩ := List.pairwise_cons.1 hl
    unfold put
    by_cases e : k = p.1
    · rw [if_pos e]; simp
    · rw [get, if_neg e] at h
      rw [if_neg e]
      by_cases e2 : k < p.1
      · rw [get_none_of_lt (fun q hq => List.lt_trans e2 (h1 q hq))] at h
        cases h
      · rw [if_neg e2, List.length_cons, ih h2 h, List.length_cons]
theorem len_del (l : Fs) (k : List UInt8) : (del k l).length ≤ l.length := (del_sub k l).length_le
theorem len_del_some (l : Fs) (k : List UInt8) (g : Fl) (h : get l k = some g) : (del k l).length + 1 = l.length := by
  induction l with
  | nil => simp [get] at h
  | cons p r ih =>
    unfold del
    by_cases e : k = p.1
    · rw [if_pos e]; simp
    · rw [get, if_neg e] at h
      rw [if_neg e, List.length_cons, List.length_cons, ih h]
theorem Rising.nodup {l : Fs} (h : Rising l) : (l.map Prod.fst).Nodup :=
  List.pairwise_map.2 (h.imp fun {p q} hlt e => by rw [e] at hlt; exact List.lt_irrefl _ hlt)
theorem mem_put (k : List UInt8) (f : Fl) (l : Fs) (p : List UInt8 × Fl) (h : p ∈ put k f l) : p.1 = k ∨ p ∈ l := by
  rcases keys_put k f l p h with rfl | h
  · exact .inl rfl
  · exact .inr h
theorem get_mem {l : Fs} {k : List UInt8} {f : Fl} (h : get l k = some f) : (k, f) ∈ l := by
  induction l with
  | nil => simp [get] at h
  | cons p r ih =>
    rw [get] at h
    split at h
    · rename_i e
      cases h
      rw [e]
      exact List.mem_cons_self ..
    · exact List.mem_cons_of_mem _ (ih h)
theorem mem_get {l : Fs} (hl : Rising l) {p : List UInt8 × Fl} (h : p ∈ l) : get l p.1 = some p.2 := by
  induction l with
  | nil => cases h
  | cons q r ih =>
    obtain ⟨h1, h2⟩ := List.pairwise_cons.1 hl
    rw [get]
    rcases List.mem_cons.1 h with rfl | h
    · rw [if_pos rfl]
    · rw [if_neg (fun e => by have := h1 p h; rw [e] at this; exact List.lt_irrefl _ this)]
      exact ih h2 h
/-- What has been met so far, together. -/
def sumOf (c : List UInt8 → Bool) : Fs → Nat
  | [] => 0
  | p :: r => (if c p.1 then p.2.bytes.length else 0) + sumOf c r
theorem sumOf_all (c : List UInt8 → Bool) (h : ∀ k, c k = true) : ∀ l : Fs, sumOf c l = used l
  | [] => rfl
  | p :: r => by rw [sumOf, used, h, sumOf_all c h r]; simp
theorem sumOf_none (c : List UInt8 → Bool) : ∀ l : Fs, (∀ p ∈ l, c p.1 = false) → sumOf c l = 0
  | [], _ => rfl
  | p :: r, h => by rw [sumOf, h p (List.mem_cons_self ..), sumOf_none c r (fun q hq => h q (List.mem_cons_of_mem _ hq))]; simp
theorem sumOf_congr (c d : List UInt8 → Bool) : ∀ l : Fs, (∀ p ∈ l, c p.1 = d p.1) → sumOf c l = sumOf d l
  | [], _ => rfl
  | p :: r, h => by rw [sumOf, sumOf, h p (List.mem_cons_self ..), sumOf_congr c d r (fun q hq => h q (List.mem_cons_of_mem _ hq))]
theorem sumOf_step {l : Fs} (hl : Rising l) (c d : List UInt8 → Bool) (x : List UInt8) (f : Fl) (hx : get l x = some f) (hc : c x = false) (hd : d x = true) (h : ∀ k, k ≠ x → d k = c k) : sumOf d l = sumOf c l + f.bytes.length := by
  induction l with
  | nil => simp [get] at hx
  | cons p r ih =>
    obtain ⟨h1, h2⟩ := List.pairwise_cons.1 hl
    rw [get] at hx
    rw [sumOf, sumOf]
    by_cases e : x = p.1
    · rw [if_pos e] at hx
      cases hx
      rw [← e, hc, hd]
      have : sumOf d r = sumOf c r := sumOf_congr d c r (fun q hq => h q.1 (fun e2 => by have := h1 q hq; rw [← e, e2] at this; exact List.lt_irrefl _ this))
      rw [this]
      simp; omega
    · rw [if_neg e] at hx
      rw [h p.1 (fun e2 => e e2.symm), ih h2 hx]
      omega
theorem sumOf_le (c : List UInt8 → Bool) : ∀ l : Fs, sumOf c l ≤ used l
  | [] => Nat.le_refl _
  | p :: r => by
    have := sumOf_le c r
    rw [sumOf, used]
    split <;> omega
end Go.Proofs.YtfmmholkeadejaaGreatDoor

/- A disk in memory: the block of its fields, the map of its files, the files' blocks, their bytes' rows. -/
namespace Go.Proofs.YtfmmholkeadejaaGreatDoor
open Go.RowKit Go.Maps Go.WideMaps

def byteV (c : UInt8) : Value := .int .u8 (c.toNat : Int)
/-- What lies in the map at a name: the file's block. -/
def tokV : Option Nat → Value
  | none => .pointer none
  | some b => .pointer (some ⟨b, 0, none⟩)
def tok : Option Nat → DataW Unit
  | none => .nil
  | some b => .lit (.int .i64 (b : Int))
def ptrElem : Value → Option (DataW Unit × List MemPlace)
  | .pointer none => some (.nil, [])
  | .pointer (some ⟨b, 0, none⟩) => some (.lit (.int .i64 (b : Int)), [])
  | _ => none
theorem ptr_tok (o : Option Nat) : ptrElem (tokV o) = some (tok o, []) := by cases o <;> rfl
theorem ptr_inv {v : Value} {y : DataW Unit × List MemPlace} (h : ptrElem v = some y) : ∃ o, v = tokV o ∧ y = (tok o, []) := by
  unfold ptrElem at h
  split at h
  · cases h; exact ⟨none, rfl, rfl⟩
  · rename_i b
    cases h; exact ⟨some b, rfl, rfl⟩
  · cases h
theorem tok_inj {a b : Option Nat} (h : tok a = tok b) : a = b := by
  cases a <;> cases b <;> simp [tok] at h ⊢
  omega
theorem und9 : Tryz.prog.underlying 9 = some .string := by kernel_rfl
theorem und120 : Tryz.prog.underlying 120 = some (.map 9 124) := by kernel_rfl
theorem law9 : Keyed Tryz.prog 9 := string_keyed und9
theorem zero124 (w : World) : (zeroValue 124).run Tryz.prog w = .ok (.pointer none) w := by kernel_rfl
theorem key_of (s : ByteArray) (h : s.size ≤ maxLen) : keyOf Tryz.prog 9 (.string s) = some (.string s.data.toList) := keyOf_string_mk und9 h

/-- A mark: blocks below n, and the maps that G names, are no disk's. -/
structure Lo where
  n : Nat
  G : Nat → Prop
instance : Coe Lo Nat := ⟨Lo.n⟩
/-- The map. -/
def MapAt (w : World) (N : Lo) (mv : Value) (A : List UInt8 → Option Nat) : Prop :=
  (mv = .map none ∧ ∀ k, A k = none) ∨ ∃ mb n D, mv = .map (some mb) ∧ (N ≤ mb ∧ ¬ N.G mb) ∧ w.ownsMap Tryz.prog 9 ptrElem mb n D ∧ (∀ k, D.atKey (.string k) .nil = tok (A k)) ∧ (∀ k, has D (.string k) = (A k).isSome)
/-- The files. -/
structure FilesAt (w : World) (N : Lo) (fs : Fs) (A : List UInt8 → Option Nat) (V : List UInt8 → Value) : Prop where
  file : ∀ k f, get fs k = some f → ∃ b, A k = some b ∧ N ≤ b ∧ Holds w b [V k, .int .i64 (f.firm : Int)] 128 ∧ w.ownsRow N 5 1 (V k) f.bytes.length (f.bytes.map byteV) ∧ f.firm ≤ f.bytes.length
  gone : ∀ k, get fs k = none → A k = none
  one : ∀ k k' b, A k = some b → A k' = some b → k = k'
  row : ∀ k k' g, (A k).isSome = true → (A k').isSome = true → (V k).ownBlock = some g → (V k').ownBlock = some g → k = k'
/-- A disk. -/
structure Dk where
  fs : Fs
  room : Nat
  on : Bool
  armed : Bool
  ahead : Int
  steps : Int
structure Dk.Fine (S : Dk) : Prop where
  rise : Rising S.fs
  len : S.fs.length ≤ 256
  used : used S.fs ≤ 16777216
  room : S.room ≤ 16777216
  keys : ∀ p ∈ S.fs, p.1.length ≤ 32
  ahead : -9223372036854775808 ≤ S.ahead ∧ S.ahead < 9223372036854775808
structure Dk.FineAt (S : Dk) (st : Int) : Prop extends Dk.Fine S where
  tie : st = S.steps
def diskV (mv : Value) (st : Int) (S : Dk) : List Value := [mv, .int .i64 (S.room : Int), .int .i64 st, .bool S.on, .bool S.armed, .int .i64 S.ahead]
def DiskAt (w : World) (N : Lo) (d : Nat) (S : Dk) : Prop :=
  ∃ mv st A V, Holds w d (diskV mv st S) 122 ∧ N ≤ d ∧ MapAt w N mv A ∧ FilesAt w N S.fs A V ∧ S.FineAt st

/-- Memory that is no disk's. -/
def Foreign (w : World) (i : Nat) : Prop := ∃ cs t fr, w.heap[i]? = some (.cells cs t fr) ∧ t ≠ 122 ∧ t ≠ 128 ∧ t ≠ 5
/-- What a call on a disk leaves as it was. -/
structure DUpd (N : Lo) (w w' : World) : Prop where
  os : w'.os = w.os
  tape : w'.tape = w.tape
  output : w'.output = w.output
  size : w.heap.size ≤ w'.heap.size
  block : ∀ i, i < w.heap.size → (i < N ∨ (N.G i ∧ ∃ es c, w.heap[i]? = some (Obj.map es c))) ∨ Foreign w i → w'.heap[i]? = w.heap[i]?
theorem DUpd.refl (N : Lo) (w : World) : DUpd N w w := ⟨rfl, rfl, rfl, Nat.le_refl _, fun _ _ _ => rfl⟩
theorem Foreign.of {w w' : World} {i : Nat} (h : Foreign w i) (e : w'.heap[i]? = w.heap[i]?) : Foreign w' i := by
  obtain ⟨cs, t, fr, h, r⟩ := h
  exact ⟨cs, t, fr, e.trans h, r⟩
theorem Foreign.lt {w : World} {i : Nat} (h : Foreign w i) : i < w.heap.size := by
  obtain ⟨cs, t, fr, h, r⟩ := h
  exact (Array.getElem?_eq_some_iff.1 h).1
theorem DUpd.trans {N : Lo} {x y z : World} (h : DUpd N x y) (k : DUpd N y z) : DUpd N x z :=
  ⟨k.os.trans h.os, k.tape.trans h.tape, k.output.trans h.output, Nat.le_trans h.size k.size, fun i hi hc =>
    have e := h.block i hi hc
    (k.block i (Nat.lt_of_lt_of_le hi h.size) (hc.imp (fun g => g.imp id fun ⟨g, es, c, q⟩ => ⟨g, es, c, e.trans q⟩) fun f => f.of e)).trans e⟩
theorem DUpd.drew {N : Lo} {x y : World} (h : DUpd N x y) : DUpd N x y.drew := ⟨h.os, h.tape, h.output, h.size, h.block⟩
theorem DUpd.ofBelow {N : Lo} {x y : World} (h : Below x.heap.size x y) : DUpd N x y := ⟨h.os, h.tape, h.output, h.size, fun k hk _ => h.block k hk⟩
theorem DUpd.alloc {N : Lo} {x y : World} (h : DUpd N x y) (o : Obj) : DUpd N x (y.alloc o) := h.trans (DUpd.ofBelow ((Below.refl _ _).alloc (Nat.le_refl _) o))
theorem DUpd.below {N : Lo} {x y : World} (h : DUpd N x y) (hN : N ≤ x.heap.size) : Below N x y :=
  ⟨h.os, h.tape, h.output, h.size, fun k hk => h.block k (by omega) (.inl (.inl hk))⟩
theorem Holds.foreign {w : World} {b : Nat} {cs : List Value} {t : TypeId} (h : Holds w b cs t) (h1 : t ≠ 122) (h2 : t ≠ 128) (h3 : t ≠ 5) : Foreign w b := ⟨_, _, _, h, h1, h2, h3⟩
theorem Holds.dupd {N : Lo} {w w' : World} {b : Nat} {cs : List Value} {t : TypeId} (h : Holds w b cs t) (hu : DUpd N w w') (h1 : t ≠ 122) (h2 : t ≠ 128) (h3 : t ≠ 5) : Holds w' b cs t := by
  unfold Holds
  rw [hu.block b h.lt (.inr (h.foreign h1 h2 h3))]; exact h

/-- A list of texts in memory that is no disk's, or an empty one anywhere. -/
def StrsAt (w : World) (N : Lo) (a : Option Addr) (ss : List ByteArray) : Prop := ss.length = 0 ∨ ∃ g o, a = some ⟨g, o, none⟩ ∧ g < w.heap.size ∧ (g < N ∨ Foreign w g) ∧ ∀ (i : Nat) (x : ByteArray), ss[i]? = some x → w.cell? ⟨g, o + i, none⟩ = some (.string x)
def IntsAt (w : World) (N : Lo) (a : Option Addr) (ss : List Int) : Prop := ss.length = 0 ∨ ∃ g o, a = some ⟨g, o, none⟩ ∧ g < w.heap.size ∧ (g < N ∨ Foreign w g) ∧ ∀ (i : Nat) (x : Int), ss[i]? = some x → w.cell? ⟨g, o + i, none⟩ = some (.int .i64 x)
theorem StrsAt.dupd {N : Lo} {w w' : World} {a : Option Addr} {ss : List ByteArray} (h : StrsAt w N a ss) (hu : DUpd N w w') : StrsAt w' N a ss := by
  rcases h with h | ⟨g, o, e, hg, hs, hc⟩
  · exact .inl h
  · have eb := hu.block g hg (hs.imp .inl id)
    exact .inr ⟨g, o, e, Nat.lt_of_lt_of_le hg hu.size, hs.imp id (fun f => f.of eb), fun i x hx => (World.cell?_of_block eb).trans (hc i x hx)⟩
theorem IntsAt.dupd {N : Lo} {w w' : World} {a : Option Addr} {ss : List Int} (h : IntsAt w N a ss) (hu : DUpd N w w') : IntsAt w' N a ss := by
  rcases h with h | ⟨g, o, e, hg, hs, hc⟩
  · exact .inl h
  · have eb := hu.block g hg (hs.imp .inl id)
    exact .inr ⟨g, o, e, Nat.lt_of_lt_of_le hg hu.size, hs.imp id (fun f => f.of eb), fun i x hx => (World.cell?_of_block eb).trans (hc i x hx)⟩

theorem MapAt.same {w w' : World} {N : Lo} {mv : Value} {A : List UInt8 → Option Nat} (h : MapAt w N mv A) (hs : ∀ (i : Nat) es c, w.heap[i]? = some (Obj.map es c) → w'.heap[i]? = w.heap[i]?) : MapAt w' N mv A := by
  rcases h with h | ⟨mb, n, D, e, hN, ⟨es, clock, hb, r⟩, h1, h2⟩
  · exact .inl h
  · exact .inr ⟨mb, n, D, e, hN, ⟨es, clock, (hs mb es clock hb).trans hb, r⟩, h1, h2⟩
theorem FilesAt.same {w w' : World} {N : Lo} {fs : Fs} {A : List UInt8 → Option Nat} {V : List UInt8 → Value} (h : FilesAt w N fs A V) (hs : ∀ (i : Nat) cs t fr, w.heap[i]? = some (Obj.cells cs t fr) → t = 128 ∨ t = 5 → w'.heap[i]? = w.heap[i]?) : FilesAt w' N fs A V := by
  refine ⟨fun k f hk => ?_, h.gone, h.one, h.row⟩
  obtain ⟨b, h1, h2, h3, h4, h5⟩ := h.file k f hk
  refine ⟨b, h1, h2, ?_, ?_, h5⟩
  · unfold Holds at h3 ⊢
    rw [hs b _ _ _ h3 (.inl rfl)]; exact h3
  · refine ⟨h4.1, ?_⟩
    rcases h4.2 with h | ⟨g, cap, cur, e, hb, hg, r⟩
    · exact .inl h
    · exact .inr ⟨g, cap, cur, e, hb, (hs g _ _ _ hg (.inr rfl)).trans hg, r⟩
theorem DiskAt.keep {w w' : World} {N : Lo} {d : Nat} {S : Dk} (h : DiskAt w N d S) (hs : ∀ i, i < w.heap.size → w'.heap[i]? = w.heap[i]?) : DiskAt w' N d S := by
  obtain ⟨mv, st, A, V, h1, h2, h3, h4, h5⟩ := h
  refine ⟨mv, st, A, V, ?_, h2, h3.same (fun i es c hi => hs i (Array.getElem?_eq_some_iff.1 hi).1), h4.same (fun i cs t fr hi _ => hs i (Array.getElem?_eq_some_iff.1 hi).1), h5⟩
  unfold Holds
  rw [hs d h1.lt]; exact h1
theorem DiskAt.below {w w' : World} {N : Lo} {d : Nat} {S : Dk} (h : DiskAt w N d S) (hb : Below w.heap.size w w') : DiskAt w' N d S := h.keep hb.block
theorem DiskAt.alloc {w : World} {N : Lo} {d : Nat} {S : Dk} (h : DiskAt w N d S) (o : Obj) : DiskAt (w.alloc o) N d S := h.below ((Below.refl _ _).alloc (Nat.le_refl _) o)
theorem DiskAt.drew {w : World} {N : Lo} {d : Nat} {S : Dk} (h : DiskAt w N d S) : DiskAt w.drew N d S := h.keep (fun _ _ => rfl)
theorem DiskAt.lt {w : World} {N : Lo} {d : Nat} {S : Dk} (h : DiskAt w N d S) : d < w.heap.size := by
  obtain ⟨mv, st, A, V, h1, _⟩ := h
  exact h1.lt
theorem DiskAt.le {w : World} {N : Lo} {d : Nat} {S : Dk} (h : DiskAt w N d S) : N ≤ d := by
  obtain ⟨mv, st, A, V, h1, h2, _⟩ := h
  exact h2

/-- The names in the map are the files'. -/
theorem keys_perm {w : World} {fs : Fs} {mb n : Nat} {D : DataW Unit} (hown : w.ownsMap Tryz.prog 9 ptrElem mb n D) (hr : Rising fs) (hh : ∀ k, has D (.string k) = (get fs k).isSome) : (fs.map Prod.fst).Perm (strKeys D) := by
  obtain ⟨es, hD, hpw, _⟩ := hown.entries law9
  obtain ⟨es', hD', hko⟩ := hown.keysOf
  obtain rfl : es = es' := by rw [hD] at hD'; simpa using hD'
  subst hD
  exact perm_strKeys hpw (fun p hp => by obtain ⟨v, hv⟩ := hko p hp; obtain ⟨x, _, hx, _⟩ := Maps.keyOf_str und9 hv; exact ⟨x, hx⟩) hr.nodup (fun x => by rw [hh x, get_isSome])
theorem size_files {w : World} {fs : Fs} {mb n : Nat} {D : DataW Unit} (hown : w.ownsMap Tryz.prog 9 ptrElem mb n D) (hr : Rising fs) (hh : ∀ k, has D (.string k) = (get fs k).isSome) : Maps.size D = fs.length := by
  have h := (keys_perm hown hr hh).length_eq
  obtain ⟨es, rfl⟩ := hown.isMap
  rw [List.length_map] at h
  rw [h]
  show es.length = (es.map _).length
  rw [List.length_map]
theorem ownsMap_tight {w : World} {mb n : Nat} {D : DataW Unit} (h : w.ownsMap Tryz.prog 9 ptrElem mb n D) : w.ownsMap Tryz.prog 9 ptrElem mb (Maps.size D) D := by
  obtain ⟨es, clock, hb, F, hs, hD⟩ := h
  refine ⟨es, clock, hb, F, ?_, hD⟩
  rw [hD]
  show es.size ≤ List.length _
  rw [length_read]
  exact Nat.le_refl _
theorem FilesAt.some_iff {w : World} {N : Lo} {fs : Fs} {A : List UInt8 → Option Nat} {V : List UInt8 → Value} (h : FilesAt w N fs A V) (k : List UInt8) : (A k).isSome = (get fs k).isSome := by
  cases hk : get fs k with
  | none => rw [h.gone k hk]; rfl
  | some f =>
    obtain ⟨b, hb, _⟩ := h.file k f hk
    rw [hb]; rfl
end Go.Proofs.YtfmmholkeadejaaGreatDoor

/- A disk in memory, turned: a field, a file, a name. -/
namespace Go.Proofs.YtfmmholkeadejaaGreatDoor
open Go.RowKit Go.Maps Go.WideMaps

def upd {α : Type} (f : List UInt8 → α) (k : List UInt8) (v : α) : List UInt8 → α := fun x => if x = k then v else f x
theorem upd_same {α : Type} (f : List UInt8 → α) (k : List UInt8) (v : α) : upd f k v k = v := by simp [upd]
theorem upd_other {α : Type} (f : List UInt8 → α) {k x : List UInt8} (v : α) (h : ¬ x = k) : upd f k v x = f x := by simp [upd, h]

theorem Dk.FineAt.of {S T : Dk} {st : Int} (h : S.FineAt st) (e : T.fs = S.fs) (hr : T.room ≤ 16777216) (ha : -9223372036854775808 ≤ T.ahead ∧ T.ahead < 9223372036854775808) (hs : T.steps = S.steps := by rfl) : T.FineAt st :=
  ⟨⟨by rw [e]; exact h.rise, by rw [e]; exact h.len, by rw [e]; exact h.used, hr, by rw [e]; exact h.keys, ha⟩, h.tie.trans hs.symm⟩
/-- A field is set. -/
theorem disk_set {w : World} {N : Lo} {d : Nat} {S T : Dk} {mv : Value} {st su : Int} {A : List UInt8 → Option Nat} {V : List UInt8 → Value} (hH : Holds w d (diskV mv st S) 122) (hN : N ≤ d) (hM : MapAt w N mv A) (hF : FilesAt w N S.fs A V) (hT : T.FineAt su) (hfs : T.fs = S.fs)
    (i : Nat) (v : Value) (e : (diskV mv st S).set i v = diskV mv su T) :
    (Holds (w.setCell ⟨d, i, none⟩ v) d (diskV mv su T) 122 ∧ MapAt (w.setCell ⟨d, i, none⟩ v) N mv A ∧ FilesAt (w.setCell ⟨d, i, none⟩ v) N T.fs A V) ∧ DiskAt (w.setCell ⟨d, i, none⟩ v) N d T ∧ DUpd N w (w.setCell ⟨d, i, none⟩ v) := by
  have h1 : Holds (w.setCell ⟨d, i, none⟩ v) d (diskV mv su T) 122 := by rw [← e]; exact hH.set i v
  have h2 : MapAt (w.setCell ⟨d, i, none⟩ v) N mv A := hM.same (fun j es c hj => heap_setCell_other w ⟨d, i, none⟩ j v (fun (e : j = d) => by subst e; unfold Holds at hH; rw [hH] at hj; cases hj))
  have h3 : FilesAt (w.setCell ⟨d, i, none⟩ v) N T.fs A V := by
    rw [hfs]
    refine hF.same (fun j cs t fr hj ht => heap_setCell_other w ⟨d, i, none⟩ j v (fun (e : j = d) => ?_))
    subst e
    unfold Holds at hH
    rw [hH] at hj
    simp at hj
    rcases ht with rfl | rfl <;> simp at hj
  refine ⟨⟨h1, h2, h3⟩, ⟨mv, su, A, V, h1, hN, h2, h3, hT⟩, rfl, rfl, rfl, by simp, fun j hj hc => heap_setCell_other w ⟨d, i, none⟩ j v (fun (e : j = d) => ?_)⟩
  subst e
  rcases hc with (hc | ⟨_, es, c, hc⟩) | ⟨cs, t, fr, hc, ht, _⟩
  · omega
  · unfold Holds at hH
    rw [hH] at hc
    cases hc
  · unfold Holds at hH
    rw [hH] at hc
    simp at hc
    exact ht hc.2.1.symm

/-- A file is written. -/
theorem FilesAt.write {w w' : World} {N : Lo} {fs : Fs} {A : List UInt8 → Option Nat} {V : List UInt8 → Value} (h : FilesAt w N fs A V) (k : List UInt8) (b : Nat) (v' : Value) (f' : Fl) (hk : A k = some b) (hN : N ≤ b)
    (hH : Holds w' b [v', .int .i64 (f'.firm : Int)] 128) (hrow : w'.ownsRow N 5 1 v' f'.bytes.length (f'.bytes.map byteV)) (hfl : f'.firm ≤ f'.bytes.length)
    (hloc : ∀ g, v'.ownBlock = some g → (V k).ownBlock = some g ∨ w.heap.size ≤ g) (hs : ∀ i, i < w.heap.size → i ≠ b → some i ≠ (V k).ownBlock → w'.heap[i]? = w.heap[i]?) : FilesAt w' N (put k f' fs) A (upd V k v') := by
  obtain ⟨f, hf⟩ : ∃ f, get fs k = some f := by
    cases hg : get fs k with
    | none => rw [h.gone k hg] at hk; cases hk
    | some f => exact ⟨f, rfl⟩
  obtain ⟨b0, hb0, _, hHk, hrk, _⟩ := h.file k f hf
  obtain rfl : b0 = b := by rw [hb0] at hk; exact Option.some.inj hk
  have hrowtag : ∀ g, (V k).ownBlock = some g → ∃ cur, w.heap[g]? = some (.cells cur 5 (0, 0)) := fun g hg => by
    rcases hrk.2 with ⟨e, _⟩ | ⟨g', cap, cur, e, _, hcur, _⟩
    · rw [e] at hg; cases hg
    · rw [e] at hg
      obtain rfl : g' = g := by simpa [Value.ownBlock] using hg
      exact ⟨cur, hcur⟩
  refine ⟨fun k0 f0 hk0 => ?_, fun k0 hk0 => ?_, h.one, fun k1 k2 g h1 h2 e1 e2 => ?_⟩
  · rw [get_put] at hk0
    by_cases e : k0 = k
    · subst e
      rw [if_pos rfl] at hk0
      cases hk0
      exact ⟨b0, hk, hN, by rw [upd_same]; exact hH, by rw [upd_same]; exact hrow, hfl⟩
    · rw [if_neg e] at hk0
      obtain ⟨b1, hb1, hN1, hH1, hr1, hf1⟩ := h.file k0 f0 hk0
      have hne : b1 ≠ b0 := fun e2 => e (h.one k0 k b0 (by rw [← e2]; exact hb1) hk)
      refine ⟨b1, hb1, hN1, ?_, ?_, hf1⟩
      · rw [upd_other _ _ e]
        unfold Holds
        rw [hs b1 hH1.lt hne (fun e2 => ?_)]
        · exact hH1
        · obtain ⟨cur, hcur⟩ := hrowtag b1 e2.symm
          unfold Holds at hH1
          rw [hH1] at hcur
          simp at hcur
      · rw [upd_other _ _ e]
        refine ⟨hr1.1, ?_⟩
        rcases hr1.2 with hn | ⟨g, cap, cur, ev, hbg, hcur, r⟩
        · exact .inl hn
        · refine .inr ⟨g, cap, cur, ev, hbg, ?_, r⟩
          rw [hs g (Array.getElem?_eq_some_iff.1 hcur).1 (fun e2 => ?_) (fun e2 => ?_)]
          · exact hcur
          · subst e2
            unfold Holds at hHk
            rw [hHk] at hcur
            simp at hcur
          · exact e (h.row k0 k g (by rw [hb1]; rfl) (by rw [hk]; rfl) (by rw [ev]; rfl) e2.symm)
  · rw [get_put] at hk0
    by_cases e : k0 = k
    · rw [if_pos e] at hk0; cases hk0
    · rw [if_neg e] at hk0
      exact h.gone k0 hk0
  · have low : ∀ x, (A x).isSome = true → ∀ g, (V x).ownBlock = some g → g < w.heap.size := fun x hx g hg => by
      rw [h.some_iff] at hx
      obtain ⟨fx, hfx⟩ := Option.isSome_iff_exists.1 hx
      obtain ⟨_, _, _, _, hr, _⟩ := h.file x fx hfx
      exact (hr.lt g hg).2
    by_cases c1 : k1 = k
    · by_cases c2 : k2 = k
      · rw [c1, c2]
      · rw [c1, upd_same] at e1
        rw [upd_other _ _ c2] at e2
        rcases hloc g e1 with hl | hl
        · rw [c1]; exact h.row k k2 g (by rw [hk]; rfl) h2 hl e2
        · have := low k2 h2 g e2; omega
    · rw [upd_other _ _ c1] at e1
      by_cases c2 : k2 = k
      · rw [c2, upd_same] at e2
        rcases hloc g e2 with hl | hl
        · rw [c2]; exact h.row k1 k g h1 (by rw [hk]; rfl) e1 hl
        · have := low k1 h1 g e1; omega
      · rw [upd_other _ _ c2] at e2
        exact h.row k1 k2 g h1 h2 e1 e2
/-- A file is made. -/
theorem FilesAt.make {w w' : World} {N : Lo} {fs : Fs} {A : List UInt8 → Option Nat} {V : List UInt8 → Value} (h : FilesAt w N fs A V) (k : List UInt8) (b : Nat) (hb : w.heap.size ≤ b) (hN : N ≤ b)
    (hH : Holds w' b [.slice none 0 0, .int .i64 0] 128) (hs : ∀ (i : Nat) cs t fr, w.heap[i]? = some (Obj.cells cs t fr) → t = 128 ∨ t = 5 → w'.heap[i]? = w.heap[i]?) : FilesAt w' N (put k ⟨[], 0⟩ fs) (upd A k (some b)) (upd V k (.slice none 0 0)) := by
  have hF := h.same hs
  have low : ∀ x g, A x = some g → g < w.heap.size := fun x g hx => by
    cases hg : get fs x with
    | none => rw [h.gone x hg] at hx; cases hx
    | some f =>
      obtain ⟨b1, hb1, _, hH1, _⟩ := h.file x f hg
      obtain rfl : b1 = g := by rw [hb1] at hx; exact Option.some.inj hx
      exact hH1.lt
  refine ⟨fun k0 f0 hk0 => ?_, fun k0 hk0 => ?_, fun k1 k2 g e1 e2 => ?_, fun k1 k2 g h1 h2 e1 e2 => ?_⟩
  · rw [get_put] at hk0
    by_cases e : k0 = k
    · subst e
      rw [if_pos rfl] at hk0
      cases hk0
      exact ⟨b, upd_same _ _ _, hN, by rw [upd_same]; exact hH, by rw [upd_same]; exact World.ownsRow_nil _ _ _ _, Nat.le_refl _⟩
    · rw [if_neg e] at hk0
      obtain ⟨b1, hb1, r⟩ := hF.file k0 f0 hk0
      exact ⟨b1, by rw [upd_other _ _ e]; exact hb1, by rw [upd_other _ _ e]; exact r⟩
  · rw [get_put] at hk0
    by_cases e : k0 = k
    · rw [if_pos e] at hk0; cases hk0
    · rw [if_neg e] at hk0
      rw [upd_other _ _ e]; exact h.gone k0 hk0
  · by_cases c1 : k1 = k
    · by_cases c2 : k2 = k
      · rw [c1, c2]
      · rw [c1, upd_same] at e1
        rw [upd_other _ _ c2] at e2
        have := low k2 g e2
        have : b = g := Option.some.inj e1
        omega
    · rw [upd_other _ _ c1] at e1
      by_cases c2 : k2 = k
      · rw [c2, upd_same] at e2
        have := low k1 g e1
        have : b = g := Option.some.inj e2
        omega
      · rw [upd_other _ _ c2] at e2
        exact h.one k1 k2 g e1 e2
  · by_cases c1 : k1 = k
    · rw [c1, upd_same] at e1; cases e1
    · by_cases c2 : k2 = k
      · rw [c2, upd_same] at e2; cases e2
      · rw [upd_other _ _ c1] at e1 h1
        rw [upd_other _ _ c2] at e2 h2
        exact h.row k1 k2 g h1 h2 e1 e2
/-- A file is gone. -/
theorem FilesAt.drop {w : World} {N : Lo} {fs : Fs} {A : List UInt8 → Option Nat} {V : List UInt8 → Value} (h : FilesAt w N fs A V) (hr : Rising fs) (k : List UInt8) : FilesAt w N (del k fs) (upd A k none) V := by
  refine ⟨fun k0 f0 hk0 => ?_, fun k0 hk0 => ?_, fun k1 k2 g e1 e2 => ?_, fun k1 k2 g h1 h2 e1 e2 => ?_⟩
  · rw [get_del hr] at hk0
    by_cases e : k0 = k
    · rw [if_pos e] at hk0; cases hk0
    · rw [if_neg e] at hk0
      obtain ⟨b1, hb1, r⟩ := h.file k0 f0 hk0
      exact ⟨b1, by rw [upd_other _ _ e]; exact hb1, r⟩
  · rw [get_del hr] at hk0
    by_cases e : k0 = k
    · rw [e, upd_same]
    · rw [if_neg e] at hk0
      rw [upd_other _ _ e]; exact h.gone k0 hk0
  · by_cases c1 : k1 = k
    · rw [c1, upd_same] at e1; cases e1
    · by_cases c2 : k2 = k
      · rw [c2, upd_same] at e2; cases e2
      · rw [upd_other _ _ c1] at e1
        rw [upd_other _ _ c2] at e2
        exact h.one k1 k2 g e1 e2
  · by_cases c1 : k1 = k
    · rw [c1, upd_same] at h1; cases h1
    · by_cases c2 : k2 = k
      · rw [c2, upd_same] at h2; cases h2
      · rw [upd_other _ _ c1] at h1
        rw [upd_other _ _ c2] at h2
        exact h.row k1 k2 g h1 h2 e1 e2
/-- A file is called otherwise. -/
theorem FilesAt.move {w : World} {N : Lo} {fs : Fs} {A : List UInt8 → Option Nat} {V : List UInt8 → Value} (h : FilesAt w N fs A V) (hr : Rising fs) (k t : List UInt8) (b : Nat) (f : Fl) (hk : A k = some b) (hf : get fs k = some f) :
    FilesAt w N (put t f (del k fs)) (upd (upd A k none) t (some b)) (upd V t (V k)) := by
  have old : ∀ x g, ¬ x = t → (upd (upd A k none) t (some b)) x = some g → ¬ x = k ∧ A x = some g := fun x g hx e => by
    rw [upd_other _ _ hx] at e
    by_cases c : x = k
    · rw [c, upd_same] at e; cases e
    · rw [upd_other _ _ c] at e
      exact ⟨c, e⟩
  refine ⟨fun k0 f0 hk0 => ?_, fun k0 hk0 => ?_, fun k1 k2 g e1 e2 => ?_, fun k1 k2 g h1 h2 e1 e2 => ?_⟩
  · rw [get_put] at hk0
    by_cases e : k0 = t
    · subst e
      rw [if_pos rfl] at hk0
      cases hk0
      obtain ⟨b1, hb1, r⟩ := h.file k f hf
      obtain rfl : b1 = b := by rw [hb1] at hk; exact Option.some.inj hk
      exact ⟨b1, upd_same _ _ _, by rw [upd_same]; exact r⟩
    · rw [if_neg e, get_del hr] at hk0
      by_cases c : k0 = k
      · rw [if_pos c] at hk0; cases hk0
      · rw [if_neg c] at hk0
        obtain ⟨b1, hb1, r⟩ := h.file k0 f0 hk0
        exact ⟨b1, by rw [upd_other _ _ e, upd_other _ _ c]; exact hb1, by rw [upd_other _ _ e]; exact r⟩
  · rw [get_put] at hk0
    by_cases e : k0 = t
    · rw [if_pos e] at hk0; cases hk0
    · rw [if_neg e, get_del hr] at hk0
      rw [upd_other _ _ e]
      by_cases c : k0 = k
      · rw [c, upd_same]
      · rw [if_neg c] at hk0
        rw [upd_other _ _ c]; exact h.gone k0 hk0
  · by_cases c1 : k1 = t
    · by_cases c2 : k2 = t
      · rw [c1, c2]
      · obtain ⟨q1, q2⟩ := old k2 g c2 e2
        rw [c1, upd_same] at e1
        obtain rfl := Option.some.inj e1
        exact absurd (h.one k2 k b q2 hk) q1
    · obtain ⟨p1, p2⟩ := old k1 g c1 e1
      by_cases c2 : k2 = t
      · rw [c2, upd_same] at e2
        obtain rfl := Option.some.inj e2
        exact absurd (h.one k1 k b p2 hk) p1
      · obtain ⟨q1, q2⟩ := old k2 g c2 e2
        exact h.one k1 k2 g p2 q2
  · have hks : (A k).isSome = true := by rw [hk]; rfl
    by_cases c1 : k1 = t
    · by_cases c2 : k2 = t
      · rw [c1, c2]
      · rw [c1, upd_same] at e1
        obtain ⟨g2, hg2⟩ := Option.isSome_iff_exists.1 h2
        obtain ⟨q1, q2⟩ := old k2 g2 c2 hg2
        rw [upd_other _ _ c2] at e2
        exact absurd (h.row k2 k g (by rw [q2]; rfl) hks e2 e1) q1
    · obtain ⟨g1, hg1⟩ := Option.isSome_iff_exists.1 h1
      obtain ⟨p1, p2⟩ := old k1 g1 c1 hg1
      rw [upd_other _ _ c1] at e1
      by_cases c2 : k2 = t
      · rw [c2, upd_same] at e2
        exact absurd (h.row k1 k g (by rw [p2]; rfl) hks e1 e2) p1
      · obtain ⟨g2, hg2⟩ := Option.isSome_iff_exists.1 h2
        obtain ⟨q1, q2⟩ := old k2 g2 c2 hg2
        rw [upd_other _ _ c2] at e2
        exact h.row k1 k2 g (by rw [p2]; rfl) (by rw [q2]; rfl) e1 e2

theorem isKeyLit_str (k : List UInt8) : WideAt.IsKeyLit (.string k) := trivial
theorem lit_ne {a b : List UInt8} (h : ¬ a = b) : (Lit.string a) ≠ .string b := fun e => h (by simpa using e)
/-- The map behind a store, behind a delete. -/
theorem map_put {w : World} {N : Lo} {mb n : Nat} {D : DataW Unit} {A : List UInt8 → Option Nat} (hown : w.ownsMap Tryz.prog 9 ptrElem mb n D) (hat : ∀ k, D.atKey (.string k) .nil = tok (A k)) (hhas : ∀ k, has D (.string k) = (A k).isSome)
    {w1 : World} {n1 : Nat} (k : List UInt8) (b : Nat) (h1 : w1.ownsMap Tryz.prog 9 ptrElem mb n1 (D.put (.string k) (tok (some b)))) (hN : N ≤ mb ∧ ¬ N.G mb) : MapAt w1 N (.map (some mb)) (upd A k (some b)) := by
  refine .inr ⟨mb, n1, _, rfl, hN, h1, fun x => ?_, fun x => ?_⟩
  · by_cases e : x = k
    · subst e
      rw [upd_same, atKey_put_same hown.isMap (isKeyLit_str _)]
    · rw [upd_other _ _ e, atKey_put_other (lit_ne e), hat]
  · by_cases e : x = k
    · subst e
      rw [upd_same, has_put_same hown.isMap (isKeyLit_str _)]; rfl
    · rw [upd_other _ _ e, has_put_other (lit_ne e), hhas]
theorem map_del {w1 : World} {N : Lo} {mb n1 : Nat} {D : DataW Unit} {A : List UInt8 → Option Nat} (hat : ∀ k, D.atKey (.string k) .nil = tok (A k)) (hhas : ∀ k, has D (.string k) = (A k).isSome)
    (k : List UInt8) (h1 : w1.ownsMap Tryz.prog 9 ptrElem mb n1 (D.del (.string k))) (hN : N ≤ mb ∧ ¬ N.G mb) : MapAt w1 N (.map (some mb)) (upd A k none) := by
  refine .inr ⟨mb, n1, _, rfl, hN, h1, fun x => ?_, fun x => ?_⟩
  · by_cases e : x = k
    · subst e
      rw [upd_same, atKey_del_same]; rfl
    · rw [upd_other _ _ e, atKey_del_other (lit_ne e), hat]
  · by_cases e : x = k
    · subst e
      rw [upd_same, has_del_same]; rfl
    · rw [upd_other _ _ e, has_del_other (lit_ne e), hhas]

/-- A look-up in the map. -/
theorem MapAt.look {w : World} {N : Lo} {mv : Value} {A : List UInt8 → Option Nat} (h : MapAt w N mv A) (s : ByteArray) (hs : s.size ≤ maxLen) : (Instr.lookup 120 mv (.string s) false).run Tryz.prog w = .ok (tokV (A s.data.toList)) w := by
  rcases h with ⟨rfl, hn⟩ | ⟨mb, n, D, rfl, hN, hown, hat, _⟩
  · have := Maps.look_nil (w := w) false law9 und120 (zero124 w) (key_of s hs)
    rw [this, hn]; rfl
  · obtain ⟨v, ps, hrun, hv⟩ := hown.lookup law9 und120 (zero124 w) (zd := .nil) (zp := []) rfl (key_of s hs)
    rw [hat] at hv
    obtain ⟨o, rfl, e⟩ := ptr_inv hv
    rw [hrun]
    have : tok (A s.data.toList) = tok o := by
      have := congrArg Prod.fst e
      exact this
    rw [tok_inj this]
/-- How many files the map has. -/
theorem MapAt.len {w : World} {N : Lo} {mv : Value} {fs : Fs} {A : List UInt8 → Option Nat} {V : List UInt8 → Value} (h : MapAt w N mv A) (hF : FilesAt w N fs A V) (hr : Rising fs) (ty : TypeId) : (Builtin.len_ #[120] ty #[mv]).run Tryz.prog w = .ok (.int .i64 (fs.length : Int)) w := by
  rcases h with ⟨rfl, hn⟩ | ⟨mb, n, D, rfl, hN, hown, hat, hh⟩
  · have e : fs = [] := by
      cases fs with
      | nil => rfl
      | cons p r =>
        have : get (p :: r) p.1 = some p.2 := by rw [get, if_pos rfl]
        obtain ⟨b, hb, _⟩ := hF.file p.1 p.2 this
        rw [hn] at hb; cases hb
    subst e
    exact Maps.len_nil und120 ty
  · rw [hown.len und120 ty, size_files hown hr (fun k => by rw [hh, hF.some_iff])]
end Go.Proofs.YtfmmholkeadejaaGreatDoor
