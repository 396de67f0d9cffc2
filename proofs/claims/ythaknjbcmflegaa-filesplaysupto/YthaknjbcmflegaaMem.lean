/- A disk in memory: the block of its fields, the map of its files, the files' blocks, their bytes' rows. -/
import Derived.Test.YthaknjbcmflegaaLaws
import Derived.Test.YthaknjbcmflegaaPure
import Derived.Test.YthaknjbcmflegaaProg
import Derived.Maps.OwnSet
import Derived.Maps.RangeWalk
import Derived.StringKeys
namespace Go.Proofs.Ythaknjbcmflegaa
open Go.RowKit Go.Maps Go.WideMaps

def byteV (c : UInt8) : Value := .int .u8 (c.toNat : Int)
/-- What lies in the map at a name: the file's block. -/
def tokV : Option Nat → Value
  | none => .pointer none
  | some b => .pointer (some ⟨b, 0, none⟩)
def tok : Option Nat → DataW Unit
  | none => .nil
  | some b => .lit (.int .i64 (b : Int))
def ptrElem : Value → Option (DataW Unit × List MemPlace)
  | .pointer none => some (.nil, [])
  | .pointer (some ⟨b, 0, none⟩) => some (.lit (.int .i64 (b : Int)), [])
  | _ => none
theorem ptr_tok (o : Option Nat) : ptrElem (tokV o) = some (tok o, []) := by cases o <;> rfl
theorem ptr_inv {v : Value} {y : DataW Unit × List MemPlace} (h : ptrElem v = some y) : ∃ o, v = tokV o ∧ y = (tok o, []) := by
  unfold ptrElem at h
  split at h
  · cases h; exact ⟨none, rfl, rfl⟩
  · rename_i b
    cases h; exact ⟨some b, rfl, rfl⟩
  · cases h
theorem tok_inj {a b : Option Nat} (h : tok a = tok b) : a = b := by
  cases a <;> cases b <;> simp [tok] at h ⊢
  omega
theorem und9 : Try.prog.underlying 9 = some .string := by kernel_rfl
theorem und48 : Try.prog.underlying 48 = some (.map 9 56) := by kernel_rfl
theorem law9 : Keyed Try.prog 9 := string_keyed und9
theorem zero56 (w : World) : (zeroValue 56).run Try.prog w = .ok (.pointer none) w := by kernel_rfl
theorem key_of (s : ByteArray) (h : s.size ≤ maxLen) : keyOf Try.prog 9 (.string s) = some (.string s.data.toList) := keyOf_string_mk und9 h

/-- The map. -/
def MapAt (w : World) (N : Nat) (mv : Value) (A : List UInt8 → Option Nat) : Prop :=
  (mv = .map none ∧ ∀ k, A k = none) ∨ ∃ mb n D, mv = .map (some mb) ∧ N ≤ mb ∧ w.ownsMap Try.prog 9 ptrElem mb n D ∧ (∀ k, D.atKey (.string k) .nil = tok (A k)) ∧ (∀ k, has D (.string k) = (A k).isSome)
/-- The files. -/
structure FilesAt (w : World) (N : Nat) (fs : Fs) (A : List UInt8 → Option Nat) (V : List UInt8 → Value) : Prop where
  file : ∀ k f, get fs k = some f → ∃ b, A k = some b ∧ N ≤ b ∧ Holds w b [V k, .int .i64 (f.firm : Int)] 61 ∧ w.ownsRow N 5 1 (V k) f.bytes.length (f.bytes.map byteV) ∧ f.firm ≤ f.bytes.length
  gone : ∀ k, get fs k = none → A k = none
  one : ∀ k k' b, A k = some b → A k' = some b → k = k'
  row : ∀ k k' g, (A k).isSome = true → (A k').isSome = true → (V k).ownBlock = some g → (V k').ownBlock = some g → k = k'
/-- A disk. -/
structure Dk where
  fs : Fs
  room : Nat
  on : Bool
  armed : Bool
  ahead : Int
  steps : Int
structure Dk.Fine (S : Dk) : Prop where
  rise : Rising S.fs
  len : S.fs.length ≤ 256
  used : used S.fs ≤ 16777216
  room : S.room ≤ 16777216
  keys : ∀ p ∈ S.fs, p.1.length ≤ 32
  ahead : -9223372036854775808 ≤ S.ahead ∧ S.ahead < 9223372036854775808
structure Dk.FineAt (S : Dk) (st : Int) : Prop extends Dk.Fine S where
  tie : st = S.steps
def diskV (mv : Value) (st : Int) (S : Dk) : List Value := [mv, .int .i64 (S.room : Int), .int .i64 st, .bool S.on, .bool S.armed, .int .i64 S.ahead]
def DiskAt (w : World) (N d : Nat) (S : Dk) : Prop :=
  ∃ mv st A V, Holds w d (diskV mv st S) 50 ∧ N ≤ d ∧ MapAt w N mv A ∧ FilesAt w N S.fs A V ∧ S.FineAt st

/-- Memory that is no disk's. -/
def Foreign (w : World) (i : Nat) : Prop := ∃ cs t fr, w.heap[i]? = some (.cells cs t fr) ∧ t ≠ 50 ∧ t ≠ 61 ∧ t ≠ 5
/-- What a call on a disk leaves as it was. -/
structure DUpd (N : Nat) (w w' : World) : Prop where
  os : w'.os = w.os
  tape : w'.tape = w.tape
  output : w'.output = w.output
  size : w.heap.size ≤ w'.heap.size
  block : ∀ i, i < w.heap.size → i < N ∨ Foreign w i → w'.heap[i]? = w.heap[i]?
theorem DUpd.refl (N : Nat) (w : World) : DUpd N w w := ⟨rfl, rfl, rfl, Nat.le_refl _, fun _ _ _ => rfl⟩
theorem Foreign.of {w w' : World} {i : Nat} (h : Foreign w i) (e : w'.heap[i]? = w.heap[i]?) : Foreign w' i := by
  obtain ⟨cs, t, fr, h, r⟩ := h
  exact ⟨cs, t, fr, e.trans h, r⟩
theorem Foreign.lt {w : World} {i : Nat} (h : Foreign w i) : i < w.heap.size := by
  obtain ⟨cs, t, fr, h, r⟩ := h
  exact (Array.getElem?_eq_some_iff.1 h).1
theorem DUpd.trans {N : Nat} {x y z : World} (h : DUpd N x y) (k : DUpd N y z) : DUpd N x z :=
  ⟨k.os.trans h.os, k.tape.trans h.tape, k.output.trans h.output, Nat.le_trans h.size k.size, fun i hi hc =>
    have e := h.block i hi hc
    (k.block i (Nat.lt_of_lt_of_le hi h.size) (hc.imp id fun f => f.of e)).trans e⟩
theorem DUpd.drew {N : Nat} {x y : World} (h : DUpd N x y) : DUpd N x y.drew := ⟨h.os, h.tape, h.output, h.size, h.block⟩
theorem DUpd.ofBelow {N : Nat} {x y : World} (h : Below x.heap.size x y) : DUpd N x y := ⟨h.os, h.tape, h.output, h.size, fun k hk _ => h.block k hk⟩
theorem DUpd.alloc {N : Nat} {x y : World} (h : DUpd N x y) (o : Obj) : DUpd N x (y.alloc o) := h.trans (DUpd.ofBelow ((Below.refl _ _).alloc (Nat.le_refl _) o))
theorem DUpd.below {N : Nat} {x y : World} (h : DUpd N x y) (hN : N ≤ x.heap.size) : Below N x y :=
  ⟨h.os, h.tape, h.output, h.size, fun k hk => h.block k (by omega) (.inl hk)⟩
theorem Holds.foreign {w : World} {b : Nat} {cs : List Value} {t : TypeId} (h : Holds w b cs t) (h1 : t ≠ 50) (h2 : t ≠ 61) (h3 : t ≠ 5) : Foreign w b := ⟨_, _, _, h, h1, h2, h3⟩
theorem Holds.dupd {N : Nat} {w w' : World} {b : Nat} {cs : List Value} {t : TypeId} (h : Holds w b cs t) (hu : DUpd N w w') (h1 : t ≠ 50) (h2 : t ≠ 61) (h3 : t ≠ 5) : Holds w' b cs t := by
  unfold Holds
  rw [hu.block b h.lt (.inr (h.foreign h1 h2 h3))]; exact h

/-- A list of texts in memory that is no disk's, or an empty one anywhere. -/
def StrsAt (w : World) (N : Nat) (a : Option Addr) (ss : List ByteArray) : Prop := ss.length = 0 ∨ ∃ g o, a = some ⟨g, o, none⟩ ∧ g < w.heap.size ∧ (g < N ∨ Foreign w g) ∧ ∀ (i : Nat) (x : ByteArray), ss[i]? = some x → w.cell? ⟨g, o + i, none⟩ = some (.string x)
def IntsAt (w : World) (N : Nat) (a : Option Addr) (ss : List Int) : Prop := ss.length = 0 ∨ ∃ g o, a = some ⟨g, o, none⟩ ∧ g < w.heap.size ∧ (g < N ∨ Foreign w g) ∧ ∀ (i : Nat) (x : Int), ss[i]? = some x → w.cell? ⟨g, o + i, none⟩ = some (.int .i64 x)
theorem StrsAt.dupd {N : Nat} {w w' : World} {a : Option Addr} {ss : List ByteArray} (h : StrsAt w N a ss) (hu : DUpd N w w') : StrsAt w' N a ss := by
  rcases h with h | ⟨g, o, e, hg, hs, hc⟩
  · exact .inl h
  · have eb := hu.block g hg hs
    exact .inr ⟨g, o, e, Nat.lt_of_lt_of_le hg hu.size, hs.imp id (fun f => f.of eb), fun i x hx => (World.cell?_of_block eb).trans (hc i x hx)⟩
theorem IntsAt.dupd {N : Nat} {w w' : World} {a : Option Addr} {ss : List Int} (h : IntsAt w N a ss) (hu : DUpd N w w') : IntsAt w' N a ss := by
  rcases h with h | ⟨g, o, e, hg, hs, hc⟩
  · exact .inl h
  · have eb := hu.block g hg hs
    exact .inr ⟨g, o, e, Nat.lt_of_lt_of_le hg hu.size, hs.imp id (fun f => f.of eb), fun i x hx => (World.cell?_of_block eb).trans (hc i x hx)⟩

theorem MapAt.same {w w' : World} {N : Nat} {mv : Value} {A : List UInt8 → Option Nat} (h : MapAt w N mv A) (hs : ∀ (i : Nat) es c, w.heap[i]? = some (Obj.map es c) → w'.heap[i]? = w.heap[i]?) : MapAt w' N mv A := by
  rcases h with h | ⟨mb, n, D, e, hN, ⟨es, clock, hb, r⟩, h1, h2⟩
  · exact .inl h
  · exact .inr ⟨mb, n, D, e, hN, ⟨es, clock, (hs mb es clock hb).trans hb, r⟩, h1, h2⟩
theorem FilesAt.same {w w' : World} {N : Nat} {fs : Fs} {A : List UInt8 → Option Nat} {V : List UInt8 → Value} (h : FilesAt w N fs A V) (hs : ∀ (i : Nat) cs t fr, w.heap[i]? = some (Obj.cells cs t fr) → t = 61 ∨ t = 5 → w'.heap[i]? = w.heap[i]?) : FilesAt w' N fs A V := by
  refine ⟨fun k f hk => ?_, h.gone, h.one, h.row⟩
  obtain ⟨b, h1, h2, h3, h4, h5⟩ := h.file k f hk
  refine ⟨b, h1, h2, ?_, ?_, h5⟩
  · unfold Holds at h3 ⊢
    rw [hs b _ _ _ h3 (.inl rfl)]; exact h3
  · refine ⟨h4.1, ?_⟩
    rcases h4.2 with h | ⟨g, cap, cur, e, hb, hg, r⟩
    · exact .inl h
    · exact .inr ⟨g, cap, cur, e, hb, (hs g _ _ _ hg (.inr rfl)).trans hg, r⟩
theorem DiskAt.keep {w w' : World} {N d : Nat} {S : Dk} (h : DiskAt w N d S) (hs : ∀ i, i < w.heap.size → w'.heap[i]? = w.heap[i]?) : DiskAt w' N d S := by
  obtain ⟨mv, st, A, V, h1, h2, h3, h4, h5⟩ := h
  refine ⟨mv, st, A, V, ?_, h2, h3.same (fun i es c hi => hs i (Array.getElem?_eq_some_iff.1 hi).1), h4.same (fun i cs t fr hi _ => hs i (Array.getElem?_eq_some_iff.1 hi).1), h5⟩
  unfold Holds
  rw [hs d h1.lt]; exact h1
theorem DiskAt.below {w w' : World} {N d : Nat} {S : Dk} (h : DiskAt w N d S) (hb : Below w.heap.size w w') : DiskAt w' N d S := h.keep hb.block
theorem DiskAt.alloc {w : World} {N d : Nat} {S : Dk} (h : DiskAt w N d S) (o : Obj) : DiskAt (w.alloc o) N d S := h.below ((Below.refl _ _).alloc (Nat.le_refl _) o)
theorem DiskAt.drew {w : World} {N d : Nat} {S : Dk} (h : DiskAt w N d S) : DiskAt w.drew N d S := h.keep (fun _ _ => rfl)
theorem DiskAt.lt {w : World} {N d : Nat} {S : Dk} (h : DiskAt w N d S) : d < w.heap.size := by
  obtain ⟨mv, st, A, V, h1, _⟩ := h
  exact h1.lt
theorem DiskAt.le {w : World} {N d : Nat} {S : Dk} (h : DiskAt w N d S) : N ≤ d := by
  obtain ⟨mv, st, A, V, h1, h2, _⟩ := h
  exact h2

/-- The names in the map are the files'. -/
theorem keys_perm {w : World} {fs : Fs} {mb n : Nat} {D : DataW Unit} (hown : w.ownsMap Try.prog 9 ptrElem mb n D) (hr : Rising fs) (hh : ∀ k, has D (.string k) = (get fs k).isSome) : (fs.map Prod.fst).Perm (strKeys D) := by
  obtain ⟨es, hD, hpw, _⟩ := hown.entries law9
  obtain ⟨es', hD', hko⟩ := hown.keysOf
  obtain rfl : es = es' := by rw [hD] at hD'; simpa using hD'
  subst hD
  exact perm_strKeys hpw (fun p hp => by obtain ⟨v, hv⟩ := hko p hp; obtain ⟨x, _, hx, _⟩ := Maps.keyOf_str und9 hv; exact ⟨x, hx⟩) hr.nodup (fun x => by rw [hh x, get_isSome])
theorem size_files {w : World} {fs : Fs} {mb n : Nat} {D : DataW Unit} (hown : w.ownsMap Try.prog 9 ptrElem mb n D) (hr : Rising fs) (hh : ∀ k, has D (.string k) = (get fs k).isSome) : Maps.size D = fs.length := by
  have h := (keys_perm hown hr hh).length_eq
  obtain ⟨es, rfl⟩ := hown.isMap
  rw [List.length_map] at h
  rw [h]
  show es.length = (es.map _).length
  rw [List.length_map]
theorem ownsMap_tight {w : World} {mb n : Nat} {D : DataW Unit} (h : w.ownsMap Try.prog 9 ptrElem mb n D) : w.ownsMap Try.prog 9 ptrElem mb (Maps.size D) D := by
  obtain ⟨es, clock, hb, F, hs, hD⟩ := h
  refine ⟨es, clock, hb, F, ?_, hD⟩
  rw [hD]
  show es.size ≤ List.length _
  rw [length_read]
  exact Nat.le_refl _
theorem FilesAt.some_iff {w : World} {N : Nat} {fs : Fs} {A : List UInt8 → Option Nat} {V : List UInt8 → Value} (h : FilesAt w N fs A V) (k : List UInt8) : (A k).isSome = (get fs k).isSome := by
  cases hk : get fs k with
  | none => rw [h.gone k hk]; rfl
  | some f =>
    obtain ⟨b, hb, _⟩ := h.file k f hk
    rw [hb]; rfl
end Go.Proofs.Ythaknjbcmflegaa
