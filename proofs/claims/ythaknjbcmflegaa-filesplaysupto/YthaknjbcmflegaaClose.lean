/- What is done with a file that was named: made firm, removed, called otherwise. -/
import Derived.Test.YthaknjbcmflegaaAppend
namespace Go.Proofs.Ythaknjbcmflegaa
open Go.RowKit Go.Maps Go.WideMaps

def syncS (S : Dk) (k : List UInt8) : Dk := { S with fs := put k ⟨(oldF S k).bytes, (oldF S k).bytes.length⟩ S.fs }
def dropS (S : Dk) (k : List UInt8) : Dk := { S with fs := del k S.fs }
def moveS (S : Dk) (k t : List UInt8) : Dk := { S with fs := put t (oldF S k) (del k S.fs) }
theorem oldF_some {S : Dk} {k : List UInt8} {f : Fl} (h : get S.fs k = some f) : oldF S k = f := by rw [oldF, h]

theorem sync_do (N d : Nat) (S : Dk) (s : ByteArray) (hs : s.size ≤ 32) (f : Fl) (hf : get S.fs s.data.toList = some f) (bx : Nat) (w : World) (h : DiskAt w N d S) (hx : Holds w bx [.pointer (some ⟨d, 0, none⟩)] 24) :
    Calls Try.prog 52 #[.string s, .pointer (some ⟨bx, 0, none⟩)] w fun e w' => e = .returned (.tuple #[]) ∧ DiskAt w' N d (syncS S s.data.toList) ∧ DUpd N w w' := by
  obtain ⟨mv, st, A, V, ho⟩ := h.open
  have c0 := ho.holds.at 0 _ rfl
  have cx := hx.at 0 _ rfl
  have hlk := ho.map.look s (by unfold maxLen; omega)
  obtain ⟨b, hb0, _⟩ := ho.files.file _ f hf
  rw [hb0] at hlk
  simp only [tokV] at hlk
  have hst : Hid (Calls Try.prog 38 #[.pointer (some ⟨b, 0, none⟩)] w fun e w' => e = .returned (.tuple #[]) ∧ DiskAt w' N d (syncS S s.data.toList) ∧ DUpd N w w') := by
    refine (settle_file N d b S s.data.toList f w ⟨mv, st, A, V, ho, hb0⟩ hf).mono fun e w' ⟨h1, h2, h3⟩ => ⟨h1, ?_, h3⟩
    rw [syncS, oldF_some hf]
    exact h2.disk
  clear ho hx hf hb0 h
  go_enter Try.func52, Try.ntmps52
  go_wp2_with (go_at_call 38; refine hst.out.mono ?_; rintro e w2 ⟨rfl, d2, u2⟩)
  go_end0
  exact ⟨rfl, d2, u2⟩

/-- The map block is turned, and nothing else. -/
theorem turned_dupd {w w1 : World} {N mb n : Nat} {D : DataW Unit} (hg : w.grownBy w1 (some mb)) (hN : N ≤ mb) (hown : w.ownsMap Try.prog 9 ptrElem mb n D) : DUpd N w w1 ∧ (∀ (i : Nat) cs t fr, w.heap[i]? = some (Obj.cells cs t fr) → w1.heap[i]? = w.heap[i]?) := by
  have hc : ∀ (i : Nat) cs t fr, w.heap[i]? = some (Obj.cells cs t fr) → w1.heap[i]? = w.heap[i]? := fun i cs t fr hi => hg.block i (Array.getElem?_eq_some_iff.1 hi).1 (fun e => by
    obtain ⟨es, cl, h1, _⟩ := hown
    obtain rfl : i = mb := by simpa using e
    rw [h1] at hi; cases hi)
  refine ⟨⟨hg.os, hg.tape, hg.output, hg.size, fun i hi hcc => ?_⟩, hc⟩
  rcases hcc with hcc | ⟨cs, t, fr, hcc, _⟩
  · exact hg.block i hi (by simp; omega)
  · exact hc i cs t fr hcc
theorem Holds.cellsKept {w w1 : World} {b : Nat} {cs : List Value} {t : TypeId} (h : Holds w b cs t) (hc : ∀ (i : Nat) cs t fr, w.heap[i]? = some (Obj.cells cs t fr) → w1.heap[i]? = w.heap[i]?) : Holds w1 b cs t := by
  unfold Holds at h ⊢
  rw [hc b _ _ _ h]; exact h
theorem Dk.FineAt.drop {S : Dk} {st : Int} (h : S.FineAt st) (k : List UInt8) : (dropS S k).FineAt st :=
  ⟨⟨h.rise.del k, by show (del k S.fs).length ≤ 256; have := len_del S.fs k; have := h.len; omega, by show Ythaknjbcmflegaa.used (del k S.fs) ≤ 16777216; have := used_del S.fs k; have := h.used; omega, h.room, fun p hp => h.keys p ((del_sub k S.fs).subset hp), h.ahead⟩, h.tie⟩
theorem OpenAt.drop {w w1 : World} {N d mb n n1 : Nat} {S : Dk} {st : Int} {A : List UInt8 → Option Nat} {V : List UInt8 → Value} {D : DataW Unit} (h : OpenAt w N d S (.map (some mb)) st A V) (hNm : N ≤ mb) (hown : w.ownsMap Try.prog 9 ptrElem mb n D) (hat : ∀ k, D.atKey (.string k) .nil = tok (A k)) (hhas : ∀ k, has D (.string k) = (A k).isSome)
    (k : List UInt8) (h1 : w1.ownsMap Try.prog 9 ptrElem mb n1 (D.del (.string k))) (hg : w.grownBy w1 (some mb)) : OpenAt w1 N d (dropS S k) (.map (some mb)) st (upd A k none) V ∧ DUpd N w w1 := by
  obtain ⟨u, hc⟩ := turned_dupd hg hNm hown
  exact ⟨⟨h.holds.cellsKept hc, h.le, map_del hat hhas k h1 hNm, (h.files.drop h.fine.rise k).same (fun i cs t fr hi _ => hc i cs t fr hi), h.fine.drop k⟩, u⟩
set_option maxHeartbeats 800000 in
theorem remove_do (N d : Nat) (S : Dk) (s : ByteArray) (hs : s.size ≤ 32) (f : Fl) (hf : get S.fs s.data.toList = some f) (bx : Nat) (w : World) (h : DiskAt w N d S) (hx : Holds w bx [.pointer (some ⟨d, 0, none⟩)] 24) :
    Calls Try.prog 54 #[.string s, .pointer (some ⟨bx, 0, none⟩)] w fun e w' => e = .returned (.tuple #[]) ∧ DiskAt w' N d (dropS S s.data.toList) ∧ DUpd N w w' := by
  obtain ⟨mv, st, A, V, ho⟩ := h.open
  have HO : Hid (OpenAt w N d S mv st A V) := ho
  have c0 := ho.holds.at 0 _ rfl
  have cx := hx.at 0 _ rfl
  have hkey := key_of s (by unfold maxLen; omega)
  obtain ⟨b, hb0, _⟩ := ho.files.file _ f hf
  rcases ho.map with ⟨rfl, hn⟩ | ⟨mb, n, D, rfl, hNm, hown, hat, hhas⟩
  · rw [hn] at hb0; cases hb0
  have hAt : Hid (∀ k, D.atKey (.string k) .nil = tok (A k)) := hat
  have hHas : Hid (∀ k, has D (.string k) = (A k).isSome) := hhas
  clear ho hx hf hb0 h hat hhas
  go_enter Try.func54, Try.ntmps54
  go_wp2_with (first
    | (at_delete; refine wpList_delete_own _ rfl _ _ 48 9 rfl 56 law9 und48 ptrElem mb n D rfl hown _ _ rfl hkey ?_; intro w1 hown1 hturn1)
    | go_in)
  go_wp2
  go_end0
  obtain ⟨o1, u1⟩ := HO.out.drop hNm hown hAt.out hHas.out s.data.toList hown1 hturn1.grown
  exact ⟨rfl, o1.disk, u1⟩
end Go.Proofs.Ythaknjbcmflegaa
