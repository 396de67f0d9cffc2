/- Of one file: found, read, written, made firm, cut. -/
import Derived.Test.YthaknjbcmflegaaLayIt
namespace Go.Proofs.Ythaknjbcmflegaa
open Go.RowKit Go.Maps Go.WideMaps

/-- A disk, with all that it has laid open. -/
structure OpenAt (w : World) (N d : Nat) (S : Dk) (mv : Value) (st : Int) (A : List UInt8 → Option Nat) (V : List UInt8 → Value) : Prop where
  holds : Holds w d (diskV mv st S) 50
  le : N ≤ d
  map : MapAt w N mv A
  files : FilesAt w N S.fs A V
  fine : S.FineAt st
theorem OpenAt.disk {w : World} {N d : Nat} {S : Dk} {mv : Value} {st : Int} {A : List UInt8 → Option Nat} {V : List UInt8 → Value} (h : OpenAt w N d S mv st A V) : DiskAt w N d S := ⟨mv, st, A, V, h.holds, h.le, h.map, h.files, h.fine⟩
theorem DiskAt.open {w : World} {N d : Nat} {S : Dk} (h : DiskAt w N d S) : ∃ mv st A V, OpenAt w N d S mv st A V := by
  obtain ⟨mv, st, A, V, h1, h2, h3, h4, h5⟩ := h
  exact ⟨mv, st, A, V, h1, h2, h3, h4, h5⟩
theorem OpenAt.keep {w w' : World} {N d : Nat} {S : Dk} {mv : Value} {st : Int} {A : List UInt8 → Option Nat} {V : List UInt8 → Value} (h : OpenAt w N d S mv st A V) (hs : ∀ i, i < w.heap.size → w'.heap[i]? = w.heap[i]?) : OpenAt w' N d S mv st A V := by
  refine ⟨?_, h.le, h.map.same (fun i es c hi => hs i (Array.getElem?_eq_some_iff.1 hi).1), h.files.same (fun i cs t fr hi _ => hs i (Array.getElem?_eq_some_iff.1 hi).1), h.fine⟩
  unfold Holds
  rw [hs d h.holds.lt]; exact h.holds
/-- A disk with a file in block b. -/
def DiskFile (w : World) (N d : Nat) (S : Dk) (k : List UInt8) (b : Nat) : Prop := ∃ mv st A V, OpenAt w N d S mv st A V ∧ A k = some b
theorem DiskFile.disk {w : World} {N d b : Nat} {S : Dk} {k : List UInt8} (h : DiskFile w N d S k b) : DiskAt w N d S := by
  obtain ⟨mv, st, A, V, h, _⟩ := h
  exact h.disk
theorem Dk.FineAt.put_old {S : Dk} {st : Int} (h : S.FineAt st) (k : List UInt8) (f f' : Fl) (hf : get S.fs k = some f) (hu : Ythaknjbcmflegaa.used (Ythaknjbcmflegaa.put k f' S.fs) ≤ 16777216) : Dk.FineAt { S with fs := Ythaknjbcmflegaa.put k f' S.fs } st :=
  ⟨⟨h.rise.put k f', by show (Ythaknjbcmflegaa.put k f' S.fs).length ≤ 256; rw [len_put_old h.rise k f' f hf]; exact h.len, hu, h.room, fun p hp => by
    rcases mem_put k f' S.fs p hp with e | hp
    · rw [e]; exact h.keys _ (get_mem hf)
    · exact h.keys p hp, h.ahead⟩, h.tie⟩
/-- A file is written. -/
theorem OpenAt.write {w w' : World} {N d : Nat} {S : Dk} {mv : Value} {st : Int} {A : List UInt8 → Option Nat} {V : List UInt8 → Value} (h : OpenAt w N d S mv st A V) (k : List UInt8) (b : Nat) (f f' : Fl) (v' : Value) (hk : A k = some b) (hf : get S.fs k = some f)
    (hH : Holds w' b [v', .int .i64 (f'.firm : Int)] 61) (hrow : w'.ownsRow N 5 1 v' f'.bytes.length (f'.bytes.map byteV)) (hfl : f'.firm ≤ f'.bytes.length) (hloc : ∀ g, v'.ownBlock = some g → (V k).ownBlock = some g ∨ w.heap.size ≤ g) (hs : Wrt b (V k) w w')
    (hu : used (put k f' S.fs) ≤ 16777216) : OpenAt w' N d { S with fs := put k f' S.fs } mv st A (upd V k v') ∧ DUpd N w w' := by
  obtain ⟨b0, hb0, hN, hHk, hrk, _⟩ := h.files.file k f hf
  obtain rfl : b0 = b := by rw [hb0] at hk; exact Option.some.inj hk
  have hcell : ∀ i (o : Obj), w.heap[i]? = some o → (∀ cs fr, o ≠ .cells cs 61 fr) → (∀ cs fr, o ≠ .cells cs 5 fr) → w'.heap[i]? = w.heap[i]? := fun i o hi h1 h2 => by
    refine hs.block i (Array.getElem?_eq_some_iff.1 hi).1 (fun e => ?_) (fun e => ?_)
    · subst e
      unfold Holds at hHk
      rw [hHk] at hi
      exact h1 _ _ (Option.some.inj hi).symm
    · rcases hrk.2 with ⟨e2, _⟩ | ⟨g, cap, cur, e2, _, hg, _⟩
      · rw [e2] at e; cases e
      · rw [e2] at e
        obtain rfl : i = g := by simpa [Value.ownBlock] using e
        rw [hg] at hi
        exact h2 _ _ (Option.some.inj hi).symm
  refine ⟨⟨?_, h.le, h.map.same (fun i es c hi => hcell i _ hi (fun _ _ e => by cases e) (fun _ _ e => by cases e)), h.files.write k b0 v' f' hk hN hH hrow hfl hloc hs.block, h.fine.put_old k f f' hf hu⟩, hs.dupd hN hHk hrk⟩
  have h1 : Holds w d (diskV mv st S) 50 := h.holds
  show Holds w' d (diskV mv st S) 50
  unfold Holds at h1 ⊢
  rw [hcell d _ h1 (fun _ _ e => by simp at e) (fun _ _ e => by simp at e)]; exact h1
theorem Wrt.setCell (b : Nat) (v : Value) (w : World) (i : Nat) (u : Value) : Wrt b v w (w.setCell ⟨b, i, none⟩ u) :=
  ⟨rfl, rfl, rfl, by simp, fun j _ hj _ => heap_setCell_other w ⟨b, i, none⟩ j u hj⟩
theorem lay_file (N d b : Nat) (S : Dk) (k : List UInt8) (f : Fl) (ps : List ByteArray) (a : Option Addr) (c : Nat) (w : World) (h : DiskFile w N d S k b) (hf : get S.fs k = some f) (ha : StrsAt w N a ps) (hfit : used S.fs + lens ps ≤ 16777216) (hm : ps.length < 9223372036854775808) :
    Calls Try.prog 49 #[.pointer (some ⟨b, 0, none⟩), .slice a ps.length c] w fun e w' => e = .returned (.tuple #[]) ∧ DiskFile w' N d { S with fs := put k ⟨f.bytes ++ joins ps, f.firm⟩ S.fs } k b ∧ DUpd N w w' := by
  obtain ⟨mv, st, A, V, h, hk⟩ := h
  obtain ⟨b0, hb0, hN, hHk, hrk, hfm⟩ := h.files.file k f hf
  obtain rfl : b0 = b := by rw [hb0] at hk; exact Option.some.inj hk
  have hle := used_le_mem hf
  refine (layIt_any N b0 (V k) _ f.bytes ps a c w hHk hN hrk ha (by omega) hm).mono fun e w' ⟨he, v', h1, h2, h3, h4⟩ => ?_
  have hup := used_put h.fine.rise k ⟨f.bytes ++ joins ps, f.firm⟩
  rw [lenAt_some hf] at hup
  simp only [List.length_append, joins_len] at hup
  obtain ⟨q1, q2⟩ := h.write k b0 f ⟨f.bytes ++ joins ps, f.firm⟩ v' hk hf h1 h2 (by simp; omega) h3 h4 (by omega)
  exact ⟨he, ⟨mv, st, A, _, q1, hk⟩, q2⟩
theorem settle_file (N d b : Nat) (S : Dk) (k : List UInt8) (f : Fl) (w : World) (h : DiskFile w N d S k b) (hf : get S.fs k = some f) :
    Calls Try.prog 38 #[.pointer (some ⟨b, 0, none⟩)] w fun e w' => e = .returned (.tuple #[]) ∧ DiskFile w' N d { S with fs := put k ⟨f.bytes, f.bytes.length⟩ S.fs } k b ∧ DUpd N w w' := by
  obtain ⟨mv, st, A, V, h, hk⟩ := h
  obtain ⟨b0, hb0, hN, hHk, hrk, hfm⟩ := h.files.file k f hf
  obtain rfl : b0 = b := by rw [hb0] at hk; exact Option.some.inj hk
  obtain ⟨va, vc, hv⟩ := row_form hrk
  have hHk2 := hHk
  rw [hv] at hHk2
  refine (settle_any b0 va f.bytes.length vc _ w hHk2).mono fun e w' ⟨he, hw⟩ => ?_
  subst hw
  have hup := used_put h.fine.rise k ⟨f.bytes, f.bytes.length⟩
  rw [lenAt_some hf] at hup
  have hub := h.fine.used
  obtain ⟨q1, q2⟩ := h.write k b0 f ⟨f.bytes, f.bytes.length⟩ (V k) hk hf (hHk.set 1 _) (row_set hrk hHk 1 _) (Nat.le_refl _) (fun g hg => .inl hg) (Wrt.setCell _ _ _ _ _) (by simp only at hup; omega)
  exact ⟨he, ⟨mv, st, A, _, q1, hk⟩, q2⟩
theorem row_cut {w : World} {N n m : Nat} {g c : Nat} {bs : List UInt8} (h : w.ownsRow N 5 1 (.slice (some ⟨g, 0, none⟩) n c) n (bs.map byteV)) (hm : m ≤ n) : w.ownsRow N 5 1 (.slice (some ⟨g, 0, none⟩) m c) (bs.take m).length ((bs.take m).map byteV) := by
  have hl : bs.length = n := by simpa using h.1
  have hl2 : (bs.take m).length = m := by rw [List.length_take]; omega
  refine ⟨by simp, ?_⟩
  rcases h.2 with ⟨e, _⟩ | ⟨g', cap, cur, e, hb, hg, h1, h2, h3, h4⟩
  · cases e
  · obtain ⟨e1, _, e2⟩ : (some (⟨g, 0, none⟩ : Addr) = some ⟨g', 0, none⟩) ∧ n = n ∧ c = cap := by simpa using e
    have e3 : g = g' := by simpa using e1
    subst e3 e2
    rw [hl2]
    refine .inr ⟨g, c, cur, rfl, hb, hg, by omega, h2, h3, ?_⟩
    rw [List.map_take, ← h4, List.take_take]
    congr 1
    omega
theorem cut_file (N d b : Nat) (S : Dk) (k : List UInt8) (f : Fl) (m : Nat) (hm : m ≤ f.bytes.length) (hpos : 0 < f.bytes.length) (hfm2 : f.firm ≤ m) (w : World) (h : DiskFile w N d S k b) (hf : get S.fs k = some f) :
    Calls Try.prog 36 #[.pointer (some ⟨b, 0, none⟩), .int .i64 (m : Int)] w fun e w' => e = .returned (.tuple #[]) ∧ DiskFile w' N d { S with fs := put k ⟨f.bytes.take m, f.firm⟩ S.fs } k b ∧ DUpd N w w' := by
  obtain ⟨mv, st, A, V, h, hk⟩ := h
  obtain ⟨b0, hb0, hN, hHk, hrk, hfm⟩ := h.files.file k f hf
  obtain rfl : b0 = b := by rw [hb0] at hk; exact Option.some.inj hk
  obtain ⟨g, c, hv, _⟩ := hrk.form (by omega)
  have hHk2 := hHk
  rw [hv] at hHk2
  have hcap : f.bytes.length ≤ c := by
    rcases hrk.2 with ⟨e, h0⟩ | ⟨g', cap, cur, e, _, _, h1, _⟩
    · omega
    · rw [hv] at e
      have : c = cap := by simpa using (congrArg (fun x => match x with | Value.slice _ _ c => c | _ => 0) e)
      omega
  refine (cut_any b0 g f.bytes.length c m (by omega) hcap _ w hHk2).mono fun e w' ⟨he, hw⟩ => ?_
  subst hw
  have hrk2 := hrk
  rw [hv] at hrk2
  have hup := used_put h.fine.rise k ⟨f.bytes.take m, f.firm⟩
  rw [lenAt_some hf] at hup
  have hub := h.fine.used
  have hl2 : (f.bytes.take m).length = m := by rw [List.length_take]; omega
  obtain ⟨q1, q2⟩ := h.write k b0 f ⟨f.bytes.take m, f.firm⟩ (.slice (some ⟨g, 0, none⟩) m c) hk hf (hHk.set 0 _) (row_set (row_cut hrk2 (by omega)) hHk 0 _) (by simp only [hl2]; exact hfm2) (fun g' hg' => .inl (by rw [hv]; exact hg')) (Wrt.setCell _ _ _ _ _) (by simp only [hl2] at hup; omega)
  exact ⟨he, ⟨mv, st, A, _, q1, hk⟩, q2⟩
theorem loose_file (N d b : Nat) (S : Dk) (k : List UInt8) (f : Fl) (w : World) (h : DiskFile w N d S k b) (hf : get S.fs k = some f) :
    Calls Try.prog 35 #[.pointer (some ⟨b, 0, none⟩)] w fun e w' => e = .returned (.int .i64 ((f.bytes.length - f.firm : Nat) : Int)) ∧ w'.heap = w.heap ∧ Below w.heap.size w w' := by
  obtain ⟨mv, st, A, V, h, hk⟩ := h
  obtain ⟨b0, hb0, hN, hHk, hrk, hfm⟩ := h.files.file k f hf
  obtain rfl : b0 = b := by rw [hb0] at hk; exact Option.some.inj hk
  obtain ⟨va, vc, hv⟩ := row_form hrk
  rw [hv] at hHk
  have := used_le_mem hf
  have := h.fine.used
  exact loose_any b0 va f.bytes.length vc f.firm w hHk hfm (by omega)
theorem text_file (N d b : Nat) (S : Dk) (k : List UInt8) (f : Fl) (w : World) (h : DiskFile w N d S k b) (hf : get S.fs k = some f) :
    Calls Try.prog 43 #[.pointer (some ⟨b, 0, none⟩)] w fun e w' => e = .returned (.string (strL f.bytes)) ∧ w' = w := by
  obtain ⟨mv, st, A, V, h, hk⟩ := h
  obtain ⟨b0, hb0, hN, hHk, hrk, hfm⟩ := h.files.file k f hf
  obtain rfl : b0 = b := by rw [hb0] at hk; exact Option.some.inj hk
  exact text_any N b0 (V k) f.bytes _ w hHk hrk
theorem DiskFile.keep {w w' : World} {N d b : Nat} {S : Dk} {k : List UInt8} (h : DiskFile w N d S k b) (hs : ∀ i, i < w.heap.size → w'.heap[i]? = w.heap[i]?) : DiskFile w' N d S k b := by
  obtain ⟨mv, st, A, V, h, hk⟩ := h
  exact ⟨mv, st, A, V, h.keep hs, hk⟩
end Go.Proofs.Ythaknjbcmflegaa
