/- A disk in memory, turned: a field, a file, a name. -/
import Derived.Test.YthaknjbcmflegaaMem
namespace Go.Proofs.Ythaknjbcmflegaa
open Go.RowKit Go.Maps Go.WideMaps

def upd {α : Type} (f : List UInt8 → α) (k : List UInt8) (v : α) : List UInt8 → α := fun x => if x = k then v else f x
theorem upd_same {α : Type} (f : List UInt8 → α) (k : List UInt8) (v : α) : upd f k v k = v := by simp [upd]
theorem upd_other {α : Type} (f : List UInt8 → α) {k x : List UInt8} (v : α) (h : ¬ x = k) : upd f k v x = f x := by simp [upd, h]

theorem Dk.FineAt.of {S T : Dk} {st : Int} (h : S.FineAt st) (e : T.fs = S.fs) (hr : T.room ≤ 16777216) (ha : -9223372036854775808 ≤ T.ahead ∧ T.ahead < 9223372036854775808) (hs : T.steps = S.steps := by rfl) : T.FineAt st :=
  ⟨⟨by rw [e]; exact h.rise, by rw [e]; exact h.len, by rw [e]; exact h.used, hr, by rw [e]; exact h.keys, ha⟩, h.tie.trans hs.symm⟩
/-- A field is set. -/
theorem disk_set {w : World} {N d : Nat} {S T : Dk} {mv : Value} {st su : Int} {A : List UInt8 → Option Nat} {V : List UInt8 → Value} (hH : Holds w d (diskV mv st S) 50) (hN : N ≤ d) (hM : MapAt w N mv A) (hF : FilesAt w N S.fs A V) (hT : T.FineAt su) (hfs : T.fs = S.fs)
    (i : Nat) (v : Value) (e : (diskV mv st S).set i v = diskV mv su T) :
    (Holds (w.setCell ⟨d, i, none⟩ v) d (diskV mv su T) 50 ∧ MapAt (w.setCell ⟨d, i, none⟩ v) N mv A ∧ FilesAt (w.setCell ⟨d, i, none⟩ v) N T.fs A V) ∧ DiskAt (w.setCell ⟨d, i, none⟩ v) N d T ∧ DUpd N w (w.setCell ⟨d, i, none⟩ v) := by
  have h1 : Holds (w.setCell ⟨d, i, none⟩ v) d (diskV mv su T) 50 := by rw [← e]; exact hH.set i v
  have h2 : MapAt (w.setCell ⟨d, i, none⟩ v) N mv A := hM.same (fun j es c hj => heap_setCell_other w ⟨d, i, none⟩ j v (fun (e : j = d) => by subst e; unfold Holds at hH; rw [hH] at hj; cases hj))
  have h3 : FilesAt (w.setCell ⟨d, i, none⟩ v) N T.fs A V := by
    rw [hfs]
    refine hF.same (fun j cs t fr hj ht => heap_setCell_other w ⟨d, i, none⟩ j v (fun (e : j = d) => ?_))
    subst e
    unfold Holds at hH
    rw [hH] at hj
    simp at hj
    rcases ht with rfl | rfl <;> simp at hj
  refine ⟨⟨h1, h2, h3⟩, ⟨mv, su, A, V, h1, hN, h2, h3, hT⟩, rfl, rfl, rfl, by simp, fun j hj hc => heap_setCell_other w ⟨d, i, none⟩ j v (fun (e : j = d) => ?_)⟩
  subst e
  rcases hc with hc | ⟨cs, t, fr, hc, ht, _⟩
  · omega
  · unfold Holds at hH
    rw [hH] at hc
    simp at hc
    exact ht hc.2.1.symm

/-- A file is written. -/
theorem FilesAt.write {w w' : World} {N : Nat} {fs : Fs} {A : List UInt8 → Option Nat} {V : List UInt8 → Value} (h : FilesAt w N fs A V) (k : List UInt8) (b : Nat) (v' : Value) (f' : Fl) (hk : A k = some b) (hN : N ≤ b)
    (hH : Holds w' b [v', .int .i64 (f'.firm : Int)] 61) (hrow : w'.ownsRow N 5 1 v' f'.bytes.length (f'.bytes.map byteV)) (hfl : f'.firm ≤ f'.bytes.length)
    (hloc : ∀ g, v'.ownBlock = some g → (V k).ownBlock = some g ∨ w.heap.size ≤ g) (hs : ∀ i, i < w.heap.size → i ≠ b → some i ≠ (V k).ownBlock → w'.heap[i]? = w.heap[i]?) : FilesAt w' N (put k f' fs) A (upd V k v') := by
  obtain ⟨f, hf⟩ : ∃ f, get fs k = some f := by
    cases hg : get fs k with
    | none => rw [h.gone k hg] at hk; cases hk
    | some f => exact ⟨f, rfl⟩
  obtain ⟨b0, hb0, _, hHk, hrk, _⟩ := h.file k f hf
  obtain rfl : b0 = b := by rw [hb0] at hk; exact Option.some.inj hk
  have hrowtag : ∀ g, (V k).ownBlock = some g → ∃ cur, w.heap[g]? = some (.cells cur 5 (0, 0)) := fun g hg => by
    rcases hrk.2 with ⟨e, _⟩ | ⟨g', cap, cur, e, _, hcur, _⟩
    · rw [e] at hg; cases hg
    · rw [e] at hg
      obtain rfl : g' = g := by simpa [Value.ownBlock] using hg
      exact ⟨cur, hcur⟩
  refine ⟨fun k0 f0 hk0 => ?_, fun k0 hk0 => ?_, h.one, fun k1 k2 g h1 h2 e1 e2 => ?_⟩
  · rw [get_put] at hk0
    by_cases e : k0 = k
    · subst e
      rw [if_pos rfl] at hk0
      cases hk0
      exact ⟨b0, hk, hN, by rw [upd_same]; exact hH, by rw [upd_same]; exact hrow, hfl⟩
    · rw [if_neg e] at hk0
      obtain ⟨b1, hb1, hN1, hH1, hr1, hf1⟩ := h.file k0 f0 hk0
      have hne : b1 ≠ b0 := fun e2 => e (h.one k0 k b0 (by rw [← e2]; exact hb1) hk)
      refine ⟨b1, hb1, hN1, ?_, ?_, hf1⟩
      · rw [upd_other _ _ e]
        unfold Holds
        rw [hs b1 hH1.lt hne (fun e2 => ?_)]
        · exact hH1
        · obtain ⟨cur, hcur⟩ := hrowtag b1 e2.symm
          unfold Holds at hH1
          rw [hH1] at hcur
          simp at hcur
      · rw [upd_other _ _ e]
        refine ⟨hr1.1, ?_⟩
        rcases hr1.2 with hn | ⟨g, cap, cur, ev, hbg, hcur, r⟩
        · exact .inl hn
        · refine .inr ⟨g, cap, cur, ev, hbg, ?_, r⟩
          rw [hs g (Array.getElem?_eq_some_iff.1 hcur).1 (fun e2 => ?_) (fun e2 => ?_)]
          · exact hcur
          · subst e2
            unfold Holds at hHk
            rw [hHk] at hcur
            simp at hcur
          · exact e (h.row k0 k g (by rw [hb1]; rfl) (by rw [hk]; rfl) (by rw [ev]; rfl) e2.symm)
  · rw [get_put] at hk0
    by_cases e : k0 = k
    · rw [if_pos e] at hk0; cases hk0
    · rw [if_neg e] at hk0
      exact h.gone k0 hk0
  · have low : ∀ x, (A x).isSome = true → ∀ g, (V x).ownBlock = some g → g < w.heap.size := fun x hx g hg => by
      rw [h.some_iff] at hx
      obtain ⟨fx, hfx⟩ := Option.isSome_iff_exists.1 hx
      obtain ⟨_, _, _, _, hr, _⟩ := h.file x fx hfx
      exact (hr.lt g hg).2
    by_cases c1 : k1 = k
    · by_cases c2 : k2 = k
      · rw [c1, c2]
      · rw [c1, upd_same] at e1
        rw [upd_other _ _ c2] at e2
        rcases hloc g e1 with hl | hl
        · rw [c1]; exact h.row k k2 g (by rw [hk]; rfl) h2 hl e2
        · have := low k2 h2 g e2; omega
    · rw [upd_other _ _ c1] at e1
      by_cases c2 : k2 = k
      · rw [c2, upd_same] at e2
        rcases hloc g e2 with hl | hl
        · rw [c2]; exact h.row k1 k g h1 (by rw [hk]; rfl) e1 hl
        · have := low k1 h1 g e1; omega
      · rw [upd_other _ _ c2] at e2
        exact h.row k1 k2 g h1 h2 e1 e2
/-- A file is made. -/
theorem FilesAt.make {w w' : World} {N : Nat} {fs : Fs} {A : List UInt8 → Option Nat} {V : List UInt8 → Value} (h : FilesAt w N fs A V) (k : List UInt8) (b : Nat) (hb : w.heap.size ≤ b) (hN : N ≤ b)
    (hH : Holds w' b [.slice none 0 0, .int .i64 0] 61) (hs : ∀ (i : Nat) cs t fr, w.heap[i]? = some (Obj.cells cs t fr) → t = 61 ∨ t = 5 → w'.heap[i]? = w.heap[i]?) : FilesAt w' N (put k ⟨[], 0⟩ fs) (upd A k (some b)) (upd V k (.slice none 0 0)) := by
  have hF := h.same hs
  have low : ∀ x g, A x = some g → g < w.heap.size := fun x g hx => by
    cases hg : get fs x with
    | none => rw [h.gone x hg] at hx; cases hx
    | some f =>
      obtain ⟨b1, hb1, _, hH1, _⟩ := h.file x f hg
      obtain rfl : b1 = g := by rw [hb1] at hx; exact Option.some.inj hx
      exact hH1.lt
  refine ⟨fun k0 f0 hk0 => ?_, fun k0 hk0 => ?_, fun k1 k2 g e1 e2 => ?_, fun k1 k2 g h1 h2 e1 e2 => ?_⟩
  · rw [get_put] at hk0
    by_cases e : k0 = k
    · subst e
      rw [if_pos rfl] at hk0
      cases hk0
      exact ⟨b, upd_same _ _ _, hN, by rw [upd_same]; exact hH, by rw [upd_same]; exact World.ownsRow_nil _ _ _ _, Nat.le_refl _⟩
    · rw [if_neg e] at hk0
      obtain ⟨b1, hb1, r⟩ := hF.file k0 f0 hk0
      exact ⟨b1, by rw [upd_other _ _ e]; exact hb1, by rw [upd_other _ _ e]; exact r⟩
  · rw [get_put] at hk0
    by_cases e : k0 = k
    · rw [if_pos e] at hk0; cases hk0
    · rw [if_neg e] at hk0
      rw [upd_other _ _ e]; exact h.gone k0 hk0
  · by_cases c1 : k1 = k
    · by_cases c2 : k2 = k
      · rw [c1, c2]
      · rw [c1, upd_same] at e1
        rw [upd_other _ _ c2] at e2
        have := low k2 g e2
        have : b = g := Option.some.inj e1
        omega
    · rw [upd_other _ _ c1] at e1
      by_cases c2 : k2 = k
      · rw [c2, upd_same] at e2
        have := low k1 g e1
        have : b = g := Option.some.inj e2
        omega
      · rw [upd_other _ _ c2] at e2
        exact h.one k1 k2 g e1 e2
  · by_cases c1 : k1 = k
    · rw [c1, upd_same] at e1; cases e1
    · by_cases c2 : k2 = k
      · rw [c2, upd_same] at e2; cases e2
      · rw [upd_other _ _ c1] at e1 h1
        rw [upd_other _ _ c2] at e2 h2
        exact h.row k1 k2 g h1 h2 e1 e2
/-- A file is gone. -/
theorem FilesAt.drop {w : World} {N : Nat} {fs : Fs} {A : List UInt8 → Option Nat} {V : List UInt8 → Value} (h : FilesAt w N fs A V) (hr : Rising fs) (k : List UInt8) : FilesAt w N (del k fs) (upd A k none) V := by
  refine ⟨fun k0 f0 hk0 => ?_, fun k0 hk0 => ?_, fun k1 k2 g e1 e2 => ?_, fun k1 k2 g h1 h2 e1 e2 => ?_⟩
  · rw [get_del hr] at hk0
    by_cases e : k0 = k
    · rw [if_pos e] at hk0; cases hk0
    · rw [if_neg e] at hk0
      obtain ⟨b1, hb1, r⟩ := h.file k0 f0 hk0
      exact ⟨b1, by rw [upd_other _ _ e]; exact hb1, r⟩
  · rw [get_del hr] at hk0
    by_cases e : k0 = k
    · rw [e, upd_same]
    · rw [if_neg e] at hk0
      rw [upd_other _ _ e]; exact h.gone k0 hk0
  · by_cases c1 : k1 = k
    · rw [c1, upd_same] at e1; cases e1
    · by_cases c2 : k2 = k
      · rw [c2, upd_same] at e2; cases e2
      · rw [upd_other _ _ c1] at e1
        rw [upd_other _ _ c2] at e2
        exact h.one k1 k2 g e1 e2
  · by_cases c1 : k1 = k
    · rw [c1, upd_same] at h1; cases h1
    · by_cases c2 : k2 = k
      · rw [c2, upd_same] at h2; cases h2
      · rw [upd_other _ _ c1] at h1
        rw [upd_other _ _ c2] at h2
        exact h.row k1 k2 g h1 h2 e1 e2
/-- A file is called otherwise. -/
theorem FilesAt.move {w : World} {N : Nat} {fs : Fs} {A : List UInt8 → Option Nat} {V : List UInt8 → Value} (h : FilesAt w N fs A V) (hr : Rising fs) (k t : List UInt8) (b : Nat) (f : Fl) (hk : A k = some b) (hf : get fs k = some f) :
    FilesAt w N (put t f (del k fs)) (upd (upd A k none) t (some b)) (upd V t (V k)) := by
  have old : ∀ x g, ¬ x = t → (upd (upd A k none) t (some b)) x = some g → ¬ x = k ∧ A x = some g := fun x g hx e => by
    rw [upd_other _ _ hx] at e
    by_cases c : x = k
    · rw [c, upd_same] at e; cases e
    · rw [upd_other _ _ c] at e
      exact ⟨c, e⟩
  refine ⟨fun k0 f0 hk0 => ?_, fun k0 hk0 => ?_, fun k1 k2 g e1 e2 => ?_, fun k1 k2 g h1 h2 e1 e2 => ?_⟩
  · rw [get_put] at hk0
    by_cases e : k0 = t
    · subst e
      rw [if_pos rfl] at hk0
      cases hk0
      obtain ⟨b1, hb1, r⟩ := h.file k f hf
      obtain rfl : b1 = b := by rw [hb1] at hk; exact Option.some.inj hk
      exact ⟨b1, upd_same _ _ _, by rw [upd_same]; exact r⟩
    · rw [if_neg e, get_del hr] at hk0
      by_cases c : k0 = k
      · rw [if_pos c] at hk0; cases hk0
      · rw [if_neg c] at hk0
        obtain ⟨b1, hb1, r⟩ := h.file k0 f0 hk0
        exact ⟨b1, by rw [upd_other _ _ e, upd_other _ _ c]; exact hb1, by rw [upd_other _ _ e]; exact r⟩
  · rw [get_put] at hk0
    by_cases e : k0 = t
    · rw [if_pos e] at hk0; cases hk0
    · rw [if_neg e, get_del hr] at hk0
      rw [upd_other _ _ e]
      by_cases c : k0 = k
      · rw [c, upd_same]
      · rw [if_neg c] at hk0
        rw [upd_other _ _ c]; exact h.gone k0 hk0
  · by_cases c1 : k1 = t
    · by_cases c2 : k2 = t
      · rw [c1, c2]
      · obtain ⟨q1, q2⟩ := old k2 g c2 e2
        rw [c1, upd_same] at e1
        obtain rfl := Option.some.inj e1
        exact absurd (h.one k2 k b q2 hk) q1
    · obtain ⟨p1, p2⟩ := old k1 g c1 e1
      by_cases c2 : k2 = t
      · rw [c2, upd_same] at e2
        obtain rfl := Option.some.inj e2
        exact absurd (h.one k1 k b p2 hk) p1
      · obtain ⟨q1, q2⟩ := old k2 g c2 e2
        exact h.one k1 k2 g p2 q2
  · have hks : (A k).isSome = true := by rw [hk]; rfl
    by_cases c1 : k1 = t
    · by_cases c2 : k2 = t
      · rw [c1, c2]
      · rw [c1, upd_same] at e1
        obtain ⟨g2, hg2⟩ := Option.isSome_iff_exists.1 h2
        obtain ⟨q1, q2⟩ := old k2 g2 c2 hg2
        rw [upd_other _ _ c2] at e2
        exact absurd (h.row k2 k g (by rw [q2]; rfl) hks e2 e1) q1
    · obtain ⟨g1, hg1⟩ := Option.isSome_iff_exists.1 h1
      obtain ⟨p1, p2⟩ := old k1 g1 c1 hg1
      rw [upd_other _ _ c1] at e1
      by_cases c2 : k2 = t
      · rw [c2, upd_same] at e2
        exact absurd (h.row k1 k g (by rw [p2]; rfl) hks e1 e2) p1
      · obtain ⟨g2, hg2⟩ := Option.isSome_iff_exists.1 h2
        obtain ⟨q1, q2⟩ := old k2 g2 c2 hg2
        rw [upd_other _ _ c2] at e2
        exact h.row k1 k2 g (by rw [p2]; rfl) (by rw [q2]; rfl) e1 e2

theorem isKeyLit_str (k : List UInt8) : WideAt.IsKeyLit (.string k) := trivial
theorem lit_ne {a b : List UInt8} (h : ¬ a = b) : (Lit.string a) ≠ .string b := fun e => h (by simpa using e)
/-- The map behind a store, behind a delete. -/
theorem map_put {w : World} {N mb n : Nat} {D : DataW Unit} {A : List UInt8 → Option Nat} (hown : w.ownsMap Try.prog 9 ptrElem mb n D) (hat : ∀ k, D.atKey (.string k) .nil = tok (A k)) (hhas : ∀ k, has D (.string k) = (A k).isSome)
    {w1 : World} {n1 : Nat} (k : List UInt8) (b : Nat) (h1 : w1.ownsMap Try.prog 9 ptrElem mb n1 (D.put (.string k) (tok (some b)))) (hN : N ≤ mb) : MapAt w1 N (.map (some mb)) (upd A k (some b)) := by
  refine .inr ⟨mb, n1, _, rfl, hN, h1, fun x => ?_, fun x => ?_⟩
  · by_cases e : x = k
    · subst e
      rw [upd_same, atKey_put_same hown.isMap (isKeyLit_str _)]
    · rw [upd_other _ _ e, atKey_put_other (lit_ne e), hat]
  · by_cases e : x = k
    · subst e
      rw [upd_same, has_put_same hown.isMap (isKeyLit_str _)]; rfl
    · rw [upd_other _ _ e, has_put_other (lit_ne e), hhas]
theorem map_del {w1 : World} {N mb n1 : Nat} {D : DataW Unit} {A : List UInt8 → Option Nat} (hat : ∀ k, D.atKey (.string k) .nil = tok (A k)) (hhas : ∀ k, has D (.string k) = (A k).isSome)
    (k : List UInt8) (h1 : w1.ownsMap Try.prog 9 ptrElem mb n1 (D.del (.string k))) (hN : N ≤ mb) : MapAt w1 N (.map (some mb)) (upd A k none) := by
  refine .inr ⟨mb, n1, _, rfl, hN, h1, fun x => ?_, fun x => ?_⟩
  · by_cases e : x = k
    · subst e
      rw [upd_same, atKey_del_same]; rfl
    · rw [upd_other _ _ e, atKey_del_other (lit_ne e), hat]
  · by_cases e : x = k
    · subst e
      rw [upd_same, has_del_same]; rfl
    · rw [upd_other _ _ e, has_del_other (lit_ne e), hhas]

/-- A look-up in the map. -/
theorem MapAt.look {w : World} {N : Nat} {mv : Value} {A : List UInt8 → Option Nat} (h : MapAt w N mv A) (s : ByteArray) (hs : s.size ≤ maxLen) : (Instr.lookup 48 mv (.string s) false).run Try.prog w = .ok (tokV (A s.data.toList)) w := by
  rcases h with ⟨rfl, hn⟩ | ⟨mb, n, D, rfl, hN, hown, hat, _⟩
  · have := Maps.look_nil (w := w) false law9 und48 (zero56 w) (key_of s hs)
    rw [this, hn]; rfl
  · obtain ⟨v, ps, hrun, hv⟩ := hown.lookup law9 und48 (zero56 w) (zd := .nil) (zp := []) rfl (key_of s hs)
    rw [hat] at hv
    obtain ⟨o, rfl, e⟩ := ptr_inv hv
    rw [hrun]
    have : tok (A s.data.toList) = tok o := by
      have := congrArg Prod.fst e
      exact this
    rw [tok_inj this]
/-- How many files the map has. -/
theorem MapAt.len {w : World} {N : Nat} {mv : Value} {fs : Fs} {A : List UInt8 → Option Nat} {V : List UInt8 → Value} (h : MapAt w N mv A) (hF : FilesAt w N fs A V) (hr : Rising fs) (ty : TypeId) : (Builtin.len_ #[48] ty #[mv]).run Try.prog w = .ok (.int .i64 (fs.length : Int)) w := by
  rcases h with ⟨rfl, hn⟩ | ⟨mb, n, D, rfl, hN, hown, hat, hh⟩
  · have e : fs = [] := by
      cases fs with
      | nil => rfl
      | cons p r =>
        have : get (p :: r) p.1 = some p.2 := by rw [get, if_pos rfl]
        obtain ⟨b, hb, _⟩ := hF.file p.1 p.2 this
        rw [hn] at hb; cases hb
    subst e
    exact Maps.len_nil und48 ty
  · rw [hown.len und48 ty, size_files hown hr (fun k => by rw [hh, hF.some_iff])]
end Go.Proofs.Ythaknjbcmflegaa
