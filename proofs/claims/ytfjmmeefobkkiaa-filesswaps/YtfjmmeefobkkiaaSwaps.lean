/- A file written beside, synced, renamed: the states of the disk, the calls on them (for the statement FilesSwaps). -/
import Derived.Test.YtfjmmeefobkkiaaFirm
namespace Go.Proofs.Ytfjmmeefobkkiaa
open Go.RowKit Go.Maps Go.WideMaps

def nmO : ByteArray := ⟨#[102]⟩
def nmW : ByteArray := ⟨#[110, 101, 119]⟩
abbrev kyF : List UInt8 := [102]
abbrev kyW : List UInt8 := [110, 101, 119]
/-- The file f is firm; beside it lies what nw says. -/
structure Sw (S : Dk) (old : List UInt8) (nw : Fs) : Prop where
  room : S.room = 16777216
  fs : S.fs = (kyF, ⟨old, old.length⟩) :: nw
def NW (nw : Fs) : Prop := nw = [] ∨ ∃ g : Fl, nw = [(kyW, g)] ∧ g.bytes.length ≤ 100000
theorem step_two (S : Dk) : (stepE S = 0 ∧ (stepS S).on = S.on) ∨ (stepE S = 23 ∧ (stepS S).on = false) := by
  unfold stepE stepS
  by_cases h1 : S.armed = true
  · by_cases h2 : 0 < S.ahead
    · left; rw [if_pos h1, if_pos h2, if_pos h1, if_pos h2]; exact ⟨rfl, rfl⟩
    · right; rw [if_pos h1, if_neg h2, if_pos h1, if_neg h2]; exact ⟨rfl, rfl⟩
  · left; rw [if_neg h1, if_neg h1]; exact ⟨rfl, rfl⟩
theorem stepS_room (S : Dk) : (stepS S).room = S.room := by
  unfold stepS
  split
  · split <;> rfl
  · rfl
theorem Sw.step {S : Dk} {old : List UInt8} {nw : Fs} (h : Sw S old nw) : Sw (stepS S) old nw := ⟨(stepS_room S).trans h.room, (stepS_fs S).trans h.fs⟩
theorem get_none1 (f : Fl) : get [(kyF, f)] kyW = none := rfl
theorem get_some2 (f g : Fl) : get [(kyF, f), (kyW, g)] kyW = some g := rfl
theorem put_new1 (f g : Fl) : put kyW g [(kyF, f)] = [(kyF, f), (kyW, g)] := rfl
theorem put_new2 (f g h : Fl) : put kyW h [(kyF, f), (kyW, g)] = [(kyF, f), (kyW, h)] := rfl
theorem del_new2 (f g : Fl) : del kyW [(kyF, f), (kyW, g)] = [(kyF, f)] := rfl
theorem put_old1 (f g : Fl) : put kyF g [(kyF, f)] = [(kyF, g)] := rfl
theorem Sw.lay {S : Dk} {old : List UInt8} (h : Sw S old []) (p : ByteArray) : Sw (layS S kyW [p]) old [(kyW, ⟨p.data.toList, 0⟩)] := by
  refine ⟨h.room, ?_⟩
  show put kyW _ S.fs = _
  have e : oldF S kyW = ⟨[], 0⟩ := by
    unfold oldF
    rw [h.fs, get_none1]
  rw [e, h.fs, put_new1, joins_one]
  rfl
theorem Sw.sync {S : Dk} {old : List UInt8} {g : Fl} (h : Sw S old [(kyW, g)]) : Sw (syncS S kyW) old [(kyW, ⟨g.bytes, g.bytes.length⟩)] := by
  refine ⟨h.room, ?_⟩
  show put kyW _ S.fs = _
  rw [oldF_some (f := g) (by rw [h.fs, get_some2]), h.fs, put_new2]
theorem Sw.drop {S : Dk} {old : List UInt8} {g : Fl} (h : Sw S old [(kyW, g)]) : Sw (dropS S kyW) old [] := by
  refine ⟨h.room, ?_⟩
  show del kyW S.fs = _
  rw [h.fs, del_new2]
theorem Sw.move {S : Dk} {old q : List UInt8} (h : Sw S old [(kyW, ⟨q, q.length⟩)]) : Sw (moveS S kyW kyF) q [] := by
  refine ⟨h.room, ?_⟩
  show put kyF _ (del kyW S.fs) = _
  rw [oldF_some (f := ⟨q, q.length⟩) (by rw [h.fs, get_some2]), h.fs, del_new2, put_old1]
theorem Sw.crash {S : Dk} {old : List UInt8} {nw : Fs} (h : Sw S old nw) (hn : NW nw) (ps : List Int) : ∃ nw', Sw (crashS S ps) old nw' ∧ NW nw' := by
  have e : (crash1 ⟨old, old.length⟩ ps) = (⟨old, old.length⟩, ps) := by rw [crash1, if_pos (by simp)]
  rcases hn with rfl | ⟨g, rfl, hg⟩
  · refine ⟨[], ⟨h.room, ?_⟩, .inl rfl⟩
    show (crashD S.fs ps).1 = _
    rw [h.fs, crashD, e]; rfl
  · refine ⟨[(kyW, (crash1 g ps).1)], ⟨h.room, ?_⟩, .inr ⟨_, rfl, ?_⟩⟩
    · show (crashD S.fs ps).1 = _
      rw [h.fs, crashD, e, crashD]; rfl
    · unfold crash1
      split
      · exact hg
      · simp only [List.length_take]; omega
theorem Sw.found {S : Dk} {old : List UInt8} {g : Fl} (h : Sw S old [(kyW, g)]) (hon : S.on = true) : foundE S nmW = 0 := by
  rw [foundE, if_pos hon, if_pos (by decide)]
  show (if (get S.fs kyW).isSome = true then (0 : Int) else 21) = 0
  rw [h.fs, get_some2]; rfl
theorem found_off {S : Dk} (hoff : S.on = false) (s : ByteArray) : foundE S s = 23 := by rw [foundE, if_neg (by rw [hoff]; decide)]
theorem named_off {S : Dk} (hoff : S.on = false) (ss : List ByteArray) : namedE S ss = 23 := by rw [namedE, if_neg (by rw [hoff]; decide)]

/-! The calls: what they answer, what they leave. -/
def Ap (N d : Nat) (p : ByteArray) (S : Dk) (E : Int) (T : Dk) : Prop := ∀ W, DiskAt W N d S → Calls Try.prog 11 #[.pointer (some ⟨d, 0, none⟩), .string ⟨#[110, 101, 119]⟩, .slice (some ⟨W.heap.size, 0, none⟩) 1 1] (W.alloc (.cells #[.string p] 9)) fun e w' => e = .returned (.int .i64 E) ∧ DiskAt w' N d T ∧ DUpd N W w'
def Sy (N d : Nat) (S : Dk) (E : Int) (T : Dk) : Prop := ∀ W, DiskAt W N d S → Calls Try.prog 12 #[.pointer (some ⟨d, 0, none⟩), .slice (some ⟨W.heap.size, 0, none⟩) 1 1] (W.alloc (.cells #[.string ⟨#[110, 101, 119]⟩] 9)) fun e w' => e = .returned (.int .i64 E) ∧ DiskAt w' N d T ∧ DUpd N W w'
def Rm (N d : Nat) (S : Dk) (E : Int) (T : Dk) : Prop := ∀ W, DiskAt W N d S → Calls Try.prog 17 #[.pointer (some ⟨d, 0, none⟩), .slice (some ⟨W.heap.size, 0, none⟩) 1 1] (W.alloc (.cells #[.string ⟨#[110, 101, 119]⟩] 9)) fun e w' => e = .returned (.int .i64 E) ∧ DiskAt w' N d T ∧ DUpd N W w'
def Re (N d : Nat) (S : Dk) (E : Int) (T : Dk) : Prop := ∀ W, DiskAt W N d S → Calls Try.prog 18 #[.pointer (some ⟨d, 0, none⟩), .string ⟨#[110, 101, 119]⟩, .string ⟨#[102]⟩] W fun e w' => e = .returned (.int .i64 E) ∧ DiskAt w' N d T ∧ DUpd N W w'
theorem ap_on (N d : Nat) (p : ByteArray) {S : Dk} {old : List UInt8} (h : Sw S old []) (hon : S.on = true) (hl : old.length + p.size ≤ 16777216) : Ap N d p S (stepE S) (stepS (layS S kyW [p])) := fun W hW =>
  app1 N d S nmW p hon (by decide) (by omega) (by
    show decide _ = true
    rw [decide_eq_true_eq, h.room, h.fs]
    simp only [lens, used]; omega) (by rw [h.fs]; simp) W hW
theorem ap_off (N d : Nat) (p : ByteArray) {S : Dk} (hoff : S.on = false) : Ap N d p S 23 S := fun W hW => by
  have := appB N d S nmW p (by decide) (by rw [named_off hoff]; decide) W hW
  rw [named_off hoff] at this
  exact this
theorem sy_on (N d : Nat) {S : Dk} {old : List UInt8} {g : Fl} (h : Sw S old [(kyW, g)]) (hon : S.on = true) : Sy N d S (stepE S) (if stepE S = 0 then syncS (stepS S) kyW else stepS S) := fun W hW => by
  have := sync1 N d S nmW (by decide) W hW
  rw [eachE, if_pos (h.found hon), eachS, if_pos (h.found hon)] at this
  exact this
theorem sy_off (N d : Nat) {S : Dk} (hoff : S.on = false) : Sy N d S 23 S := fun W hW => by
  have := sync1 N d S nmW (by decide) W hW
  rw [eachE, if_neg (by rw [found_off hoff]; decide), eachS, if_neg (by rw [found_off hoff]; decide), found_off hoff] at this
  exact this
theorem rm_on (N d : Nat) {S : Dk} {old : List UInt8} {g : Fl} (h : Sw S old [(kyW, g)]) (hon : S.on = true) : Rm N d S (stepE S) (if stepE S = 0 then dropS (stepS S) kyW else stepS S) := fun W hW => by
  have := remove1 N d S nmW (by decide) W hW
  rw [eachE, if_pos (h.found hon), eachS, if_pos (h.found hon)] at this
  exact this
theorem re_on (N d : Nat) {S : Dk} {old : List UInt8} {g : Fl} (h : Sw S old [(kyW, g)]) (hon : S.on = true) : Re N d S (stepE S) (if stepE S = 0 then moveS (stepS S) kyW kyF else stepS S) := fun W hW => by
  have := rename_some N d S nmW nmO (by decide) (by decide) W hW
  have h0 : namedE S [nmW, nmO] = 0 := by rw [namedE, if_pos hon]; exact namE_ok (by decide)
  rw [renE, if_pos h0, renS, if_pos h0, eachE, if_pos (h.found hon), eachS, if_pos (h.found hon)] at this
  exact this
theorem re_off (N d : Nat) {S : Dk} (hoff : S.on = false) : Re N d S 23 S := fun W hW => by
  have := rename_some N d S nmW nmO (by decide) (by decide) W hW
  have h0 := named_off hoff [nmW, nmO]
  rw [renE, if_neg (by rw [h0]; decide), renS, if_neg (by rw [h0]; decide), h0] at this
  exact this

/-- How a round may end: all done, or the power has gone. -/
def Out (S : Dk) (old p : List UInt8) (E1 E2 E3 : Int) : Prop :=
  (E1 = 0 ∧ E2 = 0 ∧ E3 = 0 ∧ S.on = true ∧ Sw S p []) ∨ (((E1 = 23 ∧ E2 = 23) ∨ (E1 = 0 ∧ E2 = 23) ∨ (E1 = 0 ∧ E2 = 0)) ∧ E3 = 23 ∧ S.on = false ∧ ∃ nw, Sw S old nw ∧ NW nw)
theorem sw_ops (N d : Nat) {S2 : Dk} {old : List UInt8} (p : ByteArray) (hp : p.size ≤ 100000) (hl : old.length ≤ 100000)
    (h : (S2.on = true ∧ Sw S2 old []) ∨ (S2.on = false ∧ ∃ nw, Sw S2 old nw ∧ NW nw)) : ∃ S3 S4 S5 E1 E2 E3, Ap N d p S2 E1 S3 ∧ Sy N d S3 E2 S4 ∧ Re N d S4 E3 S5 ∧ Out S5 old p.data.toList E1 E2 E3 := by
  have hpl : p.data.toList.length = p.size := rfl
  rcases h with ⟨hon, h⟩ | ⟨hoff, h⟩
  · have h3 := (h.lay p).step
    have on3 : (layS S2 kyW [p]).on = true := hon
    have e3 : stepE (layS S2 kyW [p]) = stepE S2 := rfl
    have a := ap_on N d p h hon (by omega)
    rcases step_two (layS S2 kyW [p]) with ⟨s1, s2⟩ | ⟨s1, s2⟩
    · rw [e3] at s1
      rw [s1] at a
      rw [on3] at s2
      generalize stepS (layS S2 kyW [p]) = S3 at *
      have b := sy_on N d h3 s2
      rcases step_two S3 with ⟨t1, t2⟩ | ⟨t1, t2⟩
      · rw [t1, if_pos rfl] at b
        have h4 := h3.step.sync
        have on4 : (syncS (stepS S3) kyW).on = true := by show (stepS S3).on = true; rw [t2, s2]
        generalize syncS (stepS S3) kyW = S4 at *
        have c := re_on N d h4 on4
        rcases step_two S4 with ⟨v1, v2⟩ | ⟨v1, v2⟩
        · rw [v1, if_pos rfl] at c
          have h5 := Sw.move h4.step
          exact ⟨_, _, _, _, _, _, a, b, c, .inl ⟨rfl, rfl, rfl, by show (stepS S4).on = true; rw [v2, on4], h5⟩⟩
        · rw [v1, if_neg (by decide)] at c
          exact ⟨_, _, _, _, _, _, a, b, c, .inr ⟨.inr (.inr ⟨rfl, rfl⟩), rfl, v2, _, h4.step, .inr ⟨_, rfl, by show p.data.toList.length ≤ _; omega⟩⟩⟩
      · rw [t1, if_neg (by decide)] at b
        exact ⟨_, _, _, _, _, _, a, b, re_off N d t2, .inr ⟨.inr (.inl ⟨rfl, rfl⟩), rfl, t2, _, h3.step, .inr ⟨_, rfl, by show p.data.toList.length ≤ _; omega⟩⟩⟩
    · rw [e3] at s1
      rw [s1] at a
      exact ⟨_, _, _, _, _, _, a, sy_off N d s2, re_off N d s2, .inr ⟨.inl ⟨rfl, rfl⟩, rfl, s2, _, h3, .inr ⟨_, rfl, by show p.data.toList.length ≤ _; omega⟩⟩⟩
  · exact ⟨_, _, _, _, _, _, ap_off N d p hoff, sy_off N d hoff, re_off N d hoff, .inr ⟨.inl ⟨rfl, rfl⟩, rfl, hoff, h⟩⟩
theorem sw_rm (N d : Nat) {S : Dk} {old : List UInt8} {g : Fl} (hg : g.bytes.length ≤ 100000) (h : Sw S old [(kyW, g)]) (hon : S.on = true) : ∃ E T, Rm N d S E T ∧ ((T.on = true ∧ Sw T old []) ∨ (T.on = false ∧ ∃ nw, Sw T old nw ∧ NW nw)) := by
  have a := rm_on N d h hon
  rcases step_two S with ⟨s1, s2⟩ | ⟨s1, s2⟩
  · rw [s1, if_pos rfl] at a
    exact ⟨_, _, a, .inl ⟨by show (stepS S).on = true; rw [s2, hon], h.step.drop⟩⟩
  · rw [s1, if_neg (by decide)] at a
    exact ⟨_, _, a, .inr ⟨s2, _, h.step, .inr ⟨_, rfl, hg⟩⟩⟩
theorem Sw.list0 {S : Dk} {old : List UInt8} (h : Sw S old []) : (listK S nmW).length = 0 := by
  unfold listK
  rw [h.fs]
  show (List.filter _ [kyF]).length = 0
  rw [List.filter_cons]
  have : preS nmW ⟨kyF.toArray⟩ = false := by
    rw [Bool.eq_false_iff]
    intro hc
    have := (preS_iff _ _).1 hc
    exact absurd this.length_le (by decide)
  rw [this]
  rfl
theorem Sw.list1 {S : Dk} {old : List UInt8} {g : Fl} (h : Sw S old [(kyW, g)]) : (listK S nmW).length = 1 := by
  unfold listK
  rw [h.fs]
  show (List.filter _ [kyF, kyW]).length = 1
  rw [List.filter_cons, List.filter_cons]
  have e1 : preS nmW ⟨kyF.toArray⟩ = false := by
    rw [Bool.eq_false_iff]
    intro hc
    have := (preS_iff _ _).1 hc
    exact absurd this.length_le (by decide)
  have e2 : preS nmW ⟨kyW.toArray⟩ = true := (preS_iff _ _).2 (List.prefix_refl _)
  rw [e1, e2]
  rfl
theorem Sw.read {S : Dk} {old : ByteArray} {nw : Fs} (h : Sw S old.data.toList nw) (hon : S.on = true) : readV S nmO = old ∧ foundE S nmO = 0 := by
  have h0 : foundE S nmO = 0 := by
    rw [foundE, if_pos hon, if_pos (by decide)]
    show (if (get S.fs kyF).isSome = true then (0 : Int) else 21) = 0
    rw [h.fs, get, if_pos rfl]; rfl
  refine ⟨?_, h0⟩
  rw [readV, if_pos h0]
  show (match get S.fs kyF with | some f => strL f.bytes | none => ⟨#[]⟩) = old
  rw [h.fs, get, if_pos rfl]
  exact str_ext rfl
end Go.Proofs.Ytfjmmeefobkkiaa
