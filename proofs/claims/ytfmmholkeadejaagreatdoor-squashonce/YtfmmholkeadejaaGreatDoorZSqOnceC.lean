/- SquashOnce: a counter on a disk whose power may go. -/
import Derived.Test.YtfmmholkeadejaaGreatDoorZSqCt
import Derived.Test.YtfmmholkeadejaaGreatDoorZCkKeepsM
namespace Go.Proofs.YtfmmholkeadejaaGreatDoor
open Go.RowKit

abbrev cnB : ByteArray := ⟨#[110]⟩
def A2 : List (List UInt8) := [(cntB cnB).data.toList, (comB (cntB cnB)).data.toList]
theorem nmN : NmOk cnB A2 := ⟨by kernel_rfl, by decide, by kernel_rfl, by kernel_rfl, by decide +kernel, by simp [A2], by simp [A2]⟩
/-- What else Next leaves. -/
structure Left2 (W w' : World) (k : Nat) (nm : ByteArray) (S S' : Dk) : Prop where
  box : ∀ j cs, j ≠ k → Holds W j cs 84 → Holds w' j cs 84
  oth : ∀ x, x ≠ (cntB nm).data.toList → x ≠ (comB (cntB nm)).data.toList → get S'.fs x = get S.fs x
theorem ct_have2 {w W : World} {d k : Nat} {S : Dk} {A : List (List UInt8)} {nm : ByteArray} {last given : Nat} (h : Dw w W d S A) (hk : w.heap.size ≤ k) (hc : Holds W k (ctV d nm last given false) 72) (hg : given < last) (hl : last < 18446744073709551616) :
    Calls Tryz.prog 42 #[.pointer (some ⟨k, 0, none⟩)] W fun e w' => e = .returned (.tuple #[.int .u64 ((given + 1 : Nat) : Int), .int .i64 0]) ∧ Dw w w' d S A ∧ Holds w' k (ctV d nm last (given + 1) false) 72 ∧ Left2 W w' k nm S S := by
  refine (next_have d k nm last given hg hl W hc).mono ?_
  rintro e w' ⟨e1, rfl⟩
  have hd : Holds W.drew k (ctV d nm last given false) 72 := hc
  have hu : CUpd (lo0 w) (fun i => i = k) W (W.drew.setCell ⟨k, 3, none⟩ (.int .u64 ((given + 1 : Nat) : Int))) := ((CUpd.refl (lo0 w) _ W).drew).set k 3 _ rfl
  exact ⟨e1, ⟨h.cur.count hk hu (h.cur.disk.drew.setC hd (by decide) (by decide) (by decide) 3 _), h.few⟩, hd.set 3 _, fun j cs hj hh => hh.cupd hu hj (by decide) (by decide) (by decide), fun _ _ _ => rfl⟩
/-- Next where the lease is used up: the disk behind it is the same in all worlds. -/
theorem ct_more2 {w W0 : World} {d : Nat} {S : Dk} {A : List (List UInt8)} {nm : ByteArray} {last : Nat} (h0 : Dw w W0 d S A) (hn : NmOk nm A) (hon : S.on = true) (hf : Lf S nm last) (hl : last + 100 < 18446744073709551616) :
    ∃ S', Few S' A ∧ (S.armed = false → S'.armed = false) ∧
      ((S'.on = true ∧ Lf S' nm (last + 100) ∧ ∀ W k, Dw w W d S A → w.heap.size ≤ k → Holds W k (ctV d nm last last false) 72 → Calls Tryz.prog 42 #[.pointer (some ⟨k, 0, none⟩)] W fun e w' => e = .returned (.tuple #[.int .u64 ((last + 1 : Nat) : Int), .int .i64 0]) ∧ Dw w w' d S' A ∧ Holds w' k (ctV d nm (last + 100) (last + 1) false) 72 ∧ Left2 W w' k nm S S') ∨
       (S.armed = true ∧ S'.on = false ∧ Lf S' nm last ∧ ∀ W k, Dw w W d S A → w.heap.size ≤ k → Holds W k (ctV d nm last last false) 72 → Calls Tryz.prog 42 #[.pointer (some ⟨k, 0, none⟩)] W fun e w' => e = .returned (.tuple #[.int .u64 0, .int .i64 23]) ∧ Dw w w' d S' A ∧ Holds w' k (ctV d nm last last true) 72 ∧ Left2 W w' k nm S S')) := by
  have hr := h0.cur.fine.rise
  obtain ⟨hlen, hus⟩ := h0.few.len hr
  have hls := lsB_small (last + 100) hl
  have ho := rn_out hon hr (cntB nm) (lsB (last + 100)) hn.file hn.com hn.ne
  have hfew := h0.few.rn hn hls ho
  have hcall := fun W k (h : Dw w W d S A) (hc : Holds W k (ctV d nm last last false) 72) => next_more (lo0 w) d k S nm hn.com hn.size last last last 0 (by omega) (hf.ls hn hon) (Nat.max_self _) hl (by omega) W h.cur.disk h.cur.lt hc
  have hoth := ho.others
  refine ⟨rnS S (cntB nm) [lsB (last + 100)], hfew, fun h => (ho.kept.calm h).1, ?_⟩
  rcases ho.out with ⟨e, o, q⟩ | ⟨e, o, q⟩ | ⟨e, o, q⟩
  · refine .inl ⟨o, .inr ?_, fun W k h hk hc => ?_⟩
    · rw [q]
      have : (lsB (last + 100)).data.toList = lsL (last + 100) := by simp [lsB, Pk.strL]
      rw [this]
    · have := hcall W k h hc
      rw [e, if_pos rfl, if_pos rfl] at this
      exact this.mono fun x w' ⟨e1, e2, e3, e4⟩ => ⟨e1, ⟨h.cur.count hk e4 e2, hfew⟩, e3, fun j cs hj hh => hh.cupd e4 hj (by decide) (by decide) (by decide), hoth⟩
  · exact absurd e (ho.fits (by rw [h0.few.room]; omega))
  · have ha : S.armed = true := by
      cases hh : S.armed with
      | true => rfl
      | false => exact absurd e (ho.kept.calm hh).2
    refine .inr ⟨ha, o, ?_, fun W k h hk hc => ?_⟩
    · rcases hf with ⟨f1, f2⟩ | f1
      · exact .inl ⟨by rw [q]; exact f1, f2⟩
      · exact .inr (by rw [q]; exact f1)
    · have := hcall W k h hc
      rw [e, if_neg (by decide), if_neg (by decide)] at this
      exact this.mono fun x w' ⟨e1, e2, e3, e4⟩ => ⟨e1, ⟨h.cur.count hk e4 e2, hfew⟩, e3, fun j cs hj hh => hh.cupd e4 hj (by decide) (by decide) (by decide), hoth⟩
/-- What is boxed stays. -/
def Bx (W W' : World) : Prop := ∀ j cs, Holds W j cs 84 → Holds W' j cs 84
theorem Bx.ofOth {W W' : World} (h : Oth W W') : Bx W W' := fun _ _ hh => hh.oth h (by decide) (by decide) (by decide) (by decide) (by decide)
theorem Bx.ofBelow {W W' : World} (h : Below W.heap.size W W') : Bx W W' := .ofOth (Oth.ofBelow h)
theorem holds_type {W : World} {j : Nat} {cs cs' : List Value} {t t' : TypeId} (h : Holds W j cs t) (h' : Holds W j cs' t') : t = t' := by
  unfold Holds at h h'
  rw [h] at h'
  injection h' with e
  injection e with e1 e2
/-- The counter works: its numbers go on behind last. -/
def OnG (w : World) (d k last lim : Nat) (W : World) : Prop := ∃ S lv g, Dw w W d S A2 ∧ S.on = true ∧ w.heap.size ≤ k ∧ Holds W k (ctV d cnB lv g false) 72 ∧ Lf S cnB lv ∧ last ≤ g ∧ g ≤ lv ∧ lv ≤ lim
/-- The power went in it. -/
def OnB (w : World) (d k last lim : Nat) (W : World) : Prop := ∃ S lv g, Dw w W d S A2 ∧ w.heap.size ≤ k ∧ Holds W k (ctV d cnB lv g true) 72 ∧ Lf S cnB lv ∧ last ≤ lv ∧ lv ≤ lim
def OnC (w : World) (d k last lim : Nat) (W : World) : Prop := OnG w d k last lim W ∨ OnB w d k last lim W
/-- The disk, with no counter. -/
def OnD (w : World) (d last lim : Nat) (W : World) : Prop := ∃ S lv, Dw w W d S A2 ∧ S.on = true ∧ Lf S cnB lv ∧ last ≤ lv ∧ lv ≤ lim
theorem OnC.bel {w W : World} {d k last lim : Nat} (h : OnC w d k last lim W) : Below w.heap.size w W := by
  rcases h with ⟨S, lv, g, h, _⟩ | ⟨S, lv, g, h, _⟩ <;> exact h.cur.bel
theorem OnC.mono {w W : World} {d k last lim lim' : Nat} (h : OnC w d k last lim W) (hl : lim ≤ lim') : OnC w d k last lim' W := by
  rcases h with ⟨S, lv, g, h1, h2, h3, h4, h5, h6, h7, h8⟩ | ⟨S, lv, g, h1, h2, h3, h4, h5, h6⟩
  · exact .inl ⟨S, lv, g, h1, h2, h3, h4, h5, h6, h7, by omega⟩
  · exact .inr ⟨S, lv, g, h1, h2, h3, h4, h5, by omega⟩
theorem OnC.alloc {w W : World} {d k last lim : Nat} (h : OnC w d k last lim W) (o : Obj) : OnC w d k last lim (W.alloc o) := by
  have hb : Below W.heap.size W (W.alloc o) := (Below.refl _ W).alloc (Nat.le_refl _) o
  rcases h with ⟨S, lv, g, h1, h2, h3, h4, h5, h6⟩ | ⟨S, lv, g, h1, h2, h3, h4, h5⟩
  · exact .inl ⟨S, lv, g, ⟨h1.cur.below hb, h1.few⟩, h2, h3, h4.below hb h4.lt, h5, h6⟩
  · exact .inr ⟨S, lv, g, ⟨h1.cur.below hb, h1.few⟩, h2, h3.below hb h3.lt, h4, h5⟩
theorem few_same {S S' : Dk} {A : List (List UInt8)} (h : Few S A) (e1 : S'.fs = S.fs) (e2 : S'.room = S.room) : Few S' A := ⟨by rw [e1]; exact h.keys, e2.trans h.room, h.few⟩
theorem lf_fs {S S' : Dk} {nm : ByteArray} {v : Nat} (h : Lf S nm v) (e : S'.fs = S.fs) : Lf S' nm v := by unfold Lf; rw [e]; exact h
theorem few_crash {S : Dk} {A : List (List UInt8)} (h : Few S A) (ps : List Int) : Few (crashS S ps) A := by
  refine ⟨fun k g hg => ?_, h.room, h.few⟩
  obtain ⟨q1, q2⟩ := crash_get S.fs ps k
  cases hf : get S.fs k with
  | none => have := q1 hf; rw [show get (crashS S ps).fs k = get (crashD S.fs ps).1 k from rfl, this] at hg; cases hg
  | some f =>
    obtain ⟨g', e1, m, m1, m2, m3⟩ := q2 f hf
    have e : g = g' := Option.some.inj (hg.symm.trans e1)
    obtain ⟨k1, k2⟩ := h.keys k f hf
    refine ⟨k1, ?_⟩
    rw [e, m3]
    simp only [List.length_take]
    omega
theorem lf_crash {S : Dk} {nm : ByteArray} {v : Nat} (h : Lf S nm v) (ps : List Int) : Lf (crashS S ps) nm v := by
  obtain ⟨q1, q2⟩ := crash_get S.fs ps (cntB nm).data.toList
  rcases h with ⟨h1, h2⟩ | h1
  · exact .inl ⟨q1 h1, h2⟩
  · obtain ⟨g, e1, m, m1, m2, m3⟩ := q2 _ h1
    have hm : m = (lsL v).length := by simp only at m1 m2; omega
    refine .inr (e1.trans ?_)
    rw [m3, hm]
    simp
theorem on_arm {w W : World} {d k last lim : Nat} (h : OnC w d k last lim W) (r : Int) (hr : -9223372036854775808 ≤ r ∧ r < 9223372036854775808) :
    Calls Tryz.prog 30 #[.pointer (some ⟨d, 0, none⟩), .int .i64 r] W fun e w' => e = .returned (.tuple #[]) ∧ OnC w d k last lim w' ∧ Bx W w' := by
  rcases h with ⟨S, lv, g, h1, h2, h3, h4, h5, h6⟩ | ⟨S, lv, g, h1, h2, h3, h4, h5⟩
  · exact (arm_some (lo0 w) d S r hr W h1.cur.disk).mono fun e w' ⟨e1, e2, e3⟩ => ⟨e1, .inl ⟨_, lv, g, ⟨(h1.cur.next e3 e2).1, few_same h1.few rfl rfl⟩, h2, h3, h4.oth (Oth.ofD e3) (by decide) (by decide) (by decide) (by decide) (by decide), lf_fs h5 rfl, h6⟩, .ofOth (Oth.ofD e3)⟩
  · exact (arm_some (lo0 w) d S r hr W h1.cur.disk).mono fun e w' ⟨e1, e2, e3⟩ => ⟨e1, .inr ⟨_, lv, g, ⟨(h1.cur.next e3 e2).1, few_same h1.few rfl rfl⟩, h2, h3.oth (Oth.ofD e3) (by decide) (by decide) (by decide) (by decide) (by decide), lf_fs h4 rfl, h5⟩, .ofOth (Oth.ofD e3)⟩
theorem on_crash {w W : World} {d k last lim : Nat} (h : OnC w d k last lim W) (pk : List Int) (hpk : ∀ p ∈ pk, -9223372036854775808 ≤ p ∧ p < 9223372036854775808) (a : Option Addr) (q : Nat) (hc : pk.length ≤ q) (hm : q ≤ maxLen) (ha : ∀ N : Lo, N.n = w.heap.size → IntsAt W N a pk) :
    Calls Tryz.prog 31 #[.pointer (some ⟨d, 0, none⟩), .slice a pk.length q] W fun e w' => e = .returned (.tuple #[]) ∧ OnD w d last lim w' ∧ Bx W w' := by
  obtain ⟨S, lv, h1, h2, h3, h4⟩ : ∃ S lv, Dw w W d S A2 ∧ Lf S cnB lv ∧ last ≤ lv ∧ lv ≤ lim := by
    rcases h with ⟨S, lv, g, h1, h2, h3, h4, h5, h6, h7, h8⟩ | ⟨S, lv, g, h1, h2, h3, h4, h5, h6⟩
    · exact ⟨S, lv, h1, h5, by omega, h8⟩
    · exact ⟨S, lv, h1, h4, h5, h6⟩
  exact (crash_some (lo0 w) d S pk hpk a q hc hm W h1.cur.disk (ha _ h1.cur.lo)).mono fun e w' ⟨e1, e2, e3⟩ => ⟨e1, ⟨crashS S pk, lv, ⟨(h1.cur.next e3 e2).1, few_crash h1.few pk⟩, rfl, lf_crash h2 pk, h3, h4⟩, .ofOth (Oth.ofD e3)⟩
theorem on_new {w W : World} {d last lim : Nat} (h : OnD w d last lim W) (hl : lim < 1000000) :
    Calls Tryz.prog 41 #[.pointer (some ⟨d, 0, none⟩), .string cnB] W fun e w' => ∃ k, e = .returned (.tuple #[.pointer (some ⟨k, 0, none⟩), .int .i64 0]) ∧ OnC w d k last lim w' ∧ Bx W w' := by
  obtain ⟨S, lv, h1, h2, h3, h4, h5⟩ := h
  exact (ct_new (by omega) h1 nmN h2 h3).mono fun e w' ⟨k, e1, e2, e3, e4, e5⟩ => ⟨k, e1, .inl ⟨S, lv, lv, e2, h2, Nat.le_trans h1.cur.bel.size e4, e3, h3, h4, Nat.le_refl _, h5⟩, .ofBelow e5⟩
/-- Next: a number that is greater than all ahead of it, or none. -/
theorem on_next {w W : World} {d k last lim : Nat} (h : OnC w d k last lim W) (hl : lim < 1000000) :
    (∃ n : Nat, last < n ∧ Calls Tryz.prog 42 #[.pointer (some ⟨k, 0, none⟩)] W fun e w' => e = .returned (.tuple #[.int .u64 (n : Int), .int .i64 0]) ∧ OnG w d k n (lim + 100) w' ∧ Bx W w') ∨
    (∃ E : Int, E ≠ 0 ∧ Calls Tryz.prog 42 #[.pointer (some ⟨k, 0, none⟩)] W fun e w' => e = .returned (.tuple #[.int .u64 0, .int .i64 E]) ∧ OnC w d k last (lim + 100) w' ∧ Bx W w') := by
  rcases h with ⟨S, lv, g, h1, h2, h3, h4, h5, h6, h7, h8⟩ | ⟨S, lv, g, h1, h2, h3, h4, h5, h6⟩
  · have hne : ∀ j cs, Holds W j cs 84 → j ≠ k := fun j cs hh e => by subst e; exact absurd (holds_type hh h4) (by decide)
    rcases Nat.lt_or_ge g lv with hlt | hge
    · exact .inl ⟨g + 1, by omega, (ct_have2 h1 h3 h4 hlt (by omega)).mono fun e w' ⟨e1, e2, e3, e4⟩ => ⟨e1, ⟨S, lv, g + 1, e2, h2, h3, e3, h5, Nat.le_refl _, by omega, by omega⟩, fun j cs hh => e4.box j cs (hne j cs hh) hh⟩⟩
    · obtain rfl : g = lv := by omega
      obtain ⟨S', f1, f2, f3 | f3⟩ := ct_more2 h1 nmN h2 h5 (by omega)
      · obtain ⟨g1, g2, g3⟩ := f3
        exact .inl ⟨g + 1, by omega, (g3 W k h1 h3 h4).mono fun e w' ⟨e1, e2, e3, e4⟩ => ⟨e1, ⟨S', g + 100, g + 1, e2, g1, h3, e3, g2, Nat.le_refl _, by omega, by omega⟩, fun j cs hh => e4.box j cs (hne j cs hh) hh⟩⟩
      · obtain ⟨g0, g1, g2, g3⟩ := f3
        exact .inr ⟨23, by decide, (g3 W k h1 h3 h4).mono fun e w' ⟨e1, e2, e3, e4⟩ => ⟨e1, .inr ⟨S', g, g, e2, h3, e3, g2, h6, by omega⟩, fun j cs hh => e4.box j cs (hne j cs hh) hh⟩⟩
  · refine .inr ⟨24, by decide, (next_broken d k cnB lv g W h3).mono ?_⟩
    rintro e w' ⟨e1, rfl⟩
    exact ⟨e1, .inr ⟨S, lv, g, h1, h2, h3, h4, h5, by omega⟩, fun _ _ hh => hh⟩
theorem on_leased {w W : World} {d k n lim : Nat} (h : OnG w d k n lim W) : ∃ la, n ≤ la ∧ Hid (Calls Tryz.prog 44 #[.pointer (some ⟨k, 0, none⟩)] W fun e w' => e = .returned (.int .u64 (la : Int)) ∧ w' = W) := by
  obtain ⟨S, lv, g, h1, h2, h3, h4, h5, h6, h7, h8⟩ := h
  exact ⟨lv, by omega, leased_some d k cnB lv g false W h4⟩
theorem and127 (x : Int) : 0 ≤ bits .and .i64 x 127 ∧ bits .and .i64 x 127 ≤ 127 := by
  have h : ∀ b : Nat, b ≤ 127 → 0 ≤ IntKind.i64.wrap (b : Int) ∧ IntKind.i64.wrap (b : Int) ≤ 127 := fun b hb => by
    have : IntKind.i64.wrap (b : Int) = b := by simp [IntKind.wrap, IntKind.bits, IntKind.signed]; omega
    rw [this]; omega
  have h2 : (BitVec.ofInt 64 x &&& BitVec.ofInt 64 127).toNat ≤ 127 := by
    rw [BitVec.toNat_and]
    exact Nat.and_le_right
  exact h _ h2
end Go.Proofs.YtfmmholkeadejaaGreatDoor
