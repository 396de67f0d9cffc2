/- Counters on a disk of their own: one call behind the other. -/
import Derived.Test.YtfmmholkeadejaaGreatDoorZSqPure
import Derived.Test.YtfmmholkeadejaaGreatDoorZSqNext
import Derived.Test.YtfmmholkeadejaaGreatDoorZS3
namespace Go.Proofs.YtfmmholkeadejaaGreatDoor
open Go.RowKit

theorem nodup_len : ∀ (l m : List (List UInt8)), l.Nodup → (∀ x ∈ l, x ∈ m) → l.length ≤ m.length
  | [], _, _, _ => Nat.zero_le _
  | x :: t, m, hn, hs => by
    obtain ⟨h1, h2⟩ := List.nodup_cons.1 hn
    have hx := hs x (by simp)
    have := nodup_len t (m.erase x) h2 (fun y hy => (List.mem_erase_of_ne (fun (e : y = x) => h1 (by rw [← e]; exact hy))).2 (hs y (by simp [hy])))
    rw [List.length_erase_of_mem hx] at this
    have : 0 < m.length := List.length_pos_of_mem hx
    simp only [List.length_cons]
    omega
theorem used_le : ∀ l : Fs, (∀ p ∈ l, p.2.bytes.length ≤ 25) → used l ≤ 25 * l.length
  | [], _ => Nat.le_refl _
  | p :: r, h => by
    have h1 := h p (by simp)
    have h2 := used_le r (fun q hq => h q (by simp [hq]))
    simp only [used, List.length_cons]
    omega
/-- A disk that has but a few small files. -/
structure Few (S : Dk) (A : List (List UInt8)) : Prop where
  keys : ∀ k f, get S.fs k = some f → k ∈ A ∧ f.bytes.length ≤ 25
  room : S.room = 1048576
  few : A.length ≤ 4
theorem Few.len {S : Dk} {A : List (List UInt8)} (h : Few S A) (hr : Rising S.fs) : S.fs.length ≤ 4 ∧ used S.fs ≤ 100 := by
  have hl : S.fs.length ≤ 4 := by
    have := nodup_len (S.fs.map Prod.fst) A hr.nodup (fun x hx => by
      obtain ⟨p, hp, rfl⟩ := List.mem_map.1 hx
      exact (h.keys p.1 p.2 (mem_get hr hp)).1)
    rw [List.length_map] at this
    have := h.few
    omega
  have hu := used_le S.fs (fun p hp => (h.keys p.1 p.2 (mem_get hr hp)).2)
  exact ⟨hl, by omega⟩
/-- A counter's file: its lease, all firm. -/
def Lf (S : Dk) (nm : ByteArray) (v : Nat) : Prop := (get S.fs (cntB nm).data.toList = none ∧ v = 0) ∨ get S.fs (cntB nm).data.toList = some ⟨lsL v, (lsL v).length⟩
/-- A name that a counter may have here. -/
structure NmOk (nm : ByteArray) (A : List (List UInt8)) : Prop where
  cap : capOk nm = true
  size : nm.size ≤ 20
  file : nameOk (cntB nm) = true
  com : nameOk (comB (cntB nm)) = true
  ne : (comB (cntB nm)).data.toList ≠ (cntB nm).data.toList
  inF : (cntB nm).data.toList ∈ A
  inC : (comB (cntB nm)).data.toList ∈ A
theorem Lf.ls {S : Dk} {nm : ByteArray} {A : List (List UInt8)} {v : Nat} (h : Lf S nm v) (hn : NmOk nm A) (hon : S.on = true) : LsIs S (cntB nm) v 0 := by
  rcases h with ⟨h1, h2⟩ | h1
  · exact .inr (.inl ⟨by unfold foundE; rw [if_pos hon, if_pos hn.file, h1]; rfl, h2, rfl⟩)
  · have hf : foundE S (cntB nm) = 0 := by unfold foundE; rw [if_pos hon, if_pos hn.file, h1]; rfl
    refine .inl ⟨hf, ?_, rfl⟩
    unfold readV
    rw [if_pos hf, h1]
    rfl
theorem Few.rn {S S' : Dk} {A : List (List UInt8)} {nm lb : ByteArray} {E : Int} (h : Few S A) (hn : NmOk nm A) (hl : lb.size ≤ 25) (ho : RnOut S (cntB nm) lb E S') : Few S' A := by
  have hlen : lb.data.toList.length ≤ 25 := hl
  refine ⟨fun k f hk => ?_, ho.kept.room.trans h.room, h.few⟩
  by_cases e1 : k = (cntB nm).data.toList
  · subst e1
    refine ⟨hn.inF, ?_⟩
    rcases ho.out with ⟨_, _, q⟩ | ⟨_, _, q⟩ | ⟨_, _, q⟩
    · rw [q] at hk; cases hk; exact hlen
    · rw [q] at hk; exact (h.keys _ f hk).2
    · rw [q] at hk; exact (h.keys _ f hk).2
  · by_cases e2 : k = (comB (cntB nm)).data.toList
    · subst e2
      refine ⟨hn.inC, ?_⟩
      rcases ho.com with q | q | ⟨n, q⟩
      · rw [q] at hk; cases hk
      · rw [q] at hk; exact (h.keys _ f hk).2
      · rw [q] at hk; cases hk; exact hlen
    · rw [ho.others k e1 e2] at hk
      exact h.keys k f hk
theorem DCur.count {w0 W W' : World} {N : Lo} {d k : Nat} {S S' : Dk} (h : DCur w0 W N d S) (hk0 : w0.heap.size ≤ k) (hu : CUpd N (fun i => i = k) W W') (hd : DiskAt W' N d S') : DCur w0 W' N d S' := by
  have hB : Below N W W' := hu.below h.sz (fun i hi => by rw [hi]; show N.n ≤ k; rw [h.lo]; exact hk0)
  exact ⟨hd, h.lo, h.tab.on hB, h.bel.trans (by have := h.lo; rw [← this]; exact hB), fun i hi => Nat.lt_of_lt_of_le (h.lt i hi) hu.size⟩
theorem DCur.below {w0 W W' : World} {N : Lo} {d : Nat} {S : Dk} (h : DCur w0 W N d S) (hb : Below W.heap.size W W') : DCur w0 W' N d S :=
  ⟨h.disk.below hb, h.lo, h.tab.on (hb.mono h.sz), h.bel.trans (hb.mono h.bel.size), fun i hi => Nat.lt_of_lt_of_le (h.lt i hi) hb.size⟩
/-- A disk with its few files, in a law. -/
structure Dw (w W : World) (d : Nat) (S : Dk) (A : List (List UInt8)) : Prop where
  cur : DCur w W (lo0 w) d S
  few : Few S A
theorem lsL_len (v : Nat) (hv : v < 18446744073709551616) : (lsL v).length ≤ 25 := by
  have := lsB_small v hv
  rw [lsB, Pk.strL_size] at this
  exact this
/-- NewCounter. -/
theorem ct_new {w W : World} {d : Nat} {S : Dk} {A : List (List UInt8)} {nm : ByteArray} {v : Nat} (hv : v < 18446744073709551616) (h : Dw w W d S A) (hn : NmOk nm A) (hon : S.on = true) (hf : Lf S nm v) :
    Calls Tryz.prog 41 #[.pointer (some ⟨d, 0, none⟩), .string nm] W fun e w' => ∃ k, e = .returned (.tuple #[.pointer (some ⟨k, 0, none⟩), .int .i64 0]) ∧ Dw w w' d S A ∧ Holds w' k (ctV d nm v v false) 72 ∧ W.heap.size ≤ k ∧ Below W.heap.size W w' :=
  (newc_ok (lo0 w) d S nm hn.cap (by have := hn.size; omega) v hv (hf.ls hn hon) W h.cur.disk h.cur.sz h.cur.tab).mono fun e w' ⟨k, e1, e2, e3, e4⟩ => ⟨k, e1, ⟨h.cur.below e4, h.few⟩, e2, e3, e4⟩
/-- What else Next leaves. -/
structure Left1 (W w' : World) (k : Nat) (nm : ByteArray) (S S' : Dk) : Prop where
  cnt : ∀ j cs, j ≠ k → Holds W j cs 72 → Holds w' j cs 72
  oth : ∀ x, x ≠ (cntB nm).data.toList → x ≠ (comB (cntB nm)).data.toList → get S'.fs x = get S.fs x
theorem ct_have {w W : World} {d k : Nat} {S : Dk} {A : List (List UInt8)} {nm : ByteArray} {last given : Nat} (h : Dw w W d S A) (hk : w.heap.size ≤ k) (hc : Holds W k (ctV d nm last given false) 72) (hg : given < last) (hl : last < 18446744073709551616) :
    Calls Tryz.prog 42 #[.pointer (some ⟨k, 0, none⟩)] W fun e w' => e = .returned (.tuple #[.int .u64 ((given + 1 : Nat) : Int), .int .i64 0]) ∧ Dw w w' d S A ∧ Holds w' k (ctV d nm last (given + 1) false) 72 ∧ Left1 W w' k nm S S := by
  refine (next_have d k nm last given hg hl W hc).mono ?_
  rintro e w' ⟨e1, rfl⟩
  have hd : Holds W.drew k (ctV d nm last given false) 72 := hc
  have hu : CUpd (lo0 w) (fun i => i = k) W (W.drew.setCell ⟨k, 3, none⟩ (.int .u64 ((given + 1 : Nat) : Int))) := ((CUpd.refl (lo0 w) _ W).drew).set k 3 _ rfl
  exact ⟨e1, ⟨h.cur.count hk hu (h.cur.disk.drew.setC hd (by decide) (by decide) (by decide) 3 _), h.few⟩, hd.set 3 _, fun j cs hj hh => hh.cupd hu hj (by decide) (by decide) (by decide), fun _ _ _ => rfl⟩
/-- Next where the lease is used up: the disk behind it is the same in all worlds. -/
theorem ct_more {w W0 : World} {d : Nat} {S : Dk} {A : List (List UInt8)} {nm : ByteArray} {last : Nat} (h0 : Dw w W0 d S A) (hn : NmOk nm A) (hon : S.on = true) (hf : Lf S nm last) (hl : last + 100 < 18446744073709551616) :
    ∃ S', Few S' A ∧ (S.armed = false → S'.armed = false) ∧
      ((S'.on = true ∧ Lf S' nm (last + 100) ∧ ∀ W k, Dw w W d S A → w.heap.size ≤ k → Holds W k (ctV d nm last last false) 72 → Calls Tryz.prog 42 #[.pointer (some ⟨k, 0, none⟩)] W fun e w' => e = .returned (.tuple #[.int .u64 ((last + 1 : Nat) : Int), .int .i64 0]) ∧ Dw w w' d S' A ∧ Holds w' k (ctV d nm (last + 100) (last + 1) false) 72 ∧ Left1 W w' k nm S S') ∨
       (S.armed = true ∧ S'.on = false ∧ Lf S' nm last ∧ ∀ W k, Dw w W d S A → w.heap.size ≤ k → Holds W k (ctV d nm last last false) 72 → Calls Tryz.prog 42 #[.pointer (some ⟨k, 0, none⟩)] W fun e w' => e = .returned (.tuple #[.int .u64 0, .int .i64 23]) ∧ Dw w w' d S' A ∧ Holds w' k (ctV d nm last last true) 72 ∧ Left1 W w' k nm S S')) := by
  have hr := h0.cur.fine.rise
  obtain ⟨hlen, hus⟩ := h0.few.len hr
  have hls := lsB_small (last + 100) hl
  have ho := rn_out hon hr (cntB nm) (lsB (last + 100)) hn.file hn.com hn.ne
  have hfew := h0.few.rn hn hls ho
  have hcall := fun W k (h : Dw w W d S A) (hc : Holds W k (ctV d nm last last false) 72) => next_more (lo0 w) d k S nm hn.com hn.size last last last 0 (by omega) (hf.ls hn hon) (Nat.max_self _) hl (by omega) W h.cur.disk h.cur.lt hc
  have hoth := ho.others
  refine ⟨rnS S (cntB nm) [lsB (last + 100)], hfew, fun h => (ho.kept.calm h).1, ?_⟩
  rcases ho.out with ⟨e, o, q⟩ | ⟨e, o, q⟩ | ⟨e, o, q⟩
  · refine .inl ⟨o, .inr ?_, fun W k h hk hc => ?_⟩
    · rw [q]
      have : (lsB (last + 100)).data.toList = lsL (last + 100) := by simp [lsB, Pk.strL]
      rw [this]
    · have := hcall W k h hc
      rw [e, if_pos rfl, if_pos rfl] at this
      exact this.mono fun x w' ⟨e1, e2, e3, e4⟩ => ⟨e1, ⟨h.cur.count hk e4 e2, hfew⟩, e3, fun j cs hj hh => hh.cupd e4 hj (by decide) (by decide) (by decide), hoth⟩
  · exact absurd e (ho.fits (by rw [h0.few.room]; omega))
  · have ha : S.armed = true := by
      cases hh : S.armed with
      | true => rfl
      | false => exact absurd e (ho.kept.calm hh).2
    refine .inr ⟨ha, o, ?_, fun W k h hk hc => ?_⟩
    · rcases hf with ⟨f1, f2⟩ | f1
      · exact .inl ⟨by rw [q]; exact f1, f2⟩
      · exact .inr (by rw [q]; exact f1)
    · have := hcall W k h hc
      rw [e, if_neg (by decide), if_neg (by decide)] at this
      exact this.mono fun x w' ⟨e1, e2, e3, e4⟩ => ⟨e1, ⟨h.cur.count hk e4 e2, hfew⟩, e3, fun j cs hj hh => hh.cupd e4 hj (by decide) (by decide) (by decide), hoth⟩
end Go.Proofs.YtfmmholkeadejaaGreatDoor
