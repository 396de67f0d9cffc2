/- The document's disk: a file is gone. -/
import Derived.Test.YthaknjbcmflegaaRefFind
import Derived.Deep.AppendLies
import Derived.Deep.Onto
namespace Go.Proofs.Ythaknjbcmflegaa
open Go.RowKit Go.Maps Go.WideMaps

theorem below_grown {B : Nat} {w0 w w' : World} {v : Value} {e : TypeId} {size k : Nat} {xs : List Value} (h : Below B w0 w) (hg : w.grownBy w' v.ownBlock) (hB : B ≤ w.heap.size) (ho : w.ownsRow B e size v k xs) : Below B w0 w' :=
  h.grown hg hB (fun j hj => by
    rcases ho.2 with ⟨rfl, _⟩ | ⟨g, cap, cur, rfl, hb, _⟩
    · cases hj
    · simp [Value.ownBlock] at hj; omega)
theorem full63 : (Try.prog.info? 63).map (fun i => (i.zero, i.size, i.bytes)) = some (some (.agg #[.string ⟨#[]⟩, .string ⟨#[]⟩, .int .i64 0]), 3, 40) := by kernel_rfl
theorem inf63 : ∃ i, Try.prog.info? 63 = some i ∧ i.zero = some (.agg #[.string ⟨#[]⟩, .string ⟨#[]⟩, .int .i64 0]) ∧ i.size = 3 ∧ i.bytes = 40 := by
  have := full63
  cases h : Try.prog.info? 63 with
  | none => simp [h] at this
  | some i =>
    simp [h] at this
    exact ⟨i, rfl, this.1, this.2.1, this.2.2⟩
theorem del_ne {l : Fs} {k : List UInt8} (h : ∀ p ∈ l, ¬ p.1 = k) : del k l = l := by
  induction l with
  | nil => rfl
  | cons p r ih =>
    rw [del, if_neg (fun e => h p (by simp) e.symm), ih (fun q hq => h q (by simp [hq]))]
theorem filter_del {l : Fs} (hr : Rising l) (k : List UInt8) : l.filter (fun p => !(p.1 == k)) = del k l := by
  induction l with
  | nil => rfl
  | cons p r ih =>
    have hr2 := List.pairwise_cons.1 hr
    by_cases e : p.1 = k
    · rw [List.filter_cons_of_neg (by simp [e]), ih hr2.2, del, if_pos e.symm]
      exact del_ne (fun q hq e2 => by
        have := hr2.1 q hq
        rw [e, e2] at this
        exact List.lt_irrefl _ this)
    · rw [List.filter_cons_of_pos (by simp [e]), ih hr2.2, del, if_neg (fun h => e h.symm)]
theorem rowV_append (a b : Fs) : rowV (a ++ b) = rowV a ++ rowV b := List.flatMap_append
theorem rowV_one (p : List UInt8 × Fl) : rowV [p] = flV p := by simp [rowV]
theorem RowsAt.below {w w' : World} {B : Nat} {a : Option Addr} {fs : Fs} (h : RowsAt w a fs) (hb : Below B w w') (hB : B = w.heap.size) : RowsAt w' a fs := fun i p hi => by
  obtain ⟨g, e, hc⟩ := h i p hi
  refine ⟨g, e, fun j u hu => ?_⟩
  have h1 := hc j u hu
  have hg : g < w.heap.size := by
    unfold World.cell? at h1
    cases hx : w.heap[g]? with
    | none => rw [hx] at h1; cases h1
    | some o => exact (Array.getElem?_eq_some_iff.1 hx).1
  exact (World.cell?_of_block (hb.block g (by omega))).trans h1
theorem Dk.Good.drop {S : Dk} (h : S.Good) (k : List UInt8) : (dropS S k).Good :=
  ⟨(Dk.FineAt.drop (st := S.steps) ⟨h.toFine, rfl⟩ k).toFine, h.arm, fun p hp => h.firm p ((del_sub k S.fs).subset hp)⟩
theorem RefAt.lt {w : World} {N r : Nat} {S : Dk} (h : RefAt w N r S) : N ≤ r ∧ r < w.heap.size := by
  obtain ⟨v, hH, hN, _⟩ := h
  exact ⟨hN, hH.lt⟩
/-- Only the disk's own block is turned. -/
def OnlyR (r : Nat) (w w' : World) : Prop := ∀ i, i < w.heap.size → i ≠ r → w'.heap[i]? = w.heap[i]?
/-- The disk lies in its own block and in new ones. -/
def Apart (N r H : Nat) (T : Dk) (w' : World) : Prop := ∀ (b i : Nat) (u : Value), b < H → b ≠ r → RefAt (w'.setCell ⟨b, i, none⟩ u) N r T
/-- The row of files, made anew. -/
theorem RefAt.swap {w wr : World} {N r H : Nat} {S T : Dk} (h : RefAt w N r S) (hb : Below H w wr) (hH : H = w.heap.size) {v : Value} {l : Fs} (hrow : wr.ownsRow H 63 3 v l.length (rowV l)) (hT : T = { S with fs := l }) (hG : T.Good) :
    RefAt (wr.setCell ⟨r, 0, none⟩ v) N r T ∧ RUpd N w (wr.setCell ⟨r, 0, none⟩ v) ∧ OnlyR r w (wr.setCell ⟨r, 0, none⟩ v) ∧ Apart N r H T (wr.setCell ⟨r, 0, none⟩ v) := by
  have hlt := h.lt
  obtain ⟨v0, h1, hN, hR, hS⟩ := h
  have h2 : Holds wr r (refV v0 S) 35 := by
    unfold Holds at h1 ⊢
    rw [hb.block r (by omega)]; exact h1
  subst hT
  obtain ⟨k1, k2⟩ := ref_row (T := { S with fs := l }) h2 hN (hrow.mono (by omega)) hG rfl
  refine ⟨k1, (RUpd.ofBelow (by rw [← hH]; exact hb)).trans k2, fun i hi hne => (heap_setCell_other wr ⟨r, 0, none⟩ i v hne).trans (hb.block i (by omega)), fun b i u hbH hbr => ?_⟩
  obtain ⟨v1, q1, q2, q3, q4⟩ := k1
  have e1 : v1 = v := by
    have a1 := q1.at 0 _ rfl
    have a2 := (show Holds (wr.setCell ⟨r, 0, none⟩ v) r ((refV v0 S).set 0 v) 35 from h2.set 0 v).at 0 v rfl
    rw [a1] at a2
    exact Option.some.inj a2
  subst e1
  refine ⟨v1, ?_, q2, ?_, q4⟩
  · unfold Holds at q1 ⊢
    rw [heap_setCell_other _ ⟨b, i, none⟩ r u (fun e => hbr e.symm)]; exact q1
  · refine World.ownsRow.mono (base := H) ?_ (by omega)
    refine ownsRow_setCell_below ?_ hbH u
    refine row_same hrow (fun j cs fr hj => heap_setCell_other wr ⟨r, 0, none⟩ j v1 (fun (e : j = r) => ?_))
    subst e
    unfold Holds at h2
    rw [h2] at hj
    simp at hj

set_option maxHeartbeats 1600000 in
set_option maxRecDepth 100000 in
theorem rgone_some (N r : Nat) (S : Dk) (s : ByteArray) (w : World) (h : RefAt w N r S) : Calls Try.prog 56 #[.pointer (some ⟨r, 0, none⟩), .string s] w fun e w' => e = .returned (.tuple #[]) ∧ RefAt w' N r (dropS S s.data.toList) ∧ RUpd N w w' ∧ OnlyR r w w' ∧ Apart N r w.heap.size (dropS S s.data.toList) w' := by
  have hlen := h.good.len
  have hlt := h.lt
  obtain ⟨fs, a, c, hfs, c0, hrow⟩ := h.rows
  obtain ⟨H, hH⟩ : ∃ H, H = w.heap.size := ⟨_, rfl⟩
  have fin : Hid (∀ wr v l, Below H w wr → l = fs.filter (fun p => !(p.1 == s.data.toList)) → wr.ownsRow H 63 3 v l.length (rowV l) → RefAt (wr.setCell ⟨r, 0, none⟩ v) N r (dropS S s.data.toList) ∧ RUpd N w (wr.setCell ⟨r, 0, none⟩ v) ∧ OnlyR r w (wr.setCell ⟨r, 0, none⟩ v) ∧ Apart N r w.heap.size (dropS S s.data.toList) (wr.setCell ⟨r, 0, none⟩ v)) := fun wr v l hb hl ho => by
    rw [← hH]
    refine h.swap hb hH ho ?_ (h.good.drop _)
    rw [hl, ← hfs, filter_del h.good.rise]; rfl
  have f0 : Hid (∀ wr, Below H w wr → wr.cell? ⟨r, 0, none⟩ = some (.slice a fs.length c) ∧ wr.frozen? ⟨r, 0, none⟩ = false) := fun wr hb => by
    obtain ⟨v, hHd, _⟩ := h
    have e := hb.block r (by omega)
    exact ⟨(World.cell?_of_block e).trans c0, (World.frozen?_of_block e).trans (hHd.frozen 0)⟩
  rw [hfs] at hlen
  have HF : Hid (∀ wr, Below H w wr → RowsAt wr a fs) := fun wr hb => hrow.below hb hH
  obtain ⟨i63, f63, hz63, hs63, hb63⟩ := inf63
  have F63 : Hid (Try.prog.info? 63 = some i63) := f63
  have FZ : Hid (i63.zero = some (.agg #[.string ⟨#[]⟩, .string ⟨#[]⟩, .int .i64 0])) := hz63
  have FS : Hid (i63.size = 3) := hs63
  have FB : Hid (i63.bytes = 40) := hb63
  have HH : Hid (H = w.heap.size) := hH
  obtain ⟨m, hm⟩ : ∃ m, fs.length = m := ⟨_, rfl⟩
  have M : Hid (fs.length = m) := hm
  rw [hm] at f0 hlen
  clear hrow hfs hm h c0 f63 hz63 hs63 hb63 hlt hH
  generalize dropS S s.data.toList = T at *
  go_enter Try.func56, Try.ntmps56
  go_wp2_with fail
  go_loopw [4, 5] (fun v c wr => ∃ k : Nat, k ≤ m ∧ c = .int .i64 (k : Int) ∧ (∃ l : Fs, Hid (l = (fs.take k).filter (fun p => !(p.1 == s.data.toList))) ∧ l.length ≤ k ∧ wr.ownsRow H 63 3 v l.length (rowV l)) ∧ H ≤ wr.heap.size ∧ Below H w wr) (fun _ c _ => m - (intOf c).toNat)
  case atStart => exact ⟨0, by omega, rfl, ⟨[], rfl, by simp, World.ownsRow_nil _ _ _ _⟩, (by have := HH.out; omega), Below.refl _ _⟩
  case round =>
    obtain ⟨k, hk, rfl, ⟨l, hl, hlk, hown⟩, hsz, hb⟩ := hrel
    obtain ⟨c0, fz0⟩ := f0.out wr hb
    by_cases hlt : k < m
    · obtain ⟨p, hp⟩ : ∃ p, fs[k]? = some p := ⟨fs[k]'(by have := M.out; omega), List.getElem?_eq_getElem _⟩
      obtain ⟨g, rfl, hc⟩ := HF.out wr hb k p hp
      have d0 := hc 0 _ rfl
      have d1 := hc 1 _ rfl
      have d2 := hc 2 _ rfl
      simp only [Nat.add_zero] at d0
      have hstep : Hid ((fs.take (k + 1)).filter (fun p => !(p.1 == s.data.toList)) = (fs.take k).filter (fun p => !(p.1 == s.data.toList)) ++ (if p.1 = s.data.toList then [] else [p])) := by
        show (fs.take (k + 1)).filter _ = _
        rw [List.take_add_one, hp, List.filter_append]
        congr 1
        by_cases e : p.1 = s.data.toList
        · simp [e]
        · simp [e]
      by_cases he : p.1 = s.data.toList
      · have e1 := ne_yes he
        have e2 := eq_yes he
        have hl2 : Hid (l = (fs.take (k + 1)).filter (fun p => !(p.1 == s.data.toList))) := by
          show l = _
          rw [hstep.out, if_pos he, List.append_nil]; exact hl.out
        clear hc hp he hstep hl
        generalize strL p.1 = q at *
        go_wp2
        exact ⟨⟨k + 1, by omega, rfl, ⟨l, hl2, by omega, hown⟩, hsz, hb⟩, by simp; omega⟩
      · have e1 := ne_no he
        have e2 := eq_no he
        have hl2 : Hid (l ++ [p] = (fs.take (k + 1)).filter (fun p => !(p.1 == s.data.toList))) := by
          show l ++ [p] = _
          rw [hstep.out, if_neg he, hl.out]
        have hrv : Hid (rowV (l ++ [p]) = rowV l ++ flV p) := by
          show rowV (l ++ [p]) = _
          rw [rowV_append, rowV_one]
        have hll : Hid ((l ++ [p]).length = l.length + 1) := by show (l ++ [p]).length = _; simp
        obtain ⟨n, hn⟩ : ∃ n, l.length = n := ⟨_, rfl⟩
        rw [hn] at hown hlk hll
        generalize l ++ [p] = l2 at *
        generalize rowV l = xs at *
        have hflv : Hid (flV p = [.string (strL p.1), .string (strL p.2.bytes), .int .i64 (p.2.firm : Int)]) := rfl
        obtain ⟨ys, hys⟩ : ∃ ys, flV p = ys := ⟨_, rfl⟩
        rw [hys] at hrv hflv
        obtain ⟨q, hq⟩ : ∃ q, strL p.1 = q := ⟨_, rfl⟩
        obtain ⟨q2, hq2⟩ : ∃ q, strL p.2.bytes = q := ⟨_, rfl⟩
        obtain ⟨q3, hq3⟩ : ∃ q, (p.2.firm : Int) = q := ⟨_, rfl⟩
        rw [hq, hq2, hq3] at hflv
        rw [hq] at d0 e1 e2
        rw [hq2] at d1
        rw [hq3] at d2
        clear hc hp he hstep hl hn hys hq hq2 hq3
        have hnews : Hid (∀ (j : Nat) (u : Value), [Value.string q, .string q2, .int .i64 q3][j]? = some u → (wr.alloc (.cells #[.string q, .string q2, .int .i64 q3] 63)).cell? ((⟨wr.heap.size, 0, none⟩ : Addr).add j) = some u) :=
          World.news_of_block (heap_alloc_new wr (.cells #[.string q, .string q2, .int .i64 q3] 63))
        have hbase : Hid (∀ o1 : Obj, H ≤ (wr.alloc o1).heap.size) := fun o1 => by simp; omega
        go_wp2_with (first
          | (at_builtin; refine wpList_append_lies _ rfl (.tmp 25) (.tmp 33) 33 rfl H 63 i63 (.agg #[.string ⟨#[]⟩, .string ⟨#[]⟩, .int .i64 0]) 3 40 Try.underlying33 F63.out FZ.out FS.out FB.out rfl (by omega) u4 n xs rfl (hown.alloc _) ⟨wr.heap.size, 0, none⟩ 1 1 [.string q, .string q2, .int .i64 q3] rfl rfl hnews.out (by intro u hu; simp at hu; rcases hu with rfl | rfl | rfl <;> rfl) (by omega) (by unfold maxLen; omega) (by omega) (hbase.out _) (wr.heap.size + 1) (by simp) ?_; intro g2 cap2 w3 hown3 hgrow hat hlt3))
        have b3 : Below H w w3 := below_grown (hb.alloc (by omega) _) hgrow (hbase.out _) (hown.alloc _)
        refine ⟨⟨k + 1, by omega, rfl, ⟨l2, hl2, by have := hll.out; omega, ?_⟩, (by have := b3.size; have := HH.out; omega), b3⟩, by simp; omega⟩
        rw [hrv.out, hll.out, hflv.out]
        exact hown3
    · obtain rfl : k = m := by omega
      have hl2 : l = fs.filter (fun p => !(p.1 == s.data.toList)) := by
        rw [hl.out]; congr 1; rw [← M.out, List.take_length]
      obtain ⟨k1, k2, k3, k4⟩ := fin.out wr u4 l hb hl2 hown
      have K4 : Hid (Apart N r w.heap.size T (wr.setCell ⟨r, 0, none⟩ u4)) := k4
      have K3 : Hid (OnlyR r w (wr.setCell ⟨r, 0, none⟩ u4)) := k3
      have K1 : Hid (RefAt (wr.setCell ⟨r, 0, none⟩ u4) N r T) := k1
      have K2 : Hid (RUpd N w (wr.setCell ⟨r, 0, none⟩ u4)) := k2
      clear k1 k2 k3 k4 hl2 hl
      obtain ⟨va, vc, rfl⟩ : ∃ va vc, u4 = .slice va l.length vc := by
        rcases hown.2 with ⟨rfl, h0⟩ | ⟨g, cap, cur, rfl, _⟩
        · exact ⟨_, _, by rw [h0]⟩
        · exact ⟨_, _, rfl⟩
      clear hown
      go_wp2
      exact bodyPost_end (results_none (by kernel_rfl) _ _ _) rfl ⟨rfl, K1.out, K2.out, K3.out, K4.out⟩
end Go.Proofs.Ythaknjbcmflegaa
