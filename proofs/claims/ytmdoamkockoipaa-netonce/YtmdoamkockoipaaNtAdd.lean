/- add (19), Send (9). -/
import Derived.Test.YtmdoamkockoipaaNtCut
import Derived.Deep.AppendLies
import Derived.Deep.RegionLaw
namespace Go.Proofs.Ytmdoamkockoipaa
open Go.RowKit Go.Maps

theorem und26 : Try.prog.underlying 26 = some (.slice 34) := by kernel_rfl
def z34 : Value := .agg #[.int .i64 0, .int .i64 0, .int .i64 0, .string ⟨#[]⟩]
theorem info34 : (Try.prog.info? 34).map (fun i => (i.zero, i.size, i.bytes)) = some (some z34, 4, 40) := by kernel_rfl
theorem info34x : ∃ i, Try.prog.info? 34 = some i ∧ i.zero = some z34 ∧ i.size = 4 ∧ i.bytes = 40 := by
  have := info34
  cases h : Try.prog.info? 34 with
  | none => rw [h] at this; cases this
  | some i =>
    rw [h] at this
    simp at this
    exact ⟨i, rfl, this⟩
/-- What is told of the world behind an append to a net's row. -/
theorem add_mem {G : Nat → Prop} {w w1 w4 : World} {b g cap : Nat} {v mv : Value} {s : Nt} {f t : Int} {bd : ByteArray} (h : NetAt G w b s) (hroom : s.l.length < 4096) (hw1 : w1 = w.setCell ⟨b, 1, none⟩ (.int .i64 ((s.last : Int) + 1))) (hv : w.cell? ⟨b, 0, none⟩ = some v) (hmv : w.cell? ⟨b, 2, none⟩ = some mv)
    (hown : w4.ownsRow 0 34 4 (.slice (some ⟨g, 0, none⟩) (s.l.length + 1) cap) (s.l.length + 1) (mgF s.l ++ mgV ((s.last : Int) + 1, f, t, bd))) (hgr : (w1.alloc (.cells (mgV ((s.last : Int) + 1, f, t, bd)).toArray 34)).drew.grownBy w4 v.ownBlock) (hloc : v.ownBlock = some g ∨ g = w1.heap.size + 1) :
    w4.cell? ⟨b, 0, none⟩ = some v ∧ w4.frozen? ⟨b, 0, none⟩ = false ∧ Hid (NetAt G (w4.setCell ⟨b, 0, none⟩ (.slice (some ⟨g, 0, none⟩) (s.l.length + 1) cap)) b (addN s f t bd) ∧ Keeps G w (w4.setCell ⟨b, 0, none⟩ (.slice (some ⟨g, 0, none⟩) (s.l.length + 1) cap))) := by
  have hblt := h.lt
  obtain ⟨hG, hb, hr, v', mv', hH, hR, hg, hC⟩ := h
  obtain rfl : v' = v := by
    have := hH.at 0 _ rfl
    rw [this] at hv
    exact Option.some.inj hv
  obtain rfl : mv' = mv := by
    have := hH.at 2 _ rfl
    rw [this] at hmv
    exact Option.some.inj hmv
  have hs1 : w1.heap.size = w.heap.size := by rw [hw1]; exact World.size_setCell ..
  have hH1 : Holds w1 b [v', .int .i64 ((s.last : Int) + 1), mv'] 46 := by
    rw [hw1]
    exact hH.set 1 _
  have u1 : Upd b w (w1.alloc (.cells (mgV ((s.last : Int) + 1, f, t, bd)).toArray 34)).drew := by
    rw [hw1]
    exact (((Upd.refl b w).setCell 1 _).alloc _).drew
  have hsz : (w1.alloc (.cells (mgV ((s.last : Int) + 1, f, t, bd)).toArray 34)).drew.heap.size = w.heap.size + 1 := by simp [hs1]
  have hne : some b ≠ v'.ownBlock := fun e => (hg b e.symm).2 rfl
  have hbl : ∀ k, k < w.heap.size → k ≠ b → some k ≠ v'.ownBlock → w4.heap[k]? = w.heap[k]? := fun k hk hkb hkv => (hgr.block k (by omega) hkv).trans (u1.block k hk hkb)
  have hb4 : w4.heap[b]? = w1.heap[b]? := (hgr.block b (by omega) hne).trans (((Below.refl _ _).alloc (Nat.le_refl _) _).block b (by simp [hs1]; omega))
  have hH4 : Holds w4 b [v', .int .i64 ((s.last : Int) + 1), mv'] 46 := by
    unfold Holds
    rw [hb4]; exact hH1
  have hgb : g ≠ b := by
    rcases hloc with e | e
    · exact (hg g e).2
    · omega
  have hgG : ¬ G g := by
    rcases hloc with e | e
    · exact (hg g e).1
    · intro q
      have := hG g q; omega
  have hs4 : w.heap.size ≤ w4.heap.size := by have := hgr.size; omega
  refine ⟨hH4.at 0 _ rfl, hH4.frozen 0, ⟨fun k hk => ?_, hb, ?_, .slice (some ⟨g, 0, none⟩) (s.l.length + 1) cap, mv', ?_, ?_, ?_, ?_⟩, ?_⟩
  · have := hG k hk
    simp; omega
  · simp [addN]; omega
  · have := hH4.set 0 (.slice (some ⟨g, 0, none⟩) (s.l.length + 1) cap)
    simp only [List.set_cons_zero] at this
    exact this
  · have e1 : (addN s f t bd).l.length = s.l.length + 1 := by simp [addN]
    have e2 : mgF (addN s f t bd).l = mgF s.l ++ mgV ((s.last : Int) + 1, f, t, bd) := by
      show mgF (s.l ++ [_]) = _
      rw [mgF_app]; simp [mgF]
    rw [e1, e2]
    exact owns_same hown fun g' hg' => heap_setCell_other _ _ _ _ (fun e => hgb ((Option.some.inj hg').trans e))
  · intro g' hg'
    simp [Value.ownBlock] at hg'
    subst hg'
    exact ⟨hgG, hgb⟩
  · refine hC.same fun k es cl hm _ => ?_
    have hkb : k ≠ b := fun e => by
      subst e
      unfold Holds at hH
      rw [hm] at hH; cases hH
    rw [heap_setCell_other _ _ _ _ hkb]
    refine hbl k (Array.getElem?_eq_some_iff.1 hm).1 hkb fun e => ?_
    obtain ⟨cur, hcur⟩ := owns_cells hR e.symm
    rw [hm] at hcur; cases hcur
  · have hu4 := hgr.os.trans u1.os
    refine ⟨hgr.os.trans u1.os, hgr.tape.trans u1.tape, hgr.output.trans u1.output, by simp; omega, fun k hk => ?_⟩
    have hkb : k ≠ b := fun e => hb (e ▸ hk)
    rw [heap_setCell_other _ _ _ _ hkb]
    exact hbl k (hG k hk) hkb fun e => (hg k e.symm).1 hk
set_option maxHeartbeats 1600000 in
theorem add_any {G : Nat → Prop} {w : World} {b : Nat} {s : Nt} (f t : Int) (bd : ByteArray) (hroom : s.l.length < 4096) (hlast : s.last < 4611686018427387904) (h : NetAt G w b s) :
    Calls Try.prog 19 #[.pointer (some ⟨b, 0, none⟩), .int .i64 f, .int .i64 t, .string bd] w fun e w' => e = .returned (.tuple #[]) ∧ Hid (NetAt G w' b (addN s f t bd) ∧ Keeps G w w') := by
  have hN : Hid (NetAt G w b s) := h
  obtain ⟨hG, hb, hr, v, mv, hH, hR, hg, hC⟩ := h
  obtain ⟨i0, hi0, hz0, hsz0, hby0⟩ := info34x
  have HI0 : Hid (Try.prog.info? 34 = some i0) := hi0
  have c1 := hH.at 1 _ rfl
  have f1 := hH.frozen 1
  have hv := hH.at 0 _ rfl
  have HV : Hid (w.cell? ⟨b, 0, none⟩ = some v) := hv
  have HMV : Hid (w.cell? ⟨b, 2, none⟩ = some mv) := hH.at 2 _ rfl
  have hH1 := hH.set 1 (.int .i64 ((s.last : Int) + 1))
  have hR1 : World.ownsRow (w.setCell ⟨b, 1, none⟩ (.int .i64 ((s.last : Int) + 1))) 0 34 4 v s.l.length (mgF s.l) := owns_same hR fun g hg' => heap_setCell_other _ _ _ _ (hg g hg').2
  clear hH hi0 hR hg hC hv hG
  have hla1 : (s.last : Int) < 4611686018427387904 := by omega
  go_enter Try.func19, Try.ntmps19
  go_upto_region 1 with fail
  obtain ⟨w1, hw1⟩ : ∃ w1, w1 = w.setCell ⟨b, 1, none⟩ (.int .i64 ((s.last : Int) + 1)) := ⟨_, rfl⟩
  rw [← hw1] at hH1 hR1 ⊢
  have HW1 : Hid (w1 = w.setCell ⟨b, 1, none⟩ (.int .i64 ((s.last : Int) + 1))) := hw1
  clear hw1 c1 f1
  simp only [List.set_cons_succ, List.set_cons_zero] at hH1
  obtain ⟨av, cv, rfl⟩ := row_slice hR1
  have a0 := hH1.at 0 _ rfl
  have a1 := hH1.at 1 _ rfl
  have HOW : Hid ((w1.alloc (.cells (mgV ((s.last : Int) + 1, f, t, bd)).toArray 34)).drew.ownsRow 0 34 4 (.slice av s.l.length cv) s.l.length (mgF s.l)) := hR1.alloc _
  have HNC : Hid (∀ (j : Nat) (u : Value), (mgV ((s.last : Int) + 1, f, t, bd))[j]? = some u → (w1.alloc (.cells (mgV ((s.last : Int) + 1, f, t, bd)).toArray 34)).drew.cell? (Addr.add ⟨w1.heap.size, 0, none⟩ j) = some u) := fun j u hu => World.news_of_block (heap_alloc_new w1 _) j u hu
  have b0 := hH1.alloc (.cells #[.int .i64 ((s.last : Int) + 1), .int .i64 f, .int .i64 t, .string bd] 34)
  have d0 := b0.at 0 _ rfl
  have d1 := b0.at 1 _ rfl
  have hM : Hid (∀ g cap w4, w4.ownsRow 0 34 4 (.slice (some ⟨g, 0, none⟩) (s.l.length + 1) cap) (s.l.length + 1) (mgF s.l ++ mgV ((s.last : Int) + 1, f, t, bd)) → (w1.alloc (.cells (mgV ((s.last : Int) + 1, f, t, bd)).toArray 34)).drew.grownBy w4 (Value.slice av s.l.length cv).ownBlock → ((Value.slice av s.l.length cv).ownBlock = some g ∨ g = w1.heap.size + 1) → _) := fun g cap w4 q1 q2 q3 => add_mem (f := f) (t := t) (bd := bd) hN.out hroom HW1.out HV.out HMV.out q1 q2 q3
  clear hH1 hR1 b0
  generalize hn : s.l.length = n at *
  have hn2 : n < 4096 := hroom
  go_region_law ((refine step_append_lies _ rfl _ _ 26 rfl 0 34 i0 z34 4 40 und26 HI0.out hz0 hsz0 hby0 rfl (by decide) (.slice av n cv) n (mgF s.l) rfl HOW.out ⟨w1.heap.size, 0, none⟩ 1 1 (mgV ((s.last : Int) + 1, f, t, bd)) rfl rfl HNC.out (mgV_one _) (by decide) (by unfold maxLen; omega) (by omega) (Nat.zero_le _) (w1.heap.size + 1) (by simp) ?_; intro g4 cap4 w4 own4 grow4 loc4 lt4; obtain ⟨x0, x1, x2⟩ := hM.out g4 cap4 w4 own4 grow4 loc4; clear own4 grow4 loc4 lt4))
  all_goals exact bodyPost_end (results_none (by kernel_rfl) _ _ _) rfl ⟨rfl, x2⟩
end Go.Proofs.Ytmdoamkockoipaa
