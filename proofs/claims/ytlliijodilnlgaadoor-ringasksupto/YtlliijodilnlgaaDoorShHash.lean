/- What package sha's advance and put do to a hash: for whatever hash and byte; nothing else that was there is turned. -/
import Derived.Test.YtlliijodilnlgaaDoorShMix
namespace Go.Proofs.YtlliijodilnlgaaDoor
open Go.RowKit
attribute [local go_sem ↓] Go.wp_at_zero Go.wp_at_succ

theorem rule63 (dst : Option Tmp) (x : Operand) (t : TypeId) (pos : String) (af : Array Edge) (gd : Option (Nat × Bool)) (a : Act) (w : World) (K : Act → World → Prop) (Q : Exit → Act → World → Prop) (h : (rowOf w (a.eval x) 8).isSome = true) :
    Oper.wp Tryd.prog { dst := dst, op := .load 63 x, type := t, pos := pos, after := af, guard := gd } a w K Q = K (a.put dst (.agg ((rowOf w (a.eval x) 8).getD []).toArray)) w :=
  wp_load_rule und63 (zero_of_info info63).2 dst x t pos af gd a w K Q h
theorem rule76 (dst : Option Tmp) (x : Operand) (t : TypeId) (pos : String) (af : Array Edge) (gd : Option (Nat × Bool)) (a : Act) (w : World) (K : Act → World → Prop) (Q : Exit → Act → World → Prop) (h : (rowOf w (a.eval x) 64).isSome = true) :
    Oper.wp Tryd.prog { dst := dst, op := .load 76 x, type := t, pos := pos, after := af, guard := gd } a w K Q = K (a.put dst (.agg ((rowOf w (a.eval x) 64).getD []).toArray)) w :=
  wp_load_rule und76 (zero_of_info info76).2 dst x t pos af gd a w K Q h
attribute [local go_sem ↓] rule63 rule76

/-- A hash's cells. -/
def hashV (h : H) : List Value := .int .u64 (h.len : Int) :: (h.st.map wordV ++ h.blk.map byteV)

theorem Upd.ofTurned {b : Nat} {x y : World} {cs : List Value} {t : TypeId} (h : Turned b x y cs t) : Upd b x y := ⟨h.os, h.tape, h.output, Nat.le_of_eq h.size.symm, fun k _ hk => h.others k hk⟩
theorem Laid.upd {w w' : World} {b : Nat} (h : Laid w) (hu : Upd b w w') (hb : 2 ≤ b) : Laid w' := by
  have := h.two
  exact h.below (hu.below hb (by omega)) (Nat.le_refl _)

set_option maxHeartbeats 400000 in
set_option maxRecDepth 100000 in
theorem advance_part (h : H) (hok : h.Ok) (n : Nat) (hn : n ≤ 64) (hlen : h.len + n < 1152921504606846976) (b : Nat) (w : World) (hh : Holds w b (hashV h) 78) (hm : ¬ (h.len + n) % 64 = 0) :
    Calls Tryd.prog 54 #[.pointer (some ⟨b, 0, none⟩), .int .i64 (n : Int)] w fun e w' => e = .returned (.tuple #[]) ∧ Holds w' b (hashV (advL h n)) 78 ∧ Upd b w w' := by
  obtain ⟨len, st, blk⟩ := h
  dsimp only at *
  have c0 : w.cell? ⟨b, 0, none⟩ = some (.int .u64 (len : Int)) := hh.at 0 _ rfl
  have f0 : w.frozen? ⟨b, 0, none⟩ = false := hh.frozen _
  go_enter Tryd.func54, Tryd.ntmps54
  go_wp2
  refine bodyPost_ret (results_none (by kernel_rfl) _ _ _) rfl ⟨rfl, ?_, (Upd.refl b w).setCell 0 _⟩
  have := hh.set 0 (.int .u64 ((len + n : Nat) : Int))
  rw [advL, if_neg hm]
  exact this

theorem hashV_len (h : H) (k : h.Ok) : (hashV h).length = 73 := by simp [hashV, k.st, k.blk]
theorem hash_blk {w : World} {b : Nat} {h : H} {t : TypeId} (hh : Holds w b (hashV h) t) (k : h.Ok) : w.rangeAt b 9 (h.blk.map byteV) := by
  refine hh.range 9 _ (fun j v hv => ?_)
  rw [hashV, show 9 + j = (8 + j) + 1 by omega, List.getElem?_cons_succ, List.getElem?_append_right (by simp [k.st])]
  simpa [k.st] using hv
theorem hash_st {w : World} {b : Nat} {h : H} {t : TypeId} (hh : Holds w b (hashV h) t) : w.rangeAt b 1 (h.st.map wordV) := by
  refine hh.range 1 _ (fun j v hv => ?_)
  have hj := (List.getElem?_eq_some_iff.1 hv).1
  rw [hashV, show 1 + j = j + 1 by omega, List.getElem?_cons_succ, List.getElem?_append_left hj]
  exact hv
theorem hash_over_st (len : Nat) (st st' : List (BitVec 32)) (blk : List UInt8) (h : st.length = 8) (h' : st'.length = 8) : overV (hashV ⟨len, st, blk⟩) 1 (st'.map wordV) = hashV ⟨len, st', blk⟩ := by
  simp [overV, hashV, h, h']

theorem run_store_there {P : Program} (w : World) (b o : Nat) (cs : List Value) (ht : w.there b o cs.length) (h1 : ∀ v ∈ cs, v.oneCell' = true) :
    (storeCells ⟨b, o, none⟩ cs).run P w = .ok () (w.setCells b o cs) := by
  have := run_storeCells_cells (P := P) b o cs 0 w (fun j hj => by simpa using (ht j hj).1) (fun j hj => by simpa using (ht j hj).2) h1
  simpa using this
theorem eight_of (st : List (BitVec 32)) (h : st.length = 8) : ∃ s0 s1 s2 s3 s4 s5 s6 s7, st = [s0, s1, s2, s3, s4, s5, s6, s7] :=
  match st, h with
  | [s0, s1, s2, s3, s4, s5, s6, s7], _ => ⟨s0, s1, s2, s3, s4, s5, s6, s7, rfl⟩
theorem there_below {w w' : World} {B b o n : Nat} (h : w.there b o n) (hb : Below B w w') (hB : b < B) : w'.there b o n := fun j hj => by
  rw [hb.cell (p := ⟨b, o + j, none⟩) hB, hb.frozen (p := ⟨b, o + j, none⟩) hB]; exact h j hj

set_option maxHeartbeats 400000 in
set_option maxRecDepth 100000 in
theorem advance_mix (h : H) (hok : h.Ok) (n : Nat) (hn : n ≤ 64) (hlen : h.len + n < 1152921504606846976) (b : Nat) (hb2 : 2 ≤ b) (w : World) (hL : Laid w) (hh : Holds w b (hashV h) 78) (hm : (h.len + n) % 64 = 0) (h64 : ¬ h.len + n = 64) :
    Calls Tryd.prog 54 #[.pointer (some ⟨b, 0, none⟩), .int .i64 (n : Int)] w fun e w' => e = .returned (.tuple #[]) ∧ Holds w' b (hashV (advL h n)) 78 ∧ Upd b w w' := by
  obtain ⟨len, st, blk⟩ := h
  have hst := hok.st
  have hbl := hok.blk
  have hok' : Hid (∀ n, (H.mk n st blk).Ok) := fun _ => ⟨hst, hbl⟩
  clear hok
  dsimp only at *
  obtain ⟨ys, Y⟩ : ∃ ys, Hid (mixL st blk = ys) := ⟨_, rfl⟩
  have hys : ys.length = 8 := by rw [← Y.out]; exact mixL_length _ _ hst
  have hmix : Hid (∀ W, Laid W → Calls Tryd.prog 69 #[.agg (st.map wordV).toArray, .agg (blk.map byteV).toArray] W fun e w' => e = .returned (.agg (ys.map wordV).toArray) ∧ Below W.heap.size W w') := fun W hW => by
    have := mix_any st hst blk hbl W hW
    rw [Y.out] at this
    exact this
  have hend : advL ⟨len, st, blk⟩ n = ⟨len + n, ys, blk⟩ := by rw [advL, if_pos hm, if_neg h64, Y.out]
  rw [hend]
  clear Y hend
  obtain ⟨s0, s1, s2, s3, s4, s5, s6, s7, rfl⟩ := eight_of st hst
  have c0 : w.cell? ⟨b, 0, none⟩ = some (.int .u64 (len : Int)) := hh.at 0 _ rfl
  have f0 : w.frozen? ⟨b, 0, none⟩ = false := hh.frozen _
  go_enter Tryd.func54, Tryd.ntmps54
  go_wp2_with fail
  have hh1_1 := hh.set 0 (.int .u64 ((len + n : Nat) : Int))
  have hu1 := (Upd.refl b w).setCell 0 (.int .u64 ((len : Int) + (n : Int)))
  have hL1 := hL.upd hu1 hb2
  have hh1 : Holds (w.setCell ⟨b, 0, none⟩ (.int .u64 ((len : Int) + (n : Int)))) b (hashV ⟨len + n, [s0, s1, s2, s3, s4, s5, s6, s7], blk⟩) 78 := hh1_1
  clear hh1_1
  generalize w.setCell ⟨b, 0, none⟩ (.int .u64 ((len : Int) + (n : Int))) = w1 at *
  have r9 := hash_blk hh1 (hok'.out _)
  have z1 : b < w1.heap.size := hh1.lt
  have t1 : w1.there b 1 8 := hh1.there 1 8 (by rw [hashV_len _ (hok'.out _)]; omega)
  dsimp only at r9
  clear hh c0 f0
  have hl40 : (ys.map wordV).length = 8 := by simp [hys]
  have ho40 := wordV_one ys
  have r1 := hash_st hh1
  dsimp only at r1
  have l9 : rowOf w1.drew (.pointer (some ⟨b, 9, none⟩)) 64 = some (blk.map byteV) := by have := rowOf_range (w := w1.drew) r9; rwa [show (blk.map byteV).length = 64 by simp [hbl]] at this
  have l1 : rowOf w1.drew (.pointer (some ⟨b, 1, none⟩)) 8 = some [wordV s0, wordV s1, wordV s2, wordV s3, wordV s4, wordV s5, wordV s6, wordV s7] := rowOf_range (w := w1.drew) r1
  go_region_with (first
      | (go_at_call 69; refine (hmix.out w1.drew (hL1.below ((Still.drewN w1 1).below 2) (by omega))).mono ?_; rintro e w2 ⟨rfl, h2⟩; have hrun : (storeCells ⟨b, 1, none⟩ (ys.map wordV)).run Tryd.prog w2 = .ok () (w2.setCells b 1 (ys.map wordV)) := run_store_there w2 b 1 _ (hl40 ▸ there_below (w := w1.drew) t1 h2 z1) ho40))
  all_goals
    have hT := turned_setCells (t := 78) b (ys.map wordV) 1 w2 _ ((hh1.drew).below h2 z1) (by rw [hl40, hashV_len _ (hok'.out _)]; omega)
    rw [hash_over_st _ _ ys blk hst hys] at hT
    exact bodyPost_end (results_none (by kernel_rfl) _ _ _) rfl ⟨rfl, hT.holds, (hu1.drew.trans (Upd.ofBelow h2)).trans (Upd.ofTurned hT)⟩

set_option maxHeartbeats 400000 in
set_option maxRecDepth 100000 in
theorem advance_first (h : H) (hok : h.Ok) (n : Nat) (hn : n ≤ 64) (b : Nat) (hb2 : 2 ≤ b) (w : World) (hL : Laid w) (hh : Holds w b (hashV h) 78) (h64 : h.len + n = 64) :
    Calls Tryd.prog 54 #[.pointer (some ⟨b, 0, none⟩), .int .i64 (n : Int)] w fun e w' => e = .returned (.tuple #[]) ∧ Holds w' b (hashV (advL h n)) 78 ∧ Upd b w w' := by
  obtain ⟨len, st, blk⟩ := h
  have hst := hok.st
  have hbl := hok.blk
  clear hok
  dsimp only at *
  obtain ⟨ys, Y⟩ : ∃ ys, Hid (mixL Hs blk = ys) := ⟨_, rfl⟩
  have hys : ys.length = 8 := by rw [← Y.out]; exact mixL_length _ _ rfl
  have hmix : Hid (∀ W, Laid W → Calls Tryd.prog 69 #[.agg (Hs.map wordV).toArray, .agg (blk.map byteV).toArray] W fun e w' => e = .returned (.agg (ys.map wordV).toArray) ∧ Below W.heap.size W w') := fun W hW => by
    have := mix_any Hs rfl blk hbl W hW
    rw [Y.out] at this
    exact this
  have hend : advL ⟨len, st, blk⟩ n = ⟨len + n, ys, blk⟩ := by rw [advL, if_pos (by dsimp only; omega), if_pos h64, Y.out]
  rw [hend]
  clear Y hend
  have c0 : w.cell? ⟨b, 0, none⟩ = some (.int .u64 (len : Int)) := hh.at 0 _ rfl
  have f0 : w.frozen? ⟨b, 0, none⟩ = false := hh.frozen _
  have hu1 := (Upd.refl b w).setCell 0 (.int .u64 64)
  have hL1 := hL.upd hu1 hb2
  have hh1 : Holds (w.setCell ⟨b, 0, none⟩ (.int .u64 64)) b (hashV ⟨64, st, blk⟩) 78 := hh.set 0 (.int .u64 64)
  have l0 : rowOf (w.setCell ⟨b, 0, none⟩ (.int .u64 64)) (.pointer (some ⟨0, 0, none⟩)) 8 = some (Hs.map wordV) := rowOf_range hL1.start
  have g1 : ((len : Int) + (n : Int)) = 64 := by omega
  rw [h64]
  have ok1 : Hid (H.Ok ⟨64, st, blk⟩) := ⟨hst, hbl⟩
  have ok2 : Hid (H.Ok ⟨64, Hs, blk⟩) := ⟨rfl, hbl⟩
  clear hh h64
  go_enter Tryd.func54, Tryd.ntmps54
  go_wp2_with (refine wpList_store_part rfl 63 _ _ rfl b 1 rfl (Hs.map wordV) rfl 78 _ hh1 (by rw [(zero_of_info info63).2]; rfl) (by rw [hashV_len _ ok1.out]; decide) (wordV_one _) ?_; intro w1 hT1)
  rw [hash_over_st 64 st Hs blk hst rfl] at hT1
  have hu2 := hu1.trans (Upd.ofTurned hT1)
  have hL2 := hL.upd hu2 hb2
  have hh2 := hT1.holds
  clear l0 hh1 hT1 hu1 hL1 c0 f0
  simp only [Act.put]
  have hl40 : (ys.map wordV).length = 8 := by simp [hys]
  have ho40 := wordV_one ys
  have r1 := hash_st hh2
  have r9 := hash_blk hh2 ok2.out
  have z1 : b < w1.heap.size := hh2.lt
  have t1 : w1.there b 1 8 := hh2.there 1 8 (by rw [hashV_len _ ok2.out]; omega)
  dsimp only at r1 r9
  have l9 : rowOf w1.drew (.pointer (some ⟨b, 9, none⟩)) 64 = some (blk.map byteV) := by have := rowOf_range (w := w1.drew) r9; rwa [show (blk.map byteV).length = 64 by simp [hbl]] at this
  have l1 : rowOf w1.drew (.pointer (some ⟨b, 1, none⟩)) 8 = some (Hs.map wordV) := rowOf_range (w := w1.drew) r1
  go_region_with (first
      | (go_at_call 69; refine (hmix.out w1.drew (hL2.below ((Still.drewN w1 1).below 2) (by omega))).mono ?_; rintro e w2 ⟨rfl, h2⟩; have hrun : (storeCells ⟨b, 1, none⟩ (ys.map wordV)).run Tryd.prog w2 = .ok () (w2.setCells b 1 (ys.map wordV)) := run_store_there w2 b 1 _ (hl40 ▸ there_below (w := w1.drew) t1 h2 z1) ho40))
  all_goals
    have hT := turned_setCells (t := 78) b (ys.map wordV) 1 w2 _ ((hh2.drew).below h2 z1) (by rw [hl40, hashV_len _ ok2.out]; omega)
    rw [hash_over_st _ _ ys blk rfl hys] at hT
    exact bodyPost_end (results_none (by kernel_rfl) _ _ _) rfl ⟨rfl, hT.holds, (hu2.drew.trans (Upd.ofBelow h2)).trans (Upd.ofTurned hT)⟩

theorem advance_any (h : H) (hok : h.Ok) (n : Nat) (hn : n ≤ 64) (hlen : h.len + n < 1152921504606846976) (b : Nat) (hb2 : 2 ≤ b) (w : World) (hL : Laid w) (hh : Holds w b (hashV h) 78) :
    Calls Tryd.prog 54 #[.pointer (some ⟨b, 0, none⟩), .int .i64 (n : Int)] w fun e w' => e = .returned (.tuple #[]) ∧ Holds w' b (hashV (advL h n)) 78 ∧ Upd b w w' := by
  by_cases hm : (h.len + n) % 64 = 0
  · by_cases h64 : h.len + n = 64
    · exact advance_first h hok n hn b hb2 w hL hh h64
    · exact advance_mix h hok n hn hlen b hb2 w hL hh hm h64
  · exact advance_part h hok n hn hlen b w hh hm
end Go.Proofs.YtlliijodilnlgaaDoor
