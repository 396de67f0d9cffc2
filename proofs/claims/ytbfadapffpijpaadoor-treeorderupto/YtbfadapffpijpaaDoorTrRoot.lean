/- What package tree's Root and Level answer. -/
import Derived.Test.YtbfadapffpijpaaDoorTrReck
namespace Go.Proofs.YtbfadapffpijpaaDoor
open Go.RowKit Go.Maps Go.WideMaps

theorem TUpd.turnedNew {L : Nat → Prop} {x y z : World} {g : Nat} {cs : List Value} {t : TypeId} (h : TUpd L x y) (k : Turned g y z cs t) (hg : x.heap.size ≤ g) : TUpd L x z :=
  ⟨k.os.trans h.os, k.tape.trans h.tape, k.output.trans h.output, Nat.le_trans h.size (Nat.le_of_eq k.size.symm), fun i hi hl => (k.others i (by omega)).trans (h.block i hi hl)⟩
theorem TUpd.belowAt {L : Nat → Prop} {x y z : World} {B : Nat} (h : TUpd L x y) (k : Below B y z) (hB : x.heap.size ≤ B) : TUpd L x z :=
  ⟨k.os.trans h.os, k.tape.trans h.tape, k.output.trans h.output, Nat.le_trans h.size k.size, fun i hi hl => (k.block i (by omega)).trans (h.block i hi hl)⟩
theorem lies_br {w : World} {b : Nat} {mv : List Value} {T : Tr} (hm : mv.length = 256) (hz : T.Sz) (h : Holds w b (treeV mv T) 32) : Lies w b 8704 T.br := by
  intro i l hl u v hv
  have h32 : l.length = 32 := hz.b32 l (List.mem_of_getElem? hl)
  have hu : u < 32 := by have := (List.getElem?_eq_some_iff.1 hv).1; rw [List.length_map, h32] at this; exact this
  have := h.at (8704 + 32 * i + u) v ((at_br hm hz hl hu).trans hv)
  rw [show 8704 + i * 32 + u = 8704 + 32 * i + u by omega]
  exact this
theorem run_slice29 (w : World) (b : Nat) : (Instr.sliceAt 29 (.pointer (some ⟨b, 8704, none⟩)) none none none).run Tryd.prog w = .ok (.slice (some ⟨b, 8704, none⟩) 16 16) w := by
  simp [Instr.sliceAt, Sem.run_bind, run_underlying und29, Instr.sureAddr, Instr.sliceBounds, run_sizeOf siz26, Addr.add]
theorem root_nil (w : World) : Calls Tryd.prog 10 #[.pointer none] w fun e w' => e = .returned (.agg (zero32.map byteV).toArray) ∧ Below w.heap.size w w' := by
  obtain ⟨n, hn⟩ : ∃ n, w.heap.size = n := ⟨_, rfl⟩
  rw [hn]
  go_enter Tryd.func10, Tryd.ntmps10
  go_wp2_with (first
    | (refine wpList_alloc_new 2 rfl rfl 26 rfl n hn _ (zero_of_info info26).1 ?_; intro w1 h1)
    | (refine wpList_build_none rfl 26 rfl (zero32.map byteV).toArray built26 ?_)
    | (refine wpList_store_all rfl 26 (.tmp 2) (.tmp 5) rfl n rfl (zero32.map byteV) rfl 26 _ h1.holds (by rw [(zero_of_info info26).2]; rfl) (by rfl) (byteV_one _) ?_; intro w2 h2))
  exact bodyPost_ret (results_cell_row (p := 2) (by kernel_rfl) _ w2 n 26 (zero32.map byteV).toArray (0, 0) _ rfl h2.holds und26 rfl (by rw [(zero_of_info info26).2]; rfl)) rfl ⟨rfl, h1.below.trans (h2.below (Nat.le_refl _))⟩
set_option maxHeartbeats 1000000 in
set_option maxRecDepth 100000 in
theorem root_some (N b : Nat) (mv : List Value) (T : Tr) (hf : Fit T 536870912) (w : World) (hb2 : 2 ≤ b) (hL : Laid w) (h : TreeAt w N b mv T) :
    Calls Tryd.prog 10 #[.pointer (some ⟨b, 0, none⟩)] w fun e w' => e = .returned (.agg ((rootH T).map byteV).toArray) ∧ TreeAt w' N b mv (reckT T) ∧ TUpd (Is b) w w' := by
  have hlen := h.len
  have hsz := (reckT_ok h.ok).sz
  obtain ⟨n, hn⟩ : ∃ n, w.heap.size = n := ⟨_, rfl⟩
  have hbn : b < n := hn ▸ h.holds.lt
  have hR : Hid (∀ W, Below w.heap.size w W → Calls Tryd.prog 27 #[.pointer (some ⟨b, 0, none⟩)] W fun e w' => e = .returned (.tuple #[]) ∧ TreeAt w' N b mv (reckT T) ∧ TUpd (Is b) W w') := fun W hW => reckon_some N b mv T hf W hb2 (hL.below hW hL.two) (h.ofBelow hW)
  have hJ : Hid (∀ W, TUpd (Is b) w W → TreeAt W N b mv (reckT T) → Calls Tryd.prog 28 #[.slice (some ⟨b, 8704, none⟩) 16 16] W fun e w' => e = .returned (.agg ((rootH T).map byteV).toArray) ∧ Below W.heap.size W w') := fun W hu hA => by
    have hl := lies_br hlen hsz hA.holds
    have e16 : (reckT T).br.length = 16 := allB_len T
    have := join_some _ (allB_32 T) (by rw [allB_len]; omega) b 8704 16 W hA.holds.lt hl (hL.tupd hu (fun i (e : i = b) => e ▸ hb2))
    rw [show (allB T).length = 16 from allB_len T] at this
    exact this
  have hs := run_slice29
  have hq : (rootH T).length = 32 := shaL_len _
  generalize rootH T = q at *
  rw [hn] at hR
  clear h hf hL
  go_enter Tryd.func10, Tryd.ntmps10
  go_wp2_with (first
    | (refine wpList_alloc_new 2 rfl rfl 26 rfl n hn _ (zero_of_info info26).1 ?_; intro w1 h1)
    | (go_at_call 27; refine (hR.out w1 h1.below).mono ?_; rintro e w2 ⟨rfl, hA2, u2⟩; have U2 : TUpd (Is b) w w2 := (TUpd.ofBelow (hn ▸ h1.below)).trans u2; have hR2 := h1.holds.tupd u2 (show ¬ n = b by omega))
    | (go_at_call 28; refine (hJ.out w2 U2 hA2).mono ?_; rintro e w3 ⟨rfl, b3⟩; have hR3 := hR2.below b3 hR2.lt)
    | (refine wpList_store_all rfl 26 (.tmp 2) (.tmp 12) rfl n rfl (q.map byteV) rfl 26 _ hR3 (by rw [(zero_of_info info26).2, List.length_map, hq]) (by rw [List.length_map, List.length_map, hq]; rfl) (byteV_one _) ?_; intro w4 h4))
  have A3 := hA2.ofBelow b3
  refine bodyPost_ret (results_cell_row (p := 2) (by kernel_rfl) _ w4 n 26 (q.map byteV).toArray (0, 0) _ rfl h4.holds und26 rfl (by rw [(zero_of_info info26).2, List.size_toArray, List.length_map, hq])) rfl ⟨rfl, ?_, (U2.trans (TUpd.ofBelow b3)).turnedNew h4 (by omega)⟩
  have hn3 : ∀ i, Own b mv i → i ≠ n := fun i hi e => by
    have := hA2.low i hi
    subst e
    rcases hi with hi | hi
    · omega
    · obtain ⟨j, _, hj⟩ := map_mem hi
      obtain ⟨es, c, hb⟩ := (A3.keys hj).isMap
      have := hR3
      unfold Holds at this
      rw [this] at hb; cases hb
  exact A3.tupd (L := Is n) ((TUpd.refl _ _).turned h4 rfl) hn3
end Go.Proofs.YtbfadapffpijpaaDoor
