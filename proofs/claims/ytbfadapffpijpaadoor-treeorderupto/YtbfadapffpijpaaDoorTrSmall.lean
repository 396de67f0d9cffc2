/- What package tree's New, Leaf, soil and below answer. -/
import Derived.Test.YtbfadapffpijpaaDoorTrAt
namespace Go.Proofs.YtbfadapffpijpaaDoor
open Go.RowKit Go.Maps Go.WideMaps

def noMaps : List Value := List.replicate 256 (.map none)
set_option maxRecDepth 1000000 in
theorem built32 : Tryd.prog.built 32 [] = some (treeV noMaps newT).toArray := by kernel_rfl
theorem Anew.tupd {L : Nat → Prop} {N : Nat} {w w' : World} {cs : List Value} {t : TypeId} (h : Anew N w w' cs t) : TUpd L w w' := .ofBelow (h.old ▸ h.below)
theorem tree_new {w w' : World} {n : Nat} (h : Anew n w w' (treeV noMaps newT) 32) (N : Nat) (hN : N ≤ n) : TreeAt w' N n noMaps newT := by
  refine ⟨h.holds, List.length_replicate .., newT_ok, fun i hi => ?_, fun i j m hi _ => ?_, fun i hi => ?_⟩
  · have e1 : noMaps.getD i (.map none) = .map none := getD_rep _ _ _ _ hi
    have e2 : leafAt newT i = [] := getD_rep _ _ _ _ hi
    rw [e1, e2]; exact .inl ⟨rfl, rfl⟩
  · have := List.eq_of_mem_replicate (List.mem_of_getElem? hi); cases this
  · rcases hi with rfl | hi
    · exact hN
    · have := List.eq_of_mem_replicate hi; cases this
set_option maxHeartbeats 400000 in
set_option maxRecDepth 100000 in
theorem tnew_any (w : World) : Calls Tryd.prog 6 #[] w fun e w' => e = .returned (.pointer (some ⟨w.heap.size, 0, none⟩)) ∧ Anew w.heap.size w w' (treeV noMaps newT) 32 := by
  obtain ⟨n, hn⟩ : ∃ n, w.heap.size = n := ⟨_, rfl⟩
  rw [hn]
  go_enter Tryd.func6, Tryd.ntmps6
  go_wp2_with (first
    | (refine wpList_build_none rfl 32 rfl (treeV noMaps newT).toArray built32 ?_)
    | (refine wpList_box_new 2 rfl rfl 32 _ rfl n hn (treeV noMaps newT) rfl ?_; intro w1 h1))
  go_ret
  exact ⟨rfl, h1⟩

theorem parts_one (w : World) (s : ByteArray) (cap : Nat) : Parts (w.alloc (.cells #[.string s] 9)) (.slice (some ⟨w.heap.size, 0, none⟩) 1 cap) [s] := by
  refine .inr ⟨w.heap.size, 0, cap, rfl, by simp, fun i p hi => ?_⟩
  rw [Nat.zero_add, cell_of_row _ _ i _ 9 (0, 0) (heap_alloc_new w _)]
  cases i with
  | zero => simp at hi; subst hi; rfl
  | succ i => simp at hi
/-- Sum of one text. -/
theorem sum_one (s : ByteArray) (hs : s.size ≤ 140737488355328) (cap : Nat) (w : World) (hL : Laid w) :
    Calls Tryd.prog 34 #[.slice (some ⟨w.heap.size, 0, none⟩) 1 cap] (w.alloc (.cells #[.string s] 9)) fun e w' => e = .returned (.agg ((shaL s.data.toList).map byteV).toArray) ∧ Below w.heap.size w w' := by
  have hb : bytes [s] = s.data.toList := by simp [bytes]
  have hz : s.data.toList.length = s.size := Array.length_toList
  have hB : Below w.heap.size w (w.alloc (.cells #[.string s] 9)) := (Below.refl _ _).alloc (Nat.le_refl _) _
  have := sum_any [s] (by rw [hb, hz]; omega) (by simp) _ _ (parts_one w s cap) (hL.below hB hL.two)
  rw [hb] at this
  refine this.mono fun e w' ⟨h1, h2⟩ => ⟨h1, hB.trans (h2.mono (by simp))⟩
theorem und26' : Tryd.prog.underlying 26 = some (.array 32 5) := by kernel_rfl
set_option maxHeartbeats 400000 in
set_option maxRecDepth 100000 in
theorem tleaf_any (s : ByteArray) (hs : s.size ≤ 140737488355328) (w : World) (hL : Laid w) :
    Calls Tryd.prog 25 #[.string s] w fun e w' => e = .returned (.int .i64 (leafOf s.data.toList : Int)) ∧ Below w.heap.size w w' := by
  have hc := fun cap => (sum_one s hs cap w hL)
  have hl := shaL_len s.data.toList
  have hv : leafOf s.data.toList = ((shaL s.data.toList).getD 0 0).toNat := rfl
  rw [hv]
  have hv1 : ((shaL s.data.toList).map byteV)[0]? = some (.int .u8 (((shaL s.data.toList).getD 0 0).toNat : Int)) := by
    rw [List.getElem?_map, List.getD_eq_getElem?_getD, List.getElem?_eq_getElem (by omega)]; rfl
  have h256 : ((shaL s.data.toList).getD 0 0).toNat < 256 := UInt8.toNat_lt _
  generalize shaL s.data.toList = q at *
  generalize ((q.getD 0 0).toNat) = x at *
  have hix : ∀ W, (Instr.index 26 (.agg (q.map byteV).toArray) (.int .i64 0)).run Tryd.prog W = .ok (.int .u8 (x : Int)) W := fun W => by
    have := run_index_array (P := Tryd.prog) W 26 5 32 .u8 und26' und5 siz5 (q.map byteV) 0 (by decide) _ hv1
    rw [show ((0 : Nat) : Int) = 0 from rfl] at this
    exact this
  have HC : Hid _ := hc
  have HX : Hid _ := hix
  clear hc hix hL
  have hw : IntKind.i64.wrap (x : Int) = x := by simp [IntKind.wrap, IntKind.bits, IntKind.signed]; omega
  go_enter Tryd.func25, Tryd.ntmps25
  go_wp2_with (go_at_call 34; refine (HC.out _).mono ?_; rintro e w1 ⟨rfl, h1⟩; have hix1 := HX.out w1)
  go_ret
  exact ⟨rfl, h1⟩

theorem Holds.dirtyAt {w : World} {b : Nat} {mv : List Value} {T : Tr} (hm : mv.length = 256) (hz : T.Sz) (h : Holds w b (treeV mv T) 32) {i m : Nat} (e : m = 8448 + i) (hi : i < 256) : w.cell? ⟨b, m, none⟩ = some (.bool (T.dirty.getD i false)) := by
  subst e
  exact h.at _ _ (at_dirty hm hz hi)
theorem Holds.jnAt {w : World} {b : Nat} {mv : List Value} {T : Tr} (hm : mv.length = 256) (hz : T.Sz) (h : Holds w b (treeV mv T) 32) {i m : Nat} (e : m = 9216 + i) (hi : i < 16) : w.cell? ⟨b, m, none⟩ = some (.bool (T.jn.getD i false)) := by
  subst e
  exact h.at _ _ (at_jn hm hz hi)
theorem Holds.mapAt {w : World} {b : Nat} {mv : List Value} {T : Tr} (hm : mv.length = 256) (h : Holds w b (treeV mv T) 32) {i m : Nat} (e : m = i) (hi : i < 256) : w.cell? ⟨b, m, none⟩ = some (mv.getD i (.map none)) := by
  subst e
  exact h.at _ _ ((at_map hm hi).trans (by rw [List.getD_eq_getElem?_getD, List.getElem?_eq_getElem (by omega)]; rfl))
set_option maxHeartbeats 400000 in
set_option maxRecDepth 100000 in
theorem soil_any (b i : Nat) (mv : List Value) (T : Tr) (hi : i < 256) (hm : mv.length = 256) (hz : T.Sz) (w : World) (h : Holds w b (treeV mv T) 32) :
    Calls Tryd.prog 26 #[.pointer (some ⟨b, 0, none⟩), .int .i64 (i : Int)] w fun e w' => e = .returned (.tuple #[]) ∧ Holds w' b (treeV mv (soilT T i)) 32 ∧ TUpd (Is b) w w' := by
  have c1 := h.dirtyAt hm hz (i := i) rfl hi
  have f1 := h.frozen (8448 + i)
  have h1 := h.set (8448 + i) (.bool true)
  rw [set_dirty hm hz hi] at h1
  have hz1 : ({ T with dirty := T.dirty.set i true } : Tr).Sz := ⟨hz.sums, hz.s32, by simpa using hz.dirty, hz.br, hz.b32, hz.jn⟩
  have hq : i / 16 < 16 := by omega
  have c2 := h1.jnAt hm hz1 (i := i / 16) rfl hq
  have f2 := h1.frozen (9216 + i / 16)
  have h2 := h1.set (9216 + i / 16) (.bool false)
  rw [set_jn hm hz1 hq] at h2
  have u2 : TUpd (Is b) w ((w.setCell ⟨b, 8448 + i, none⟩ (.bool true)).setCell ⟨b, 9216 + i / 16, none⟩ (.bool false)) := ((TUpd.refl (Is b) w).set b _ _ rfl).set b _ _ rfl
  have H2 : Hid (Holds ((w.setCell ⟨b, 8448 + i, none⟩ (.bool true)).setCell ⟨b, 9216 + i / 16, none⟩ (.bool false)) b (treeV mv (soilT T i)) 32) := h2
  have U2 : Hid (TUpd (Is b) w ((w.setCell ⟨b, 8448 + i, none⟩ (.bool true)).setCell ⟨b, 9216 + i / 16, none⟩ (.bool false))) := u2
  clear h2 u2 h1 h
  have i0 : (0 : Int) ≤ (i : Int) := by omega
  have i1 : (i : Int) < 256 := by omega
  have j0 : (0 : Int) ≤ ((i / 16 : Nat) : Int) := by omega
  have j1 : ((i / 16 : Nat) : Int) < 16 := by omega
  have j2 : Int.tdiv (i : Int) 16 = ((i / 16 : Nat) : Int) := by rw [Int.tdiv_eq_ediv_of_nonneg (by omega)]; omega
  go_enter Tryd.func26, Tryd.ntmps26
  go_wp2
  exact bodyPost_end (results_none (by kernel_rfl) _ _ _) rfl ⟨rfl, H2.out, U2.out⟩
end Go.Proofs.YtbfadapffpijpaaDoor
