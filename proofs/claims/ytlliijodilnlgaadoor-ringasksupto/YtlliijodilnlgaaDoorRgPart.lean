/- A key's partition, as the program and as the document reckon it. -/
import Derived.Test.YtlliijodilnlgaaDoorShSum
import Derived.Test.YtlliijodilnlgaaDoorShRefD
import Derived.Test.YtlliijodilnlgaaDoorRgRefD
namespace Go.Proofs.YtlliijodilnlgaaDoor
open Go.RowKit

def shaL (l : List UInt8) : List UInt8 := sumL (putN newL l)
theorem shaL_len (l : List UInt8) : (shaL l).length = 32 := sumL_length _ (putN_ok _ _ newL_ok)
theorem sha_ref (l : List UInt8) : refSum l = shaL l := (sum_ref l).symm
def partL (l : List UInt8) : Nat := ((shaL l).getD 1 0).toNat % 8
theorem parts_one (w : World) (s : ByteArray) (cap : Nat) : Parts (w.alloc (.cells #[.string s] 9)) (.slice (some ⟨w.heap.size, 0, none⟩) 1 cap) [s] := by
  refine .inr ⟨w.heap.size, 0, cap, rfl, by simp, fun i p hi => ?_⟩
  rw [Nat.zero_add, cell_of_row _ _ i _ 9 (0, 0) (heap_alloc_new w _)]
  cases i with
  | zero => simp at hi; subst hi; rfl
  | succ i => simp at hi
/-- Sum of one text. -/
theorem sum_one (s : ByteArray) (hs : s.size ≤ 140737488355328) (cap : Nat) (w : World) (hL : Laid w) :
    Calls Tryd.prog 24 #[.slice (some ⟨w.heap.size, 0, none⟩) 1 cap] (w.alloc (.cells #[.string s] 9)) fun e w' => e = .returned (.agg ((shaL s.data.toList).map byteV).toArray) ∧ Below w.heap.size w w' := by
  have hb : bytes [s] = s.data.toList := by simp [bytes]
  have hz : s.data.toList.length = s.size := Array.length_toList
  have hB : Below w.heap.size w (w.alloc (.cells #[.string s] 9)) := (Below.refl _ _).alloc (Nat.le_refl _) _
  have := sum_any [s] (by rw [hb, hz]; omega) (by simp) _ _ (parts_one w s cap) (hL.below hB hL.two)
  rw [hb] at this
  refine this.mono fun e w' ⟨h1, h2⟩ => ⟨h1, hB.trans (h2.mono (by simp))⟩
theorem und49' : Tryd.prog.underlying 49 = some (.array 32 5) := by kernel_rfl
theorem mod8_nat (x : Nat) : (x : Int) % 8 = ((x % 8 : Nat) : Int) := by omega
set_option maxHeartbeats 400000 in
set_option maxRecDepth 100000 in
theorem partition_any (s : ByteArray) (hs : s.size ≤ 140737488355328) (w : World) (hL : Laid w) :
    Calls Tryd.prog 12 #[.string s] w fun e w' => e = .returned (.int .i64 (partL s.data.toList : Int)) ∧ Below w.heap.size w w' := by
  have hc := fun cap => (sum_one s hs cap w hL)
  have hl := shaL_len s.data.toList
  have hv : partL s.data.toList = ((shaL s.data.toList).getD 1 0).toNat % 8 := rfl
  rw [hv]
  have hv1 : ((shaL s.data.toList).map byteV)[1]? = some (.int .u8 (((shaL s.data.toList).getD 1 0).toNat : Int)) := by
    rw [List.getElem?_map, List.getD_eq_getElem?_getD, List.getElem?_eq_getElem (by omega)]; rfl
  have h256 : ((shaL s.data.toList).getD 1 0).toNat < 256 := UInt8.toNat_lt _
  generalize shaL s.data.toList = q at *
  generalize ((q.getD 1 0).toNat) = x at *
  have hix : ∀ W, (Instr.index 49 (.agg (q.map byteV).toArray) (.int .i64 1)).run Tryd.prog W = .ok (.int .u8 (x : Int)) W := fun W => by
    have := run_index_array (P := Tryd.prog) W 49 5 32 .u8 und49' und5 siz5 (q.map byteV) 1 (by decide) _ hv1
    rw [show ((1 : Nat) : Int) = 1 from rfl] at this
    exact this
  have HC : Hid _ := hc
  have HX : Hid _ := hix
  clear hc hix hL
  have hw : IntKind.i64.wrap (x : Int) = x := by simp [IntKind.wrap, IntKind.bits, IntKind.signed]; omega
  go_enter Tryd.func12, Tryd.ntmps12
  go_wp2_with (go_at_call 24; refine (HC.out _).mono ?_; rintro e w1 ⟨rfl, h1⟩; have hix1 := HX.out w1)
  go_ret
  exact ⟨by rw [← mod8_nat]; rfl, h1⟩
set_option maxHeartbeats 400000 in
set_option maxRecDepth 100000 in
theorem rpartition_any (s : ByteArray) (hs : s.size < 1099511627776) (w : World) :
    Calls Tryd.prog 13 #[.string s] w fun e w' => e = .returned (.int .i64 (partL s.data.toList : Int)) ∧ Below w.heap.size w w' := by
  have hc : Hid (Calls Tryd.prog 25 #[.string s] w fun e w' => e = .returned (.agg ((shaL s.data.toList).map byteV).toArray) ∧ Below w.heap.size w w') := by
    have := rsum_any s hs w
    rw [sha_ref] at this
    exact this
  have hl := shaL_len s.data.toList
  have hv : partL s.data.toList = ((shaL s.data.toList).getD 1 0).toNat % 8 := rfl
  rw [hv]
  have hv1 : ((shaL s.data.toList).map byteV)[1]? = some (.int .u8 (((shaL s.data.toList).getD 1 0).toNat : Int)) := by
    rw [List.getElem?_map, List.getD_eq_getElem?_getD, List.getElem?_eq_getElem (by omega)]; rfl
  have h256 : ((shaL s.data.toList).getD 1 0).toNat < 256 := UInt8.toNat_lt _
  generalize shaL s.data.toList = q at *
  generalize ((q.getD 1 0).toNat) = x at *
  have hw : IntKind.i64.wrap (x : Int) = x := by simp [IntKind.wrap, IntKind.bits, IntKind.signed]; omega
  go_enter Tryd.func13, Tryd.ntmps13
  go_wp2_with (first
    | (go_at_call 25; refine hc.out.mono ?_; rintro e w1 ⟨rfl, b1⟩)
    | (refine wpList_alloc_new 3 rfl rfl 49 rfl w1.heap.size rfl _ (zero_of_info info49).1 ?_; intro w2 h2)
    | (refine wpList_store_all rfl 49 (.tmp 3) (.tmp 5) rfl w1.heap.size rfl (q.map byteV) rfl 49 _ h2.holds (by rw [(zero_of_info info49).2, List.length_map, hl]) (by rw [List.length_map, List.length_map, hl]; rfl) (byteV_one _) ?_; intro w3 h3; have c0 := h3.holds.at 1 _ hv1))
  go_ret
  exact ⟨by rw [← mod8_nat]; rfl, b1.trans ((h2.below.trans (h3.below (Nat.le_refl _))).mono b1.size)⟩
end Go.Proofs.YtlliijodilnlgaaDoor
