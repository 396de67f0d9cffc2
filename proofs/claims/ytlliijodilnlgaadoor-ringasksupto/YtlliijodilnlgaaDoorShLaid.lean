/- The two tables of package sha: from the rows' premise on what they hold to the cells that the walks read; and a start that meets it. -/
import Derived.Test.YtlliijodilnlgaaDoorRows
import Derived.Test.YtlliijodilnlgaaDoorShMix
import Derived.ProofKit
import Derived.LaidMore
import Derived.OpenShut
import Derived.Stop.Joined
namespace Go.Proofs.YtlliijodilnlgaaDoor
open Go.ChangeShapes Go.WideShapes Go.ChangeAt Go.WideMaps Go.WideElems Go.RowKit

theorem own : ownKnob Tryd.prog.godebug = none := by kernel_rfl
theorem gRounds : Tryd.prog.globalNamed "murmuration/sha.rounds" = some 1 := by kernel_rfl
theorem gStart : Tryd.prog.globalNamed "murmuration/sha.start" = some 0 := by kernel_rfl
theorem tRounds : (Tryd.prog.globals[1]?).map (·.type) = some 64 := by kernel_rfl
theorem tStart : (Tryd.prog.globals[0]?).map (·.type) = some 63 := by kernel_rfl
theorem c80 : Tryd.prog.cellsOf 62 = 1 := by kernel_rfl
abbrev laid2 {H : Type} : List (String × DataW H) := [("murmuration/sha.rounds", Rows.laid_murmuration_sha_rounds), ("murmuration/sha.start", Rows.laid_murmuration_sha_start)]

theorem rounds_eq {H : Type} : (Rows.laid_murmuration_sha_rounds : DataW H) = .agg (Ks.map fun x => .lit (.int .u32 (x.toNat : Int))) := by kernel_rfl
theorem start_eq {H : Type} : (Rows.laid_murmuration_sha_start : DataW H) = .agg (Hs.map fun x => .lit (.int .u32 (x.toNat : Int))) := by kernel_rfl

theorem table_of {H : Type} {enc : TypeId × Value → H} {W : World} {base fuel n g ty : Nat} {sp : Nat → Bool} {held : Bool} {cs : Array Value} {ks : List (BitVec 32)} {q : List MemPlace} (hu : Tryd.prog.underlying ty = some (.array n 62)) (hn : ks.length = n)
    (h : DataW.trod enc Tryd.prog W base sp held fuel ty cs.toList = some (.agg (ks.map fun x => .lit (.int .u32 (x.toNat : Int))), q)) (hc : ∀ i : Nat, W.cell? ⟨g, i, none⟩ = cs[i]?) : W.rangeAt g 0 (ks.map wordV) := by
  obtain ⟨xs, m, rfl, hx, hl, hlen, hel⟩ := DataW.trod_array hu h
  intro j v hv
  have hj : j < ks.length := by have := (List.getElem?_eq_some_iff.1 hv).1; simpa using this
  have hjx : j < xs.length := by omega
  have h1 := hel j (by omega)
  rw [List.getElem?_eq_getElem hjx, c80, Nat.mul_one] at h1
  obtain ⟨k, e1, e2, _⟩ := DataW.trod_int und62 h1
  have hx1 : (ks.map fun x => (DataW.lit (.int .u32 (x.toNat : Int)) : DataW H)) = xs.map (·.1) := by
    have := (Prod.mk.inj hx).1
    exact DataW.agg.inj this
  have h2 : (ks.map fun x => (DataW.lit (.int .u32 (x.toNat : Int)) : DataW H))[j]? = (xs.map (·.1))[j]? := by rw [hx1]
  rw [List.getElem?_map, List.getElem?_map, List.getElem?_eq_getElem hj, List.getElem?_eq_getElem hjx, e2] at h2
  simp only [Option.map_some, Option.some.injEq, DataW.lit.injEq, Lit.int.injEq, true_and] at h2
  rw [List.getElem?_map, List.getElem?_eq_getElem hj] at hv
  simp only [Option.map_some, Option.some.injEq] at hv
  rw [Nat.zero_add, hc j, ← hv]
  have h3 : (cs.toList.drop j)[0]? = some (.int .u32 k) := by
    have : ((cs.toList.drop j).take 1)[0]? = some (.int .u32 k) := by rw [e1]; rfl
    rwa [List.getElem?_take_of_lt (by omega)] at this
  rw [List.getElem?_drop, Nat.add_zero, Array.getElem?_toList] at h3
  rw [h3, ← h2]; rfl

/-- WHAT THE PREMISE GIVES THE WALKS. -/
theorem of_laid {W : World} (h : laidMetH Tryd.prog laid2 W) : Laid W := by
  rw [MakeChecks.laidMetH_plain _ _ _ (by kernel_rfl)] at h
  obtain ⟨ps, ⟨g0, t0, cs0, f0, p0, q0, hg0, ht0, hv0, hd0, ⟨g1, t1, cs1, f1, p1, q1, hg1, ht1, hv1, hd1, _, _⟩, _⟩, _, _⟩ := h
  obtain rfl := Option.some.inj (gRounds.symm.trans hg0)
  obtain rfl := Option.some.inj (gStart.symm.trans hg1)
  obtain rfl := Option.some.inj (tRounds.symm.trans ht0)
  obtain rfl := Option.some.inj (tStart.symm.trans ht1)
  rw [rounds_eq] at hd0
  rw [start_eq] at hd1
  exact ⟨table_of und64 rfl hd0 (World.var?_cell hg0 hv0), table_of und63 rfl hd1 (World.var?_cell hg1 hv1)⟩

/-- A start that meets it: the heap that the program's own initialisers leave. -/
theorem door_met (os : Os) (args : Array Value) : laidMetH Tryd.prog laid2 ((World.doorLaid Tryd.prog 400 os).forCall (fun _ _ => 0) ⟨#[], args, []⟩).memory :=
  laidMetH_of_parts3 (fuel := 8) (laidMet_of_run' 8 (by kernel_rfl) (by kernel_rfl)) (by kernel_rfl) (by kernel_rfl)
end Go.Proofs.YtlliijodilnlgaaDoor
