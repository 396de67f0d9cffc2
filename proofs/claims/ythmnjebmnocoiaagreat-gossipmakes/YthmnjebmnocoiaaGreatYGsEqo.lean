/- Eight owners held against the same eight. -/
import Derived.ChangeKeysEq
import Derived.Test.YthmnjebmnocoiaaGreatYGsEql
import Derived.Test.YthmnjebmnocoiaaGreatYGsOwn
namespace Go.Proofs.YthmnjebmnocoiaaGreat
open Go.RowKit

theorem owUnd : Tryz.prog.underlying 25 = some (.struct (Tryz.prog.fieldsOf 25)) := by kernel_rfl
theorem owHeld : Tryz.prog.stoodInHeld 25 = false := by kernel_rfl
theorem owTypes : (Tryz.prog.fieldsOf 25).toList.map (fun f => (f.type, f.offset, decide (f.name = "_"))) = [(3, 0, false), (23, 1, false)] := by kernel_rfl
theorem eql_ow (x1 : Int) (x3 : Nat) (w : World) : (Op.equalIn 9999 25 (.agg #[.int .i64 x1, .int .u64 (x3 : Int)]) (.agg #[.int .i64 x1, .int .u64 (x3 : Int)])).run Tryz.prog w = .ok true w := by
  rw [run_equalIn_agg w 9998 25 _ _ owUnd owHeld]
  have h := owTypes
  cases hf : (Tryz.prog.fieldsOf 25).toList with
  | nil => rw [hf] at h; cases h
  | cons f fs =>
    rw [hf] at h
    simp only [List.map_cons, List.cons.injEq, Prod.mk.injEq, decide_eq_false_iff_not] at h
    cases fs with
    | nil => cases h.2
    | cons g fs =>
      simp only [List.map_cons, List.cons.injEq, Prod.mk.injEq, decide_eq_false_iff_not] at h
      obtain ⟨⟨a1, a2, a3⟩, ⟨b1, b2, b3⟩, h3⟩ := h
      obtain rfl : fs = [] := by cases fs with | nil => rfl | cons a b => cases h3
      simp [Op.eqFields, go_sem, a1, a2, a3, b1, b2, b3, Tryz.underlying3, Tryz.underlying23]
theorem osUnd : Tryz.prog.underlying 26 = some (.array 8 25) := by kernel_rfl
theorem owInf' : (Tryz.prog.info? 25).isSome = true := by kernel_rfl
theorem owInf : ∃ i, Tryz.prog.info? 25 = some i := Option.isSome_iff_exists.1 owInf'
theorem owCells : Tryz.prog.cellsOf 25 = 2 := by kernel_rfl
theorem part_ow (os : List Ow) (j : Nat) (o : Ow) (h : os[j]? = some o) (w : World) : (part 25 (ownV os).toArray (j * 2)).run Tryz.prog w = .ok (.agg #[.int .i64 o.1, .int .u64 (o.2 : Int)]) w := by
  simp only [part, Sem.run_bind, Result.andThen_ok, agg25 w, if_true, run_sizeOf siz25, Sem.run_pure]
  congr 2
  apply Array.ext_getElem?
  intro i
  have hc := ownV_cell h
  have hz : j < os.length := (List.getElem?_eq_some_iff.1 h).1
  have hz2 : (ownV os).length = os.length * 2 := ownV_len os
  rw [Array.getElem?_extract]
  simp only [List.size_toArray, List.getElem?_toArray]
  by_cases hi : i < 2
  · rw [if_pos (by omega), hc i hi]
    simp [owV]
  · rw [if_neg (by omega)]
    simp; omega
theorem items_ow (os : List Ow) (w : World) : ∀ (is : List Nat), (∀ j ∈ is, j < os.length) → (Op.eqItems 9999 25 2 (ownV os).toArray (ownV os).toArray is).run Tryz.prog w = .ok true w
  | [], _ => by simp [Op.eqItems]
  | j :: is, h => by
    have hj := h j (by simp)
    have hp := part_ow os j os[j] (List.getElem?_eq_getElem hj) w
    have ih := items_ow os w is (fun k hk => h k (by simp [hk]))
    simp only [Op.eqItems, Sem.run_bind, hp, Result.andThen_ok, eql_ow]
    simpa using ih
theorem eql_os (os : List Ow) (h : os.length = 8) (w : World) : (Op.equalIn 10000 26 (.agg (ownV os).toArray) (.agg (ownV os).toArray)).run Tryz.prog w = .ok true w := by
  obtain ⟨i, hi⟩ := owInf
  rw [run_equalIn_array w 9999 _ _ osUnd hi, owCells]
  exact items_ow os w _ (fun j hj => by rw [h]; exact List.mem_range.1 hj)
end Go.Proofs.YthmnjebmnocoiaaGreat
