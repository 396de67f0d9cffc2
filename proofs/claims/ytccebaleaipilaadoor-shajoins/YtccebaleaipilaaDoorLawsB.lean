/- Laws on slices of arrays and on copy from a string, over whatever program. -/
import Derived.Test.YtccebaleaipilaaDoorLaws
namespace Go.Proofs.YtccebaleaipilaaDoor
open Go.RowKit
variable {P : Program}

theorem run_sizeOf {e : TypeId} {n : Nat} (hs : (P.info? e).map (·.size) = some n) (w : World) : (sizeOf e).run P w = .ok n w := by
  cases hq : P.info? e with
  | none => simp [hq] at hs
  | some i => simp [hq] at hs; simp [sizeOf, typeInfo, hq, hs]
/-- 'a[l:]' of an array behind a pointer. -/
theorem run_sliceAt_from (w : World) (ty e : TypeId) (n : Nat) (hu : P.underlying ty = some (.array n e)) (hs : (P.info? e).map (·.size) = some 1) (b o l : Nat) (hl : l < n) :
    (Instr.sliceAt ty (.pointer (some ⟨b, o, none⟩)) (some (.int .u64 (l : Int))) none none).run P w = .ok (.slice (some ⟨b, o + l, none⟩) (n - l) (n - l)) w := by
  have h1 : ¬ n = l := by omega
  simp only [Instr.sliceAt, Sem.run_bind, run_underlying hu w, Result.andThen_ok, Instr.sureAddr, Sem.run_pure]
  simp [go_sem, Instr.sliceBounds, show (l : Int) ≤ (n : Int) by omega, h1, run_sizeOf hs, Addr.add_mid]
theorem run_copy_string (w : World) (dT sT ty elem : TypeId) (b o dLen dCap : Nat) (s : ByteArray) (hu : P.underlying dT = some (.slice elem)) (hs : (P.info? elem).map (·.size) = some 1)
    (n : Nat) (hn : Nat.min s.size dLen = n) (cs : List Value) (hcs : cs = (s.data.toList.map fun b => .int .u8 b.toNat).take n) (ht : w.there b o n) :
    (Builtin.copy_ #[dT, sT] ty #[.slice (some ⟨b, o, none⟩) dLen dCap, .string s]).run P w = .ok (goInt n) (w.setCells b o cs) := by
  have hl : cs.length = n := by
    rw [hcs]
    have : Nat.min s.size dLen ≤ s.size := Nat.min_le_left _ _
    simp; omega
  have hst := run_storeCells_cells (P := P) b o cs 0 w (fun j hj => by simpa using (ht j (by omega)).1) (fun j hj => by simpa using (ht j (by omega)).2) (fun v hv => by
    rw [hcs] at hv
    obtain ⟨x, _, rfl⟩ := List.mem_map.1 (List.mem_of_mem_take hv)
    rfl)
  rw [Nat.add_zero, hcs] at hst
  rw [hcs]
  simp [Builtin.copy_, run_underlying hu, Builtin.lenOf, Builtin.firstCells, run_sizeOf hs, hn, hst]
theorem turned_set {w : World} {b : Nat} {cs : List Value} {t : TypeId} (h : Holds w b cs t) (i : Nat) (v : Value) : Turned b w (w.setCell ⟨b, i, none⟩ v) (cs.set i v) t :=
  ⟨h.set i v, rfl, rfl, rfl, by simp, fun k hk => heap_setCell_other w ⟨b, i, none⟩ k v hk⟩
/-- A store of one integer; the world behind it a letter. -/
theorem wpList_store_int {ops : Array Oper} {rest : List Oper} {o : Oper} {a : Act} {w : World} {Q : Exit → Act → World → Prop} (hgd : o.guard = none) (ty : TypeId) (x y : Operand) (ho : o.op = .store ty x y)
    (hs : (P.info? ty).map (·.size) = some 1) (b i : Nat) (hx : a.eval x = .pointer (some ⟨b, i, none⟩)) (k : IntKind) (n : Int) (hy : a.eval y = .int k n) (cs : List Value) (t : TypeId) (hg : Holds w b cs t) (hi : i < cs.length)
    (h : ∀ w', Turned b w w' (cs.set i (.int k n)) t → wpList P ops Q rest (a.put o.dst undef) w') : wpList P ops Q (o :: rest) a w :=
  wpList_plain hgd fun K hK => by
    have hst := run_storeCells_cells (P := P) b i [.int k n] 0 w (fun j hj => by
      have : j = 0 := by simpa using hj
      subst this
      show (w.cell? ⟨b, i, none⟩).isSome = true
      rw [hg.cell, List.getElem?_eq_getElem hi]; rfl) (fun j _ => hg.frozen _) (fun v hv => by
      have : v = .int k n := by simpa using hv
      rw [this]; rfl)
    have hst : (storeCells ⟨b, i, none⟩ [.int k n]).run P w = .ok () (w.setCell ⟨b, i, none⟩ (.int k n)) := hst
    unfold Oper.wp execOp
    simp only [ho, hx, hy, Instr.storeAt, Instr.sureAddr, storeVar, Value.cells, Sem.run_bind, Sem.run_pure, Result.andThen_ok, run_sizeOf hs]
    rw [if_neg (by simp), hst]
    exact hK _ _ (h _ (turned_set hg i _))
end Go.Proofs.YtccebaleaipilaaDoor
