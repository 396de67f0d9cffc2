/- The engine: builds. -/
import Derived.Test.YtmhpfncbbboamaaGreatQmReg
import Derived.Test.YtmhpfncbbboamaaGreatQmOrd
namespace Go.Proofs.YtmhpfncbbboamaaGreat
open Go.RowKit
variable {P : Program} {ops : Array Oper} {Q : Exit → Act → World → Prop} {D : List Nat} {T : Nat → Fact} {a0 a : Act} {w : World} {o : Oper} {K : Act → World → Prop}

/-- A slice of its own, with these cells. -/
def Fact.row (n : Nat) (cs : List Value) : Fact := ⟨fun v y => ∃ g t, v = .slice (some ⟨g, 0, none⟩) n n ∧ Holds y g cs t, fun h hg => by
  obtain ⟨g, t, e, hH⟩ := h
  exact ⟨g, t, e, hH.below hg hH.lt⟩⟩
theorem sa_bs2 (t n : Nat) (u v : Operand) (d : Nat) (s r : Value) (ho : o.op = .buildSlice t n #[(0, u), (1, v)]) (hd : o.dst = some d) (hg : o.guard = none) (h1 : Has ops D T a0 o u (Fact.val s)) (h2 : Has ops D T a0 o v (Fact.val r))
    (hr : ∀ y, ∃ q z, (Instr.buildSlice t n #[(0, s), (1, r)]).run P y = .ok q z ∧ Gr y z ∧ (T d).holds q z) : StepAt P ops D T a0 w Q o :=
  sa_of d hd hg fun f a y c => by
    have e1 : a.eval u = s := h1.get c
    have e2 : a.eval v = r := h2.get c
    obtain ⟨q, z, e3, e4, e5⟩ := hr y
    refine op_val q (y := z) ?_ ⟨_, rfl, e4, e5⟩
    unfold execOp
    simp only [ho, List.map_toArray, List.map_cons, List.map_nil, e1, e2, Sem.run_bind, e3, Sem.run_pure, Result.andThen_ok]
theorem sa_bd2 (t i j : Nat) (u v : Operand) (d : Nat) (s r q : Value) (ho : o.op = .build t #[(i, u), (j, v)]) (hd : o.dst = some d) (hg : o.guard = none) (h1 : Has ops D T a0 o u (Fact.val s)) (h2 : Has ops D T a0 o v (Fact.val r))
    (hr : ∀ y, (Instr.build t #[(i, s), (j, r)]).run P y = .ok q y) (hT : T d = Fact.val q) : StepAt P ops D T a0 w Q o :=
  sa_of d hd hg fun f a y c => by
    have e1 : a.eval u = s := h1.get c
    have e2 : a.eval v = r := h2.get c
    refine op_val q (y := y) ?_ ⟨_, rfl, Gr.refl _, by rw [hT]; rfl⟩
    unfold execOp
    simp only [ho, List.map_toArray, List.map_cons, List.map_nil, e1, e2, Sem.run_bind, hr, Sem.run_pure, Result.andThen_ok]
abbrev nil3 : Value := .slice none 0 0
theorem siz36 : (Tryz.prog.info? 36).map (·.size) = some 2 := by kernel_rfl
theorem siz38 : (Tryz.prog.info? 38).map (·.size) = some 4 := by kernel_rfl
theorem siz81 : (Tryz.prog.info? 81).map (·.size) = some 4 := by kernel_rfl
theorem bs113 (y : World) : ∃ q z, (Instr.buildSlice 113 2 #[(0, .agg #[nil3, nil3]), (1, .agg #[nil3, nil3])]).run Tryz.prog y = .ok q z ∧ Gr y z ∧ (Fact.row 2 [nil3, nil3, nil3, nil3]).holds q z :=
  ⟨.slice (some ⟨y.heap.size, 0, none⟩) 2 2, y.alloc (.cells #[nil3, nil3, nil3, nil3] 36), by kernel_rfl, Gr.alloc _ _, y.heap.size, 36, rfl, heap_alloc_new _ _⟩
theorem bs99 (y : World) : ∃ q z, (Instr.buildSlice 99 2 #[(0, nil3), (1, nil3)]).run Tryz.prog y = .ok q z ∧ Gr y z ∧ (Fact.row 2 [nil3, nil3]).holds q z :=
  ⟨.slice (some ⟨y.heap.size, 0, none⟩) 2 2, y.alloc (.cells #[nil3, nil3] 32), by kernel_rfl, Gr.alloc _ _, y.heap.size, 32, rfl, heap_alloc_new _ _⟩
end Go.Proofs.YtmhpfncbbboamaaGreat
