/- The small functions of a tally: meets (22), plus (23), one (35), less (38), cell.New (21), three (18). -/
import Derived.Test.YtmhpfncbbboamaaGreatEngL
import Derived.Test.YtmhpfncbbboamaaGreatApp
import Derived.Test.YtmhpfncbbboamaaGreatQmPure
import Derived.Test.YtmhpfncbbboamaaGreatProg
import Derived.KernelRfl
namespace Go.Proofs.YtmhpfncbbboamaaGreat
open Go.RowKit

def cV (a p : Int) : Value := .agg #[.int .i64 a, .int .i64 p]
def seV (s : Se) : List Value := [.int .i64 s.1, .int .i64 s.2.1, .int .i64 (s.2.2 : Int)]
def prI (x f : Int) : Int := if x = f then 1 else 0
theorem siz27 : (Tryz.prog.info? 27).map (·.size) = some 2 := by kernel_rfl
theorem al1 {w : World} {o : Obj} : Gr w (w.alloc o) := Gr.alloc _ _
theorem al2 {w : World} {o1 o2 : Obj} : Gr w ((w.alloc o1).alloc o2) := (Gr.alloc _ _).trans (Gr.alloc _ _)
theorem al3 {w : World} {o1 o2 o3 : Obj} : Gr w (((w.alloc o1).alloc o2).alloc o3) := al2.trans (Gr.alloc _ _)
theorem sz1 (w : World) (o : Obj) : (w.alloc o).heap.size = w.heap.size + 1 := by simp
theorem new2 {w : World} {o1 o2 : Obj} : ((w.alloc o1).alloc o2).heap[w.heap.size + 1]? = some o2 := by rw [← sz1 w o1]; exact heap_alloc_new _ _
theorem new3 {w : World} {o1 o2 o3 : Obj} : (((w.alloc o1).alloc o2).alloc o3).heap[w.heap.size + 1 + 1]? = some o3 := by rw [← sz1 w o1, ← sz1 (w.alloc o1) o2]; exact heap_alloc_new _ _
theorem one_any (x f k : Int) (w : World) : Calls Tryz.prog 35 #[.agg #[.int .i64 x, .int .i64 f, .int .i64 k]] w fun e w' => e = .returned (cV 1 (prI x f)) ∧ Gr w w' := by
  by_cases h : x = f
  · subst h
    have e1 : prI x x = 1 := if_pos rfl
    rw [e1]
    go_enter Tryz.func35, Tryz.ntmps35
    go_wp2
    exact bodyPost_ret (results_cell_row (p := 2) (by kernel_rfl) _ _ (w.heap.size + 1) 27 #[.int .i64 1, .int .i64 1] (0, 0) _ rfl new2 Tryz.underlying27 rfl siz27) rfl ⟨rfl, al2⟩
  · have e1 : prI x f = 0 := if_neg h
    rw [e1]
    have h' : (x == f) = false := by simpa using h
    go_enter Tryz.func35, Tryz.ntmps35
    go_wp2
    exact bodyPost_ret (results_cell_row (p := 2) (by kernel_rfl) _ _ (w.heap.size + 1) 27 #[.int .i64 1, .int .i64 0] (0, 0) _ rfl new2 Tryz.underlying27 rfl siz27) rfl ⟨rfl, al2⟩
theorem plus_any (a p b q : Int) (w : World) : Calls Tryz.prog 23 #[cV a p, cV b q] w fun e w' => e = .returned (cV (wrap64 (a + b)) (wrap64 (p + q))) ∧ Gr w w' := by
  unfold cV
  go_enter Tryz.func23, Tryz.ntmps23
  go_wp2
  exact bodyPost_ret (results_cell_row (p := 4) (by kernel_rfl) _ _ (w.heap.size + 1 + 1) 27 #[.int .i64 (wrap64 (a + b)), .int .i64 (wrap64 (p + q))] (0, 0) _ rfl new3 Tryz.underlying27 rfl siz27) rfl ⟨rfl, al3⟩
theorem less_any (a p b q : Int) (w : World) : Calls Tryz.prog 38 #[cV a p, cV b q] w fun e w' => e = .returned (cV (wrap64 (a - b)) (wrap64 (p - q))) ∧ Gr w w' := by
  unfold cV
  go_enter Tryz.func38, Tryz.ntmps38
  go_wp2
  exact bodyPost_ret (results_cell_row (p := 4) (by kernel_rfl) _ _ (w.heap.size + 1 + 1) 27 #[.int .i64 (wrap64 (a - b)), .int .i64 (wrap64 (p - q))] (0, 0) _ rfl new3 Tryz.underlying27 rfl siz27) rfl ⟨rfl, al3⟩
theorem meets_any (a p b q : Int) (w : World) : Calls Tryz.prog 22 #[cV a p, cV b q] w fun e w' => e = .returned (.bool (decide (b ≤ a ∧ q ≤ p))) ∧ Gr w w' := by
  unfold cV
  by_cases h : b ≤ a
  · by_cases h2 : q ≤ p
    · rw [decide_eq_true ⟨h, h2⟩]
      go_enter Tryz.func22, Tryz.ntmps22
      go_wp2
      go_ret
      exact ⟨rfl, al2⟩
    · rw [decide_eq_false (fun r => h2 r.2)]
      go_enter Tryz.func22, Tryz.ntmps22
      go_wp2
      go_ret
      exact ⟨rfl, al2⟩
  · rw [decide_eq_false (fun r => h r.1)]
    go_enter Tryz.func22, Tryz.ntmps22
    go_wp2
    go_ret
    exact ⟨rfl, al2⟩
end Go.Proofs.YtmhpfncbbboamaaGreat
