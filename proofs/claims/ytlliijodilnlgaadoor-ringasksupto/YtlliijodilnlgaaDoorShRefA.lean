/- What the document's own rot, table and words answer (package murmurationref01). -/
import Derived.Test.YtlliijodilnlgaaDoorShMix
namespace Go.Proofs.YtlliijodilnlgaaDoor
open Go.RowKit
attribute [local go_sem ↓] Go.wp_at_zero Go.wp_at_succ

set_option maxHeartbeats 400000 in
theorem rrot_any (x : BitVec 32) (n : Nat) (w : World) (h : 1 ≤ n) (h' : n ≤ 31) :
    Calls Tryd.prog 40 #[.int .u32 x.toNat, .int .i64 (n : Int)] w fun e w' => e = .returned (.int .u32 (rotr x n).toNat) ∧ w' = w := by
  go_enter Tryd.func40, Tryd.ntmps40
  go_wp2
  go_ret
  exact ⟨ret_int (by rw [← wrap_u32, u_shl, u_shr, u_or]; rfl), rfl⟩
theorem rrot_int (x : BitVec 32) (m : Int) (w : World) (h : 1 ≤ m) (h' : m ≤ 31) :
    Calls Tryd.prog 40 #[.int .u32 x.toNat, .int .i64 m] w fun e w' => e = .returned (.int .u32 (rotr x m.toNat).toNat) ∧ w' = w := by
  obtain ⟨n, rfl⟩ := Int.eq_ofNat_of_zero_le (show 0 ≤ m by omega)
  exact rrot_any x n w (by omega) (by omega)

theorem wpList_build_sh {P : Program} {ops : Array Oper} {rest : List Oper} {o : Oper} {a : Act} {w : World} {Q : Exit → Act → World → Prop} (hgd : o.guard = none) (t : TypeId) (parts : Array (Nat × Operand)) (ho : o.op = .build t parts) (cells : Array Value)
    (hf : P.built t (parts.map fun (i, x) => (i, a.eval x)).toList = some cells) (h : wpList P ops Q rest (a.put o.dst (.agg cells)) w) : wpList P ops Q (o :: rest) a w :=
  wpList_plain hgd fun K hK => by
    have hr := run_build (P := P) w t _ cells hf
    unfold Oper.wp execOp
    simp only [ho, Sem.run_bind, hr, Result.andThen_ok]
    exact hK _ _ h

set_option maxHeartbeats 400000 in
set_option maxRecDepth 100000 in
theorem table_any (w : World) : Calls Tryd.prog 37 #[] w fun e w' => e = .returned (.agg (Ks.map wordV).toArray) ∧ Below w.heap.size w w' := by
  obtain ⟨n, hn⟩ : ∃ n, w.heap.size = n := ⟨_, rfl⟩
  rw [hn]
  go_enter Tryd.func37, Tryd.ntmps37
  go_wp2_with (first
    | (refine wpList_alloc_new 0 rfl rfl 64 rfl n hn _ (zero_of_info info64).1 ?_; intro w1 h1)
    | (refine wpList_build_sh rfl 64 _ rfl (Ks.map wordV).toArray (by kernel_rfl) ?_)
    | (refine wpList_store_all rfl 64 (.tmp 0) (.tmp 1) rfl n rfl (Ks.map wordV) rfl 64 _ h1.holds (by rw [(zero_of_info info64).2]; rfl) (by rfl) (wordV_one _) ?_; intro w2 h2))
  exact bodyPost_ret (results_cell_row (p := 0) (by kernel_rfl) _ w2 n 64 (Ks.map wordV).toArray (0, 0) _ rfl h2.holds und64 rfl (by rw [(zero_of_info info64).2]; rfl)) rfl ⟨rfl, h1.below.trans (h2.below (Nat.le_refl _))⟩
end Go.Proofs.YtlliijodilnlgaaDoor
