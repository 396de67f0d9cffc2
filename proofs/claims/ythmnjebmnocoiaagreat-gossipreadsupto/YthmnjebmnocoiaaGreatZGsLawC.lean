/- The law's same (6) of rings with one Norm, as a drawn region calls it. -/
import Derived.Test.YthmnjebmnocoiaaGreatZGsAw
import Derived.Test.YthmnjebmnocoiaaGreatZGsSame
namespace Go.Proofs.YthmnjebmnocoiaaGreat
open Go.RowKit
theorem c_lawsame (r1 r2 : Rg) (f1 : RFit r1) (f2 : RFit r2) (hn : normL r1 = normL r2) (v1 v2 : Value) (y : World) (h1 : (Fk.ring r1).holds v1 y) (h2 : (Fk.ring r2).holds v2 y) : Calls Tryz.prog 7 #[v1, v2] y fun e z => ∃ u, e = .returned u ∧ Gr y z ∧ (Fk.val (.bool true)).holds u z := by
  obtain ⟨u1, rfl, R1⟩ := h1
  obtain ⟨u2, rfl, R2⟩ := h2
  refine (lawSame_any u1 u2 r1 r2 f1 f2 y R1 R2).mono fun e z ⟨e1, e2⟩ => ⟨_, e1, e2, ?_⟩
  show Value.bool _ = Value.bool true
  rw [hn]
  simp
theorem c_join (r : Rg) (hF : RFit r) (n : Int) (hn : I64 n) (v s : Value) (y : World) (h : (Fk.ring r).holds v y) (hs : (Fk.val (.int .i64 n)).holds s y) : Calls Tryz.prog 12 #[v, s] y fun e z => ∃ u, e = .returned u ∧ Gr y z ∧ (Fk.ring (joinL r n)).holds u z := by
  obtain ⟨u, rfl, R1⟩ := h
  obtain rfl : s = .int .i64 n := hs
  exact (join_any u r hF n hn y R1).mono fun e z ⟨u', e1, e2, _, e3⟩ => ⟨_, e1, e3, u', rfl, e2⟩
theorem c_leave (r : Rg) (hF : RFit r) (n : Int) (hn : I64 n) (v s : Value) (y : World) (h : (Fk.ring r).holds v y) (hs : (Fk.val (.int .i64 n)).holds s y) : Calls Tryz.prog 14 #[v, s] y fun e z => ∃ u, e = .returned u ∧ Gr y z ∧ (Fk.ring (leaveL r n)).holds u z := by
  obtain ⟨u, rfl, R1⟩ := h
  obtain rfl : s = .int .i64 n := hs
  exact (leave_any u r hF n hn y R1).mono fun e z ⟨u', e1, e2, _, e3⟩ => ⟨_, e1, e3, u', rfl, e2⟩
theorem k_awake (y : World) : Calls Tryz.prog 6 #[] y fun e z => e = .returned (.bool true) ∧ Gr y z := awake_any y
end Go.Proofs.YthmnjebmnocoiaaGreat
