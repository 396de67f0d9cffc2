/- Stores of whole rings, as rules for the walk. -/
import Derived.Test.YthmnjebmnocoiaaGreatZA6
namespace Go.Proofs.YthmnjebmnocoiaaGreat
open Go.RowKit

/-- What a store of a ring comes to. -/
def storeOf (w : World) (p v : Value) : Option World :=
  match p, v with
  | .pointer (some ⟨b, 0, none⟩), .agg cs =>
    match w.heap[b]? with
    | some (.cells old 28 fr) => if fr = (0, 0) ∧ old.size = 17 ∧ cs.size = 17 ∧ (cs.toList.all fun u => u.oneCell') = true then some (w.setRow b cs) else none
    | _ => none
  | _, _ => none
theorem storeOf_holds {w : World} {b : Nat} {old cs : List Value} (h : Holds w b old 28) (ho : old.length = 17) (hc : cs.length = 17) (h1 : ∀ u ∈ cs, u.oneCell' = true) : storeOf w (.pointer (some ⟨b, 0, none⟩)) (.agg cs.toArray) = some (w.setRow b cs.toArray) := by
  unfold Holds at h
  unfold storeOf
  simp only [h]
  rw [if_pos ⟨trivial, by simpa using ho, by simpa using hc, by simpa using h1⟩]
theorem rule_store28 (dst : Option Tmp) (x y : Operand) (t : TypeId) (pos : String) (af : Array Edge) (gd : Option (Nat × Bool)) (a : Act) (w : World) (K : Act → World → Prop) (Q : Exit → Act → World → Prop)
    (h : (storeOf w (a.eval x) (a.eval y)).isSome = true) :
    Oper.wp Tryz.prog { dst := dst, op := .store 28 x y, type := t, pos := pos, after := af, guard := gd } a w K Q = K (a.put dst undef) ((storeOf w (a.eval x) (a.eval y)).getD w) := by
  obtain ⟨w', hw⟩ := Option.isSome_iff_exists.1 h
  have hw0 := hw
  unfold storeOf at hw
  split at hw
  · rename_i b cs hx hy
    split at hw
    · rename_i old fr hg
      split at hw
      · rename_i hc
        obtain ⟨rfl, c1, c2, c3⟩ := hc
        cases hw
        have hrun := run_storeVar_row (P := Tryz.prog) w b 28 28 old cs hg (by rw [siz28, c2]) (by omega) (by simpa using c3)
        rw [hw0]
        unfold Oper.wp execOp
        simp only [hx, hy, Instr.storeAt, Instr.sureAddr, Sem.run_bind, Sem.run_pure, Result.andThen_ok, hrun, Oper.upon, Option.getD_some]
      · cases hw
    · cases hw
  · cases hw
end Go.Proofs.YthmnjebmnocoiaaGreat
