/- Two equal arrays of 32 bytes are found equal: a rule for the walk. -/
import Derived.Test.YtbfadapffpijpaaDoorShSpread
namespace Go.Proofs.YtbfadapffpijpaaDoor
open Go.RowKit

theorem run_part_byte (w : World) (l : List UInt8) (i : Nat) (h : i < l.length) : (part 5 (l.map byteV).toArray i).run Tryd.prog w = .ok (byteV l[i]) w := by
  have hagg : (isAgg 5).run Tryd.prog w = .ok false w := by
    unfold isAgg
    rw [Sem.run_bind, run_underlying und5 w]; rfl
  simp only [part, Sem.run_bind, hagg, Result.andThen_ok]
  simp [h]
theorem run_equal_byte (d : Nat) (w : World) (b : UInt8) : (Op.equalIn (d + 1) 5 (byteV b) (byteV b)).run Tryd.prog w = .ok true w := by
  unfold byteV
  simp [Op.equalIn, run_underlying und5]
theorem run_equal_arr (d : Nat) (w : World) (l : List UInt8) (h : l.length = 32) : (Op.equalIn (d + 2) 26 (.agg (l.map byteV).toArray) (.agg (l.map byteV).toArray)).run Tryd.prog w = .ok true w := by
  have hb : ∀ (js : List Nat), (∀ j ∈ js, j < l.length) → (forIn js ((none, ()) : Option Bool × Unit) fun i _ => do
      if (!(← Op.equalIn (d + 1) 5 (← part 5 (l.map byteV).toArray (i * 1)) (← part 5 (l.map byteV).toArray (i * 1)))) = true then pure (ForInStep.done (some false, ()))
      else pure (ForInStep.yield (none, ())) : Sem (Option Bool × Unit)).run Tryd.prog w = .ok (none, ()) w := by
    intro js
    induction js with
    | nil => intro _; simp
    | cons j js ih =>
      intro hj
      have h1 := hj j (by simp)
      simp only [List.forIn_cons, Sem.run_bind, Nat.mul_one, run_part_byte w l j h1, Result.andThen_ok, run_equal_byte]
      simp
      have := ih (fun k hk => hj k (by simp [hk]))
      simpa using this
  unfold Op.equalIn
  simp only [Sem.run_bind, run_underlying und26, Result.andThen_ok, run_sizeOf siz5]
  rw [Std.Legacy.Range.forIn_eq_forIn_range']
  rw [hb _ (fun j hj => by
    rw [h]
    have := List.mem_range'.1 hj
    obtain ⟨i, hi, rfl⟩ := this
    simp at hi ⊢
    omega)]
  simp

/-- Both are one array of 32 bytes. -/
def Same32 (x y : Value) : Prop := ∃ l : List UInt8, l.length = 32 ∧ x = .agg (l.map byteV).toArray ∧ y = .agg (l.map byteV).toArray
theorem same32 (l : List UInt8) (h : l.length = 32) : Same32 (.agg (l.map byteV).toArray) (.agg (l.map byteV).toArray) := ⟨l, h, rfl, rfl⟩
theorem run_eql_same (x y : Operand) (u v : Value) (w : World) (h : Same32 u v) : (do eqGuard .eql 26 x y u v; binOp .eql 26 u v : Sem Value).run Tryd.prog w = .ok (.bool true) w := by
  obtain ⟨l, hl, rfl, rfl⟩ := h
  have := run_equal_arr 9998 w l hl
  simp [eqGuard, run_program, binOp, Op.equal, Op.maxDepth, this]
theorem run_neq_same (x y : Operand) (u v : Value) (w : World) (h : Same32 u v) : (do eqGuard .neq 26 x y u v; binOp .neq 26 u v : Sem Value).run Tryd.prog w = .ok (.bool false) w := by
  obtain ⟨l, hl, rfl, rfl⟩ := h
  have := run_equal_arr 9998 w l hl
  simp [eqGuard, run_program, binOp, Op.equal, Op.maxDepth, this]
theorem rule_eql (dst : Option Tmp) (x y : Operand) (yt t : TypeId) (pos : String) (af : Array Edge) (gd : Option (Nat × Bool)) (a : Act) (w : World) (K : Act → World → Prop) (Q : Exit → Act → World → Prop) (h : Same32 (a.eval x) (a.eval y)) :
    Oper.wp Tryd.prog { dst := dst, op := .binOp .eql 26 x y yt, type := t, pos := pos, after := af, guard := gd } a w K Q = K (a.put dst (.bool true)) w := by
  unfold Oper.wp execOp
  dsimp only
  rw [Sem.run_bind, run_eql_same x y _ _ w h]
  rfl
theorem rule_neq (dst : Option Tmp) (x y : Operand) (yt t : TypeId) (pos : String) (af : Array Edge) (gd : Option (Nat × Bool)) (a : Act) (w : World) (K : Act → World → Prop) (Q : Exit → Act → World → Prop) (h : Same32 (a.eval x) (a.eval y)) :
    Oper.wp Tryd.prog { dst := dst, op := .binOp .neq 26 x y yt, type := t, pos := pos, after := af, guard := gd } a w K Q = K (a.put dst (.bool false)) w := by
  unfold Oper.wp execOp
  dsimp only
  rw [Sem.run_bind, run_neq_same x y _ _ w h]
  rfl
end Go.Proofs.YtbfadapffpijpaaDoor
