/- Two arrays of 32 bytes are held against each other: rules for the walk. -/
import Derived.Test.YtbfadapffpijpaaDoorShEql
namespace Go.Proofs.YtbfadapffpijpaaDoor
open Go.RowKit

theorem run_equal_two (d : Nat) (w : World) (a b : UInt8) : (Op.equalIn (d + 1) 5 (byteV a) (byteV b)).run Tryd.prog w = .ok (decide (a = b)) w := by
  unfold byteV
  have e : ((a.toNat : Int) == (b.toNat : Int)) = decide (a = b) := by
    by_cases h : a = b
    · subst h; simp
    · have : ¬ (a.toNat : Int) = (b.toNat : Int) := fun q => h (UInt8.toNat_inj.1 (by omega))
      simp [h, this]
  simp [Op.equalIn, run_underlying und5, e]
theorem run_equal_arr2 (d : Nat) (w : World) (l m : List UInt8) (hl : l.length = 32) (hm : m.length = 32) : (Op.equalIn (d + 2) 26 (.agg (l.map byteV).toArray) (.agg (m.map byteV).toArray)).run Tryd.prog w = .ok (decide (l = m)) w := by
  have hb : ∀ (js : List Nat), (∀ j ∈ js, j < 32) → (forIn js ((none, ()) : Option Bool × Unit) fun i _ => do
      if (!(← Op.equalIn (d + 1) 5 (← part 5 (l.map byteV).toArray (i * 1)) (← part 5 (m.map byteV).toArray (i * 1)))) = true then pure (ForInStep.done (some false, ()))
      else pure (ForInStep.yield (none, ())) : Sem (Option Bool × Unit)).run Tryd.prog w = .ok (if js.all (fun j => decide (l.getD j 0 = m.getD j 0)) = true then (none, ()) else (some false, ())) w := by
    intro js
    induction js with
    | nil => intro _; simp
    | cons j js ih =>
      intro hj
      have h1 : j < 32 := hj j (by simp)
      have g1 : l[j]'(by omega) = l.getD j 0 := by rw [List.getD_eq_getElem?_getD, List.getElem?_eq_getElem (by omega)]; rfl
      have g2 : m[j]'(by omega) = m.getD j 0 := by rw [List.getD_eq_getElem?_getD, List.getElem?_eq_getElem (by omega)]; rfl
      simp only [List.forIn_cons, Sem.run_bind, Nat.mul_one, run_part_byte w l j (by omega), run_part_byte w m j (by omega), Result.andThen_ok, run_equal_two, g1, g2]
      by_cases e : l.getD j 0 = m.getD j 0
      · have := ih (fun k hk => hj k (by simp [hk]))
        simp only [Nat.mul_one] at this
        simp only [List.all_cons, e, decide_true, Bool.true_and, Bool.not_true, Bool.false_eq_true, if_false, Sem.run_pure, Result.andThen_ok]
        exact this
      · simp only [List.all_cons, e, decide_false, Bool.false_and, Bool.not_false, if_true, Sem.run_pure, Result.andThen_ok, Bool.false_eq_true, if_false]
  unfold Op.equalIn
  simp only [Sem.run_bind, run_underlying und26, Result.andThen_ok, run_sizeOf siz5]
  rw [Std.Legacy.Range.forIn_eq_forIn_range']
  rw [hb _ (fun j hj => by
    have := List.mem_range'.1 hj
    obtain ⟨i, hi, rfl⟩ := this
    simp at hi ⊢
    omega)]
  have hall : (List.range' 0 32).all (fun j => decide (l.getD j 0 = m.getD j 0)) = decide (l = m) := by
    by_cases h : l = m
    · subst h; simp
    · rw [decide_eq_false h, Bool.eq_false_iff]
      intro ha
      apply h
      apply List.ext_getElem?
      intro i
      by_cases hi : i < 32
      · have := List.all_eq_true.1 ha i (List.mem_range'.2 ⟨i, hi, by omega⟩)
        have := of_decide_eq_true this
        rw [List.getD_eq_getElem?_getD, List.getD_eq_getElem?_getD, List.getElem?_eq_getElem (by omega), List.getElem?_eq_getElem (by omega)] at this
        rw [List.getElem?_eq_getElem (by omega), List.getElem?_eq_getElem (by omega)]
        exact congrArg some this
      · rw [List.getElem?_eq_none (by omega), List.getElem?_eq_none (by omega)]
  have e : List.range' [:32].start [:32].size [:32].step = List.range' 0 32 := rfl
  rw [e, hall]
  by_cases h : l = m <;> simp [h]

/-- Both are arrays of 32 bytes. -/
def Two32 (x y : Value) (r : Bool) : Prop := ∃ l m : List UInt8, l.length = 32 ∧ m.length = 32 ∧ x = .agg (l.map byteV).toArray ∧ y = .agg (m.map byteV).toArray ∧ r = decide (l = m)
theorem run_eql_two (x y : Operand) (u v : Value) (r : Bool) (w : World) (h : Two32 u v r) : (do eqGuard .eql 26 x y u v; binOp .eql 26 u v : Sem Value).run Tryd.prog w = .ok (.bool r) w := by
  obtain ⟨l, m, hl, hm, rfl, rfl, rfl⟩ := h
  have := run_equal_arr2 9998 w l m hl hm
  simp [eqGuard, run_program, binOp, Op.equal, Op.maxDepth, this]
theorem run_neq_two (x y : Operand) (u v : Value) (r : Bool) (w : World) (h : Two32 u v r) : (do eqGuard .neq 26 x y u v; binOp .neq 26 u v : Sem Value).run Tryd.prog w = .ok (.bool (!r)) w := by
  obtain ⟨l, m, hl, hm, rfl, rfl, rfl⟩ := h
  have := run_equal_arr2 9998 w l m hl hm
  simp [eqGuard, run_program, binOp, Op.equal, Op.maxDepth, this]
def Diff32 (x y : Value) : Prop := Two32 x y false
theorem diff32 (l m : List UInt8) (hl : l.length = 32) (hm : m.length = 32) (h : ¬ l = m) : Diff32 (.agg (l.map byteV).toArray) (.agg (m.map byteV).toArray) := ⟨l, m, hl, hm, rfl, rfl, by simp [h]⟩
theorem rule_eqlD (dst : Option Tmp) (x y : Operand) (yt t : TypeId) (pos : String) (af : Array Edge) (gd : Option (Nat × Bool)) (a : Act) (w : World) (K : Act → World → Prop) (Q : Exit → Act → World → Prop) (h : Diff32 (a.eval x) (a.eval y)) :
    Oper.wp Tryd.prog { dst := dst, op := .binOp .eql 26 x y yt, type := t, pos := pos, after := af, guard := gd } a w K Q = K (a.put dst (.bool false)) w := by
  unfold Oper.wp execOp
  dsimp only
  rw [Sem.run_bind, run_eql_two x y _ _ false w h]
  rfl
theorem rule_neqD (dst : Option Tmp) (x y : Operand) (yt t : TypeId) (pos : String) (af : Array Edge) (gd : Option (Nat × Bool)) (a : Act) (w : World) (K : Act → World → Prop) (Q : Exit → Act → World → Prop) (h : Diff32 (a.eval x) (a.eval y)) :
    Oper.wp Tryd.prog { dst := dst, op := .binOp .neq 26 x y yt, type := t, pos := pos, after := af, guard := gd } a w K Q = K (a.put dst (.bool true)) w := by
  unfold Oper.wp execOp
  dsimp only
  rw [Sem.run_bind, run_neq_two x y _ _ false w h]
  rfl
/-- A load of a whole array of 32 bytes. -/
theorem rule26 (dst : Option Tmp) (x : Operand) (t : TypeId) (pos : String) (af : Array Edge) (gd : Option (Nat × Bool)) (a : Act) (w : World) (K : Act → World → Prop) (Q : Exit → Act → World → Prop) (h : (rowOf w (a.eval x) 32).isSome = true) :
    Oper.wp Tryd.prog { dst := dst, op := .load 26 x, type := t, pos := pos, after := af, guard := gd } a w K Q = K (a.put dst (.agg ((rowOf w (a.eval x) 32).getD []).toArray)) w :=
  wp_load_rule und26 (zero_of_info info26).2 dst x t pos af gd a w K Q h
theorem Holds.row26 {w : World} {g : Nat} {l : List UInt8} {t : TypeId} (h : Holds w g (l.map byteV) t) (hl : l.length = 32) : rowOf w (.pointer (some ⟨g, 0, none⟩)) 32 = some (l.map byteV) := by
  have := rowOf_range (w := w) (h.range 0 (l.map byteV) (fun j v hv => by rw [Nat.zero_add]; exact hv))
  rwa [show (l.map byteV).length = 32 by simp [hl]] at this
end Go.Proofs.YtbfadapffpijpaaDoor
