/- What Heal strikes out: in plain words, and the steps of its range. -/
import Derived.Test.YtmdoamkockoipaaNtTake
import Derived.Laws.IdiomRangeMap
namespace Go.Proofs.Ytmdoamkockoipaa
open Go.RowKit Go.Maps Go.WideMaps

theorem key_inv {v : Value} {kl : Lit} (h : keyOf Try.prog 54 v = some kl) : ∃ p, okP p ∧ v = pairV p ∧ kl = keyP p := by
  have h0 := h
  unfold keyOf at h
  simp only [und54] at h
  split at h
  · rename_i hc
    obtain ⟨ls, hls, _⟩ := Option.map_eq_some_iff.1 h
    rw [show Try.prog.types.size + 1 = 82 + 2 from by kernel_rfl] at hls
    unfold Program.keyLits at hls
    simp only [und54] at hls
    split at hls
    · rename_i hlen
      rw [arr54.size] at hlen
      obtain ⟨xs, hx, _⟩ := Option.map_eq_some_iff.1 hls
      rw [show List.range 2 = [0, 1] from rfl, List.mapM_cons, List.mapM_cons, List.mapM_nil] at hx
      simp only [bind, Option.bind_eq_some_iff, pure, Option.some.injEq, arr54.one] at hx
      obtain ⟨y0, q0, _, ⟨y1, q1, _, rfl, rfl⟩, rfl⟩ := hx
      have hform : v.formed Try.prog 54 = true := by
        simp only [Bool.and_eq_true] at hc
        exact hc.2
      cases v <;> simp only [Value.formed, und54, Bool.false_eq_true] at hform
      rename_i cs
      obtain ⟨l⟩ := cs
      simp only [Value.cells] at hlen q0 q1
      match l, hlen with
      | [c0, c1], _ =>
        have one : ∀ (c : Value) (y : List Lit), Try.prog.keyLits (82 + 1) 3 [c] = some y → ∃ a, c = .int .i64 a ∧ okI a := fun c y hy => by
          unfold Program.keyLits at hy
          simp only [und3] at hy
          cases c with
          | int k n =>
            simp only at hy
            split at hy
            · rename_i e
              obtain ⟨rfl, e2⟩ := e
              exact ⟨n, rfl, e2⟩
            · cases hy
          | _ => cases hy
        obtain ⟨a, rfl, ha⟩ := one c0 y0 q0
        obtain ⟨b, rfl, hb⟩ := one c1 y1 q1
        refine ⟨(a, b), ⟨ha, hb⟩, rfl, ?_⟩
        have := key_pair (p := (a, b)) ⟨ha, hb⟩
        rw [show pairV (a, b) = Value.agg #[.int .i64 a, .int .i64 b] from rfl, h0] at this
        exact Option.some.inj this
    · cases hls
  · cases h
/-- The pairs that are not struck out, or are still to come. -/
def hfil (q : List Int) (left : Lit → Bool) (c : List (Int × Int)) : List (Int × Int) := c.filter fun p => !hitB q p || left (keyP p)
theorem hfil_start (q : List Int) {D : DataW Unit} {c : List (Int × Int)} (hS : SetOf D (c.map keyP)) : hfil q (has D) c = c := by
  refine List.filter_eq_self.2 fun p hp => ?_
  rw [hS.has_ _ (keyLit_pair p)]
  simp
  exact .inr ⟨_, _, hp, rfl⟩
theorem hfil_end (q : List Int) {left : Lit → Bool} (h : ∀ kl, left kl = false) (c : List (Int × Int)) : hfil q left c = healL q c := by
  refine List.filter_congr fun p _ => ?_
  rw [h]; simp
theorem sameKey_pair {p r : Int × Int} (hp : okP p) (hr : okP r) : (keyP p).sameKey (keyP r) = decide (p = r) := by
  by_cases e : p = r
  · subst e
    rw [WideAt.sameKey_self (keyLit_pair p)]; simp
  · rw [sameKey_ne (fun q => e (keyP_inj hp hr q))]; simp [e]
theorem hfil_stay {q : List Int} {left : Lit → Bool} {c : List (Int × Int)} (hc : ∀ p ∈ c, okP p) {r : Int × Int} (hr : okP r) (hh : hitB q r = false) : hfil q (fun z => left z && !z.sameKey (keyP r)) c = hfil q left c := by
  refine List.filter_congr fun p hp => ?_
  show (!hitB q p || (left (keyP p) && !(keyP p).sameKey (keyP r))) = _
  rw [sameKey_pair (hc p hp) hr]
  by_cases e : p = r
  · subst e; rw [hh]; rfl
  · simp [e]
theorem hfil_strike {q : List Int} {left : Lit → Bool} {c : List (Int × Int)} (hc : ∀ p ∈ c, okP p) {r : Int × Int} (hr : okP r) (hh : hitB q r = true) : (hfil q (fun z => left z && !z.sameKey (keyP r)) c).map keyP = delK (keyP r) ((hfil q left c).map keyP) := by
  unfold delK hfil
  rw [List.filter_map, List.filter_filter]
  congr 1
  refine List.filter_congr fun p hp => ?_
  show (!hitB q p || (left (keyP p) && !(keyP p).sameKey (keyP r))) = (decide (keyP p ≠ keyP r) && _)
  rw [sameKey_pair (hc p hp) hr]
  by_cases e : p = r
  · subst e; rw [hh]; simp
  · have e2 : keyP p ≠ keyP r := fun w => e (keyP_inj (hc p hp) hr w)
    simp [e, e2]
theorem wpList_next_pairs (w : World) {ops : Array Oper} {rest : List Oper} {o : Oper} {a : Act} {Q : Exit → Act → World → Prop} (hg : o.guard = none) (it : Operand) (hop : o.op = Op.next it false)
    (b r n : Nat) (D : DataW Unit) (left : Lit → Bool) (cnt : Nat) (hit : a.eval it = .pointer (some ⟨r, 0, none⟩)) (h : w.ranges Try.prog 54 unitElem b r n D left cnt)
    (hDone : (∀ kl, left kl = false) → wpList Try.prog ops Q rest (a.put o.dst (.tuple #[.bool false])) w)
    (hMore : ∀ (x y : Int) (w' : World) (cnt' : Nat), okP (x, y) → w'.ranges Try.prog 54 unitElem b r n D (fun z => left z && !z.sameKey (keyP (x, y))) cnt' → cnt' < cnt →
      w.grownBy w' (some r) → w'.heap.size = w.heap.size → (Instr.entry (.pointer (some ⟨r, 0, none⟩))).run Try.prog w' = .ok (.tuple #[.agg #[.int .i64 x, .int .i64 y], .agg #[]]) w' → wpList Try.prog ops Q rest (a.put o.dst (.tuple #[.bool true, .agg #[.int .i64 x, .int .i64 y], .agg #[]])) w') :
    wpList Try.prog ops Q (o :: rest) a w :=
  wpList_next_ranges w hg it hop 54 law54 unitElem pairV (fun _ : Unit => Value.agg #[]) (fun key kl hk => by obtain ⟨p, _, hp, _⟩ := key_inv hk; exact ⟨p, hp⟩) (fun v y hv => ⟨(), (unitElem_inv hv).1⟩) b r n D left cnt hit h (fun _ => hDone) (fun p _ kl y w' cnt' hkey _ _ _ hrg hlt hgr hsz hen => by
    obtain ⟨p', hok, e, rfl⟩ := key_inv hkey
    obtain rfl : p = p' := by
      obtain ⟨a, b⟩ := p
      obtain ⟨c, d⟩ := p'
      simp [pairV] at e
      rw [e.1, e.2]
    exact hMore p.1 p.2 w' cnt' hok hrg hlt hgr hsz hen)
theorem step_delete {P : Program} {ops : Array Oper} {o : Oper} {a : Act} {w : World} {K : Act → World → Prop} {Q : Exit → Act → World → Prop} {E : Prop} (hg : o.guard = none) (m x : Operand) (t k : TypeId) (hop : o.op = Op.call { callee := Callee.builtin Builtin.delete, args := #[m, x], argTypes := #[t, k] })
    (mv key : Value) (hm : a.eval m = mv) (hx : a.eval x = key) (w' : World) (hrun : ∀ ty, (Builtin.delete_ #[t, k] ty #[mv, key]).run P w = .ok (.tuple #[]) w') (hK : K (a.put o.dst (.tuple #[])) w') :
    if Region.wanted o (yielded ops a.tmps) = true then Oper.wp P o a w K Q else E := by
  have hw : Region.wanted o (yielded ops a.tmps) = true := by simp [Region.wanted, hg]
  rw [if_pos hw]
  unfold Oper.wp
  simp [execOp, hop, resolve, invoke, builtin, hm, hx, hrun, Result.andThen]
  exact hK
end Go.Proofs.Ytmdoamkockoipaa
