/- A tally in memory: its map of places, its seats, its counts. -/
import Derived.Test.YtmhpfncbbboamaaGreatQmSmall
import Derived.Sort.KeysCollected
import Derived.Maps.RangeWalk
import Derived.Maps.OwnSet
namespace Go.Proofs.YtmhpfncbbboamaaGreat
open Go.RowKit Go.Maps Go.WideMaps

def I64 (x : Int) : Prop := -9223372036854775808 ≤ x ∧ x ≤ 9223372036854775807
def intElem : Value → Option (DataW Unit × List MemPlace)
  | .int .i64 a => some (.lit (.int .i64 a), [])
  | _ => none
theorem intElem_inv {v : Value} {y : DataW Unit × List MemPlace} (h : intElem v = some y) : ∃ a, v = .int .i64 a ∧ y = (.lit (.int .i64 a), []) := by
  unfold intElem at h
  split at h
  · exact ⟨_, rfl, (Option.some.inj h).symm⟩
  · cases h
def plD (L : List Int) (x : Int) : DataW Unit := if x ∈ L then .lit (.int .i64 (L.idxOf x : Int)) else .nil
structure PlOf (D : DataW Unit) (L : List Int) : Prop where
  at_ : ∀ x, D.atKey (.int .i64 x) .nil = plD L x
  has_ : ∀ x, has D (.int .i64 x) = decide (x ∈ L)
  size_ : Maps.size D = L.length
def PlAt (w : World) (mb : Nat) (L : List Int) : Prop := ∃ n D, w.ownsMap Tryz.prog 3 intElem mb n D ∧ PlOf D L
theorem qund3 : Tryz.prog.underlying 3 = some (.int .i64) := by kernel_rfl
theorem qund25 : Tryz.prog.underlying 25 = some (.map 3 3) := by kernel_rfl
theorem law3 : Keyed Tryz.prog 3 := int_keyed qund3
theorem zero3 (w : World) : (zeroValue 3).run Tryz.prog w = .ok (.int .i64 0) w := by kernel_rfl
theorem key3 (x : Int) (h : I64 x) : keyOf Tryz.prog 3 (.int .i64 x) = some (.int .i64 x) := keyOf_int_mk qund3 (by
  obtain ⟨h1, h2⟩ := h
  have e1 : IntKind.i64.min = -9223372036854775808 := by decide
  have e2 : IntKind.i64.max = 9223372036854775807 := by decide
  simp [Lit.wf, e1, e2]; omega)
theorem PlAt.same {w w' : World} {mb : Nat} {L : List Int} (h : PlAt w mb L) (hs : w'.heap[mb]? = w.heap[mb]?) : PlAt w' mb L := by
  obtain ⟨n, D, ⟨es, cl, hb, r⟩, h1⟩ := h
  exact ⟨n, D, ⟨es, cl, hs.trans hb, r⟩, h1⟩
theorem PlAt.lt {w : World} {mb : Nat} {L : List Int} (h : PlAt w mb L) : mb < w.heap.size := by
  obtain ⟨n, D, ⟨es, cl, hb, r⟩, h1⟩ := h
  exact (Array.getElem?_eq_some_iff.1 hb).1
theorem PlAt.isMap {w : World} {mb : Nat} {L : List Int} (h : PlAt w mb L) : ∃ es c, w.heap[mb]? = some (Obj.map es c) := by
  obtain ⟨n, D, ⟨es, cl, hb, r⟩, h1⟩ := h
  exact ⟨es, cl, hb⟩
theorem PlAt.gr {w w' : World} {mb : Nat} {L : List Int} (h : PlAt w mb L) (hg : Gr w w') : PlAt w' mb L := h.same (Below.block hg mb h.lt)
theorem pl_made (w : World) : PlAt (w.alloc (.map #[] 0)) w.heap.size [] :=
  ⟨0, .map [], World.ownsMap_made w Tryz.prog 3 intElem, fun _ => rfl, fun _ => by simp [has], rfl⟩
def plI (L : List Int) (x : Int) : Int := if x ∈ L then (L.idxOf x : Int) else 0
theorem PlAt.look {w : World} {mb : Nat} {L : List Int} (h : PlAt w mb L) (x : Int) (hx : I64 x) : (Instr.lookup 25 (.map (some mb)) (.int .i64 x) true).run Tryz.prog w = .ok (.tuple #[.int .i64 (plI L x), .bool (decide (x ∈ L))]) w := by
  obtain ⟨n, D, ⟨es, clock, hb, F, _, rfl⟩, hat, _⟩ := h
  rcases Maps.fit_look true law3 qund25 (zero3 w) hb F (key3 x hx) with ⟨hrun, _, ha⟩ | ⟨e0, y, _, _, hrun, hR, ha, _⟩
  · have q := (ha .nil).symm.trans (hat x)
    have hz : x ∉ L := fun hz => by rw [plD, if_pos hz] at q; cases q
    rw [hrun, plI, if_neg hz, decide_eq_false hz]; rfl
  · have q := (ha .nil).symm.trans (hat x)
    obtain ⟨m, hv, hy⟩ := intElem_inv hR
    rw [hy] at q
    by_cases hz : x ∈ L
    · rw [plD, if_pos hz] at q
      simp at q
      rw [hrun, hv, q, plI, if_pos hz, decide_eq_true hz]; rfl
    · rw [plD, if_neg hz] at q; cases q
theorem look_none (x : Int) (hx : I64 x) (w : World) : (Instr.lookup 25 (.map none) (.int .i64 x) true).run Tryz.prog w = .ok (.tuple #[.int .i64 0, .bool false]) w := by
  rw [Maps.look_nil true law3 qund25 (zero3 w) (key3 x hx)]; rfl
theorem pl_tight {w : World} {mb n : Nat} {D : DataW Unit} (h : w.ownsMap Tryz.prog 3 intElem mb n D) : w.ownsMap Tryz.prog 3 intElem mb (Maps.size D) D := by
  obtain ⟨es, clock, hb, F, hs, hD⟩ := h
  refine ⟨es, clock, hb, F, ?_, hD⟩
  rw [hD]
  show es.size ≤ List.length _
  rw [length_read]
  exact Nat.le_refl _
theorem isKeyLit_int (x : Int) : WideAt.IsKeyLit (.int .i64 x) := trivial
theorem PlAt.store {w : World} {mb : Nat} {L : List Int} (h : PlAt w mb L) (hl : L.length < maxLen) (x : Int) (hx : I64 x) (hn : x ∉ L) :
    ∃ w', (Instr.mapUpdate 25 (.map (some mb)) (.int .i64 x) (.int .i64 (L.length : Int))).run Tryz.prog w = .ok () w' ∧ PlAt w' mb (L ++ [x]) ∧ Upd mb w w' := by
  obtain ⟨n, D, hown, hM⟩ := h
  obtain ⟨w1, hput, hown1, hturn1⟩ := (pl_tight hown).store law3 qund25 (by rw [hM.size_]; exact hl) (key3 x hx) (show intElem (.int .i64 (L.length : Int)) = some (.lit (.int .i64 (L.length : Int)), []) from rfl)
  have hg := hturn1.grown
  refine ⟨w1, hput, ⟨_, _, hown1, fun y => ?_, fun y => ?_, ?_⟩, ⟨hg.os, hg.tape, hg.output, hg.size, fun i hi hne => hg.block i hi (by simpa using hne)⟩⟩
  · by_cases e : y = x
    · subst e
      rw [atKey_put_same hown.isMap (isKeyLit_int _), plD, if_pos (by simp), List.idxOf_append, if_neg hn]
      simp
    · rw [atKey_put_other (fun q => e (by simpa using q)), hM.at_, plD, plD]
      by_cases hy : y ∈ L
      · rw [if_pos hy, if_pos (by simp [hy]), List.idxOf_append, if_pos hy]
      · rw [if_neg hy, if_neg (by simp [hy, e])]
  · by_cases e : y = x
    · subst e
      rw [has_put_same hown.isMap (isKeyLit_int _)]; simp
    · rw [has_put_other (fun q => e (by simpa using q)), hM.has_]
      simp [e]
  · rw [size_put (hown.tidy law3), hM.has_, hM.size_]
    simp [hn]
/-! A row that a call owns, as a fact that lasts while its block does. -/
theorem owns_same {w w' : World} {base : Nat} {e : TypeId} {size : Nat} {v : Value} {n : Nat} {xs : List Value} (h : w.ownsRow base e size v n xs) (hs : ∀ g, v.ownBlock = some g → w'.heap[g]? = w.heap[g]?) : w'.ownsRow base e size v n xs := by
  obtain ⟨h1, h2 | ⟨g, cap, cur, rfl, hb, hg, r⟩⟩ := h
  · exact ⟨h1, .inl h2⟩
  · exact ⟨h1, .inr ⟨g, cap, cur, rfl, hb, (hs g rfl).trans hg, r⟩⟩
theorem owns_lt {w : World} {base : Nat} {e : TypeId} {size : Nat} {v : Value} {n : Nat} {xs : List Value} (h : w.ownsRow base e size v n xs) {g : Nat} (hg : v.ownBlock = some g) : g < w.heap.size := by
  obtain ⟨h1, ⟨rfl, _⟩ | ⟨g', cap, cur, rfl, hb, hh, r⟩⟩ := h
  · cases hg
  · simp [Value.ownBlock] at hg
    subst hg
    exact (Array.getElem?_eq_some_iff.1 hh).1
theorem owns_cells {w : World} {base : Nat} {e : TypeId} {size : Nat} {v : Value} {n : Nat} {xs : List Value} (h : w.ownsRow base e size v n xs) {g : Nat} (hg : v.ownBlock = some g) : ∃ cur, w.heap[g]? = some (.cells cur e (0, 0)) := by
  obtain ⟨h1, ⟨rfl, _⟩ | ⟨g', cap, cur, rfl, hb, hh, r⟩⟩ := h
  · cases hg
  · simp [Value.ownBlock] at hg
    subst hg
    exact ⟨_, hh⟩
def sesF (l : Ses) : List Value := l.flatMap seV
theorem sesF_app (a b : Ses) : sesF (a ++ b) = sesF a ++ sesF b := by simp [sesF]
theorem sesF_len (l : Ses) : (sesF l).length = l.length * 3 := by
  induction l with
  | nil => rfl
  | cons s l ih => rw [sesF, List.flatMap_cons, List.length_append]; show 3 + (sesF l).length = _; rw [ih, List.length_cons]; omega
theorem sesF_at {l : Ses} {i : Nat} {s : Se} (h : l[i]? = some s) : ∀ j v, (seV s)[j]? = some v → (sesF l)[i * 3 + j]? = some v := by
  induction l generalizing i with
  | nil => simp at h
  | cons t l ih =>
    intro j v hv
    have hj : j < 3 := (List.getElem?_eq_some_iff.1 hv).1
    cases i with
    | zero =>
      simp at h; subst h
      rw [sesF, List.flatMap_cons, List.getElem?_append_left (by show 0 * 3 + j < 3; omega)]
      simpa using hv
    | succ i =>
      rw [sesF, List.flatMap_cons, List.getElem?_append_right (by show 3 ≤ _; omega)]
      have := ih (i := i) (by simpa using h) j v hv
      rw [show (i + 1) * 3 + j - (seV t).length = i * 3 + j by show _ - 3 = _; omega]
      exact this
theorem sesF_set (l : Ses) (i : Nat) (x f : Int) (k : Nat) (k' : Nat) (h : l[i]? = some (x, f, k)) : sesF (l.set i (x, f, k')) = (sesF l).set (i * 3 + 2) (.int .i64 (k' : Int)) := by
  induction l generalizing i with
  | nil => simp at h
  | cons t l ih =>
    cases i with
    | zero =>
      simp at h; subst h
      rfl
    | succ i =>
      rw [List.set_cons_succ, sesF, List.flatMap_cons, sesF, List.flatMap_cons, List.set_append_right _ _ (by show 3 ≤ _; omega)]
      have := ih i (by simpa using h)
      unfold sesF at this
      rw [this, show (i + 1) * 3 + 2 - (seV t).length = i * 3 + 2 by show _ - 3 = _; omega]
/-- What a tally's block holds. -/
def tyC (v mv : Value) (l : Ses) (need prime : Int) (rest : List Value) : List Value :=
  v :: mv :: .int .i64 (cntA l 0 : Int) :: .int .i64 (cntP l 0 : Int) :: .int .i64 (cntA l 1 : Int) :: .int .i64 (cntP l 1 : Int) :: .int .i64 (cntA l 2 : Int) :: .int .i64 (cntP l 2 : Int) :: .int .i64 need :: .int .i64 prime :: rest
/-- A tally at block b, all of it from lo up to hi. -/
structure TyAt (lo hi : Nat) (rest : List Value) (ty : TypeId) (need prime : Int) (w : World) (b : Nat) (l : Ses) : Prop where
  low : lo ≤ b ∧ b < hi
  top : hi ≤ w.heap.size
  once : Once l
  few : l.length ≤ 1000
  mem : ∃ v mb, Holds w b (tyC v (.map (some mb)) l need prime rest) ty ∧ (lo ≤ mb ∧ mb < hi) ∧ PlAt w mb (l.map (·.1)) ∧ w.ownsRow 0 77 3 v l.length (sesF l) ∧ ∀ g, v.ownBlock = some g → lo ≤ g ∧ g < hi ∧ g ≠ b
theorem TyAt.gr {lo hi : Nat} {rest : List Value} {ty : TypeId} {need prime : Int} {w w' : World} {b : Nat} {l : Ses} (h : TyAt lo hi rest ty need prime w b l) (hg : Gr w w') : TyAt lo hi rest ty need prime w' b l := by
  obtain ⟨h1, h2, h3, h4, v, mb, hH, hm, hP, hR, hv⟩ := h
  exact ⟨h1, Nat.le_trans h2 (Below.size hg), h3, h4, v, mb, hH.below hg hH.lt, hm, hP.gr hg, owns_same hR fun g q => Below.block hg g (owns_lt hR q), hv⟩
/-- What is between lo and hi may change; all else stays. -/
structure Mid (lo hi : Nat) (w w' : World) : Prop where
  os : w'.os = w.os
  tape : w'.tape = w.tape
  output : w'.output = w.output
  size : w.heap.size ≤ w'.heap.size
  block : ∀ g, g < w.heap.size → (g < lo ∨ hi ≤ g) → w'.heap[g]? = w.heap[g]?
theorem Mid.refl (lo hi : Nat) (w : World) : Mid lo hi w w := ⟨rfl, rfl, rfl, Nat.le_refl _, fun _ _ _ => rfl⟩
theorem Mid.trans {lo hi : Nat} {x y z : World} (h : Mid lo hi x y) (k : Mid lo hi y z) : Mid lo hi x z :=
  ⟨k.os.trans h.os, k.tape.trans h.tape, k.output.trans h.output, Nat.le_trans h.size k.size, fun g hg hn => (k.block g (Nat.lt_of_lt_of_le hg h.size) hn).trans (h.block g hg hn)⟩
theorem Mid.ofGr {lo hi : Nat} {w w' : World} (h : Gr w w') : Mid lo hi w w' := ⟨h.os, h.tape, h.output, h.size, fun g hg _ => Below.block h g hg⟩
theorem Mid.toBelow {lo hi : Nat} {w w' : World} (h : Mid lo hi w w') (hl : lo ≤ w.heap.size) : Below lo w w' := ⟨h.os, h.tape, h.output, h.size, fun g hg => h.block g (by omega) (.inl hg)⟩
theorem Mid.wide {lo hi lo' hi' : Nat} {w w' : World} (h : Mid lo hi w w') (h1 : lo' ≤ lo) (h2 : hi ≤ hi') : Mid lo' hi' w w' :=
  ⟨h.os, h.tape, h.output, h.size, fun g hg hn => h.block g hg (by omega)⟩
/-- A tally elsewhere stays. -/
theorem TyAt.mid {lo hi lo' hi' : Nat} {rest : List Value} {ty : TypeId} {need prime : Int} {w w' : World} {b : Nat} {l : Ses} (h : TyAt lo hi rest ty need prime w b l) (hg : Mid lo' hi' w w') (ha : hi ≤ lo' ∨ hi' ≤ lo) : TyAt lo hi rest ty need prime w' b l := by
  obtain ⟨h1, h2, h3, h4, v, mb, hH, hm, hP, hR, hv⟩ := h
  refine ⟨h1, Nat.le_trans h2 hg.size, h3, h4, v, mb, ?_, hm, hP.same (hg.block mb hP.lt (by omega)), owns_same hR fun g q => ?_, hv⟩
  · unfold Holds
    rw [hg.block b hH.lt (by omega)]; exact hH
  · have := hv g q
    exact hg.block g (owns_lt hR q) (by omega)
end Go.Proofs.YtmhpfncbbboamaaGreat
