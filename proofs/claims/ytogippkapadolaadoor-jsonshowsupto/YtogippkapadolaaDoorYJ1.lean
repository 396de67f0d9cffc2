/- Laws on whole arrays in memory, over whatever program: an array is boxed, made, loaded and stored whole, the world behind it being a letter of which the blocks are told. -/
import Derived.WalkKit
import Derived.WalkSpells
import Derived.WalkLawsBesides
import Derived.Deep.MidRow
import Derived.Deep.WholeRow
import Derived.Deep.AppendLies
import Derived.Lib.AppendStr
namespace Go.Proofs.YtogippkapadolaaDoor
open Go.RowKit
variable {P : Program}

/-- Block b holds the cells cs. -/
def Holds (w : World) (b : Nat) (cs : List Value) (t : TypeId) : Prop := w.heap[b]? = some (.cells cs.toArray t (0, 0))

theorem Holds.lt {w : World} {b : Nat} {cs : List Value} {t : TypeId} (h : Holds w b cs t) : b < w.heap.size := by
  unfold Holds at h
  rcases Nat.lt_or_ge b w.heap.size with g | g
  · exact g
  · simp [Array.getElem?_eq_none g] at h
theorem Holds.cell {w : World} {b : Nat} {cs : List Value} {t : TypeId} (h : Holds w b cs t) (i : Nat) : w.cell? ⟨b, i, none⟩ = cs[i]? := by
  have := cell_of_row w b i cs.toArray t (0, 0) h
  simpa using this
theorem Holds.at {w : World} {b : Nat} {cs : List Value} {t : TypeId} (h : Holds w b cs t) (i : Nat) (v : Value) (hv : cs[i]? = some v) : w.cell? ⟨b, i, none⟩ = some v := by
  rw [h.cell, hv]
theorem Holds.frozen {w : World} {b : Nat} {cs : List Value} {t : TypeId} (h : Holds w b cs t) (i : Nat) : w.frozen? ⟨b, i, none⟩ = false :=
  frozen_of_row w b i cs.toArray t h
theorem Holds.set {w : World} {b : Nat} {cs : List Value} {t : TypeId} (h : Holds w b cs t) (i : Nat) (v : Value) : Holds (w.setCell ⟨b, i, none⟩ v) b (cs.set i v) t := by
  have := heap_setCell_same w b i cs.toArray t v h
  unfold Holds
  rw [this]; simp
theorem Holds.setOther {w : World} {b : Nat} {cs : List Value} {t : TypeId} (h : Holds w b cs t) (g i : Nat) (v : Value) (hne : b ≠ g) : Holds (w.setCell ⟨g, i, none⟩ v) b cs t := by
  unfold Holds
  rw [heap_setCell_other w ⟨g, i, none⟩ b v hne]; exact h
theorem Holds.drew {w : World} {b : Nat} {cs : List Value} {t : TypeId} (h : Holds w b cs t) : Holds w.drew b cs t := h
theorem Holds.below {w w' : World} {b B : Nat} {cs : List Value} {t : TypeId} (h : Holds w b cs t) (hb : Below B w w') (hB : b < B) : Holds w' b cs t := by
  unfold Holds
  rw [hb.block b hB]; exact h
theorem Holds.range {w : World} {b : Nat} {cs : List Value} {t : TypeId} (h : Holds w b cs t) (o : Nat) (ds : List Value) (hd : ∀ j v, ds[j]? = some v → cs[o + j]? = some v) : w.rangeAt b o ds :=
  fun j v hv => h.at _ _ (hd j v hv)
theorem Holds.there {w : World} {b : Nat} {cs : List Value} {t : TypeId} (h : Holds w b cs t) (o n : Nat) (hn : o + n ≤ cs.length) : w.there b o n :=
  fun j hj => ⟨by rw [h.cell, List.getElem?_eq_getElem (by omega)]; rfl, h.frozen _⟩

/-- What behind a 'new' is told of the world: its block is number N. -/
structure Anew (N : Nat) (w w' : World) (cs : List Value) (t : TypeId) : Prop where
  old : w.heap.size = N
  size : w'.heap.size = N + 1
  holds : Holds w' N cs t
  below : Below N w w'

theorem anew_alloc (N : Nat) (w : World) (hN : w.heap.size = N) (cs : List Value) (t : TypeId) : Anew N w (w.alloc (.cells cs.toArray t)) cs t :=
  hN ▸ ⟨rfl, by simp, heap_alloc_new w _, (Below.refl _ _).alloc (Nat.le_refl _) _⟩

theorem wpList_box_new {ops : Array Oper} {rest : List Oper} {o : Oper} {a : Act} {w : World} {Q : Exit → Act → World → Prop} (d : Nat) (hd : o.dst = some d) (hgd : o.guard = none) (t : TypeId) (x : Operand) (ho : o.op = .box t x)
    (N : Nat) (hN : w.heap.size = N) (cs : List Value) (hx : a.eval x = .agg cs.toArray)
    (h : ∀ w', Anew N w w' cs t → wpList P ops Q rest (a.put (some d) (.pointer (some ⟨N, 0, none⟩))) w') : wpList P ops Q (o :: rest) a w :=
  wpList_plain hgd fun K hK => by
    unfold Oper.wp execOp
    simp only [ho, hx, Instr.box, newVar, newRow, newObj, Value.cells, Sem.run_bind, Sem.run_pure]
    have := hK _ _ (hd ▸ h _ (anew_alloc N w hN cs t))
    subst hN
    exact this
theorem wpList_alloc_new {ops : Array Oper} {rest : List Oper} {o : Oper} {a : Act} {w : World} {Q : Exit → Act → World → Prop} (d : Nat) (hd : o.dst = some d) (hgd : o.guard = none) (t : TypeId) (ho : o.op = .alloc t)
    (N : Nat) (hN : w.heap.size = N) (cs : List Value) (hz : ∀ w, (zeroValue t).run P w = .ok (.agg cs.toArray) w)
    (h : ∀ w', Anew N w w' cs t → wpList P ops Q rest (a.put (some d) (.pointer (some ⟨N, 0, none⟩))) w') : wpList P ops Q (o :: rest) a w :=
  wpList_plain hgd fun K hK => by
    unfold Oper.wp execOp
    simp only [ho, hz, Instr.alloc, newVar, newRow, newObj, Value.cells, Sem.run_bind, Sem.run_pure, Result.andThen_ok]
    have := hK _ _ (hd ▸ h _ (anew_alloc N w hN cs t))
    subst hN
    exact this
theorem wpList_load_all {ops : Array Oper} {rest : List Oper} {o : Oper} {a : Act} {w : World} {Q : Exit → Act → World → Prop} (hgd : o.guard = none) (ty : TypeId) (x : Operand) (ho : o.op = .load ty x)
    (g : Nat) (hx : a.eval x = .pointer (some ⟨g, 0, none⟩)) (t : TypeId) (cs : List Value) (n : Nat) (e : TypeId) (hg : Holds w g cs t)
    (hu : P.underlying ty = some (.array n e)) (hi : (P.info? ty).map (·.size) = some cs.length)
    (h : wpList P ops Q rest (a.put o.dst (.agg cs.toArray)) w) : wpList P ops Q (o :: rest) a w :=
  wpList_load_row hgd ty x ho g hx t cs.toArray (0, 0) _ hg hu rfl (by simpa using hi) h
/-- What behind a store into block g is told of the world. -/
structure Turned (g : Nat) (w w' : World) (cs : List Value) (t : TypeId) : Prop where
  holds : Holds w' g cs t
  os : w'.os = w.os
  tape : w'.tape = w.tape
  output : w'.output = w.output
  size : w'.heap.size = w.heap.size
  others : ∀ k, k ≠ g → w'.heap[k]? = w.heap[k]?
theorem Turned.below {g B : Nat} {w w' : World} {cs : List Value} {t : TypeId} (h : Turned g w w' cs t) (hB : B ≤ g) : Below B w w' :=
  ⟨h.os, h.tape, h.output, Nat.le_of_eq h.size.symm, fun k hk => h.others k (by omega)⟩
theorem turned_setRow {w : World} {g : Nat} {old : List Value} {t : TypeId} (h : Holds w g old t) (cs : List Value) : Turned g w (w.setRow g cs.toArray) cs t :=
  ⟨setRow_heap w g _ _ t (0, 0) h, rfl, rfl, rfl, by simp, fun k hk => setRow_other w g k _ hk⟩

theorem wpList_store_all {ops : Array Oper} {rest : List Oper} {o : Oper} {a : Act} {w : World} {Q : Exit → Act → World → Prop} (hgd : o.guard = none) (ty : TypeId) (x y : Operand) (ho : o.op = .store ty x y)
    (g : Nat) (hx : a.eval x = .pointer (some ⟨g, 0, none⟩)) (cs : List Value) (hy : a.eval y = .agg cs.toArray) (t : TypeId) (old : List Value) (hg : Holds w g old t)
    (hi : (P.info? ty).map (·.size) = some cs.length) (hlen : old.length = cs.length) (h1 : ∀ v ∈ cs, v.oneCell' = true)
    (h : ∀ w', Turned g w w' cs t → wpList P ops Q rest (a.put o.dst undef) w') : wpList P ops Q (o :: rest) a w :=
  wpList_store_row hgd ty x y ho g cs.toArray hx hy t old.toArray hg (by simpa using hi) (by simpa using hlen) (all_oneCell_toArray h1) (h _ (turned_setRow hg cs))

/-- ds over cs from o on. -/
def overV (cs : List Value) (o : Nat) (ds : List Value) : List Value := cs.take o ++ ds ++ cs.drop (o + ds.length)
theorem overV_cons (cs : List Value) (o : Nat) (d : Value) (ds : List Value) (h : o < cs.length) : overV (cs.set o d) (o + 1) ds = overV cs o (d :: ds) := by
  have h1 : (cs.set o d).take (o + 1) = cs.take o ++ [d] := by
    rw [List.take_add_one, List.take_set_of_le (Nat.le_refl _)]
    simp [h]
  have h2 : (cs.set o d).drop (o + 1 + ds.length) = cs.drop (o + (d :: ds).length) := by
    rw [List.drop_set_of_lt (by omega)]
    congr 1
    simp; omega
  rw [overV, h1, h2, overV]; simp
theorem turned_setCells {t : TypeId} (b : Nat) : ∀ (ds : List Value) (o : Nat) (w : World) (cs : List Value), Holds w b cs t → o + ds.length ≤ cs.length → Turned b w (w.setCells b o ds) (overV cs o ds) t
  | [], o, w, cs, h, _ => by
    refine ⟨?_, rfl, rfl, rfl, rfl, fun _ _ => rfl⟩
    rw [World.setCells, overV]; simpa using h
  | d :: ds, o, w, cs, h, hl => by
    have hl' : o + (ds.length + 1) ≤ cs.length := by simpa using hl
    have ih := turned_setCells (t := t) b ds (o + 1) (w.setCell ⟨b, o, none⟩ d) (cs.set o d) (h.set o d) (by simp; omega)
    rw [World.setCells]
    refine ⟨?_, ih.os, ih.tape, ih.output, ih.size.trans (by simp), fun k hk => (ih.others k hk).trans (heap_setCell_other w ⟨b, o, none⟩ k d hk)⟩
    rw [← overV_cons cs o d ds (by omega)]
    exact ih.holds
/-- A store into the middle of a block. -/
theorem wpList_store_part {ops : Array Oper} {rest : List Oper} {o : Oper} {a : Act} {w : World} {Q : Exit → Act → World → Prop} (hgd : o.guard = none) (ty : TypeId) (x y : Operand) (ho : o.op = .store ty x y)
    (b off : Nat) (hx : a.eval x = .pointer (some ⟨b, off, none⟩)) (cs : List Value) (hy : a.eval y = .agg cs.toArray) (t : TypeId) (old : List Value) (hg : Holds w b old t)
    (hi : (P.info? ty).map (·.size) = some cs.length) (hfit : off + cs.length ≤ old.length) (h1 : ∀ v ∈ cs, v.oneCell' = true)
    (h : ∀ w', Turned b w w' (overV old off cs) t → wpList P ops Q rest (a.put o.dst undef) w') : wpList P ops Q (o :: rest) a w :=
  wpList_store_mid hgd ty x y ho b off cs.toArray hx hy (hg.there off _ (by simpa using hfit)) (by simpa using hi) (all_oneCell_toArray h1) (by simpa using h _ (turned_setCells b cs off w old hg hfit))
/-- A load out of the middle of a block. -/
theorem wpList_load_part {ops : Array Oper} {rest : List Oper} {o : Oper} {a : Act} {w : World} {Q : Exit → Act → World → Prop} (hgd : o.guard = none) (ty : TypeId) (x : Operand) (ho : o.op = .load ty x)
    (b off : Nat) (hx : a.eval x = .pointer (some ⟨b, off, none⟩)) (cs : List Value) (d : TypeDesc) (hr : w.rangeAt b off cs)
    (hu : P.underlying ty = some d) (hd : d.isRow = true) (hi : (P.info? ty).map (·.size) = some cs.length)
    (h : wpList P ops Q rest (a.put o.dst (.agg cs.toArray)) w) : wpList P ops Q (o :: rest) a w :=
  wpList_load_mid hgd ty x ho b off hx cs d hr hu hd hi h

/-- The n cells from where p points. -/
def rowOf (w : World) (p : Value) (n : Nat) : Option (List Value) :=
  match p with
  | .pointer (some ⟨b, o, none⟩) => (List.range n).mapM fun j => w.cell? ⟨b, o + j, none⟩
  | _ => none
theorem mapM_some {α β : Type} (f : α → Option β) : ∀ (l : List α) (r : List β), l.mapM f = some r ↔ r.length = l.length ∧ ∀ (j : Nat) (x : α), l[j]? = some x → ∃ y, r[j]? = some y ∧ f x = some y
  | [], r => by
    simp only [List.mapM_nil, List.length_nil]
    constructor
    · intro h
      cases h
      exact ⟨rfl, fun j x hx => by simp at hx⟩
    · intro h
      rw [List.eq_nil_of_length_eq_zero h.1]; rfl
  | a :: l, r => by
    rw [List.mapM_cons]
    cases hf : f a with
    | none =>
      simp only [Option.bind_eq_bind, Option.bind_none, reduceCtorEq, false_iff]
      intro h
      obtain ⟨y, _, hy⟩ := h.2 0 a rfl
      rw [hf] at hy; cases hy
    | some b =>
      cases hm : l.mapM f with
      | none =>
        simp only [Option.bind_eq_bind, Option.bind_some, Option.bind_none, reduceCtorEq, false_iff]
        intro h
        cases r with
        | nil => simp at h
        | cons b' r' =>
          have := (mapM_some f l r').2 ⟨by simpa using h.1, fun j x hx => h.2 (j + 1) x (by simpa using hx)⟩
          rw [hm] at this; cases this
      | some r0 =>
        have ih := (mapM_some f l r0).1 hm
        simp only [Option.bind_eq_bind, Option.bind_some, Option.pure_def, Option.some.injEq]
        constructor
        · rintro rfl
          refine ⟨by simp [ih.1], fun j x hx => ?_⟩
          cases j with
          | zero => simp at hx; subst hx; exact ⟨b, rfl, hf⟩
          | succ j => exact ih.2 j x (by simpa using hx)
        · intro h
          cases r with
          | nil => simp at h
          | cons b' r' =>
            obtain ⟨y, hy, hy'⟩ := h.2 0 a rfl
            simp at hy; subst hy
            rw [hf] at hy'; cases hy'
            have := (mapM_some f l r').2 ⟨by simpa using h.1, fun j x hx => h.2 (j + 1) x (by simpa using hx)⟩
            rw [hm] at this; cases this; rfl
theorem rowOf_range {w : World} {b o : Nat} {cs : List Value} (h : w.rangeAt b o cs) : rowOf w (.pointer (some ⟨b, o, none⟩)) cs.length = some cs := by
  show (List.range cs.length).mapM _ = _
  rw [mapM_some]
  refine ⟨by simp, fun j x hx => ?_⟩
  have hj : j < cs.length := by have := (List.getElem?_eq_some_iff.1 hx).1; simpa using this
  have : x = j := by rw [List.getElem?_range hj] at hx; exact (Option.some.inj hx).symm
  subst this
  exact ⟨cs[x], List.getElem?_eq_getElem hj, h x _ (List.getElem?_eq_getElem hj)⟩
theorem rangeAt_rowOf {w : World} {b o n : Nat} {cs : List Value} (h : rowOf w (.pointer (some ⟨b, o, none⟩)) n = some cs) : cs.length = n ∧ w.rangeAt b o cs := by
  have h : (List.range n).mapM (fun j => w.cell? ⟨b, o + j, none⟩) = some cs := h
  rw [mapM_some] at h
  have hl : cs.length = n := by simpa using h.1
  refine ⟨hl, fun j v hv => ?_⟩
  have hj : j < n := by have := (List.getElem?_eq_some_iff.1 hv).1; omega
  obtain ⟨y, hy, hy'⟩ := h.2 j j (List.getElem?_range hj)
  rw [hv] at hy; cases hy; exact hy'
/-- A load of a whole array, as a rule for the walk. -/
theorem wp_load_rule {ty : TypeId} {n : Nat} {e : TypeId} (hu : P.underlying ty = some (.array n e)) (hi : (P.info? ty).map (·.size) = some n)
    (dst : Option Tmp) (x : Operand) (t : TypeId) (pos : String) (af : Array Edge) (gd : Option (Nat × Bool)) (a : Act) (w : World) (K : Act → World → Prop) (Q : Exit → Act → World → Prop)
    (h : (rowOf w (a.eval x) n).isSome = true) :
    Oper.wp P { dst := dst, op := .load ty x, type := t, pos := pos, after := af, guard := gd } a w K Q = K (a.put dst (.agg ((rowOf w (a.eval x) n).getD []).toArray)) w := by
  obtain ⟨cs, hcs⟩ := Option.isSome_iff_exists.1 h
  rw [hcs]
  cases hp : a.eval x with
  | pointer q =>
    cases q with
    | none => rw [hp] at hcs; simp [rowOf] at hcs
    | some ad =>
      obtain ⟨b, o, s⟩ := ad
      cases s with
      | some s => rw [hp] at hcs; simp [rowOf] at hcs
      | none =>
        rw [hp] at hcs
        obtain ⟨hl, hr⟩ := rangeAt_rowOf hcs
        have hrun := run_loadVar_mid (P := P) w b o ty cs _ hr hu rfl (by rw [hl]; exact hi)
        unfold Oper.wp execOp
        simp only [hp, Instr.loadAt, Instr.sureAddr, Sem.run_bind, Sem.run_pure, Result.andThen_ok, hrun, Oper.upon, Option.getD_some]
  | _ => rw [hp] at hcs; simp [rowOf] at hcs

/-- An array value's element, at a place that is there. -/
theorem run_index_array (w : World) (ty e : TypeId) (n : Nat) (ik : IntKind) (hu : P.underlying ty = some (.array n e)) (hue : P.underlying e = some (.int ik)) (hs : (P.info? e).map (·.size) = some 1)
    (cs : List Value) (k : Nat) (hk : k < n) (v : Value) (hv : cs[k]? = some v) : (Instr.index ty (.agg cs.toArray) (.int .i64 (k : Int))).run P w = .ok v w := by
  have hs1 : (sizeOf e).run P w = .ok 1 w := by
    cases hq : P.info? e with
    | none => simp [hq] at hs
    | some i => simp [hq] at hs; simp [sizeOf, typeInfo, hq, hs]
  have hagg : (isAgg e).run P w = .ok false w := by
    unfold isAgg
    rw [Sem.run_bind, run_underlying hue w]; rfl
  have h0 : (0 : Int) ≤ k ∧ (k : Int) < n := by omega
  simp only [Instr.index, asIntOf, Sem.run_bind, Sem.run_pure, Result.andThen_ok, run_underlying hu w, h0, and_self, if_true, hs1, part, hagg]
  simp [hv]

theorem run_sizeOf {e : TypeId} {n : Nat} (hs : (P.info? e).map (·.size) = some n) (w : World) : (sizeOf e).run P w = .ok n w := by
  cases hq : P.info? e with
  | none => simp [hq] at hs
  | some i => simp [hq] at hs; simp [sizeOf, typeInfo, hq, hs]
/-- 'a[l:]' of an array behind a pointer. -/
theorem run_sliceAt_from (w : World) (ty e : TypeId) (n : Nat) (hu : P.underlying ty = some (.array n e)) (hs : (P.info? e).map (·.size) = some 1) (b o l : Nat) (hl : l < n) :
    (Instr.sliceAt ty (.pointer (some ⟨b, o, none⟩)) (some (.int .u64 (l : Int))) none none).run P w = .ok (.slice (some ⟨b, o + l, none⟩) (n - l) (n - l)) w := by
  have h1 : ¬ n = l := by omega
  simp only [Instr.sliceAt, Sem.run_bind, run_underlying hu w, Result.andThen_ok, Instr.sureAddr, Sem.run_pure]
  simp [go_sem, Instr.sliceBounds, show (l : Int) ≤ (n : Int) by omega, h1, run_sizeOf hs, Addr.add_mid]
theorem run_copy_string (w : World) (dT sT ty elem : TypeId) (b o dLen dCap : Nat) (s : ByteArray) (hu : P.underlying dT = some (.slice elem)) (hs : (P.info? elem).map (·.size) = some 1)
    (n : Nat) (hn : Nat.min s.size dLen = n) (cs : List Value) (hcs : cs = (s.data.toList.map fun b => .int .u8 b.toNat).take n) (ht : w.there b o n) :
    (Builtin.copy_ #[dT, sT] ty #[.slice (some ⟨b, o, none⟩) dLen dCap, .string s]).run P w = .ok (goInt n) (w.setCells b o cs) := by
  have hl : cs.length = n := by
    rw [hcs]
    have : Nat.min s.size dLen ≤ s.size := Nat.min_le_left _ _
    simp; omega
  have hst := run_storeCells_cells (P := P) b o cs 0 w (fun j hj => by simpa using (ht j (by omega)).1) (fun j hj => by simpa using (ht j (by omega)).2) (fun v hv => by
    rw [hcs] at hv
    obtain ⟨x, _, rfl⟩ := List.mem_map.1 (List.mem_of_mem_take hv)
    rfl)
  rw [Nat.add_zero, hcs] at hst
  rw [hcs]
  simp [Builtin.copy_, run_underlying hu, Builtin.lenOf, Builtin.firstCells, run_sizeOf hs, hn, hst]
theorem turned_set {w : World} {b : Nat} {cs : List Value} {t : TypeId} (h : Holds w b cs t) (i : Nat) (v : Value) : Turned b w (w.setCell ⟨b, i, none⟩ v) (cs.set i v) t :=
  ⟨h.set i v, rfl, rfl, rfl, by simp, fun k hk => heap_setCell_other w ⟨b, i, none⟩ k v hk⟩
/-- A store of one integer; the world behind it a letter. -/
theorem wpList_store_int {ops : Array Oper} {rest : List Oper} {o : Oper} {a : Act} {w : World} {Q : Exit → Act → World → Prop} (hgd : o.guard = none) (ty : TypeId) (x y : Operand) (ho : o.op = .store ty x y)
    (hs : (P.info? ty).map (·.size) = some 1) (b i : Nat) (hx : a.eval x = .pointer (some ⟨b, i, none⟩)) (k : IntKind) (n : Int) (hy : a.eval y = .int k n) (cs : List Value) (t : TypeId) (hg : Holds w b cs t) (hi : i < cs.length)
    (h : ∀ w', Turned b w w' (cs.set i (.int k n)) t → wpList P ops Q rest (a.put o.dst undef) w') : wpList P ops Q (o :: rest) a w :=
  wpList_plain hgd fun K hK => by
    have hst := run_storeCells_cells (P := P) b i [.int k n] 0 w (fun j hj => by
      have : j = 0 := by simpa using hj
      subst this
      show (w.cell? ⟨b, i, none⟩).isSome = true
      rw [hg.cell, List.getElem?_eq_getElem hi]; rfl) (fun j _ => hg.frozen _) (fun v hv => by
      have : v = .int k n := by simpa using hv
      rw [this]; rfl)
    have hst : (storeCells ⟨b, i, none⟩ [.int k n]).run P w = .ok () (w.setCell ⟨b, i, none⟩ (.int k n)) := hst
    unfold Oper.wp execOp
    simp only [ho, hx, hy, Instr.storeAt, Instr.sureAddr, storeVar, Value.cells, Sem.run_bind, Sem.run_pure, Result.andThen_ok, run_sizeOf hs]
    rw [if_neg (by simp), hst]
    exact hK _ _ (h _ (turned_set hg i _))
theorem holds_new (w : World) (cs : List Value) (t : TypeId) : Holds (w.alloc (.cells cs.toArray t)) w.heap.size cs t := heap_alloc_new w _
theorem Holds.alloc {w : World} {b : Nat} {cs : List Value} {t : TypeId} (h : Holds w b cs t) (o : Obj) : Holds (w.alloc o) b cs t :=
  h.below ((Below.refl _ _).alloc (Nat.le_refl _) o) h.lt
theorem Holds.inj {w : World} {b : Nat} {cs ds : List Value} {t u : TypeId} (h : Holds w b cs t) (k : Holds w b ds u) : cs = ds ∧ t = u := by
  unfold Holds at h k
  rw [h] at k
  simp at k
  exact k
/-- What behind a call that may turn block b alone is told of the world. -/
structure Upd (b : Nat) (w w' : World) : Prop where
  os : w'.os = w.os
  tape : w'.tape = w.tape
  output : w'.output = w.output
  size : w.heap.size ≤ w'.heap.size
  block : ∀ k, k < w.heap.size → k ≠ b → w'.heap[k]? = w.heap[k]?
theorem Upd.refl (b : Nat) (w : World) : Upd b w w := ⟨rfl, rfl, rfl, Nat.le_refl _, fun _ _ _ => rfl⟩
theorem Upd.trans {b : Nat} {x y z : World} (h : Upd b x y) (k : Upd b y z) : Upd b x z :=
  ⟨k.os.trans h.os, k.tape.trans h.tape, k.output.trans h.output, Nat.le_trans h.size k.size, fun i hi hb => (k.block i (Nat.lt_of_lt_of_le hi h.size) hb).trans (h.block i hi hb)⟩
theorem Upd.drew {b : Nat} {x y : World} (h : Upd b x y) : Upd b x y.drew := ⟨h.os, h.tape, h.output, h.size, h.block⟩
theorem Upd.setCell {b : Nat} {x y : World} (h : Upd b x y) (i : Nat) (v : Value) : Upd b x (y.setCell ⟨b, i, none⟩ v) :=
  h.trans ⟨rfl, rfl, rfl, by simp, fun k _ hk => heap_setCell_other y ⟨b, i, none⟩ k v hk⟩
theorem Upd.ofBelow {b : Nat} {x y : World} (h : Below x.heap.size x y) : Upd b x y := ⟨h.os, h.tape, h.output, h.size, fun k hk _ => h.block k hk⟩
theorem Upd.alloc {b : Nat} {x y : World} (h : Upd b x y) (o : Obj) : Upd b x (y.alloc o) := h.trans (Upd.ofBelow ((Below.refl _ _).alloc (Nat.le_refl _) o))
theorem Upd.below {b B : Nat} {x y : World} (h : Upd b x y) (hB : B ≤ b) (hs : B ≤ x.heap.size) : Below B x y :=
  ⟨h.os, h.tape, h.output, h.size, fun k hk => h.block k (by omega) (by omega)⟩
theorem Holds.upd {w w' : World} {b g : Nat} {cs : List Value} {t : TypeId} (h : Holds w g cs t) (hu : Upd b w w') (hne : g ≠ b) : Holds w' g cs t := by
  unfold Holds
  rw [hu.block g h.lt hne]; exact h

theorem wrap_u64 (n : Int) : IntKind.u64.wrap n = n % 18446744073709551616 := by simp [IntKind.wrap, IntKind.bits, IntKind.signed]
theorem wrap_u8 (n : Int) : IntKind.u8.wrap n = n % 256 := by simp [IntKind.wrap, IntKind.bits, IntKind.signed]
theorem ret_int {k : IntKind} {a b : Int} (h : a = b) : Ending.returned (.int k a) = .returned (.int k b) := by rw [h]

/-- What a slot holds as an integer. -/
def intOf : Value → Int
  | .int _ n => n
  | _ => 0
@[simp] theorem intOf_int (k : IntKind) (n : Int) : intOf (.int k n) = n := rfl
end Go.Proofs.YtogippkapadolaaDoor
