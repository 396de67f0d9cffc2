/- gossip's Read (31): regions and code by tools/gen_gread.py. -/
import Derived.Test.YthmnjebmnocoiaaGreatZGsRdA
import Derived.Test.YthmnjebmnocoiaaGreatZGsRdBk
import Derived.Test.YthmnjebmnocoiaaGreatZGsPlan
import Derived.Test.YthmnjebmnocoiaaGreatZR3
import Derived.Test.YthmnjebmnocoiaaGreatZGsNewW
import Derived.Test.YthmnjebmnocoiaaGreatZGsBytB
namespace Go.Proofs.YthmnjebmnocoiaaGreat.En
open Go.RowKit
theorem results_ring2 {fn : Func} {p u : Tmp} (h : fn.results = #[.cell p 28, .tmp u]) (tmps : Array Value) (w : World) (b : Nat) (cs : List Value) (hp : tmps.getD p undef = .pointer (some ⟨b, 0, none⟩)) (hb : Holds w b cs 28) (hl : cs.length = 17) :
    (results fn tmps).run Tryz.prog w = .ok (.tuple #[.agg cs.toArray, tmps.getD u undef]) w := by
  have hr : w.rangeAt b 0 cs := hb.range 0 cs (fun j v hv => by rw [Nat.zero_add]; exact hv)
  have := run_loadVar_mid (P := Tryz.prog) w b 0 28 cs _ hr Tryz.underlying28 rfl (by rw [hl]; exact siz28)
  have hp' : tmps[p]?.getD undef = .pointer (some ⟨b, 0, none⟩) := by rw [← Array.getD_eq_getD_getElem?]; exact hp
  simp [results, h, hp', asAddr, this]
theorem op_bd2 {P : Program} {Q : Exit → Act → World → Prop} {o : Oper} {a : Act} {w : World} {K : Act → World → Prop} (t i j : Nat) (u v : Operand) (s r q : Value) (ho : o.op = .build t #[(i, u), (j, v)]) (e1 : a.eval u = s) (e2 : a.eval v = r) (hr : ∀ y, (Instr.build t #[(i, s), (j, r)]).run P y = .ok q y) (h : K (a.put o.dst q) w) : o.wp P a w K Q := by
  refine op_val q (y := w) ?_ h
  unfold execOp
  simp only [ho, List.map_toArray, List.map_cons, List.map_nil, e1, e2, Sem.run_bind, hr, Sem.run_pure, Result.andThen_ok]
theorem op_bd0' {P : Program} {Q : Exit → Act → World → Prop} {o : Oper} {a : Act} {w : World} {K : Act → World → Prop} (t : Nat) (q : Value) (ho : o.op = .build t #[]) (hr : ∀ y, (Instr.build t #[]).run P y = .ok q y) (h : K (a.put o.dst q) w) : o.wp P a w K Q := by
  refine op_val q (y := w) ?_ h
  unfold execOp
  simp only [ho, List.map_toArray, List.map_nil, Sem.run_bind, hr, Sem.run_pure, Result.andThen_ok]
theorem op_bd2' {P : Program} {Q : Exit → Act → World → Prop} {o : Oper} {a : Act} {w : World} {K : Act → World → Prop} (t i j : Nat) (u v : Operand) (s r q : Value) (ho : o.op = .build t #[(i, u), (j, v)]) (e1 : a.eval u = s) (e2 : a.eval v = r) (hr : ∀ y, (Instr.build t #[(i, s), (j, r)]).run P y = .ok q y) (d : Nat) (hd : o.dst = some d) (h : K (a.put (some d) q) w) : o.wp P a w K Q := op_bd2 t i j u v s r q ho e1 e2 hr (by rw [hd]; exact h)
theorem op_fa' {P : Program} {Q : Exit → Act → World → Prop} {o : Oper} {a : Act} {w : World} {K : Act → World → Prop} (t : TypeId) (u : Operand) (k : Nat) (s q : Value) (ho : o.op = .fieldAddr t u k) (e : a.eval u = s) (hr : ∀ w, (Instr.fieldAt t s k).run P w = .ok q w) (d : Nat) (hd : o.dst = some d) (h : K (a.put (some d) q) w) : o.wp P a w K Q := op_fa t u k s q ho e hr (by rw [hd]; exact h)
theorem op_ixa' {P : Program} {Q : Exit → Act → World → Prop} {o : Oper} {a : Act} {w : World} {K : Act → World → Prop} (t : TypeId) (u v : Operand) (s r q : Value) (ho : o.op = .indexAddr t u v) (e1 : a.eval u = s) (e2 : a.eval v = r) (hr : ∀ w, (Instr.indexAt t s r).run P w = .ok q w) (d : Nat) (hd : o.dst = some d) (h : K (a.put (some d) q) w) : o.wp P a w K Q := op_ixa t u v s r q ho e1 e2 hr (by rw [hd]; exact h)
theorem op_mv {P : Program} {Q : Exit → Act → World → Prop} {o : Oper} {a : Act} {w : World} {K : Act → World → Prop} (u : Operand) (s : Value) (ho : o.op = .move u ∨ o.op = .assign u) (e : a.eval u = s) (d : Nat) (hd : o.dst = some d) (h : K (a.put (some d) s) w) : o.wp P a w K Q := op_move u ho (by rw [e, hd]; exact h)
theorem siz25 : (Tryz.prog.info? 25).map (·.size) = some 2 := by kernel_rfl
def owA (o : Ow) : Value := .agg #[.int .i64 o.1, .int .u64 (o.2 : Int)]
theorem run_ow (a : Int) (c : Nat) (y : World) : (Instr.build 25 #[(0, .int .i64 a), (1, .int .u64 (c : Int))]).run Tryz.prog y = .ok (owA (a, c)) y := by kernel_rfl
theorem Turned.upd {c : Nat} {x y : World} {cs : List Value} {t : TypeId} (h : Turned c x y cs t) : Upd c x y := ⟨h.os, h.tape, h.output, Nat.le_of_eq h.size.symm, fun k _ hk => h.others k hk⟩
theorem Mem.setOwn {K : Kind} {b c m M k : Nat} {w x y : World} {v : Value} {ms : List Mb} {os : List Ow} {st : Rd.St} {o : Ow} (h : Mem K b c m M w x v ms os st) (t : Turned c x y (overV (ringC v (ms, os)) (1 + k * 2) (owV o)) 28) (hk : k < os.length) : Mem K b c m M w y v ms (os.set k o) st := by
  have h1 := h.MN
  have h2 := h.cM
  have h3 := h.bc
  have h4 := h.bm
  have h5 := h.mM
  have u := Turned.upd t
  have hn53 : ∀ cs fr, x.heap[c]? ≠ some (.cells cs 53 fr) := fun cs fr e => by
    have := h.h4
    unfold Holds at this
    rw [this] at e
    simp at e
  have th := t.holds
  rw [ring_set v ms os k o hk] at th
  exact ⟨h.h2.upd u (by omega), th, own_upd h.own u hn53, K.other h.rd u (Ne.symm h.cm), h.bl.trans (u.below (by omega) (by omega)), h3, h4, h2, h5, h.cm, Nat.le_trans h1 u.size⟩
/-- What is read as a ring: the ring, an error, and a new world. -/
def RetR (w : World) (r : Rg) (E : Int) (e : Ending) (z : World) : Prop := ∃ u, e = .returned (.tuple #[ringV u r, .int .i64 E]) ∧ RingAt z.heap.size z u r ∧ Below w.heap.size w z
def osK (l : List Ow) (k : Nat) : List Ow := l ++ List.replicate (8 - k) noO
theorem osK_len {l : List Ow} {k : Nat} (h : l.length = k) (hk : k ≤ 8) : (osK l k).length = 8 := by unfold osK; rw [List.length_append, List.length_replicate]; omega
theorem osK_set {l : List Ow} {k : Nat} (h : l.length = k) (hk : k < 8) (o : Ow) : (osK l k).set k o = osK (l ++ [o]) (k + 1) := by
  unfold osK
  rw [List.set_append_right _ _ (by omega), h, Nat.sub_self, show 8 - k = (8 - (k + 1)) + 1 by omega, List.replicate_succ, List.set_cons_zero, List.append_assoc]
  rfl
theorem osK_zero : osK [] 0 = noOs := rfl
theorem osK_all (l : List Ow) : osK l 8 = l := by unfold osK; simp
theorem Mem.ring {K : Kind} {b c m M : Nat} {w x : World} {v : Value} {ms : List Mb} {os : List Ow} {st : Rd.St} (h : Mem K b c m M w x v ms os st) (h8 : os.length = 8) : RingAt x.heap.size x v (ms, os) := ⟨mems_of_row h.own, h8⟩
/-- An owner is made, and stored. -/
theorem own_tail {K : Kind} {b c m M : Nat} {w x : World} {v : Value} {ms : List Mb} {os : List Ow} {st : Rd.St} {ops : Array Oper} {Q : Exit → Act → World → Prop} {ac : Act} {ob of oi os' : Oper} (s1 s2 s3 s4 d1 d2 d3 : Nat) (x1 : Int) (x2 k : Nat) (H : Mem K b c m M w x v ms os st) (hk : k < 8) (h8 : os.length = 8)
    (hb : ob.op = .build 25 #[(0, .tmp s1), (1, .tmp s2)] ∧ ob.dst = some d1 ∧ ob.guard = none) (hf : of.op = .fieldAddr 28 (.tmp s3) 1 ∧ of.dst = some d2 ∧ of.guard = none) (hi : oi.op = .indexAddr 26 (.tmp d2) (.tmp s4) ∧ oi.dst = some d3 ∧ oi.guard = none) (hs : os'.op = .store 25 (.tmp d3) (.tmp d1) ∧ os'.dst = none ∧ os'.guard = none)
    (hz : d1 < ac.tmps.size ∧ d2 < ac.tmps.size ∧ d3 < ac.tmps.size) (hn : d1 ≠ s3 ∧ d1 ≠ s4 ∧ d2 ≠ s4 ∧ d2 ≠ d1 ∧ d3 ≠ d1)
    (e1 : ac.eval (.tmp s1) = .int .i64 x1) (e2 : ac.eval (.tmp s2) = .int .u64 (x2 : Int)) (e3 : ac.eval (.tmp s3) = .pointer (some ⟨c, 0, none⟩)) (e4 : ac.eval (.tmp s4) = .int .i64 (k : Int))
    (hend : ∀ y a1, After [d3, d2, d1] ac a1 → Mem K b c m M w y v ms (os.set k (x1, x2)) st → Q .normal a1 y) : wpList Tryz.prog ops Q [ob, of, oi, os'] ac x := by
  obtain ⟨z1, z2, z3⟩ := hz
  obtain ⟨n1, n2, n3, n4, n5⟩ := hn
  refine wl_of hb.2.2 (op_bd2' 25 0 1 (.tmp s1) (.tmp s2) _ _ (owA (x1, x2)) hb.1 e1 e2 (fun y => run_ow _ _ y) d1 hb.2.1 ?_)
  have A1 := (After.self ac).put d1 (owA (x1, x2))
  have g3 : (ac.put (some d1) (owA (x1, x2))).eval (.tmp s3) = .pointer (some ⟨c, 0, none⟩) := (ev_put z1).trans ((if_neg n1).trans e3)
  have g4 : (ac.put (some d1) (owA (x1, x2))).eval (.tmp s4) = .int .i64 (k : Int) := (ev_put z1).trans ((if_neg n2).trans e4)
  have g1 : (ac.put (some d1) (owA (x1, x2))).eval (.tmp d1) = owA (x1, x2) := (ev_put z1).trans (if_pos rfl)
  have y2 : d2 < (ac.put (some d1) (owA (x1, x2))).tmps.size := by rw [A1.size]; exact z2
  have y3 : d3 < (ac.put (some d1) (owA (x1, x2))).tmps.size := by rw [A1.size]; exact z3
  generalize ac.put (some d1) (owA (x1, x2)) = a1 at *
  refine wl_of hf.2.2 (op_fa' 28 (.tmp s3) 1 _ (.pointer (some ⟨c, 1, none⟩)) hf.1 g3 (by intro w; kernel_rfl) d2 hf.2.1 ?_)
  have A2 := A1.put d2 (.pointer (some ⟨c, 1, none⟩))
  have k4 : (a1.put (some d2) (.pointer (some ⟨c, 1, none⟩))).eval (.tmp s4) = .int .i64 (k : Int) := (ev_put y2).trans ((if_neg n3).trans g4)
  have k1 : (a1.put (some d2) (.pointer (some ⟨c, 1, none⟩))).eval (.tmp d1) = owA (x1, x2) := (ev_put y2).trans ((if_neg n4).trans g1)
  have k2 : (a1.put (some d2) (.pointer (some ⟨c, 1, none⟩))).eval (.tmp d2) = .pointer (some ⟨c, 1, none⟩) := (ev_put y2).trans (if_pos rfl)
  have x3 : d3 < (a1.put (some d2) (.pointer (some ⟨c, 1, none⟩))).tmps.size := by rw [put_size]; exact y3
  generalize a1.put (some d2) (.pointer (some ⟨c, 1, none⟩)) = a2 at *
  refine wl_of hi.2.2 (op_ixa' 26 (.tmp d2) (.tmp s4) _ _ (.pointer (some ⟨c, 1 + k * 2, none⟩)) hi.1 k2 k4 (ix_array (sz := 2) und26 (by intro w; kernel_rfl) hk (by omega)) d3 hi.2.1 ?_)
  have A3 := A2.put d3 (.pointer (some ⟨c, 1 + k * 2, none⟩))
  have j1 : (a2.put (some d3) (.pointer (some ⟨c, 1 + k * 2, none⟩))).eval (.tmp d1) = owA (x1, x2) := (ev_put x3).trans ((if_neg n5).trans k1)
  have j3 : (a2.put (some d3) (.pointer (some ⟨c, 1 + k * 2, none⟩))).eval (.tmp d3) = .pointer (some ⟨c, 1 + k * 2, none⟩) := (ev_put x3).trans (if_pos rfl)
  generalize a2.put (some d3) (.pointer (some ⟨c, 1 + k * 2, none⟩)) = a3 at *
  refine wpList_store_part hs.2.2 25 (.tmp d3) (.tmp d1) hs.1 c (1 + k * 2) j3 (owV (x1, x2)) j1 28 _ H.h4 siz25 (by rw [ringC_len (H.ring h8)]; show 1 + k * 2 + 2 ≤ 17; omega) (owV_one _) ?_
  intro y t3
  rw [hs.2.1]
  exact wl_end (hend y a3 A3 (H.setOwn t3 (by rw [h8]; exact hk)))
def q31_0 : Array Oper := #[{ dst := some 2, op := Op.alloc 28, type := 0, pos := "bytes.go:26", after := #[], guard := none }, { dst := some 3, op := Op.assign (Operand.const (Value.int IntKind.i64 0)), type := 48, pos := "bytes.go:26", after := #[], guard := none }]
def q31_1 : Array Oper := #[{ dst := some 4, op := Op.alloc 28, type := 0, pos := "bytes.go:27", after := #[], guard := none }]
def q31_2 : Array Oper := #[{ dst := some 7, op := Op.move (Operand.tmp 0), type := 9, pos := "bytes.go:28", after := #[], guard := none }, { dst := some 8, op := Op.call { callee := Callee.value (Operand.func 53), args := #[Operand.tmp 7], argTypes := #[9] }, type := 79, pos := "bytes.go:28", after := #[{ on := 0, ground := Ground.data }], guard := none }, { dst := some 5, op := Op.assign (Operand.tmp 8), type := 79, pos := "bytes.go:28", after := #[{ on := 1, ground := Ground.data }, { on := 1, ground := Ground.chain }, { on := 0, ground := Ground.phase }, { on := 1, ground := Ground.phase }], guard := none }]
def q31_3 : Array Oper := #[{ dst := some 9, op := Op.move (Operand.tmp 5), type := 79, pos := "bytes.go:29", after := #[], guard := none }, { dst := some 10, op := Op.call { callee := Callee.value (Operand.func 54), args := #[Operand.tmp 9, Operand.const (Value.int IntKind.i64 3)], argTypes := #[79, 3] }, type := 3, pos := "bytes.go:29", after := #[{ on := 0, ground := Ground.data }], guard := none }, { dst := some 11, op := Op.move (Operand.const (Value.int IntKind.i64 0)), type := 3, pos := "bytes.go:29", after := #[], guard := none }]
def q31_4 : Array Oper := #[{ dst := some 12, op := Op.binOp BinOp.lss 3 (Operand.tmp 11) (Operand.tmp 10) 3, type := 4, pos := "bytes.go:29", after := #[], guard := none }]
def q31_5 : Array Oper := #[{ dst := some 13, op := Op.fieldAddr 28 (Operand.tmp 4) 0, type := 0, pos := "bytes.go:30", after := #[], guard := none }, { dst := some 14, op := Op.load 22 (Operand.tmp 13), type := 22, pos := "bytes.go:30", after := #[{ on := 0, ground := Ground.data }], guard := none }, { dst := some 15, op := Op.move (Operand.tmp 5), type := 79, pos := "bytes.go:30", after := #[], guard := none }, { dst := some 16, op := Op.call { callee := Callee.value (Operand.func 55), args := #[Operand.tmp 15], argTypes := #[79] }, type := 2, pos := "bytes.go:30", after := #[{ on := 2, ground := Ground.data }], guard := none }, { dst := some 17, op := Op.move (Operand.tmp 5), type := 79, pos := "bytes.go:30", after := #[], guard := none }, { dst := some 18, op := Op.call { callee := Callee.value (Operand.func 55), args := #[Operand.tmp 17], argTypes := #[79] }, type := 2, pos := "bytes.go:30", after := #[{ on := 4, ground := Ground.data }, { on := 3, ground := Ground.chain }], guard := none }, { dst := some 19, op := Op.move (Operand.tmp 5), type := 79, pos := "bytes.go:30", after := #[], guard := none }, { dst := some 20, op := Op.call { callee := Callee.value (Operand.func 56), args := #[Operand.tmp 19], argTypes := #[79] }, type := 23, pos := "bytes.go:30", after := #[{ on := 6, ground := Ground.data }, { on := 5, ground := Ground.chain }], guard := none }, { dst := some 21, op := Op.build 53 #[(0, Operand.tmp 16), (1, Operand.tmp 18), (2, Operand.tmp 20)], type := 53, pos := "bytes.go:30", after := #[{ on := 3, ground := Ground.data }, { on := 5, ground := Ground.data }, { on := 7, ground := Ground.data }], guard := none }, { dst := some 22, op := Op.buildSlice 22 1 #[(0, Operand.tmp 21)], type := 22, pos := "bytes.go:30", after := #[{ on := 8, ground := Ground.data }], guard := none }, { dst := some 23, op := Op.call { callee := Callee.builtin Builtin.append, args := #[Operand.tmp 14, Operand.tmp 22], argTypes := #[22, 22] }, type := 22, pos := "bytes.go:30", after := #[{ on := 1, ground := Ground.data }, { on := 9, ground := Ground.data }, { on := 7, ground := Ground.chain }], guard := none }, { dst := some 24, op := Op.fieldAddr 28 (Operand.tmp 4) 0, type := 0, pos := "bytes.go:30", after := #[{ on := 0, ground := Ground.phase }, { on := 1, ground := Ground.phase }, { on := 2, ground := Ground.phase }, { on := 3, ground := Ground.phase }, { on := 4, ground := Ground.phase }, { on := 5, ground := Ground.phase }, { on := 6, ground := Ground.phase }, { on := 7, ground := Ground.phase }, { on := 8, ground := Ground.phase }, { on := 9, ground := Ground.phase }, { on := 10, ground := Ground.phase }], guard := none }, { dst := none, op := Op.store 22 (Operand.tmp 24) (Operand.tmp 23), type := 0, pos := "bytes.go:30", after := #[{ on := 11, ground := Ground.data }, { on := 10, ground := Ground.data }, { on := 10, ground := Ground.chain }, { on := 0, ground := Ground.phase }, { on := 1, ground := Ground.phase }, { on := 2, ground := Ground.phase }, { on := 3, ground := Ground.phase }, { on := 4, ground := Ground.phase }, { on := 5, ground := Ground.phase }, { on := 6, ground := Ground.phase }, { on := 7, ground := Ground.phase }, { on := 8, ground := Ground.phase }, { on := 9, ground := Ground.phase }, { on := 10, ground := Ground.phase }], guard := none }]
def q31_6 : Array Oper := #[{ dst := some 25, op := Op.binOp BinOp.add 3 (Operand.tmp 11) (Operand.const (Value.int IntKind.i64 1)) 3, type := 3, pos := "bytes.go:29", after := #[], guard := none }, { dst := some 11, op := Op.move (Operand.tmp 25), type := 3, pos := "bytes.go:29", after := #[{ on := 0, ground := Ground.data }], guard := none }]
def q31_7 : Array Oper := #[{ dst := some 26, op := Op.move (Operand.const (Value.int IntKind.i64 0)), type := 3, pos := "bytes.go:32", after := #[], guard := none }]
def q31_8 : Array Oper := #[{ dst := some 27, op := Op.binOp BinOp.lss 3 (Operand.tmp 26) (Operand.const (Value.int IntKind.i64 8)) 3, type := 0, pos := "bytes.go:32", after := #[], guard := none }]
def q31_9 : Array Oper := #[{ dst := some 28, op := Op.move (Operand.tmp 26), type := 3, pos := "bytes.go:32", after := #[], guard := none }, { dst := some 6, op := Op.assign (Operand.tmp 28), type := 3, pos := "bytes.go:32", after := #[{ on := 0, ground := Ground.data }, { on := 0, ground := Ground.phase }], guard := none }]
def q31_10 : Array Oper := #[{ dst := some 29, op := Op.move (Operand.tmp 6), type := 3, pos := "bytes.go:33", after := #[], guard := none }, { dst := some 30, op := Op.move (Operand.tmp 5), type := 79, pos := "bytes.go:33", after := #[], guard := none }, { dst := some 31, op := Op.call { callee := Callee.value (Operand.func 55), args := #[Operand.tmp 30], argTypes := #[79] }, type := 2, pos := "bytes.go:33", after := #[{ on := 1, ground := Ground.data }], guard := none }, { dst := some 32, op := Op.move (Operand.tmp 5), type := 79, pos := "bytes.go:33", after := #[], guard := none }, { dst := some 33, op := Op.call { callee := Callee.value (Operand.func 56), args := #[Operand.tmp 32], argTypes := #[79] }, type := 23, pos := "bytes.go:33", after := #[{ on := 3, ground := Ground.data }, { on := 2, ground := Ground.chain }], guard := none }, { dst := some 34, op := Op.build 25 #[(0, Operand.tmp 31), (1, Operand.tmp 33)], type := 25, pos := "bytes.go:33", after := #[{ on := 2, ground := Ground.data }, { on := 4, ground := Ground.data }], guard := none }, { dst := some 35, op := Op.fieldAddr 28 (Operand.tmp 4) 1, type := 0, pos := "bytes.go:33", after := #[], guard := none }, { dst := some 36, op := Op.indexAddr 26 (Operand.tmp 35) (Operand.tmp 29), type := 0, pos := "bytes.go:33", after := #[{ on := 6, ground := Ground.data }, { on := 0, ground := Ground.data }, { on := 0, ground := Ground.phase }, { on := 1, ground := Ground.phase }, { on := 2, ground := Ground.phase }, { on := 3, ground := Ground.phase }, { on := 4, ground := Ground.phase }, { on := 5, ground := Ground.phase }], guard := none }, { dst := none, op := Op.store 25 (Operand.tmp 36) (Operand.tmp 34), type := 0, pos := "bytes.go:33", after := #[{ on := 7, ground := Ground.data }, { on := 5, ground := Ground.data }, { on := 4, ground := Ground.chain }, { on := 0, ground := Ground.phase }, { on := 1, ground := Ground.phase }, { on := 2, ground := Ground.phase }, { on := 3, ground := Ground.phase }, { on := 4, ground := Ground.phase }, { on := 5, ground := Ground.phase }], guard := none }]
def q31_11 : Array Oper := #[{ dst := some 37, op := Op.binOp BinOp.add 3 (Operand.tmp 26) (Operand.const (Value.int IntKind.i64 1)) 3, type := 3, pos := "bytes.go:32", after := #[], guard := none }, { dst := some 26, op := Op.move (Operand.tmp 37), type := 3, pos := "bytes.go:32", after := #[{ on := 0, ground := Ground.data }], guard := none }]
def q31_12 : Array Oper := #[{ dst := some 38, op := Op.load 28 (Operand.tmp 4), type := 28, pos := "bytes.go:35", after := #[], guard := none }, { dst := some 39, op := Op.call { callee := Callee.value (Operand.func 29), args := #[Operand.tmp 38], argTypes := #[28] }, type := 9, pos := "bytes.go:35", after := #[{ on := 0, ground := Ground.data }], guard := none }, { dst := some 40, op := Op.move (Operand.tmp 0), type := 9, pos := "bytes.go:35", after := #[], guard := none }, { dst := some 41, op := Op.binOp BinOp.neq 9 (Operand.tmp 39) (Operand.tmp 40) 9, type := 4, pos := "bytes.go:35", after := #[{ on := 1, ground := Ground.data }, { on := 2, ground := Ground.data }], guard := none }]
def q31_13 : Array Oper := #[{ dst := some 42, op := Op.build 28 #[], type := 28, pos := "bytes.go:36", after := #[], guard := none }, { dst := none, op := Op.store 28 (Operand.tmp 2) (Operand.tmp 42), type := 0, pos := "bytes.go:36", after := #[{ on := 0, ground := Ground.data }, { on := 0, ground := Ground.phase }], guard := none }, { dst := some 3, op := Op.assign (Operand.const (Value.int IntKind.i64 11)), type := 48, pos := "bytes.go:36", after := #[{ on := 1, ground := Ground.chain }, { on := 0, ground := Ground.phase }, { on := 1, ground := Ground.phase }], guard := none }]
def q31_14 : Array Oper := #[{ dst := some 43, op := Op.load 28 (Operand.tmp 4), type := 28, pos := "bytes.go:38", after := #[], guard := none }, { dst := none, op := Op.store 28 (Operand.tmp 2) (Operand.tmp 43), type := 0, pos := "bytes.go:38", after := #[{ on := 0, ground := Ground.data }, { on := 0, ground := Ground.phase }], guard := none }, { dst := some 3, op := Op.assign (Operand.const (Value.int IntKind.i64 0)), type := 48, pos := "bytes.go:38", after := #[{ on := 1, ground := Ground.chain }, { on := 0, ground := Ground.phase }, { on := 1, ground := Ground.phase }], guard := none }]
set_option maxRecDepth 100000 in
theorem r31_5 {Q : Exit → Act → World → Prop} {a0 : Act} {w : World} (hz : a0.tmps.size = 44) {b c m M : Nat} {w0 : World} {v : Value} {ms : List Mb} {os : List Ow} {st : Rd.St} (H : Mem rdK b c m M w0 w v ms os st) (hl : ms.length + 1 ≤ 1000000000) (hs : st.1.size < 9223372036854775808) (e4 : a0.eval (.tmp 4) = .pointer (some ⟨c, 0, none⟩)) (e5 : a0.eval (.tmp 5) = .pointer (some ⟨m, 0, none⟩)) (hend : ∀ ac y v', After [24, 23, 13, 14, 15, 16, 17, 18, 19, 20, 21, 22] a0 ac → Mem rdK b c m M w0 y v' (ms ++ [(Rd.rdM st).1]) os (Rd.rdM st).2 → Q .normal ac y) : (Code.region 5 q31_5 true).wp Tryz.prog Q a0 w := by
  refine drawn_ph (R := Upd m) (fun h k => h.trans k) (fun h => Gr.upd h) (by kernel_rfl) (by kernel_rfl) (by kernel_rfl) 10 (by decide) (by kernel_rfl) (by kernel_rfl) [13, 14, 15, 16, 17, 18, 19, 20, 21, 22] [16, 18, 20] (by decide) (fun | 13 => .val (.pointer (some ⟨c, 0, none⟩)) | 14 => .val v | 15 => .val (.pointer (some ⟨m, 0, none⟩)) | 16 => .val (.int .i64 (Rd.rdI st).1) | 17 => .val (.pointer (some ⟨m, 0, none⟩)) | 18 => .val (.int .i64 (Rd.rdI (Rd.rdI st).2).1) | 19 => .val (.pointer (some ⟨m, 0, none⟩)) | 20 => .val (.int .u64 ((Rd.rdN (Rd.rdI (Rd.rdI st).2).2).1 : Int)) | 21 => .val (mbA (Rd.rdM st).1) | 22 => rowR m (Rd.rdM st).1 | _ => .any) (fun k x => rdK.here x m (stM st k)) (by kernel_rfl) (by kernel_rfl) H.rd (fun {k x y} h g => rdK.keep (M := x.heap.size) h (Holds.lt h) g) (List.forall_mem_cons.2 ⟨?s0, List.forall_mem_cons.2 ⟨?s1, List.forall_mem_cons.2 ⟨?s2, List.forall_mem_cons.2 ⟨?s3, List.forall_mem_cons.2 ⟨?s4, List.forall_mem_cons.2 ⟨?s5, List.forall_mem_cons.2 ⟨?s6, List.forall_mem_cons.2 ⟨?s7, List.forall_mem_cons.2 ⟨?s8, List.forall_mem_cons.2 ⟨?s9, fun o ho => nomatch ho⟩⟩⟩⟩⟩⟩⟩⟩⟩⟩) ?e
  case s0 => exact Or.inl ⟨sr_fa 28 (.tmp 4) 0 13 (.pointer (some ⟨c, 0, none⟩)) (.pointer (some ⟨c, 0, none⟩)) rfl rfl rfl (.old 4 _ (by decide) e4) (by intro w; kernel_rfl) rfl, fun d hd => by cases hd; rfl⟩
  case s1 => exact Or.inl ⟨sr_loadc 22 (.tmp 13) 14 c 0 v rfl rfl rfl (by intro w; kernel_rfl) (.new 13 (by kernel_rfl) (by rw [hz]; decide)) (fun y u => (H.h4.upd u H.cm).at 0 _ rfl) rfl, fun d hd => by cases hd; rfl⟩
  case s2 => exact Or.inl ⟨sr_move (.tmp 5) 15 (.val (.pointer (some ⟨m, 0, none⟩))) (.inl rfl) rfl rfl (.old 5 _ (by decide) e5) rfl, fun d hd => by cases hd; rfl⟩
  case s3 => exact Or.inr ⟨0, 16, rfl, rfl, Or.inl rfl, sc_call1 0 55 (.tmp 15) _ 16 (.pointer (some ⟨m, 0, none⟩)) (.int .i64 (Rd.rdI st).1) rfl rfl rfl (.new 15 (by kernel_rfl) (by rw [hz]; decide)) (enters_of Tryz.func55 (by kernel_rfl) rfl) (fun y hS => (Rd.int_u m st hs y hS).mono fun e z ⟨e1, e2, e3⟩ => ⟨e1, e3, e2⟩) rfl⟩
  case s4 => exact Or.inl ⟨sr_move (.tmp 5) 17 (.val (.pointer (some ⟨m, 0, none⟩))) (.inl rfl) rfl rfl (.old 5 _ (by decide) e5) rfl, fun d hd => by cases hd; rfl⟩
  case s5 => exact Or.inr ⟨1, 18, rfl, rfl, Or.inr ⟨16, rfl, by kernel_rfl⟩, sc_call1 1 55 (.tmp 17) _ 18 (.pointer (some ⟨m, 0, none⟩)) (.int .i64 (Rd.rdI (Rd.rdI st).2).1) rfl rfl rfl (.new 17 (by kernel_rfl) (by rw [hz]; decide)) (enters_of Tryz.func55 (by kernel_rfl) rfl) (fun y hS => (Rd.int_u m (Rd.rdI st).2 (Nat.lt_of_le_of_lt (Rd.rdI_size st) hs) y hS).mono fun e z ⟨e1, e2, e3⟩ => ⟨e1, e3, e2⟩) rfl⟩
  case s6 => exact Or.inl ⟨sr_move (.tmp 5) 19 (.val (.pointer (some ⟨m, 0, none⟩))) (.inl rfl) rfl rfl (.old 5 _ (by decide) e5) rfl, fun d hd => by cases hd; rfl⟩
  case s7 => exact Or.inr ⟨2, 20, rfl, rfl, Or.inr ⟨18, rfl, by kernel_rfl⟩, sc_call1 2 56 (.tmp 19) _ 20 (.pointer (some ⟨m, 0, none⟩)) (.int .u64 ((Rd.rdN (Rd.rdI (Rd.rdI st).2).2).1 : Int)) rfl rfl rfl (.new 19 (by kernel_rfl) (by rw [hz]; decide)) (enters_of Tryz.func56 (by kernel_rfl) rfl) (fun y hS => (Rd.num_u m (Rd.rdI (Rd.rdI st).2).2 (Nat.lt_of_le_of_lt (Rd.rdI_size (Rd.rdI st).2) (Nat.lt_of_le_of_lt (Rd.rdI_size st) hs)) y hS).mono fun e z ⟨e1, e2, e3⟩ => ⟨e1, e3, e2⟩) rfl⟩
  case s8 => exact Or.inl ⟨sr_bd3 53 0 1 2 (.tmp 16) (.tmp 18) (.tmp 20) 21 _ _ _ (mbA (Rd.rdM st).1) rfl rfl rfl (.new 16 (by kernel_rfl) (by rw [hz]; decide)) (.new 18 (by kernel_rfl) (by rw [hz]; decide)) (.new 20 (by kernel_rfl) (by rw [hz]; decide)) (fun y => run_mb _ _ _ y) rfl, fun d hd => by cases hd; rfl⟩
  case s9 => exact Or.inl ⟨sr_bs1 22 1 (.tmp 21) 22 (mbA (Rd.rdM st).1) rfl rfl rfl (.new 21 (by kernel_rfl) (by rw [hz]; decide)) (fun y u => mem_row (Rd.rdM st).1 (Nat.lt_of_lt_of_le H.mM H.MN) u), fun d hd => by cases hd; rfl⟩
  case e =>
  intro ac x hA hU hS hv
  have o14 : ac.eval (.tmp 14) = v := hv 14 (by kernel_rfl) (by rw [hz]; decide)
  have o22 := hv 22 (by kernel_rfl) (by rw [hz]; decide)
  have o4 : ac.eval (.tmp 4) = .pointer (some ⟨c, 0, none⟩) := (hA.old 4 (by decide)).trans e4
  show wpList Tryz.prog _ Q [_, _, _] ac x
  refine mem_tail (d1 := 23) (d2 := 24) (s1 := 14) (s2 := 22) (s4 := 4) (H.read hU hS) hl rfl rfl rfl rfl rfl rfl rfl rfl rfl (by rw [hA.size, hz]; decide) (by rw [hA.size, hz]; decide) (by decide) (by decide) o14 o22 o4 (fun v' y hM => ?_)
  exact hend _ y v' ((hA.put 23 _).put 24 _) hM
set_option maxRecDepth 100000 in
set_option maxHeartbeats 4000000 in
theorem r31_10 {Q : Exit → Act → World → Prop} {a0 : Act} {w : World} (hz : a0.tmps.size = 44) {b c m M : Nat} {w0 : World} {v : Value} {ms : List Mb} {os : List Ow} {st : Rd.St} {k : Nat} (H : Mem rdK b c m M w0 w v ms os st) (hk : k < 8) (h8 : os.length = 8) (hs : st.1.size < 9223372036854775808) (e6 : a0.eval (.tmp 6) = .int .i64 (k : Int)) (e4 : a0.eval (.tmp 4) = .pointer (some ⟨c, 0, none⟩)) (e5 : a0.eval (.tmp 5) = .pointer (some ⟨m, 0, none⟩)) (hend : ∀ ac y, After [36, 35, 34, 33, 32, 31, 30, 29] a0 ac → Mem rdK b c m M w0 y v ms (os.set k (Rd.rdO st).1) (Rd.rdO st).2 → Q .normal ac y) : (Code.region 10 q31_10 false).wp Tryz.prog Q a0 w := by
  refine wp_region_list ?_
  refine wl_of rfl (op_mv (.tmp 6) _ (.inl rfl) e6 29 rfl ?_)
  refine wl_of rfl (op_mv (.tmp 5) (.pointer (some ⟨m, 0, none⟩)) (.inl rfl) (by simp [ev_put, hz, e5]) 30 rfl ?_)
  refine wl_of rfl (op_call 55 #[.tmp 30] #[79] rfl #[.pointer (some ⟨m, 0, none⟩)] (by simp [ev_put, put_size, hz]) (enters_of Tryz.func55 (by kernel_rfl) rfl) ((Rd.int_u m st hs w H.rd).mono ?_))
  rintro e y1 ⟨rfl, q1, q2⟩
  refine ⟨_, rfl, ?_⟩
  have H1 := H.read q2 q1
  show wpList Tryz.prog _ Q _ (((a0.put (some 29) _).put (some 30) _).put (some 31) _) y1
  refine wl_of rfl (op_mv (.tmp 5) (.pointer (some ⟨m, 0, none⟩)) (.inl rfl) (by simp [ev_put, put_size, hz, e5]) 32 rfl ?_)
  refine wl_of rfl (op_call 56 #[.tmp 32] #[79] rfl #[.pointer (some ⟨m, 0, none⟩)] (by simp [ev_put, put_size, hz]) (enters_of Tryz.func56 (by kernel_rfl) rfl) ((Rd.num_u m (Rd.rdI st).2 (Nat.lt_of_le_of_lt (Rd.rdI_size st) hs) y1 H1.rd).mono ?_))
  rintro e y2 ⟨rfl, q3, q4⟩
  refine ⟨_, rfl, ?_⟩
  have H2 : Mem rdK b c m M w0 y2 v ms os (Rd.rdO st).2 := H1.read q4 q3
  have hz2 : (((((a0.put (some 29) (.int .i64 (k : Int))).put (some 30) (.pointer (some ⟨m, 0, none⟩))).put (some 31) (.int .i64 (Rd.rdI st).1)).put (some 32) (.pointer (some ⟨m, 0, none⟩))).put (some 33) (.int .u64 ((Rd.rdN (Rd.rdI st).2).1 : Int))).tmps.size = 44 := by simp [put_size, hz]
  have hA : After [33, 32, 31, 30, 29] a0 (((((a0.put (some 29) (.int .i64 (k : Int))).put (some 30) (.pointer (some ⟨m, 0, none⟩))).put (some 31) (.int .i64 (Rd.rdI st).1)).put (some 32) (.pointer (some ⟨m, 0, none⟩))).put (some 33) (.int .u64 ((Rd.rdN (Rd.rdI st).2).1 : Int))) := ((((After.self a0 |>.put 29 _).put 30 _).put 31 _).put 32 _).put 33 _
  have f1 : (((((a0.put (some 29) (.int .i64 (k : Int))).put (some 30) (.pointer (some ⟨m, 0, none⟩))).put (some 31) (.int .i64 (Rd.rdI st).1)).put (some 32) (.pointer (some ⟨m, 0, none⟩))).put (some 33) (.int .u64 ((Rd.rdN (Rd.rdI st).2).1 : Int))).eval (.tmp 31) = .int .i64 (Rd.rdI st).1 := by simp [ev_put, put_size, hz]
  have f2 : (((((a0.put (some 29) (.int .i64 (k : Int))).put (some 30) (.pointer (some ⟨m, 0, none⟩))).put (some 31) (.int .i64 (Rd.rdI st).1)).put (some 32) (.pointer (some ⟨m, 0, none⟩))).put (some 33) (.int .u64 ((Rd.rdN (Rd.rdI st).2).1 : Int))).eval (.tmp 33) = .int .u64 ((Rd.rdN (Rd.rdI st).2).1 : Int) := by simp [ev_put, put_size, hz]
  have f4 : (((((a0.put (some 29) (.int .i64 (k : Int))).put (some 30) (.pointer (some ⟨m, 0, none⟩))).put (some 31) (.int .i64 (Rd.rdI st).1)).put (some 32) (.pointer (some ⟨m, 0, none⟩))).put (some 33) (.int .u64 ((Rd.rdN (Rd.rdI st).2).1 : Int))).eval (.tmp 29) = .int .i64 (k : Int) := by simp [ev_put, put_size, hz]
  have f3 := hA.get e4 (by decide)
  show wpList Tryz.prog _ Q [_, _, _, _] (((((a0.put (some 29) _).put (some 30) _).put (some 31) _).put (some 32) _).put (some 33) _) y2
  generalize ((((a0.put (some 29) (.int .i64 (k : Int))).put (some 30) (.pointer (some ⟨m, 0, none⟩))).put (some 31) (.int .i64 (Rd.rdI st).1)).put (some 32) (.pointer (some ⟨m, 0, none⟩))).put (some 33) (.int .u64 ((Rd.rdN (Rd.rdI st).2).1 : Int)) = a5 at *
  refine own_tail 31 33 4 29 34 35 36 (Rd.rdI st).1 (Rd.rdN (Rd.rdI st).2).1 k H2 hk h8 ⟨rfl, rfl, rfl⟩ ⟨rfl, rfl, rfl⟩ ⟨rfl, rfl, rfl⟩ ⟨rfl, rfl, rfl⟩ (by rw [hz2]; decide) (by decide) f1 f2 f3 f4 (fun y a6 A6 M6 => ?_)
  exact hend a6 y ((hA.trans A6).mono (by decide)) M6
set_option maxRecDepth 100000 in
theorem r31_4 {Q : Exit → Act → World → Prop} {a0 : Act} {w : World} (hz : a0.tmps.size = 44) (k n : Nat) (e11 : a0.eval (.tmp 11) = .int .i64 (k : Int)) (e10 : a0.eval (.tmp 10) = .int .i64 (n : Int)) (hend : ∀ ac wz, After [12] a0 ac → ac.eval (.tmp 12) = .bool (decide ((k : Int) < (n : Int))) → Gr w wz → Q .normal ac wz) : (Code.region 4 q31_4 false).wp Tryz.prog Q a0 w := by
  refine seq_by (by kernel_rfl) 1 (by decide) [12] (fun | 12 => .val (.bool (decide ((k : Int) < (n : Int)))) | _ => .any) (by kernel_rfl) (List.forall_mem_cons.2 ⟨?s0, fun o ho => nomatch ho⟩) ?e
  case s0 => exact sa_bin .lss 3 (.tmp 11) (.tmp 10) 3 12 (.int .i64 (k : Int)) (.int .i64 (n : Int)) (.bool (decide ((k : Int) < (n : Int)))) rfl rfl rfl (.old 11 _ (by decide) e11) (.old 10 _ (by decide) e10) guard_int (bin_lss rfl) rfl
  case e =>
  intro ac wz hA hgr hv
  exact wl_end (hend ac wz hA (hv 12 (by kernel_rfl) (by rw [hz]; decide)) hgr)
set_option maxRecDepth 100000 in
theorem r31_6 {Q : Exit → Act → World → Prop} {a0 : Act} {w : World} (hz : a0.tmps.size = 44) (k : Nat) (hk : k ≤ 900000000) (e11 : a0.eval (.tmp 11) = .int .i64 (k : Int)) (hend : ∀ ac wz, After [11, 25] a0 ac → ac.eval (.tmp 11) = .int .i64 ((k + 1 : Nat) : Int) → Gr w wz → Q .normal ac wz) : (Code.region 6 q31_6 false).wp Tryz.prog Q a0 w := by
  refine seq_by (by kernel_rfl) 1 (by decide) [25] (fun | 25 => .val (.int .i64 ((k + 1 : Nat) : Int)) | _ => .any) (by kernel_rfl) (List.forall_mem_cons.2 ⟨?s0, fun o ho => nomatch ho⟩) ?e
  case s0 => exact sa_bin .add 3 (.tmp 11) (.const _) 3 25 (.int .i64 (k : Int)) (.int .i64 1) (.int .i64 ((k + 1 : Nat) : Int)) rfl rfl rfl (.old 11 _ (by decide) e11) (.const _) guard_int (bin_add (by omega) (by omega) (by omega)) rfl
  case e =>
  intro ac wz hA hgr hv
  have o25 : ac.eval (.tmp 25) = .int .i64 ((k + 1 : Nat) : Int) := hv 25 (by kernel_rfl) (by rw [hz]; decide)
  refine wl_of rfl (op_move (.tmp 25) (.inl rfl) (wl_end ?_))
  exact hend _ wz (hA.put 11 _)  ((ev_put (by rw [hA.size, hz]; decide)).trans ((if_pos rfl).trans o25)) hgr
set_option maxRecDepth 100000 in
theorem r31_7 {Q : Exit → Act → World → Prop} {a0 : Act} {w : World} (hz : a0.tmps.size = 44)   (hend : ∀ ac wz, After [26] a0 ac → ac.eval (.tmp 26) = .int .i64 0 → Gr w wz → Q .normal ac wz) : (Code.region 7 q31_7 false).wp Tryz.prog Q a0 w := by
  refine seq_by (by kernel_rfl) 1 (by decide) [26] (fun | 26 => .val (.int .i64 0) | _ => .any) (by kernel_rfl) (List.forall_mem_cons.2 ⟨?s0, fun o ho => nomatch ho⟩) ?e
  case s0 => exact sa_move (.const _) 26 (.val (.int .i64 0)) (.inl rfl) rfl rfl (.const _) rfl
  case e =>
  intro ac wz hA hgr hv
  exact wl_end (hend ac wz hA (hv 26 (by kernel_rfl) (by rw [hz]; decide)) hgr)
set_option maxRecDepth 100000 in
theorem r31_8 {Q : Exit → Act → World → Prop} {a0 : Act} {w : World} (hz : a0.tmps.size = 44) (k : Nat) (e26 : a0.eval (.tmp 26) = .int .i64 (k : Int)) (hend : ∀ ac wz, After [27] a0 ac → ac.eval (.tmp 27) = .bool (decide ((k : Int) < 8)) → Gr w wz → Q .normal ac wz) : (Code.region 8 q31_8 false).wp Tryz.prog Q a0 w := by
  refine seq_by (by kernel_rfl) 1 (by decide) [27] (fun | 27 => .val (.bool (decide ((k : Int) < 8))) | _ => .any) (by kernel_rfl) (List.forall_mem_cons.2 ⟨?s0, fun o ho => nomatch ho⟩) ?e
  case s0 => exact sa_bin .lss 3 (.tmp 26) (.const _) 3 27 (.int .i64 (k : Int)) (.int .i64 8) (.bool (decide ((k : Int) < 8))) rfl rfl rfl (.old 26 _ (by decide) e26) (.const _) guard_int (bin_lss rfl) rfl
  case e =>
  intro ac wz hA hgr hv
  exact wl_end (hend ac wz hA (hv 27 (by kernel_rfl) (by rw [hz]; decide)) hgr)
set_option maxRecDepth 100000 in
theorem r31_9 {Q : Exit → Act → World → Prop} {a0 : Act} {w : World} (hz : a0.tmps.size = 44) (k : Nat) (e26 : a0.eval (.tmp 26) = .int .i64 (k : Int)) (hend : ∀ ac wz, After [28, 6] a0 ac → ac.eval (.tmp 6) = .int .i64 (k : Int) → Gr w wz → Q .normal ac wz) : (Code.region 9 q31_9 false).wp Tryz.prog Q a0 w := by
  refine seq_by (by kernel_rfl) 2 (by decide) [28, 6] (fun | 28 => .val (.int .i64 (k : Int)) | 6 => .val (.int .i64 (k : Int)) | _ => .any) (by kernel_rfl) (List.forall_mem_cons.2 ⟨?s0, List.forall_mem_cons.2 ⟨?s1, fun o ho => nomatch ho⟩⟩) ?e
  case s0 => exact sa_move (.tmp 26) 28 (.val (.int .i64 (k : Int))) (.inl rfl) rfl rfl (.old 26 _ (by decide) e26) rfl
  case s1 => exact sa_move (.tmp 28) 6 (.val (.int .i64 (k : Int))) (.inr rfl) rfl rfl (.new 28 (by kernel_rfl) (by rw [hz]; decide)) rfl
  case e =>
  intro ac wz hA hgr hv
  exact wl_end (hend ac wz hA (hv 6 (by kernel_rfl) (by rw [hz]; decide)) hgr)
set_option maxRecDepth 100000 in
theorem r31_11 {Q : Exit → Act → World → Prop} {a0 : Act} {w : World} (hz : a0.tmps.size = 44) (k : Nat) (hk : k ≤ 900000000) (e26 : a0.eval (.tmp 26) = .int .i64 (k : Int)) (hend : ∀ ac wz, After [26, 37] a0 ac → ac.eval (.tmp 26) = .int .i64 ((k + 1 : Nat) : Int) → Gr w wz → Q .normal ac wz) : (Code.region 11 q31_11 false).wp Tryz.prog Q a0 w := by
  refine seq_by (by kernel_rfl) 1 (by decide) [37] (fun | 37 => .val (.int .i64 ((k + 1 : Nat) : Int)) | _ => .any) (by kernel_rfl) (List.forall_mem_cons.2 ⟨?s0, fun o ho => nomatch ho⟩) ?e
  case s0 => exact sa_bin .add 3 (.tmp 26) (.const _) 3 37 (.int .i64 (k : Int)) (.int .i64 1) (.int .i64 ((k + 1 : Nat) : Int)) rfl rfl rfl (.old 26 _ (by decide) e26) (.const _) guard_int (bin_add (by omega) (by omega) (by omega)) rfl
  case e =>
  intro ac wz hA hgr hv
  have o37 : ac.eval (.tmp 37) = .int .i64 ((k + 1 : Nat) : Int) := hv 37 (by kernel_rfl) (by rw [hz]; decide)
  refine wl_of rfl (op_move (.tmp 37) (.inl rfl) (wl_end ?_))
  exact hend _ wz (hA.put 26 _)  ((ev_put (by rw [hA.size, hz]; decide)).trans ((if_pos rfl).trans o37)) hgr

def c31_a : Code := ((Code.region 4 q31_4 false).seq ((Code.cond (Operand.tmp 12) Code.skip (Code.exit 0)).seq ((Code.block 1 (Code.region 5 q31_5 true)).seq (Code.region 6 q31_6 false))))
def c31_l : Code := (Code.block 0 (c31_a.loop))
def c31_b : Code := ((Code.region 8 q31_8 false).seq ((Code.cond (Operand.tmp 27) Code.skip (Code.exit 2)).seq ((Code.block 3 ((Code.region 9 q31_9 false).seq (Code.region 10 q31_10 false))).seq (Code.region 11 q31_11 false))))
def c31_m : Code := (Code.block 2 (c31_b.loop))
def c31_f : Code := (((Code.region 12 q31_12 false).seq (Code.cond (Operand.tmp 41) ((Code.region 13 q31_13 false).seq Code.ret) Code.skip)).seq ((Code.region 14 q31_14 false).seq Code.ret))
def c31 : Code := ((Code.region 0 q31_0 false).seq ((Code.region 1 q31_1 false).seq ((Code.region 2 q31_2 false).seq (((Code.region 3 q31_3 false).seq c31_l).seq (((Code.region 7 q31_7 false).seq c31_m).seq c31_f)))))
set_option maxRecDepth 100000 in
theorem r31_0 {Q : Exit → Act → World → Prop} {a0 : Act} {w : World} (hz : a0.tmps.size = 44) (b : Nat) (hb : w.heap.size = b) (hend : ∀ ac wz, After [3, 2] a0 ac → ac.eval (.tmp 2) = .pointer (some ⟨b, 0, none⟩) → Anew b w wz (ringC (.slice none 0 0) ([], noOs)) 28 → Q .normal ac wz) : (Code.region 0 q31_0 false).wp Tryz.prog Q a0 w := by
  refine wp_region_list ?_
  refine wpList_alloc_new 2 rfl rfl 28 rfl b hb _ zero28 ?_
  intro w1 h1
  refine wl_of rfl (op_mv (.const (.int .i64 0)) (.int .i64 0) (.inr rfl) rfl 3 rfl (wl_end (hend _ w1 (((After.self a0).put 2 _).put 3 _) ?_ h1)))
  simp [ev_put, put_size, hz]
set_option maxRecDepth 100000 in
theorem r31_1 {Q : Exit → Act → World → Prop} {a0 : Act} {w : World} (hz : a0.tmps.size = 44) (b : Nat) (hb : w.heap.size = b) (hend : ∀ ac wz, After [4] a0 ac → ac.eval (.tmp 4) = .pointer (some ⟨b, 0, none⟩) → Anew b w wz (ringC (.slice none 0 0) ([], noOs)) 28 → Q .normal ac wz) : (Code.region 1 q31_1 false).wp Tryz.prog Q a0 w := by
  refine wp_region_list ?_
  refine wpList_alloc_new 4 rfl rfl 28 rfl b hb _ zero28 ?_
  intro w1 h1
  refine wl_end (hend _ w1 ((After.self a0).put 4 _) ?_ h1)
  simp [ev_put, hz]
set_option maxRecDepth 100000 in
theorem r31_2 {Q : Exit → Act → World → Prop} {a0 : Act} {w : World} (hz : a0.tmps.size = 44) (s : ByteArray) (e0 : a0.eval (.tmp 0) = .string s) (hend : ∀ ac y, After [5, 8, 7] a0 ac → ac.eval (.tmp 5) = .pointer (some ⟨w.heap.size, 0, none⟩) → Pk.Rd y w.heap.size s 0 → Gr w y → Q .normal ac y) : (Code.region 2 q31_2 false).wp Tryz.prog Q a0 w := by
  refine wp_region_list ?_
  refine wl_of rfl (op_mv (.tmp 0) (.string s) (.inl rfl) e0 7 rfl ?_)
  refine wl_of rfl (op_call 53 #[.tmp 7] #[9] rfl #[.string s] (by simp [ev_put, hz]) (enters_of Tryz.func53 (by kernel_rfl) rfl) ((Pk.read_any s w).mono ?_))
  rintro e y ⟨rfl, q1, q2⟩
  refine ⟨_, rfl, ?_⟩
  show wpList Tryz.prog _ Q _ ((a0.put (some 7) _).put (some 8) _) y
  refine wl_of rfl (op_mv (.tmp 8) (.pointer (some ⟨w.heap.size, 0, none⟩)) (.inr rfl) (by simp [ev_put, put_size, hz]) 5 rfl (wl_end (hend _ y ((((After.self a0).put 7 _).put 8 _).put 5 _) ?_ q1 q2)))
  simp [ev_put, put_size, hz]
theorem many_u (m : Nat) (s : ByteArray) (hs : s.size < 9223372036854775808) (w : World) (hr : Pk.Rd w m s 0) : Calls Tryz.prog 54 #[.pointer (some ⟨m, 0, none⟩), .int .i64 3] w fun e z => e = .returned (.int .i64 (Pk.mnV s 3 : Int)) ∧ Pk.Rd z m (Rd.rdMany s).1 (Rd.rdMany s).2 ∧ Upd m w z := (Pk.many_ok m s hs 3 w hr).mono fun _ _ h => h
set_option maxRecDepth 100000 in
theorem r31_3 {Q : Exit → Act → World → Prop} {a0 : Act} {w : World} (hz : a0.tmps.size = 44) (m : Nat) (s : ByteArray) (hs : s.size < 9223372036854775808) (hr : Pk.Rd w m s 0) (e5 : a0.eval (.tmp 5) = .pointer (some ⟨m, 0, none⟩)) (hend : ∀ ac y, After [11, 10, 9] a0 ac → ac.eval (.tmp 10) = .int .i64 (Pk.mnV s 3 : Int) → ac.eval (.tmp 11) = .int .i64 ((0 : Nat) : Int) → Pk.Rd y m (Rd.rdMany s).1 (Rd.rdMany s).2 → Upd m w y → Q .normal ac y) : (Code.region 3 q31_3 false).wp Tryz.prog Q a0 w := by
  refine wp_region_list ?_
  refine wl_of rfl (op_mv (.tmp 5) (.pointer (some ⟨m, 0, none⟩)) (.inl rfl) e5 9 rfl ?_)
  refine wl_of rfl (op_call 54 #[.tmp 9, .const (.int .i64 3)] #[79, 3] rfl #[.pointer (some ⟨m, 0, none⟩), .int .i64 3] (by simp [ev_put, hz, ev_const]) (enters_of Tryz.func54 (by kernel_rfl) rfl) ((many_u m s hs w hr).mono ?_))
  rintro e y ⟨rfl, q1, q2⟩
  refine ⟨_, rfl, ?_⟩
  show wpList Tryz.prog _ Q _ ((a0.put (some 9) _).put (some 10) _) y
  refine wl_of rfl (op_mv (.const (.int .i64 0)) (.int .i64 ((0 : Nat) : Int)) (.inl rfl) rfl 11 rfl (wl_end (hend _ y ((((After.self a0).put 9 _).put 10 _).put 11 _) ?_ ?_ q1 q2)))
  · simp [ev_put, put_size, hz]
  · simp [ev_put, put_size, hz]
theorem neq9 (s t : ByteArray) (w : World) : (binOp .neq 9 (.string s) (.string t)).run Tryz.prog w = .ok (.bool (!(s.toList == t.toList))) w := by kernel_rfl
theorem guard9 (s t : ByteArray) (u v : Operand) (w : World) : (eqGuard .neq 9 u v (.string s) (.string t)).run Tryz.prog w = .ok () w := by kernel_rfl
set_option maxRecDepth 100000 in
theorem r31_12 {Q : Exit → Act → World → Prop} {a0 : Act} {w : World} (hz : a0.tmps.size = 44) (c : Nat) (v : Value) (r : Rg) (s : ByteArray) (hc : Holds w c (ringC v r) 28) (hR : RingAt w.heap.size w v r) (hf : RFit r) (e4 : a0.eval (.tmp 4) = .pointer (some ⟨c, 0, none⟩)) (e0 : a0.eval (.tmp 0) = .string s) (hend : ∀ ac y, After [41, 40, 39, 38] a0 ac → ac.eval (.tmp 41) = .bool (!((Pk.strL (bytesG (normL r))).toList == s.toList)) → Gr w y → Q .normal ac y) : (Code.region 12 q31_12 false).wp Tryz.prog Q a0 w := by
  refine wp_region_list ?_
  refine wl_of rfl (op_row 28 (.tmp 4) 17 _ (ringC v r) rfl c 0 e4 Tryz.underlying28 rfl siz28 (ringC_len hR) (range_of hc) ?_)
  show wpList Tryz.prog _ Q _ (a0.put (some 38) _) w
  refine wl_of rfl (op_call 29 #[.tmp 38] #[28] rfl #[ringV v r] (by simp [ev_put, hz]; rfl) (enters_of Tryz.func29 (by kernel_rfl) rfl) ((gbytes_any v r hf w hR).mono ?_))
  rintro e y ⟨rfl, q2⟩
  refine ⟨_, rfl, ?_⟩
  show wpList Tryz.prog _ Q _ ((a0.put (some 38) _).put (some 39) _) y
  refine wl_of rfl (op_mv (.tmp 0) (.string s) (.inl rfl) (by simp [ev_put, put_size, hz, e0]) 40 rfl ?_)
  refine wl_of rfl (op_bin .neq 9 (.tmp 39) (.tmp 40) 9 _ _ _ rfl (by simp [ev_put, put_size, hz]; rfl) (by simp [ev_put, put_size, hz]; rfl) (fun w => guard9 _ _ _ _ w) (fun w => neq9 _ _ w) ?_)
  refine wl_end (hend _ y (((((After.self a0).put 38 _).put 39 _).put 40 _).put 41 _) ?_ q2)
  show (Act.put _ (some 41) _).eval (.tmp 41) = _
  simp [ev_put, put_size, hz]
theorem bd28 (w : World) : (Instr.build 28 #[]).run Tryz.prog w = .ok (.agg (ringC (.slice none 0 0) ([], noOs)).toArray) w := by kernel_rfl
theorem noC_len : (ringC (.slice none 0 0) ([], noOs)).length = 17 := rfl
theorem noC_one' : ∀ u ∈ ringC (.slice none 0 0) ([], noOs), u.oneCell' = true := ringC_one (noR_at 0 default)
set_option maxRecDepth 100000 in
theorem r31_13 {Q : Exit → Act → World → Prop} {a0 : Act} {w : World} (hz : a0.tmps.size = 44) (b : Nat) (old : List Value) (hb : Holds w b old 28) (hol : old.length = 17) (e2 : a0.eval (.tmp 2) = .pointer (some ⟨b, 0, none⟩)) (hend : ∀ ac y, After [3, 42] a0 ac → ac.eval (.tmp 3) = .int .i64 11 → Turned b w y (ringC (.slice none 0 0) ([], noOs)) 28 → Q .normal ac y) : (Code.region 13 q31_13 false).wp Tryz.prog Q a0 w := by
  refine wp_region_list ?_
  refine wl_of rfl (op_bd0' 28 _ rfl (fun w => bd28 w) ?_)
  show wpList Tryz.prog _ Q _ (a0.put (some 42) _) w
  refine wpList_store_all rfl 28 (.tmp 2) (.tmp 42) rfl b (by simp [ev_put, hz, e2]) _ (by simp [ev_put, hz]) 28 old hb (siz28.trans (by rw [noC_len])) (by rw [hol, noC_len]) noC_one' ?_
  intro y h
  show wpList Tryz.prog _ Q _ (a0.put (some 42) _) y
  refine wl_of rfl (op_mv (.const (.int .i64 11)) (.int .i64 11) (.inr rfl) rfl 3 rfl (wl_end (hend _ y (((After.self a0).put 42 _).put 3 _) ?_ h)))
  simp [ev_put, put_size, hz]
set_option maxRecDepth 100000 in
theorem r31_14 {Q : Exit → Act → World → Prop} {a0 : Act} {w : World} (hz : a0.tmps.size = 44) (b c : Nat) (v : Value) (r : Rg) (old : List Value) (hR : RingAt w.heap.size w v r) (hc : Holds w c (ringC v r) 28) (hb : Holds w b old 28) (hol : old.length = 17) (e2 : a0.eval (.tmp 2) = .pointer (some ⟨b, 0, none⟩)) (e4 : a0.eval (.tmp 4) = .pointer (some ⟨c, 0, none⟩)) (hend : ∀ ac y, After [3, 43] a0 ac → ac.eval (.tmp 3) = .int .i64 0 → Turned b w y (ringC v r) 28 → Q .normal ac y) : (Code.region 14 q31_14 false).wp Tryz.prog Q a0 w := by
  refine wp_region_list ?_
  refine wl_of rfl (op_row 28 (.tmp 4) 17 _ (ringC v r) rfl c 0 e4 Tryz.underlying28 rfl siz28 (ringC_len hR) (range_of hc) ?_)
  show wpList Tryz.prog _ Q _ (a0.put (some 43) _) w
  refine wpList_store_all rfl 28 (.tmp 2) (.tmp 43) rfl b (by simp [ev_put, hz, e2]) (ringC v r) (by simp [ev_put, hz]) 28 old hb (siz28.trans (by rw [ringC_len hR])) (by rw [hol, ringC_len hR]) (ringC_one hR) ?_
  intro y h
  show wpList Tryz.prog _ Q _ (a0.put (some 43) _) y
  refine wl_of rfl (op_mv (.const (.int .i64 0)) (.int .i64 0) (.inr rfl) rfl 3 rfl (wl_end (hend _ y (((After.self a0).put 43 _).put 3 _) ?_ h)))
  simp [ev_put, put_size, hz]
/-- The slots and the memory while a ring is read. -/
structure Lo (b c m M : Nat) (w : World) (s : ByteArray) (ac : Act) (x : World) (v : Value) (ms : List Mb) (os : List Ow) (st : Rd.St) : Prop where
  z : ac.tmps.size = 44
  df : ac.defers = []
  e0 : ac.eval (.tmp 0) = .string s
  e2 : ac.eval (.tmp 2) = .pointer (some ⟨b, 0, none⟩)
  e4 : ac.eval (.tmp 4) = .pointer (some ⟨c, 0, none⟩)
  e5 : ac.eval (.tmp 5) = .pointer (some ⟨m, 0, none⟩)
  mem : Mem rdK b c m M w x v ms os st
theorem Lo.to {b c m M : Nat} {w x y : World} {s : ByteArray} {ac ad : Act} {D : List Nat} {v v' : Value} {ms ms' : List Mb} {os os' : List Ow} {st st' : Rd.St} (h : Lo b c m M w s ac x v ms os st) (hA : After D ac ad) (hD : (D.all fun s => decide (6 ≤ s)) = true) (hm : Mem rdK b c m M w y v' ms' os' st') : Lo b c m M w s ad y v' ms' os' st' :=
  ⟨hA.size.trans h.z, hA.defers.trans h.df, hA.keep hD (by omega) h.e0, hA.keep hD (by omega) h.e2, hA.keep hD (by omega) h.e4, hA.keep hD (by omega) h.e5, hm⟩
theorem Lo.gr {b c m M : Nat} {w x y : World} {s : ByteArray} {ac ad : Act} {D : List Nat} {v : Value} {ms : List Mb} {os : List Ow} {st : Rd.St} (h : Lo b c m M w s ac x v ms os st) (hA : After D ac ad) (hD : (D.all fun s => decide (6 ≤ s)) = true) (g : Gr x y) : Lo b c m M w s ad y v ms os st := h.to hA hD (h.mem.gr g)
theorem read31_l {Q : Exit → Act → World → Prop} {b c m M n : Nat} {w x : World} {s : ByteArray} {ac : Act} {v : Value} {os : List Ow} {st : Rd.St} (hn : n ≤ 900000000) (hs : st.1.size < 9223372036854775808) (h : Lo b c m M w s ac x v [] os st) (e10 : ac.eval (.tmp 10) = .int .i64 (n : Int)) (e11 : ac.eval (.tmp 11) = .int .i64 ((0 : Nat) : Int))
    (hend : ∀ ad y v', Lo b c m M w s ad y v' (Rd.rdMs n st).1 os (Rd.rdMs n st).2 → Q .normal ad y) : c31_l.wp Tryz.prog Q ac x := by
  unfold c31_l
  refine wp_block ?_
  refine wp_loop (fun ad y => ∃ (k : Nat) (v' : Value), Lo b c m M w s ad y v' (Rd.rdMs k st).1 os (Rd.rdMs k st).2 ∧ k ≤ n ∧ ad.eval (.tmp 10) = .int .i64 (n : Int) ∧ ad.eval (.tmp 11) = .int .i64 (k : Int)) (fun ad _ => n - (intOf (ad.eval (.tmp 11))).toNat)
    ⟨0, v, h, Nat.zero_le _, e10, e11⟩ (fun a0 x0 ⟨k, v', h0, hk, f10, f11⟩ => ?_)
  unfold c31_a
  refine wp_seq (r31_4 h0.z k n f11 f10 (fun a2 x2 A2 o2 G2 => ?_))
  have h2 := h0.gr A2 (by decide) G2
  have g10 := A2.get f10 (by decide)
  have g11 := A2.get f11 (by decide)
  show Code.wp Tryz.prog (Code.seq _ _) _ a2 x2
  refine wp_seq (wp_cond_split o2 (fun q => ?_) (fun q => ?_))
  · have q : (k : Int) < n := of_decide_eq_true q
    refine wp_skip ?_
    show Code.wp Tryz.prog (Code.seq _ _) _ a2 x2
    refine wp_seq (wp_block ?_)
    refine r31_5 h2.z h2.mem (by rw [Rd.rdMs_len]; omega) (Nat.lt_of_le_of_lt (Rd.rdMs_size k st) hs) h2.e4 h2.e5 (fun a3 x3 v3 A3 M3 => ?_)
    have h3 := h2.to A3 (by decide) M3
    have i11 := A3.get g11 (by decide)
    have i10 := A3.get g10 (by decide)
    show Code.wp Tryz.prog (Code.region 6 q31_6 false) _ a3 x3
    refine r31_6 h3.z k (by omega) i11 (fun a4 x4 A4 o4 G4 => ?_)
    refine ⟨⟨k + 1, v3, h3.gr A4 (by decide) G4, by omega, A4.get i10 (by decide), o4⟩, ?_⟩
    rw [o4, f11]
    simp only [intOf]
    omega
  · have q : ¬ (k : Int) < n := of_decide_eq_false q
    obtain rfl : k = n := by omega
    exact wp_exit (hend a2 x2 v' h2)
theorem read31_m {Q : Exit → Act → World → Prop} {b c m M : Nat} {w x : World} {s : ByteArray} {ac : Act} {v : Value} {ms : List Mb} {st : Rd.St} (hs : st.1.size < 9223372036854775808) (h : Lo b c m M w s ac x v ms noOs st) (e26 : ac.eval (.tmp 26) = .int .i64 ((0 : Nat) : Int))
    (hend : ∀ ad y, Lo b c m M w s ad y v ms (Rd.rdOs 8 st).1 (Rd.rdOs 8 st).2 → Q .normal ad y) : c31_m.wp Tryz.prog Q ac x := by
  unfold c31_m
  refine wp_block ?_
  refine wp_loop (fun ad y => ∃ (k : Nat), Lo b c m M w s ad y v ms (osK (Rd.rdOs k st).1 k) (Rd.rdOs k st).2 ∧ k ≤ 8 ∧ ad.eval (.tmp 26) = .int .i64 (k : Int)) (fun ad _ => 8 - (intOf (ad.eval (.tmp 26))).toNat)
    ⟨0, h, by omega, e26⟩ (fun a0 x0 ⟨k, h0, hk, f26⟩ => ?_)
  unfold c31_b
  refine wp_seq (r31_8 h0.z k f26 (fun a2 x2 A2 o2 G2 => ?_))
  have h2 := h0.gr A2 (by decide) G2
  have g26 := A2.get f26 (by decide)
  show Code.wp Tryz.prog (Code.seq _ _) _ a2 x2
  refine wp_seq (wp_cond_split o2 (fun q => ?_) (fun q => ?_))
  · have q : (k : Int) < 8 := of_decide_eq_true q
    have hk8 : k < 8 := by omega
    refine wp_skip ?_
    show Code.wp Tryz.prog (Code.seq _ _) _ a2 x2
    refine wp_seq (wp_block (wp_seq (r31_9 h2.z k g26 (fun a3 x3 A3 o6 G3 => ?_))))
    have h3 := h2.gr A3 (by decide) G3
    have i26 := A3.get g26 (by decide)
    show Code.wp Tryz.prog (Code.region 10 q31_10 false) _ a3 x3
    refine r31_10 h3.z h3.mem hk8 (osK_len (Rd.rdOs_len k st) hk) (Nat.lt_of_le_of_lt (Rd.rdOs_size k st) hs) o6 h3.e4 h3.e5 (fun a4 x4 A4 M4 => ?_)
    rw [osK_set (Rd.rdOs_len k st) hk8] at M4
    have h4 := h3.to A4 (by decide) M4
    have j26 := A4.get i26 (by decide)
    show Code.wp Tryz.prog (Code.region 11 q31_11 false) _ a4 x4
    refine r31_11 h4.z k (by omega) j26 (fun a5 x5 A5 o5 G5 => ?_)
    refine ⟨⟨k + 1, h4.gr A5 (by decide) G5, by omega, o5⟩, ?_⟩
    rw [o5, f26]
    simp only [intOf]
    omega
  · have q : ¬ (k : Int) < 8 := of_decide_eq_false q
    obtain rfl : k = 8 := by omega
    rw [osK_all] at h2
    exact wp_exit (hend a2 x2 h2)
theorem readR_fit (s : ByteArray) : RFit (Rd.readR s) := ⟨fun m hm => Rd.rdMs_fit _ _ m hm, fun j hj => by
  have hl : (Rd.readR s).2.length = 8 := Rd.rdOs_len _ _
  have hj' : j < (Rd.readR s).2.length := by omega
  have e : (Rd.readR s).2.getD j noO = (Rd.readR s).2[j] := by rw [List.getD_eq_getElem?_getD, List.getElem?_eq_getElem hj']; rfl
  rw [e]
  exact Rd.rdOs_fit _ _ _ (List.getElem_mem _)⟩
/-- What Read tells. -/
def readG (s : ByteArray) : Rg × Int := if bytesG (normL (Rd.readR s)) = s.data.toList then (Rd.readR s, 0) else (([], noOs), 11)
theorem strL_eq (l : List UInt8) (s : ByteArray) : ((Pk.strL l).toList == s.toList) = decide (l = s.data.toList) := by
  have e1 : (Pk.strL l).toList = l := by rw [Go.ByteArray.toList_eq]; rfl
  have e2 : s.toList = s.data.toList := Go.ByteArray.toList_eq s
  rw [e1, e2]
  by_cases h : l = s.data.toList
  · rw [h]; simp
  · simp [h]
set_option maxHeartbeats 1000000 in
theorem read31_any (s : ByteArray) (hs : s.size ≤ 1000000000) (w : World) : Calls Tryz.prog 31 #[.string s] w (RetR w (readG s).1 (readG s).2) := by
  obtain ⟨b, hwb⟩ : ∃ b, w.heap.size = b := ⟨_, rfl⟩
  have hmn := Rd.mnV_le s
  have hms := Rd.rdMany_size s
  refine calls_by (c := c31) Tryz.func31 (by kernel_rfl) 44 (by rw [Tryz.ntmps31]; rfl) (fun ac z df hv => ?_)
  have e0 := hv 0 _ rfl
  clear hv
  unfold c31
  refine wp_seq (r31_0 z b hwb (fun a1 x1 A1 o2 N1 => ?_))
  have z1 := A1.size.trans z
  have s1 : x1.heap.size = b + 1 := N1.size
  show Code.wp Tryz.prog (Code.seq _ _) _ a1 x1
  refine wp_seq (r31_1 z1 (b + 1) s1 (fun a2 x2 A2 o4 N2 => ?_))
  have z2 := A2.size.trans z1
  have s2 : x2.heap.size = b + 2 := N2.size
  show Code.wp Tryz.prog (Code.seq _ _) _ a2 x2
  refine wp_seq (r31_2 z2 s (A2.get (A1.get e0 (by decide)) (by decide)) (fun a3 x3 A3 o5 R3 G3 => ?_))
  rw [s2] at o5 R3
  have z3 := A3.size.trans z2
  show Code.wp Tryz.prog (Code.seq (Code.seq _ c31_l) _) _ a3 x3
  refine wp_seq (wp_seq (r31_3 z3 (b + 2) s (by omega) R3 o5 (fun a4 x4 A4 o10 o11 R4 U4 => ?_)))
  have hH2 : Holds x2 b (ringC (.slice none 0 0) ([], noOs)) 28 := N1.holds.below N2.below (by omega)
  have hB2 : Below b w x2 := N1.below.trans (N2.below.mono (by omega))
  have s3 : b + 3 ≤ x3.heap.size := by have := R3.lt; omega
  have s4 : x3.heap.size ≤ x4.heap.size := U4.size
  have g2 : a4.eval (.tmp 2) = .pointer (some ⟨b, 0, none⟩) := A4.get (A3.get (A2.get o2 (by decide)) (by decide)) (by decide)
  have g4 : a4.eval (.tmp 4) = .pointer (some ⟨b + 1, 0, none⟩) := A4.get (A3.get o4 (by decide)) (by decide)
  have g5 : a4.eval (.tmp 5) = .pointer (some ⟨b + 2, 0, none⟩) := A4.get o5 (by decide)
  have g0 : a4.eval (.tmp 0) = .string s := A4.get (A3.get (A2.get (A1.get e0 (by decide)) (by decide)) (by decide)) (by decide)
  have hM : Mem rdK b (b + 1) (b + 2) x4.heap.size w x4 (.slice none 0 0) [] noOs (Rd.rdMany s) :=
    ⟨(hH2.below G3 hH2.lt).upd U4 (by omega), (N2.holds.below G3 N2.holds.lt).upd U4 (by omega), ⟨rfl, .inl ⟨rfl, rfl⟩⟩, R4, (hB2.trans (G3.mono (by omega))).trans (U4.below (by omega) (by omega)), by omega, by omega, by omega, by omega, by omega, Nat.le_refl _⟩
  have hL : Lo b (b + 1) (b + 2) x4.heap.size w s a4 x4 (.slice none 0 0) [] noOs (Rd.rdMany s) := ⟨A4.size.trans z3, A4.defers.trans (A3.defers.trans (A2.defers.trans (A1.defers.trans df))), g0, g2, g4, g5, hM⟩
  show Code.wp Tryz.prog c31_l _ a4 x4
  refine read31_l (n := Pk.mnV s 3) (by omega) (Nat.lt_of_le_of_lt hms (by omega)) hL o10 o11 (fun a5 x5 v5 h5 => ?_)
  show Code.wp Tryz.prog (Code.seq (Code.seq _ c31_m) c31_f) _ a5 x5
  refine wp_seq (wp_seq (r31_7 h5.z (fun a6 x6 A6 o26 G6 => ?_)))
  have h6 := h5.gr A6 (by decide) G6
  show Code.wp Tryz.prog c31_m _ a6 x6
  refine read31_m (Nat.lt_of_le_of_lt (Nat.le_trans (Rd.rdMs_size _ _) hms) (by omega)) h6 o26 (fun a7 x7 h7 => ?_)
  have h7 : Lo b (b + 1) (b + 2) x4.heap.size w s a7 x7 v5 (Rd.readR s).1 (Rd.readR s).2 (Rd.rdB s).2 := h7
  generalize (Rd.rdB s).2 = st7 at h7
  have hfit := readR_fit s
  have hlen : (Rd.readR s).2.length = 8 := Rd.rdOs_len _ _
  have hRG : (readG s) = if bytesG (normL (Rd.readR s)) = s.data.toList then (Rd.readR s, 0) else (([], noOs), 11) := rfl
  generalize readG s = rg at *
  generalize Rd.readR s = r at *
  have hRA : RingAt x7.heap.size x7 v5 r := h7.mem.ring hlen
  show Code.wp Tryz.prog c31_f _ a7 x7
  unfold c31_f
  refine wp_seq (wp_seq (r31_12 h7.z (b + 1) v5 r s h7.mem.h4 hRA hfit h7.e4 h7.e0 (fun a8 x8 A8 o41 G8 => ?_)))
  have h8 := h7.gr A8 (by decide) G8
  rw [strL_eq] at o41
  have hRB : RingAt x8.heap.size x8 v5 r := h8.mem.ring hlen
  show Code.wp Tryz.prog (Code.cond _ _ _) _ a8 x8
  refine wp_cond_split o41 (fun q => ?_) (fun q => ?_)
  · have q : ¬ bytesG (normL r) = s.data.toList := by simpa using q
    rw [if_neg q] at hRG
    subst hRG
    refine wp_seq (r31_13 h8.z b _ h8.mem.h2 noC_len h8.e2 (fun a9 x9 A9 o3 T9 => ?_))
    refine wp_ret (bodyPost_ret (results_ring2 (p := 2) (u := 3) (by kernel_rfl) _ x9 b _ (A9.get h8.e2 (by decide)) T9.holds noC_len) (A9.defers.trans h8.df) ⟨.slice none 0 0, ?_, noR_at x9.heap.size x9, hwb ▸ h8.mem.bl.trans (T9.below (Nat.le_refl _))⟩)
    show Ending.returned (.tuple #[.agg _, a9.eval (.tmp 3)]) = _
    rw [o3]
    rfl
  · have q : bytesG (normL r) = s.data.toList := by simpa using q
    rw [if_pos q] at hRG
    subst hRG
    refine wp_skip ?_
    show Code.wp Tryz.prog (Code.seq _ _) _ a8 x8
    refine wp_seq (r31_14 h8.z b (b + 1) v5 r _ hRB h8.mem.h4 h8.mem.h2 noC_len h8.e2 h8.e4 (fun a9 x9 A9 o3 T9 => ?_))
    have hn : ∀ cs fr, x8.heap[b]? ≠ some (.cells cs 53 fr) := fun cs fr e => by
      have := h8.mem.h2
      unfold Holds at this
      rw [this] at e
      simp at e
    have own9 := own_upd h8.mem.own (Turned.upd T9) hn
    have hs9 : x9.heap.size = x8.heap.size := T9.size
    refine wp_ret (bodyPost_ret (results_ring2 (p := 2) (u := 3) (by kernel_rfl) _ x9 b _ (A9.get h8.e2 (by decide)) T9.holds (ringC_len hRB)) (A9.defers.trans h8.df) ⟨v5, ?_, ⟨mems_of_row own9, hlen⟩, hwb ▸ h8.mem.bl.trans (T9.below (Nat.le_refl _))⟩)
    show Ending.returned (.tuple #[.agg _, a9.eval (.tmp 3)]) = _
    rw [o3]
    rfl

end Go.Proofs.YthmnjebmnocoiaaGreat.En
