/- JsNum, JsClo. -/
import Derived.Lib.ParseIntB
import Derived.Test.YtogippkapadolaaDoorYJ5
import Derived.Test.YtogippkapadolaaDoorYJ8
import Derived.Test.YtogippkapadolaaDoorYJ7
/- Numbers (by gen_jsnum.py). -/
namespace Go.Proofs.YtogippkapadolaaDoor
open Go.RowKit

/-- What the library's errors are read from. -/
structure Glob (w : World) : Prop where
  syn : ∃ ev, w.cell? ⟨1, 0, none⟩ = some ev ∧ (ev = .nilIface ∨ ∃ te pe, ev = .iface te pe)
  ran : ∃ ev, w.cell? ⟨2, 0, none⟩ = some ev ∧ (ev = .nilIface ∨ ∃ te pe, ev = .iface te pe)
theorem cell_lt {w : World} {g k : Nat} {v : Value} (h : w.cell? ⟨g, k, none⟩ = some v) : g < w.heap.size := by
  rcases Nat.lt_or_ge g w.heap.size with q | q
  · exact q
  · simp [World.cell?, Array.getElem?_eq_none q] at h
theorem Glob.same {w w' : World} (h : Glob w) (hk : ∀ k, k < 3 → k < w.heap.size → w'.heap[k]? = w.heap[k]?) : Glob w' := by
  obtain ⟨⟨e1, h1, h2⟩, e2, h3, h4⟩ := h
  refine ⟨⟨e1, ?_, h2⟩, e2, ?_, h4⟩
  · rw [← h1]; simp only [World.cell?, hk 1 (by omega) (cell_lt h1)]
  · rw [← h3]; simp only [World.cell?, hk 2 (by omega) (cell_lt h3)]
theorem Glob.upd {b : Nat} {w w' : World} (h : Glob w) (hu : Upd b w w') (hb : 2 < b) : Glob w' := h.same fun k h1 h2 => hu.block k h2 (by omega)
theorem Glob.gr {w w' : World} (h : Glob w) (hg : Gr w w') : Glob w' := h.same fun k _ h2 => hg.block k h2
def errOk (ok : Bool) (v : Value) : Prop := if ok then v = .nilIface else ∃ N, v = .iface 117 (.pointer (some ⟨N, 0, none⟩))
def errF (ok : Bool) : Fact := ⟨fun v _ => errOk ok v, fun h _ => h⟩
def tupF (n : Int) (ok : Bool) : Fact := ⟨fun v _ => ∃ ev, v = .tuple #[.int .i64 n, ev] ∧ errOk ok ev, fun h _ => h⟩
theorem ext_list (s : ByteArray) (a b : Nat) : (s.extract a b).data.toList = (s.data.toList.take b).drop a := by
  rw [ByteArray.data_extract, Array.toList_extract, List.extract_eq_take_drop, List.drop_take]
theorem cut_str {s : ByteArray} {p q : Nat} (h1 : p ≤ q) (h2 : q ≤ s.size) : ∀ w, (Instr.slice 9 (.string s) (some (.int .i64 (p : Int))) (some (.int .i64 (q : Int))) none).run Tryd.prog w = .ok (.string (strL ((s.data.toList.take q).drop p))) w := by
  intro w
  rw [run_slice_string (P := Tryd.prog) w 9 s .i64 .i64 (p : Int) (q : Int) und9 (by omega) (by omega) (by omega)]
  have : s.extract (p : Int).toNat (q : Int).toNat = strL ((s.data.toList.take q).drop p) := by
    rw [← strL_of (s.extract _ _), ext_list]; rfl
  rw [this]
section
variable {ops : Array Oper} {Q : Exit → Act → World → Prop} {D : List Nat} {T : Nat → Fact} {a0 : Act} {w : World} {o : Oper}
theorem sa_ext0 (u : Operand) (d : Nat) (n : Int) (ok : Bool) (ho : o.op = .extract u 0) (hd : o.dst = some d) (hg : o.guard = none) (h1 : Has ops D T a0 o u (tupF n ok)) (hT : T d = Fact.val (.int .i64 n)) : StepAt Tryd.prog ops D T a0 w Q o :=
  sa_of d hd hg fun f a y c => by
    obtain ⟨ev, e1, _⟩ : ∃ ev, a.eval u = .tuple #[.int .i64 n, ev] ∧ errOk ok ev := h1.get c
    refine op_val (.int .i64 n) (y := y) ?_ ⟨_, rfl, Gr.refl _, by rw [hT]; rfl⟩
    unfold execOp
    simp only [ho, e1, Sem.run_bind]
    rfl
theorem sa_ext1 (u : Operand) (d : Nat) (n : Int) (ok : Bool) (ho : o.op = .extract u 1) (hd : o.dst = some d) (hg : o.guard = none) (h1 : Has ops D T a0 o u (tupF n ok)) (hT : T d = errF ok) : StepAt Tryd.prog ops D T a0 w Q o :=
  sa_of d hd hg fun f a y c => by
    obtain ⟨ev, e1, e2⟩ : ∃ ev, a.eval u = .tuple #[.int .i64 n, ev] ∧ errOk ok ev := h1.get c
    refine op_val ev (y := y) ?_ ⟨_, rfl, Gr.refl _, by rw [hT]; exact e2⟩
    unfold execOp
    simp only [ho, e1, Sem.run_bind]
    rfl
end
def q59_9 : Array Oper := #[{ dst := some 46, op := Op.move (Operand.tmp 0), type := 45, pos := "parse.go:101", after := #[], guard := none }, { dst := some 47, op := Op.nilCheck (Operand.tmp 46), type := 0, pos := "parse.go:101", after := #[{ on := 0, ground := Ground.data }], guard := none }, { dst := some 48, op := Op.fieldAddr 47 (Operand.tmp 47) 0, type := 0, pos := "parse.go:101", after := #[{ on := 1, ground := Ground.data }], guard := none }, { dst := some 49, op := Op.load 9 (Operand.tmp 48), type := 9, pos := "parse.go:101", after := #[{ on := 2, ground := Ground.data }], guard := none }, { dst := some 50, op := Op.move (Operand.tmp 3), type := 3, pos := "parse.go:101", after := #[], guard := none }, { dst := some 51, op := Op.move (Operand.tmp 0), type := 45, pos := "parse.go:101", after := #[], guard := none }, { dst := some 52, op := Op.nilCheck (Operand.tmp 51), type := 0, pos := "parse.go:101", after := #[{ on := 5, ground := Ground.data }], guard := none }, { dst := some 53, op := Op.fieldAddr 47 (Operand.tmp 52) 1, type := 0, pos := "parse.go:101", after := #[{ on := 6, ground := Ground.data }], guard := none }, { dst := some 54, op := Op.load 3 (Operand.tmp 53), type := 3, pos := "parse.go:101", after := #[{ on := 7, ground := Ground.data }], guard := none }, { dst := some 55, op := Op.slice 9 (Operand.tmp 49) (some (Operand.tmp 50)) (some (Operand.tmp 54)) none, type := 9, pos := "parse.go:101", after := #[{ on := 3, ground := Ground.data }, { on := 4, ground := Ground.data }, { on := 8, ground := Ground.data }], guard := none }, { dst := some 56, op := Op.call { callee := Callee.value (Operand.func 74), args := #[Operand.tmp 55, Operand.const (Value.int IntKind.i64 10), Operand.const (Value.int IntKind.i64 64)], argTypes := #[9, 3, 3] }, type := 95, pos := "parse.go:101", after := #[{ on := 9, ground := Ground.data }], guard := none }, { dst := some 45, op := Op.move (Operand.tmp 56), type := 95, pos := "parse.go:101", after := #[{ on := 10, ground := Ground.data }], guard := none }, { dst := some 57, op := Op.extract (Operand.tmp 45) 0, type := 2, pos := "parse.go:101", after := #[{ on := 11, ground := Ground.data }], guard := none }, { dst := some 58, op := Op.extract (Operand.tmp 45) 1, type := 94, pos := "parse.go:101", after := #[{ on := 11, ground := Ground.data }, { on := 14, ground := Ground.gcOnly Departure.lateStores }], guard := none }, { dst := some 4, op := Op.assign (Operand.tmp 57), type := 2, pos := "parse.go:101", after := #[{ on := 12, ground := Ground.data }, { on := 10, ground := Ground.chain }, { on := 0, ground := Ground.phase }, { on := 1, ground := Ground.phase }, { on := 2, ground := Ground.phase }, { on := 3, ground := Ground.phase }, { on := 4, ground := Ground.phase }, { on := 5, ground := Ground.phase }, { on := 6, ground := Ground.phase }, { on := 7, ground := Ground.phase }, { on := 8, ground := Ground.phase }, { on := 9, ground := Ground.phase }, { on := 10, ground := Ground.phase }, { on := 11, ground := Ground.phase }, { on := 12, ground := Ground.phase }, { on := 13, ground := Ground.textOnly Departure.lateStores }], guard := none }, { dst := some 5, op := Op.assign (Operand.tmp 58), type := 94, pos := "parse.go:101", after := #[{ on := 13, ground := Ground.data }, { on := 14, ground := Ground.chain }, { on := 0, ground := Ground.phase }, { on := 1, ground := Ground.phase }, { on := 2, ground := Ground.phase }, { on := 3, ground := Ground.phase }, { on := 4, ground := Ground.phase }, { on := 5, ground := Ground.phase }, { on := 6, ground := Ground.phase }, { on := 7, ground := Ground.phase }, { on := 8, ground := Ground.phase }, { on := 9, ground := Ground.phase }, { on := 10, ground := Ground.phase }, { on := 11, ground := Ground.phase }, { on := 12, ground := Ground.phase }, { on := 13, ground := Ground.phase }, { on := 14, ground := Ground.phase }], guard := none }]
def q59_4 : Array Oper := #[{ dst := some 20, op := Op.move (Operand.tmp 0), type := 45, pos := "parse.go:93", after := #[], guard := none }, { dst := some 21, op := Op.move (Operand.tmp 0), type := 45, pos := "parse.go:93", after := #[], guard := none }, { dst := some 22, op := Op.call { callee := Callee.value (Operand.func 60), args := #[Operand.tmp 21], argTypes := #[45] }, type := 5, pos := "parse.go:93", after := #[{ on := 1, ground := Ground.data }], guard := none }, { dst := some 23, op := Op.call { callee := Callee.value (Operand.func 73), args := #[Operand.tmp 22], argTypes := #[5] }, type := 4, pos := "parse.go:93", after := #[{ on := 2, ground := Ground.data }, { on := 2, ground := Ground.chain }], guard := none }, { dst := some 24, op := Op.call { callee := Callee.value (Operand.func 37), args := #[Operand.tmp 20, Operand.tmp 23], argTypes := #[45, 4] }, type := 0, pos := "parse.go:93", after := #[{ on := 0, ground := Ground.data }, { on := 3, ground := Ground.data }, { on := 3, ground := Ground.chain }], guard := none }]
def q59_5 : Array Oper := #[{ dst := some 25, op := Op.move (Operand.tmp 0), type := 45, pos := "parse.go:94", after := #[], guard := none }, { dst := some 26, op := Op.call { callee := Callee.value (Operand.func 60), args := #[Operand.tmp 25], argTypes := #[45] }, type := 5, pos := "parse.go:94", after := #[{ on := 0, ground := Ground.data }], guard := none }, { dst := some 27, op := Op.binOp BinOp.eql 5 (Operand.tmp 26) (Operand.const (Value.int IntKind.u8 48)) 5, type := 4, pos := "parse.go:94", after := #[{ on := 1, ground := Ground.data }], guard := none }]
def q59_6 : Array Oper := #[{ dst := some 28, op := Op.move (Operand.tmp 0), type := 45, pos := "parse.go:95", after := #[], guard := none }, { dst := some 29, op := Op.nilCheck (Operand.tmp 28), type := 0, pos := "parse.go:95", after := #[{ on := 0, ground := Ground.data }], guard := none }, { dst := some 30, op := Op.fieldAddr 47 (Operand.tmp 29) 1, type := 0, pos := "parse.go:95", after := #[{ on := 1, ground := Ground.data }], guard := none }, { dst := some 31, op := Op.load 3 (Operand.tmp 30), type := 3, pos := "parse.go:95", after := #[{ on := 2, ground := Ground.data }], guard := none }, { dst := some 32, op := Op.binOp BinOp.add 3 (Operand.tmp 31) (Operand.const (Value.int IntKind.i64 1)) 3, type := 3, pos := "parse.go:95", after := #[{ on := 3, ground := Ground.data }], guard := none }, { dst := some 33, op := Op.nilCheck (Operand.tmp 28), type := 0, pos := "parse.go:95", after := #[{ on := 0, ground := Ground.data }, { on := 0, ground := Ground.phase }, { on := 1, ground := Ground.phase }, { on := 2, ground := Ground.phase }, { on := 3, ground := Ground.phase }, { on := 4, ground := Ground.phase }], guard := none }, { dst := some 34, op := Op.fieldAddr 47 (Operand.tmp 33) 1, type := 0, pos := "parse.go:95", after := #[{ on := 5, ground := Ground.data }, { on := 0, ground := Ground.phase }, { on := 1, ground := Ground.phase }, { on := 2, ground := Ground.phase }, { on := 3, ground := Ground.phase }, { on := 4, ground := Ground.phase }], guard := none }, { dst := none, op := Op.store 3 (Operand.tmp 34) (Operand.tmp 32), type := 0, pos := "parse.go:95", after := #[{ on := 6, ground := Ground.data }, { on := 4, ground := Ground.data }, { on := 0, ground := Ground.phase }, { on := 1, ground := Ground.phase }, { on := 2, ground := Ground.phase }, { on := 3, ground := Ground.phase }, { on := 4, ground := Ground.phase }], guard := none }]
def q59_7 : Array Oper := #[{ dst := some 35, op := Op.move (Operand.tmp 0), type := 45, pos := "parse.go:97", after := #[], guard := none }, { dst := some 36, op := Op.call { callee := Callee.value (Operand.func 60), args := #[Operand.tmp 35], argTypes := #[45] }, type := 5, pos := "parse.go:97", after := #[{ on := 0, ground := Ground.data }], guard := none }, { dst := some 37, op := Op.call { callee := Callee.value (Operand.func 73), args := #[Operand.tmp 36], argTypes := #[5] }, type := 4, pos := "parse.go:97", after := #[{ on := 1, ground := Ground.data }, { on := 1, ground := Ground.chain }], guard := none }]
def q59_8 : Array Oper := #[{ dst := some 38, op := Op.move (Operand.tmp 0), type := 45, pos := "parse.go:98", after := #[], guard := none }, { dst := some 39, op := Op.nilCheck (Operand.tmp 38), type := 0, pos := "parse.go:98", after := #[{ on := 0, ground := Ground.data }], guard := none }, { dst := some 40, op := Op.fieldAddr 47 (Operand.tmp 39) 1, type := 0, pos := "parse.go:98", after := #[{ on := 1, ground := Ground.data }], guard := none }, { dst := some 41, op := Op.load 3 (Operand.tmp 40), type := 3, pos := "parse.go:98", after := #[{ on := 2, ground := Ground.data }], guard := none }, { dst := some 42, op := Op.binOp BinOp.add 3 (Operand.tmp 41) (Operand.const (Value.int IntKind.i64 1)) 3, type := 3, pos := "parse.go:98", after := #[{ on := 3, ground := Ground.data }], guard := none }, { dst := some 43, op := Op.nilCheck (Operand.tmp 38), type := 0, pos := "parse.go:98", after := #[{ on := 0, ground := Ground.data }, { on := 0, ground := Ground.phase }, { on := 1, ground := Ground.phase }, { on := 2, ground := Ground.phase }, { on := 3, ground := Ground.phase }, { on := 4, ground := Ground.phase }], guard := none }, { dst := some 44, op := Op.fieldAddr 47 (Operand.tmp 43) 1, type := 0, pos := "parse.go:98", after := #[{ on := 5, ground := Ground.data }, { on := 0, ground := Ground.phase }, { on := 1, ground := Ground.phase }, { on := 2, ground := Ground.phase }, { on := 3, ground := Ground.phase }, { on := 4, ground := Ground.phase }], guard := none }, { dst := none, op := Op.store 3 (Operand.tmp 44) (Operand.tmp 42), type := 0, pos := "parse.go:98", after := #[{ on := 6, ground := Ground.data }, { on := 4, ground := Ground.data }, { on := 0, ground := Ground.phase }, { on := 1, ground := Ground.phase }, { on := 2, ground := Ground.phase }, { on := 3, ground := Ground.phase }, { on := 4, ground := Ground.phase }], guard := none }]
def q59_10 : Array Oper := #[{ dst := some 59, op := Op.move (Operand.tmp 5), type := 94, pos := "parse.go:102", after := #[], guard := none }, { dst := some 60, op := Op.binOp BinOp.neq 94 (Operand.tmp 59) (Operand.const Value.nilIface) 94, type := 4, pos := "parse.go:102", after := #[{ on := 0, ground := Ground.data }], guard := none }]
def q59_11 : Array Oper := #[{ dst := some 61, op := Op.move (Operand.tmp 3), type := 3, pos := "parse.go:103", after := #[], guard := none }, { dst := some 62, op := Op.call { callee := Callee.value (Operand.func 61), args := #[Operand.tmp 61, Operand.const (Value.int IntKind.i64 60)], argTypes := #[3, 28] }, type := 0, pos := "parse.go:103", after := #[{ on := 0, ground := Ground.data }], guard := none }]
def q59_12 : Array Oper := #[{ dst := some 63, op := Op.move (Operand.tmp 4), type := 2, pos := "parse.go:105", after := #[], guard := none }, { dst := some 2, op := Op.assign (Operand.tmp 63), type := 2, pos := "parse.go:105", after := #[{ on := 0, ground := Ground.data }, { on := 0, ground := Ground.phase }], guard := none }]
def c59t : Code := (((Code.region 10 q59_10 false).seq (Code.cond (Operand.tmp 60) (Code.region 11 q59_11 false) Code.skip)).seq ((Code.region 12 q59_12 false).seq Code.ret))
def c59m : Code := ((Code.region 4 q59_4 false).seq (((Code.region 5 q59_5 false).seq (Code.cond (Operand.tmp 27) (Code.region 6 q59_6 false) (Code.block 0 ((((Code.region 7 q59_7 false).seq (Code.cond (Operand.tmp 37) Code.skip (Code.exit 0))).seq (Code.block 1 (Code.region 8 q59_8 false))).loop)))).seq ((Code.region 9 q59_9 true).seq c59t)))
set_option maxRecDepth 100000 in
theorem r59_9 {Q : Exit → Act → World → Prop} {a0 : Act} {w : World} (hz : a0.tmps.size = 64) {b p q k : Nat} {s : ByteArray} {n : Int} {ok : Bool} (hP : PAt w b s q k) (hpq : p ≤ q) (hq : q ≤ s.size) (e0 : a0.eval (.tmp 0) = (.pointer (some ⟨b, 0, none⟩))) (e3 : a0.eval (.tmp 3) = .int .i64 (p : Int))
    (hc : ∀ y, Gr w y → Calls Tryd.prog 74 #[(.string (strL ((s.data.toList.take q).drop p))), .int .i64 10, .int .i64 64] y fun e z => ∃ u, e = .returned u ∧ Gr y z ∧ (tupF n ok).holds u z)
    (hend : ∀ ac wz, After [46, 47, 48, 49, 50, 51, 52, 53, 54, 55, 56, 45, 57, 58, 4, 5] a0 ac → ac.eval (.tmp 4) = .int .i64 n → errOk ok (ac.eval (.tmp 5)) → Gr w wz → Q .normal ac wz) : (Code.region 9 q59_9 true).wp Tryd.prog Q a0 w := by
  refine drawn_by (by kernel_rfl) (by kernel_rfl) (by kernel_rfl) [46, 47, 48, 49, 50, 51, 52, 53, 54, 55, 56, 45, 57, 58, 4, 5] (fun | 46 => .val (.pointer (some ⟨b, 0, none⟩)) | 47 => .val (.pointer (some ⟨b, 0, none⟩)) | 48 => .val (.pointer (some ⟨b, 0, none⟩)) | 49 => .val (.string s) | 50 => .val (.int .i64 (p : Int)) | 51 => .val (.pointer (some ⟨b, 0, none⟩)) | 52 => .val (.pointer (some ⟨b, 0, none⟩)) | 53 => .val (.pointer (some ⟨b, 1, none⟩)) | 54 => .val (.int .i64 (q : Int)) | 55 => .val (.string (strL ((s.data.toList.take q).drop p))) | 56 => tupF n ok | 45 => tupF n ok | 57 => .val (.int .i64 n) | 58 => errF ok | 4 => .val (.int .i64 n) | 5 => errF ok | _ => .any) (by kernel_rfl) (List.forall_mem_cons.2 ⟨?s0, List.forall_mem_cons.2 ⟨?s1, List.forall_mem_cons.2 ⟨?s2, List.forall_mem_cons.2 ⟨?s3, List.forall_mem_cons.2 ⟨?s4, List.forall_mem_cons.2 ⟨?s5, List.forall_mem_cons.2 ⟨?s6, List.forall_mem_cons.2 ⟨?s7, List.forall_mem_cons.2 ⟨?s8, List.forall_mem_cons.2 ⟨?s9, List.forall_mem_cons.2 ⟨?s10, List.forall_mem_cons.2 ⟨?s11, List.forall_mem_cons.2 ⟨?s12, List.forall_mem_cons.2 ⟨?s13, List.forall_mem_cons.2 ⟨?s14, List.forall_mem_cons.2 ⟨?s15, fun o ho => nomatch ho⟩⟩⟩⟩⟩⟩⟩⟩⟩⟩⟩⟩⟩⟩⟩⟩) ?e
  case s0 => exact sa_move (.tmp 0) 46 (.val (.pointer (some ⟨b, 0, none⟩))) (.inl rfl) rfl rfl (.old 0 _ (by decide) e0) rfl
  case s1 => exact sa_nil (.tmp 46) 47 ⟨b, 0, none⟩ rfl rfl rfl (.new 46 (by kernel_rfl) (by rw [hz]; decide)) rfl
  case s2 => exact sa_fa 47 (.tmp 47) 0 48 (.pointer (some ⟨b, 0, none⟩)) (.pointer (some ⟨b, 0, none⟩)) rfl rfl rfl (.new 47 (by kernel_rfl) (by rw [hz]; decide)) (by intro w; kernel_rfl) rfl
  case s3 => exact sa_loadc 9 (.tmp 48) 49 b 0 (.string s) rfl rfl rfl (by intro w; kernel_rfl) (.new 48 (by kernel_rfl) (by rw [hz]; decide)) (fun y hy => (hP.gr hy).at 0 _ rfl) rfl
  case s4 => exact sa_move (.tmp 3) 50 (.val (.int .i64 (p : Int))) (.inl rfl) rfl rfl (.old 3 _ (by decide) e3) rfl
  case s5 => exact sa_move (.tmp 0) 51 (.val (.pointer (some ⟨b, 0, none⟩))) (.inl rfl) rfl rfl (.old 0 _ (by decide) e0) rfl
  case s6 => exact sa_nil (.tmp 51) 52 ⟨b, 0, none⟩ rfl rfl rfl (.new 51 (by kernel_rfl) (by rw [hz]; decide)) rfl
  case s7 => exact sa_fa 47 (.tmp 52) 1 53 (.pointer (some ⟨b, 0, none⟩)) (.pointer (some ⟨b, 1, none⟩)) rfl rfl rfl (.new 52 (by kernel_rfl) (by rw [hz]; decide)) (by intro w; kernel_rfl) rfl
  case s8 => exact sa_loadc 3 (.tmp 53) 54 b 1 (.int .i64 (q : Int)) rfl rfl rfl (by intro w; kernel_rfl) (.new 53 (by kernel_rfl) (by rw [hz]; decide)) (fun y hy => (hP.gr hy).at 1 _ rfl) rfl
  case s9 => exact sa_mid 9 (.tmp 49) (.tmp 50) (.tmp 54) 55 (.string s) (.int .i64 (p : Int)) (.int .i64 (q : Int)) (.string (strL ((s.data.toList.take q).drop p))) rfl rfl rfl (.new 49 (by kernel_rfl) (by rw [hz]; decide)) (.new 50 (by kernel_rfl) (by rw [hz]; decide)) (.new 54 (by kernel_rfl) (by rw [hz]; decide)) (cut_str hpq hq) rfl
  case s10 => exact sa_call3 74 (.tmp 55) (.const (.int .i64 10)) (.const (.int .i64 64)) _ 56 (.val (.string (strL ((s.data.toList.take q).drop p)))) (.val (.int .i64 10)) (.val (.int .i64 64)) rfl rfl rfl (.new 55 (by kernel_rfl) (by rw [hz]; decide)) (.const _) (.const _) (enters_of Tryd.func74 (by kernel_rfl) rfl) (fun v1 v2 v3 y hgy q1 q2 q3 => by rw [show v1 = _ from q1, show v2 = _ from q2, show v3 = _ from q3]; exact hc y hgy)
  case s11 => exact sa_move (.tmp 56) 45 (tupF n ok) (.inl rfl) rfl rfl (.new 56 (by kernel_rfl) (by rw [hz]; decide)) rfl
  case s12 => exact sa_ext0 (.tmp 45) 57 n ok rfl rfl rfl (.new 45 (by kernel_rfl) (by rw [hz]; decide)) rfl
  case s13 => exact sa_ext1 (.tmp 45) 58 n ok rfl rfl rfl (.new 45 (by kernel_rfl) (by rw [hz]; decide)) rfl
  case s14 => exact sa_move (.tmp 57) 4 (.val (.int .i64 n)) (.inr rfl) rfl rfl (.new 57 (by kernel_rfl) (by rw [hz]; decide)) rfl
  case s15 => exact sa_move (.tmp 58) 5 (errF ok) (.inr rfl) rfl rfl (.new 58 (by kernel_rfl) (by rw [hz]; decide)) rfl
  case e =>
  intro ac wz hA hgr hv
  exact hend ac wz hA (hv 4 (by kernel_rfl) (by rw [hz]; decide)) (hv 5 (by kernel_rfl) (by rw [hz]; decide)) hgr
theorem act_lit {a : Act} {n : Nat} (h : a.tmps.size = n) (hd : a.defers = []) : a = ⟨((List.range n).map fun s => a.eval (.tmp s)).toArray, []⟩ := by
  obtain ⟨A, Df⟩ := a
  have h1 : Df = [] := hd
  have h2 : A.size = n := h
  subst h1
  congr 1
  apply Array.ext
  · simp [h2]
  · intro i hi1 hi2
    simp only [List.getElem_toArray, List.getElem_map, List.getElem_range]
    show A[i] = A.getD i undef
    simp [hi1]
set_option maxHeartbeats 2000000 in
set_option maxRecDepth 100000 in
theorem num_tail {R : Ending → World → Prop} {ac : Act} {w : World} {p : Nat} {n : Int} {ok : Bool} (hz : ac.tmps.size = 64) (hd : ac.defers = []) (h3 : ac.eval (.tmp 3) = .int .i64 (p : Int)) (h4 : ac.eval (.tmp 4) = .int .i64 n) (h5 : errOk ok (ac.eval (.tmp 5)))
    (hR : if ok then R (.returned (.int .i64 n)) w else R (.panicked (faultV p 60)) w) : c59t.wp Tryd.prog (bodyPost Tryd.prog Tryd.f59 R) ac w := by
  have e : ac = ⟨(ac.eval (.tmp 0) :: ac.eval (.tmp 1) :: ac.eval (.tmp 2) :: ac.eval (.tmp 3) :: ac.eval (.tmp 4) :: ac.eval (.tmp 5) :: ac.eval (.tmp 6) :: ac.eval (.tmp 7) :: ac.eval (.tmp 8) :: ac.eval (.tmp 9) :: ac.eval (.tmp 10) :: ac.eval (.tmp 11) :: ac.eval (.tmp 12) :: ac.eval (.tmp 13) :: ac.eval (.tmp 14) :: ac.eval (.tmp 15) :: ac.eval (.tmp 16) :: ac.eval (.tmp 17) :: ac.eval (.tmp 18) :: ac.eval (.tmp 19) :: ac.eval (.tmp 20) :: ac.eval (.tmp 21) :: ac.eval (.tmp 22) :: ac.eval (.tmp 23) :: ac.eval (.tmp 24) :: ac.eval (.tmp 25) :: ac.eval (.tmp 26) :: ac.eval (.tmp 27) :: ac.eval (.tmp 28) :: ac.eval (.tmp 29) :: ac.eval (.tmp 30) :: ac.eval (.tmp 31) :: ac.eval (.tmp 32) :: ac.eval (.tmp 33) :: ac.eval (.tmp 34) :: ac.eval (.tmp 35) :: ac.eval (.tmp 36) :: ac.eval (.tmp 37) :: ac.eval (.tmp 38) :: ac.eval (.tmp 39) :: ac.eval (.tmp 40) :: ac.eval (.tmp 41) :: ac.eval (.tmp 42) :: ac.eval (.tmp 43) :: ac.eval (.tmp 44) :: ac.eval (.tmp 45) :: ac.eval (.tmp 46) :: ac.eval (.tmp 47) :: ac.eval (.tmp 48) :: ac.eval (.tmp 49) :: ac.eval (.tmp 50) :: ac.eval (.tmp 51) :: ac.eval (.tmp 52) :: ac.eval (.tmp 53) :: ac.eval (.tmp 54) :: ac.eval (.tmp 55) :: ac.eval (.tmp 56) :: ac.eval (.tmp 57) :: ac.eval (.tmp 58) :: ac.eval (.tmp 59) :: ac.eval (.tmp 60) :: ac.eval (.tmp 61) :: ac.eval (.tmp 62) :: ac.eval (.tmp 63) :: ([] : List Value)).toArray, []⟩ := (act_lit hz hd).trans rfl
  rw [h3, h4] at e
  generalize ac.eval (.tmp 0) = x0 at e
  generalize ac.eval (.tmp 1) = x1 at e
  generalize ac.eval (.tmp 2) = x2 at e
  generalize ac.eval (.tmp 6) = x6 at e
  generalize ac.eval (.tmp 7) = x7 at e
  generalize ac.eval (.tmp 8) = x8 at e
  generalize ac.eval (.tmp 9) = x9 at e
  generalize ac.eval (.tmp 10) = x10 at e
  generalize ac.eval (.tmp 11) = x11 at e
  generalize ac.eval (.tmp 12) = x12 at e
  generalize ac.eval (.tmp 13) = x13 at e
  generalize ac.eval (.tmp 14) = x14 at e
  generalize ac.eval (.tmp 15) = x15 at e
  generalize ac.eval (.tmp 16) = x16 at e
  generalize ac.eval (.tmp 17) = x17 at e
  generalize ac.eval (.tmp 18) = x18 at e
  generalize ac.eval (.tmp 19) = x19 at e
  generalize ac.eval (.tmp 20) = x20 at e
  generalize ac.eval (.tmp 21) = x21 at e
  generalize ac.eval (.tmp 22) = x22 at e
  generalize ac.eval (.tmp 23) = x23 at e
  generalize ac.eval (.tmp 24) = x24 at e
  generalize ac.eval (.tmp 25) = x25 at e
  generalize ac.eval (.tmp 26) = x26 at e
  generalize ac.eval (.tmp 27) = x27 at e
  generalize ac.eval (.tmp 28) = x28 at e
  generalize ac.eval (.tmp 29) = x29 at e
  generalize ac.eval (.tmp 30) = x30 at e
  generalize ac.eval (.tmp 31) = x31 at e
  generalize ac.eval (.tmp 32) = x32 at e
  generalize ac.eval (.tmp 33) = x33 at e
  generalize ac.eval (.tmp 34) = x34 at e
  generalize ac.eval (.tmp 35) = x35 at e
  generalize ac.eval (.tmp 36) = x36 at e
  generalize ac.eval (.tmp 37) = x37 at e
  generalize ac.eval (.tmp 38) = x38 at e
  generalize ac.eval (.tmp 39) = x39 at e
  generalize ac.eval (.tmp 40) = x40 at e
  generalize ac.eval (.tmp 41) = x41 at e
  generalize ac.eval (.tmp 42) = x42 at e
  generalize ac.eval (.tmp 43) = x43 at e
  generalize ac.eval (.tmp 44) = x44 at e
  generalize ac.eval (.tmp 45) = x45 at e
  generalize ac.eval (.tmp 46) = x46 at e
  generalize ac.eval (.tmp 47) = x47 at e
  generalize ac.eval (.tmp 48) = x48 at e
  generalize ac.eval (.tmp 49) = x49 at e
  generalize ac.eval (.tmp 50) = x50 at e
  generalize ac.eval (.tmp 51) = x51 at e
  generalize ac.eval (.tmp 52) = x52 at e
  generalize ac.eval (.tmp 53) = x53 at e
  generalize ac.eval (.tmp 54) = x54 at e
  generalize ac.eval (.tmp 55) = x55 at e
  generalize ac.eval (.tmp 56) = x56 at e
  generalize ac.eval (.tmp 57) = x57 at e
  generalize ac.eval (.tmp 58) = x58 at e
  generalize ac.eval (.tmp 59) = x59 at e
  generalize ac.eval (.tmp 60) = x60 at e
  generalize ac.eval (.tmp 61) = x61 at e
  generalize ac.eval (.tmp 62) = x62 at e
  generalize ac.eval (.tmp 63) = x63 at e
  unfold c59t q59_10 q59_11 q59_12
  cases ok with
  | true =>
    have h5 : ac.eval (.tmp 5) = .nilIface := h5
    rw [h5] at e
    subst e
    clear h3 h4 h5 hz hd
    go_wp2
    exact hR
  | false =>
    obtain ⟨N, h5⟩ : ∃ N, ac.eval (.tmp 5) = .iface 117 (.pointer (some ⟨N, 0, none⟩)) := h5
    rw [h5] at e
    subst e
    clear h3 h4 h5 hz hd
    have hg := giveUp_any p 60 w
    go_wp2_with (go_at_call 61; refine hg.mono ?_; rintro e w' ⟨rfl, rfl⟩)
    exact ⟨rfl, hR⟩
theorem parse_num (l : List UInt8) (hl : l.length ≤ 281474976710656) (wz : World) (hG : Glob wz) : ∃ n ok, (∀ y, Gr wz y → Calls Tryd.prog 74 #[.string (strL l), .int .i64 10, .int .i64 64] y fun e z => ∃ u, e = .returned u ∧ Gr y z ∧ (tupF n ok).holds u z) ∧ (if ok then Lib.parseIntB 64 l = .ok n else ∀ v, Lib.parseIntB 64 l ≠ .ok v) := by
  cases h : Lib.parseIntB 64 l with
  | ok v =>
    refine ⟨v, true, fun y hy => (Tryd.strconv_ParseInt_10_at64_ok (strL l) (by rw [strL_size]; omega) v h y).mono fun e z ⟨e1, e2⟩ => ⟨_, e1, ?_, _, rfl, rfl⟩, rfl⟩
    rcases e2 with rfl | ⟨t, rfl⟩
    · exact Gr.refl _
    · exact Lib.bytesWorld_below _ _ _
  | «syntax» =>
    refine ⟨0, false, fun y hy => ?_, fun v q => by cases q⟩
    obtain ⟨ev, h1, h2⟩ := (hG.gr hy).syn
    exact (Tryd.strconv_ParseInt_10_at64_syntax (strL l) (by rw [strL_size]; omega) h ev y h1 h2).mono fun e z ⟨N, e1, _, _, e4⟩ => ⟨_, e1, e4, _, rfl, N, rfl⟩
  | range =>
    refine ⟨Lib.intSat 64 l, false, fun y hy => ?_, fun v q => by cases q⟩
    obtain ⟨ev, h1, h2⟩ := (hG.gr hy).ran
    exact (Tryd.strconv_ParseInt_10_at64_range (strL l) (by rw [strL_size]; omega) h ev y h1 h2).mono fun e z ⟨N, e1, _, _, e4⟩ => ⟨_, e1, e4, _, rfl, N, rfl⟩
def intV1 (n : Int) (u : Value) (_ : World) : Prop := u = .int .i64 n
theorem digs_step {L : List UInt8} {p : Nat} (h : digitB (hereP L p) = true) : digsP L (L.length - p) p = digsP L (L.length - (p + 1)) (p + 1) := by
  have hl : p < L.length := here_lt (fun e => by rw [e] at h; cases h)
  obtain ⟨f, hf⟩ : ∃ f, L.length - p = f + 1 := ⟨L.length - p - 1, by omega⟩
  rw [hf, show L.length - (p + 1) = f by omega, digsP, if_pos h]
theorem digs_stay {L : List UInt8} {p : Nat} (h : digitB (hereP L p) = false) : digsP L (L.length - p) p = p := by
  cases L.length - p with
  | zero => rfl
  | succ f => rw [digsP, if_neg (by rw [h]; decide)]
theorem digit_lt {L : List UInt8} {p : Nat} (h : digitB (hereP L p) = true) : p < L.length := here_lt (fun e => by rw [e] at h; cases h)
/-- What is left of number once the digits are passed over: where it stands, and what it tells. -/
def NumT (b : Nat) (s : ByteArray) (p k : Nat) (w0 : World) : Ending → World → Prop := Done b s k w0 (numP s.data.toList p) intV1
theorem num_done {b p k : Nat} {s : ByteArray} {w0 wz : World} (hd : digitB (hereP s.data.toList (minusP s.data.toList p)) = true) (hU : Upd b w0 wz) (hP : PAt wz b s (numEnd s.data.toList p) k) {n : Int} {ok : Bool} (h : if ok then Lib.parseIntB 64 ((s.data.toList.take (numEnd s.data.toList p)).drop p) = .ok n else ∀ v, Lib.parseIntB 64 ((s.data.toList.take (numEnd s.data.toList p)).drop p) ≠ .ok v) :
    if ok then NumT b s p k w0 (.returned (.int .i64 n)) wz else NumT b s p k w0 (.panicked (faultV p 60)) wz := by
  unfold NumT numP
  rw [if_pos hd]
  cases ok with
  | true =>
    simp only [if_true] at h ⊢
    rw [h]
    exact ⟨hU, _, rfl, rfl, hP⟩
  | false =>
    simp only [Bool.false_eq_true, if_false] at h ⊢
    cases hx : Lib.parseIntB 64 ((s.data.toList.take (numEnd s.data.toList p)).drop p) with
    | ok v => exact absurd hx (h v)
    | «syntax» => exact ⟨hU, rfl⟩
    | range => exact ⟨hU, rfl⟩
set_option maxHeartbeats 4000000 in
set_option maxRecDepth 100000 in
theorem number_any (b : Nat) (s : ByteArray) (p k : Nat) (hp : p ≤ s.size) (hs : s.size ≤ 140737488355327) (w : World) (h : PAt w b s p k) (hG : Glob w) (hb : 2 < b) :
    Calls Tryd.prog 59 #[.pointer (some ⟨b, 0, none⟩)] w (NumT b s p k w) := by
  have hsl : s.data.toList.length = s.size := rfl
  have hh0 := here_any b s p k hp w h
  have c0 : w.cell? ⟨b, 1, none⟩ = some (.int .i64 (p : Int)) := h.at 1 _ rfl
  -- the parser behind a sign
  obtain ⟨m, hm⟩ : ∃ m, minusP s.data.toList p = m := ⟨_, rfl⟩
  have hpm : p ≤ m ∧ m ≤ s.size := by
    rw [← hm]; unfold minusP
    split
    · rename_i q
      have : p < s.data.toList.length := here_lt (by rw [q]; decide)
      omega
    · omega
  unfold NumT numP
  rw [hm]
  have hh1 : ∀ wz, PAt wz b s m k → Calls Tryd.prog 60 #[.pointer (some ⟨b, 0, none⟩)] wz fun e w' => e = .returned (.int .u8 ((hereP s.data.toList m).toNat : Int)) ∧ Gr wz w' := fun wz hP => here_any b s m k hpm.2 wz hP
  have hend : numEnd s.data.toList p = if hereP s.data.toList m = 48 then m + 1 else digsP s.data.toList (s.data.toList.length - m) m := by unfold numEnd; rw [hm]
  have hdg := isDigit_any (hereP s.data.toList m)
  -- where it begins
  have hin : ∀ wz, Gr w wz → (hereP s.data.toList p = 45 → PAt (wz.setCell ⟨b, 1, none⟩ (.int .i64 ((p : Int) + 1))) b s m k ∧ Upd b w (wz.setCell ⟨b, 1, none⟩ (.int .i64 ((p : Int) + 1)))) ∧ (hereP s.data.toList p ≠ 45 → PAt wz b s m k ∧ Upd b w wz) := fun wz hg => ⟨fun q => by
      have em : m = p + 1 := by rw [← hm, minusP, if_pos q]
      exact ⟨by rw [em]; exact pat_step (h.gr hg), (gr_upd hg).setCell 1 _⟩, fun q => by
      have em : m = p := by rw [← hm, minusP, if_neg q]
      exact ⟨by rw [em]; exact h.gr hg, gr_upd hg⟩⟩
  have f0 : ∀ wz, Gr w wz → wz.frozen? ⟨b, 1, none⟩ = false := fun wz hg => (h.gr hg).frozen 1
  have c1 : ∀ wz, Gr w wz → wz.cell? ⟨b, 1, none⟩ = some (.int .i64 (p : Int)) := fun wz hg => (h.gr hg).at 1 _ rfl
  have hp1 : (p : Int) + 1 ≤ 140737488355327 ∨ hereP s.data.toList p ≠ 45 := by
    by_cases q : hereP s.data.toList p = 45
    · have : p < s.data.toList.length := here_lt (by rw [q]; decide)
      exact .inl (by omega)
    · exact .inr q
  have htail : ∀ wz ac, PAt wz b s (numEnd s.data.toList p) k → Upd b w wz → m < numEnd s.data.toList p → numEnd s.data.toList p ≤ s.size → digitB (hereP s.data.toList m) = true → ac.tmps.size = 64 → ac.defers = [] → ac.eval (.tmp 0) = .pointer (some ⟨b, 0, none⟩) → ac.eval (.tmp 3) = .int .i64 (p : Int) → ∀ Q : Exit → Act → World → Prop, (∀ a x, c59t.wp Tryd.prog (bodyPost Tryd.prog Tryd.f59 (NumT b s p k w)) a x → Q .normal a x) → (Code.region 9 q59_9 true).wp Tryd.prog Q ac wz := fun wz ac hP hU h1 h2 hd hz hdf x0 x3 Q hQ => by
    obtain ⟨n, ok, hc, hres⟩ := parse_num ((s.data.toList.take (numEnd s.data.toList p)).drop p) (by simp; omega) wz (hG.upd hU hb)
    refine r59_9 hz hP (by omega) h2 x0 x3 hc fun ac' wz' hA x4 x5 hg => ?_
    exact hQ _ _ (num_tail (hA.size.trans hz) (hA.defers.trans hdf) ((hA.old 3 (by decide)).trans x3) x4 x5 (num_done (by rw [hm]; exact hd) (hU.trans (gr_upd hg)) (hP.gr hg) hres))
  unfold NumT numP at htail
  rw [hm] at htail
  by_cases hdig : digitB (hereP s.data.toList m) = true
  · have hml : m < s.size := digit_lt hdig
    rw [if_pos hdig] at htail ⊢
    rw [hdig] at hdg
    by_cases h48 : hereP s.data.toList m = 48
    · rw [if_pos h48] at hend
      have fin2 : ∀ wz, PAt wz b s m k → Upd b w wz → wz.cell? ⟨b, 1, none⟩ = some (.int .i64 (m : Int)) ∧ wz.frozen? ⟨b, 1, none⟩ = false ∧ PAt (wz.setCell ⟨b, 1, none⟩ (.int .i64 ((m : Int) + 1))) b s (m + 1) k ∧ Upd b w (wz.setCell ⟨b, 1, none⟩ (.int .i64 ((m : Int) + 1))) := fun wz hP hU => ⟨hP.at 1 _ rfl, hP.frozen 1, pat_step hP, hU.setCell 1 _⟩
      have hm1 : (m : Int) + 1 ≤ 140737488355328 := by omega
      rw [hend] at htail ⊢
      have htailZ := fun wz hP hU ac => htail wz ac hP hU (by omega) (by omega) hdig
      clear htail
      rw [h48] at hdg hh1
      have hdg : ∀ w, Calls Tryd.prog 73 #[.int .u8 48] w fun e w' => e = .returned (.bool true) ∧ w' = w := hdg
      have hh1 : ∀ wz, PAt wz b s m k → Calls Tryd.prog 60 #[.pointer (some ⟨b, 0, none⟩)] wz fun e w' => e = .returned (.int .u8 48) ∧ Gr wz w' := hh1
      by_cases h45 : hereP s.data.toList p = 45
      · rw [h45] at hh0
        have hp1 := hp1.resolve_right (by simp [h45])
        have hinP := fun wz hg => (hin wz hg).1 h45
        clear h hG hm hpm h45 hend hdig h48
        go_enter Tryd.func59, Tryd.ntmps59
        go_wp2_with (first
          | (go_at_call 60; refine hh0.mono ?_; rintro e w1 ⟨rfl, hg⟩; have c1 := c1 w1 hg; have f0 := f0 w1 hg; have fin := hinP w1 hg; clear hh0)
          | (go_at_call 60; refine (hh1 _ fin.1).mono ?_; rintro e w2 ⟨rfl, hg2⟩; have hP2 := fin.1.gr hg2; have hU2 := fin.2.trans (gr_upd hg2); clear fin)
          | (go_at_call 73; refine (hdg _).mono ?_; rintro e w3 ⟨rfl, rfl⟩; clear hdg)
          | (go_at_call 37; refine (insist_true _ _).mono ?_; rintro e w3 ⟨rfl, rfl⟩)
          | (go_at_call 60; refine (hh1 _ hP2).mono ?_; rintro e w4 ⟨rfl, hg4⟩; obtain ⟨c4, f4, hP4, hU4⟩ := fin2 _ (hP2.gr hg4) (hU2.trans (gr_upd hg4))))
        refine htailZ _ hP4 hU4 _ rfl rfl rfl rfl _ (fun a x h => ?_)
        rename_i hK
        exact hK _ _ h
      · have g45 : (((hereP s.data.toList p).toNat : Int) == 45) = false := u8_ne (n := 45) (by decide) h45
        have hinP : ∀ wz, Gr w wz → PAt wz b s m k ∧ Upd b w wz := fun wz hg => (hin wz hg).2 h45
        clear hin f0 c1 hp1
        generalize hereP s.data.toList p = c at *
        clear h hG hm hpm h45 hend hdig h48
        go_enter Tryd.func59, Tryd.ntmps59
        go_wp2_with (first
          | (go_at_call 60; refine hh0.mono ?_; rintro e w1 ⟨rfl, hg⟩; have fin := hinP w1 hg; clear hh0)
          | (go_at_call 60; refine (hh1 _ fin.1).mono ?_; rintro e w2 ⟨rfl, hg2⟩; have hP2 := fin.1.gr hg2; have hU2 := fin.2.trans (gr_upd hg2); clear fin)
          | (go_at_call 73; refine (hdg _).mono ?_; rintro e w3 ⟨rfl, rfl⟩; clear hdg)
          | (go_at_call 37; refine (insist_true _ _).mono ?_; rintro e w3 ⟨rfl, rfl⟩)
          | (go_at_call 60; refine (hh1 _ hP2).mono ?_; rintro e w4 ⟨rfl, hg4⟩; obtain ⟨c4, f4, hP4, hU4⟩ := fin2 _ (hP2.gr hg4) (hU2.trans (gr_upd hg4))))
        refine htailZ _ hP4 hU4 _ rfl rfl rfl rfl _ (fun a x h => ?_)
        rename_i hK
        exact hK _ _ h
    · rw [if_neg h48] at hend
      rw [hend] at htail ⊢
      have g48 : (((hereP s.data.toList m).toNat : Int) == 48) = false := u8_ne (n := 48) (by decide) h48
      obtain ⟨E, hE⟩ : ∃ E, digsP s.data.toList (s.data.toList.length - m) m = E := ⟨_, rfl⟩
      rw [hE] at htail ⊢
      have htailL := fun wz ac hP hU h1 h2 => htail wz ac hP hU h1 h2 hdig
      clear htail
      by_cases h45 : hereP s.data.toList p = 45
      · rw [h45] at hh0
        have hp1 := hp1.resolve_right (by simp [h45])
        have hinP := fun wz hg => (hin wz hg).1 h45
        clear h hG hm h45 hend
        go_enter Tryd.func59, Tryd.ntmps59
        go_wp2_with (first
          | (go_at_call 60; refine hh0.mono ?_; rintro e w1 ⟨rfl, hg⟩; have c1 := c1 w1 hg; have f0 := f0 w1 hg; have fin := hinP w1 hg; clear hh0)
          | (go_at_call 60; refine (hh1 _ fin.1).mono ?_; rintro e w2 ⟨rfl, hg2⟩; have hP2 := fin.1.gr hg2; have hU2 := fin.2.trans (gr_upd hg2); clear fin)
          | (go_at_call 73; refine (hdg _).mono ?_; rintro e w3 ⟨rfl, rfl⟩; clear hdg)
          | (go_at_call 37; refine (insist_true _ _).mono ?_; rintro e w3 ⟨rfl, rfl⟩)
          | (go_at_call 60; refine (hh1 _ hP2).mono ?_; rintro e w4 ⟨rfl, hg4⟩; have hP4 := hP2.gr hg4; have hU4 := hU2.trans (gr_upd hg4); clear hh1))
        go_loopw [37] (fun _ wr => ∃ q, m ≤ q ∧ q ≤ s.size ∧ (q = m ∨ m < q) ∧ digsP s.data.toList (s.data.toList.length - q) q = E ∧ PAt wr b s q k ∧ Upd b w wr) (fun _ wr => s.size - atOf wr b)
        case atStart => exact ⟨m, Nat.le_refl _, hpm.2, .inl rfl, hE, hP4, hU4⟩
        case round =>
          obtain ⟨q, hmq, hqs, hq1, hqE, hPq, hUq⟩ := hrel
          have hhq := here_any b s q k hqs wr hPq
          have hdq := isDigit_any (hereP s.data.toList q)
          by_cases hdd : digitB (hereP s.data.toList q) = true
          · rw [hdd] at hdq
            have hql : q < s.size := digit_lt hdd
            rw [digs_step hdd] at hqE
            have hq64 : (q : Int) + 1 ≤ 140737488355328 := by omega
            have finq : ∀ wz, Gr wr wz → wz.cell? ⟨b, 1, none⟩ = some (.int .i64 (q : Int)) ∧ wz.frozen? ⟨b, 1, none⟩ = false ∧ PAt (wz.setCell ⟨b, 1, none⟩ (.int .i64 ((q : Int) + 1))) b s (q + 1) k ∧ Upd b w (wz.setCell ⟨b, 1, none⟩ (.int .i64 ((q : Int) + 1))) ∧ s.size - atOf (wz.setCell ⟨b, 1, none⟩ (.int .i64 ((q : Int) + 1))) b < s.size - atOf wr b := fun wz hg => by
              have hz := pat_step (hPq.gr hg)
              refine ⟨(hPq.gr hg).at 1 _ rfl, (hPq.gr hg).frozen 1, hz, (hUq.trans (gr_upd hg)).setCell 1 _, ?_⟩
              rw [atOf_eq hz, atOf_eq hPq]; omega
            generalize hereP s.data.toList q = cq at *
            clear htailL hPq hUq hP4 hU4 hP2 hU2 hdd
            go_wp2_with (first
              | (go_at_call 60; refine hhq.mono ?_; rintro e w5 ⟨rfl, hg5⟩; obtain ⟨c5, f5, r5⟩ := finq w5 hg5; clear hhq finq)
              | (go_at_call 73; refine (hdq _).mono ?_; rintro e w6 ⟨rfl, rfl⟩; clear hdq))
            exact ⟨⟨q + 1, by omega, hql, .inr (by omega), hqE, r5.1, r5.2.1⟩, r5.2.2⟩
          · have hdf : digitB (hereP s.data.toList q) = false := by simpa using hdd
            rw [hdf] at hdq
            rw [digs_stay hdf] at hqE
            have hmlt : m < q := hq1.resolve_left (fun e => by rw [e] at hdf; rw [hdf] at hdig; cases hdig)
            subst hqE
            have hPg : ∀ wz, Gr wr wz → PAt wz b s q k ∧ Upd b w wz := fun wz hg => ⟨hPq.gr hg, hUq.trans (gr_upd hg)⟩
            have htailQ := fun wz hP hU ac => htailL wz ac hP hU hmlt hqs
            generalize hereP s.data.toList q = cq at *
            clear hPq hUq hP4 hU4 hP2 hU2 hdd hdf hdig
            go_wp2_with (first
              | (go_at_call 60; refine hhq.mono ?_; rintro e w5 ⟨rfl, hg5⟩; have hPz := hPg w5 hg5; clear hhq)
              | (go_at_call 73; refine (hdq _).mono ?_; rintro e w6 ⟨rfl, rfl⟩; clear hdq))
            refine htailQ _ hPz.1 hPz.2 _ rfl rfl rfl rfl _ (fun a x h => ?_)
            rename_i hK
            exact hK _ _ h
      · have g45 : (((hereP s.data.toList p).toNat : Int) == 45) = false := u8_ne (n := 45) (by decide) h45
        have hinP : ∀ wz, Gr w wz → PAt wz b s m k ∧ Upd b w wz := fun wz hg => (hin wz hg).2 h45
        clear hin f0 c1 hp1
        generalize hereP s.data.toList p = c at *
        clear h hG hm h45 hend
        go_enter Tryd.func59, Tryd.ntmps59
        go_wp2_with (first
          | (go_at_call 60; refine hh0.mono ?_; rintro e w1 ⟨rfl, hg⟩; have fin := hinP w1 hg; clear hh0)
          | (go_at_call 60; refine (hh1 _ fin.1).mono ?_; rintro e w2 ⟨rfl, hg2⟩; have hP2 := fin.1.gr hg2; have hU2 := fin.2.trans (gr_upd hg2); clear fin)
          | (go_at_call 73; refine (hdg _).mono ?_; rintro e w3 ⟨rfl, rfl⟩; clear hdg)
          | (go_at_call 37; refine (insist_true _ _).mono ?_; rintro e w3 ⟨rfl, rfl⟩)
          | (go_at_call 60; refine (hh1 _ hP2).mono ?_; rintro e w4 ⟨rfl, hg4⟩; have hP4 := hP2.gr hg4; have hU4 := hU2.trans (gr_upd hg4); clear hh1))
        go_loopw [37] (fun _ wr => ∃ q, m ≤ q ∧ q ≤ s.size ∧ (q = m ∨ m < q) ∧ digsP s.data.toList (s.data.toList.length - q) q = E ∧ PAt wr b s q k ∧ Upd b w wr) (fun _ wr => s.size - atOf wr b)
        case atStart => exact ⟨m, Nat.le_refl _, hpm.2, .inl rfl, hE, hP4, hU4⟩
        case round =>
          obtain ⟨q, hmq, hqs, hq1, hqE, hPq, hUq⟩ := hrel
          have hhq := here_any b s q k hqs wr hPq
          have hdq := isDigit_any (hereP s.data.toList q)
          by_cases hdd : digitB (hereP s.data.toList q) = true
          · rw [hdd] at hdq
            have hql : q < s.size := digit_lt hdd
            rw [digs_step hdd] at hqE
            have hq64 : (q : Int) + 1 ≤ 140737488355328 := by omega
            have finq : ∀ wz, Gr wr wz → wz.cell? ⟨b, 1, none⟩ = some (.int .i64 (q : Int)) ∧ wz.frozen? ⟨b, 1, none⟩ = false ∧ PAt (wz.setCell ⟨b, 1, none⟩ (.int .i64 ((q : Int) + 1))) b s (q + 1) k ∧ Upd b w (wz.setCell ⟨b, 1, none⟩ (.int .i64 ((q : Int) + 1))) ∧ s.size - atOf (wz.setCell ⟨b, 1, none⟩ (.int .i64 ((q : Int) + 1))) b < s.size - atOf wr b := fun wz hg => by
              have hz := pat_step (hPq.gr hg)
              refine ⟨(hPq.gr hg).at 1 _ rfl, (hPq.gr hg).frozen 1, hz, (hUq.trans (gr_upd hg)).setCell 1 _, ?_⟩
              rw [atOf_eq hz, atOf_eq hPq]; omega
            generalize hereP s.data.toList q = cq at *
            clear htailL hPq hUq hP4 hU4 hP2 hU2 hdd
            go_wp2_with (first
              | (go_at_call 60; refine hhq.mono ?_; rintro e w5 ⟨rfl, hg5⟩; obtain ⟨c5, f5, r5⟩ := finq w5 hg5; clear hhq finq)
              | (go_at_call 73; refine (hdq _).mono ?_; rintro e w6 ⟨rfl, rfl⟩; clear hdq))
            exact ⟨⟨q + 1, by omega, hql, .inr (by omega), hqE, r5.1, r5.2.1⟩, r5.2.2⟩
          · have hdf : digitB (hereP s.data.toList q) = false := by simpa using hdd
            rw [hdf] at hdq
            rw [digs_stay hdf] at hqE
            have hmlt : m < q := hq1.resolve_left (fun e => by rw [e] at hdf; rw [hdf] at hdig; cases hdig)
            subst hqE
            have hPg : ∀ wz, Gr wr wz → PAt wz b s q k ∧ Upd b w wz := fun wz hg => ⟨hPq.gr hg, hUq.trans (gr_upd hg)⟩
            have htailQ := fun wz hP hU ac => htailL wz ac hP hU hmlt hqs
            generalize hereP s.data.toList q = cq at *
            clear hPq hUq hP4 hU4 hP2 hU2 hdd hdf hdig
            go_wp2_with (first
              | (go_at_call 60; refine hhq.mono ?_; rintro e w5 ⟨rfl, hg5⟩; have hPz := hPg w5 hg5; clear hhq)
              | (go_at_call 73; refine (hdq _).mono ?_; rintro e w6 ⟨rfl, rfl⟩; clear hdq))
            refine htailQ _ hPz.1 hPz.2 _ rfl rfl rfl rfl _ (fun a x h => ?_)
            rename_i hK
            exact hK _ _ h
  · have hdf : digitB (hereP s.data.toList m) = false := by simpa using hdig
    rw [if_neg (by rw [hdf]; decide)]
    rw [hdf] at hdg
    clear hdf
    by_cases h45 : hereP s.data.toList p = 45
    · rw [h45] at hh0
      have hp1 := hp1.resolve_right (by simp [h45])
      have hinP := fun wz hg => (hin wz hg).1 h45
      clear h hG hm hpm h45 hend hdig htail
      go_enter Tryd.func59, Tryd.ntmps59
      go_wp2_with (first
        | (go_at_call 60; refine hh0.mono ?_; rintro e w1 ⟨rfl, hg⟩; have c1 := c1 w1 hg; have f0 := f0 w1 hg; have fin := hinP w1 hg; clear hh0)
        | (go_at_call 60; refine (hh1 _ fin.1).mono ?_; rintro e w2 ⟨rfl, hg2⟩; have hP2 := fin.1.gr hg2; have hU2 := fin.2.trans (gr_upd hg2); clear fin)
        | (go_at_call 73; refine (hdg _).mono ?_; rintro e w3 ⟨rfl, rfl⟩; clear hdg)
        | (go_at_call 37; refine (insist_false b s m k _ hP2).mono ?_; rintro e w3 ⟨rfl, rfl⟩))
      exact ⟨rfl, hU2, rfl⟩
    · have g45 : (((hereP s.data.toList p).toNat : Int) == 45) = false := u8_ne (n := 45) (by decide) h45
      have hinP : ∀ wz, Gr w wz → PAt wz b s m k ∧ Upd b w wz := fun wz hg => (hin wz hg).2 h45
      clear hin f0 c1 hp1
      generalize hereP s.data.toList p = c at *
      clear h hG hm hpm h45 hend hdig htail
      go_enter Tryd.func59, Tryd.ntmps59
      go_wp2_with (first
        | (go_at_call 60; refine hh0.mono ?_; rintro e w1 ⟨rfl, hg⟩; have fin := hinP w1 hg; clear hh0)
        | (go_at_call 60; refine (hh1 _ fin.1).mono ?_; rintro e w2 ⟨rfl, hg2⟩; have hP2 := fin.1.gr hg2; have hU2 := fin.2.trans (gr_upd hg2); clear fin)
        | (go_at_call 73; refine (hdg _).mono ?_; rintro e w3 ⟨rfl, rfl⟩; clear hdg)
        | (go_at_call 37; refine (insist_false b s m k _ hP2).mono ?_; rintro e w3 ⟨rfl, rfl⟩))
      exact ⟨rfl, hU2, rfl⟩
end Go.Proofs.YtogippkapadolaaDoor

/- The closures of list and object, by contract. -/
namespace Go.Proofs.YtogippkapadolaaDoor
open Go.RowKit

theorem name_le {L : List UInt8} {names : List (List UInt8)} {p q : Nat} {l : List UInt8} (hp : p ≤ L.length) (h : nameP L names p = .ok l q) : p < q ∧ q ≤ L.length := by
  unfold nameP at h
  have h1 := next_ge hp
  have h2 := next_le hp
  cases hq : quoP L (nextP L p) with
  | bad a b => rw [hq] at h; cases h
  | ok l1 q1 =>
    have h3 := quoP_le h2 hq
    rw [hq] at h
    have h : (if l1 ∈ names then Res.bad (nextP L p) 60 else (passP L [58] (nextP L q1)).bind fun _ q' => .ok l1 q') = .ok l q := h
    have h4 := next_ge h3.2.1
    have h5 := next_le h3.2.1
    split at h
    · cases h
    · cases hc : passP L [58] (nextP L q1) with
      | bad a b => rw [hc] at h; cases h
      | ok _ q2 =>
        rw [hc] at h
        have h : (Res.ok l1 q2 : Res (List UInt8)) = .ok l q := h
        cases h
        have h6 := passP_le (by decide) hc
        have h7 := h6.2 h5
        have h8 := h6.1
        simp at h8
        omega
/-- What a list is while it is made. -/
def InvL (M bv bp b : Nat) (l : List J) (w : World) : Prop := (∃ u nv es, VIn M bv 4 l [] w u nv es) ∧ Holds w bp [.pointer (some ⟨b, 0, none⟩)] 45 ∧ M ≤ w.heap.size
/-- What an object is while it is made. -/
def InvO (M bv bp bm mb b : Nat) (x : List (List UInt8) × List J) (w : World) : Prop := (∃ u nv es, VIn M bv 5 x.2 x.1 w u nv es) ∧ Holds w bp [.pointer (some ⟨b, 0, none⟩)] 45 ∧ Holds w bm [.map (some mb)] 53 ∧ NmsAt w mb x.1 ∧ M ≤ w.heap.size
/-- The blocks of a call's own: the parser's, the box, what is captured. -/
structure Own (M b bv bp : Nat) : Prop where
  b_ : b < M
  bv_ : bv < M
  bp_ : bp < M
  n1 : bv ≠ b
  n2 : bp ≠ b
  n3 : bp ≠ bv
  lo : 2 < b
  lov : 2 < bv
structure OwnM (M b bv bp bm mb : Nat) : Prop extends Own M b bv bp where
  bm_ : bm < M
  mb_ : mb < M
  m1 : bm ≠ b
  m2 : bm ≠ bv
  m3 : bm ≠ mb
  m4 : mb ≠ b
  m5 : mb ≠ bv
  m6 : bp ≠ mb
  lom : 2 < mb
theorem InvL.upd {M bv bp b : Nat} (ho : Own M b bv bp) {l : List J} {y z : World} (h : InvL M bv bp b l y) (hu : Upd b y z) : InvL M bv bp b l z := by
  obtain ⟨⟨u, nv, es, hV⟩, h1, h2⟩ := h
  exact ⟨⟨u, nv, es, hV.upd hu ho.n1 ho.b_⟩, h1.upd hu ho.n2, Nat.le_trans h2 hu.size⟩
theorem InvO.upd {M bv bp bm mb b : Nat} (ho : OwnM M b bv bp bm mb) {x : List (List UInt8) × List J} {y z : World} (h : InvO M bv bp bm mb b x y) (hu : Upd b y z) : InvO M bv bp bm mb b x z := by
  obtain ⟨⟨u, nv, es, hV⟩, h1, h2, h3, h4⟩ := h
  exact ⟨⟨u, nv, es, hV.upd hu ho.n1 ho.b_⟩, h1.upd hu ho.n2, h2.upd hu ho.m1, h3.upd hu ho.m4, Nat.le_trans h4 hu.size⟩
/-- value's contract at one depth: with k still open ones, inner is what value comes to. -/
def ValOk (b : Nat) (s : ByteArray) (k : Nat) (f : Nat → Res J) : Prop := ∀ p y, p ≤ s.size → PAt y b s p k → Glob y → Calls Tryd.prog 35 #[.pointer (some ⟨b, 0, none⟩)] y (Done b s k y (f p) (jsV y))
set_option maxRecDepth 100000 in
theorem take70 {M b bv bp k q : Nat} {s : ByteArray} {f : Nat → Res J} {l : List J} {y : World} (ho : Own M b bv bp) (hv : ValOk b s (k + 1) f) (hq : q ≤ s.size) (hs : s.size ≤ 1099511627775) (hl : l.length ≤ q) (hP : PAt y b s q (k + 1)) (hI : InvL M bv bp b l y) (hG : Glob y) :
    Calls Tryd.prog 70 #[.pointer (some ⟨bv, 0, none⟩), .pointer (some ⟨bp, 0, none⟩)] y (Took [b, bv] M b s k (InvL M bv bp b) y (stepL f l q)) := by
  obtain ⟨⟨u, nv, es, hV⟩, hbp, hM⟩ := hI
  go_enter Tryd.func70, Tryd.ntmps70
  refine r70_0 rfl hV hP hbp hM ho.b_ ho.bv_ ho.n2 ho.n1 (by omega) (fun z hz hPz => hv q z hq hPz (hG.upd hz ho.lo)) rfl rfl (fun ac wz j q' u' es' hr hd hV' hP' hK => ?_) (fun ac wz q' er hr hd hK => ?_)
  · refine bodyPost_end (results_none (by kernel_rfl) _ _ _) hd ⟨hK, ?_⟩
    unfold stepL
    rw [hr]
    exact ⟨rfl, hP', ⟨u', nv, es', hV'⟩, hbp.keepL hK ho.bp_ (by simp [ho.n2, ho.n3]), Nat.le_trans hM hK.size⟩
  · unfold stepL
    rw [hr]
    exact ⟨hd, hK, rfl⟩
set_option maxRecDepth 100000 in
theorem take71 {M b bv bp bm mb k q : Nat} {s : ByteArray} {f : Nat → Res J} {x : List (List UInt8) × List J} {y : World} (ho : OwnM M b bv bp bm mb) (hv : ValOk b s (k + 1) f) (hq : q ≤ s.size) (hs : s.size ≤ 1099511627775) (hl : x.2.length ≤ q) (hl1 : x.1.length ≤ q) (hP : PAt y b s q (k + 1)) (hI : InvO M bv bp bm mb b x y) (hG : Glob y) :
    Calls Tryd.prog 71 #[.pointer (some ⟨bv, 0, none⟩), .pointer (some ⟨bp, 0, none⟩), .pointer (some ⟨bm, 0, none⟩)] y (Took [b, bv, mb] M b s k (InvO M bv bp bm mb b) y (stepO s.data.toList f x q)) := by
  obtain ⟨⟨u, nv, es, hV⟩, hbp, hbm, hm, hM⟩ := hI
  have hin1 : bp ∉ [b, bv, mb] := by simp [ho.n2, ho.n3, ho.m6]
  have hin2 : bm ∉ [b, bv, mb] := by simp [ho.m1, ho.m2, ho.m3]
  go_enter Tryd.func71, Tryd.ntmps71
  refine wp_seq ?_
  refine r71_0 rfl hV hP hm hbp hbm hM ho.b_ ho.bv_ ho.mb_ ho.n2 ho.n1 ho.m1 ho.m6 (fun e => ho.m5 e.symm) ho.m3 (by omega) (fun z hPz hmz => name_any b mb s q (k + 1) x.1 hq (by omega) (by omega) z hPz hmz) rfl rfl rfl (fun ac wz nm q1 nv' hr hA hV1 hP1 hm1 hK1 => ?_) (fun ac wz q' er hr hd hK => ?_)
  · have hq1 := name_le hq hr
    have e : stepO s.data.toList f x q = (f q1).bind fun v q' => .ok (x.1 ++ [nm], x.2 ++ [v]) q' := by unfold stepO; rw [hr]; rfl
    have hbp1 := hbp.keepL hK1 ho.bp_ hin1
    have hbm1 := hbm.keepL hK1 ho.bm_ hin2
    have hM1 := Nat.le_trans hM hK1.size
    have hG1 : Glob wz := hG.same fun i h1 h2 => hK1.block i h2 (by have := ho.b_; have := ho.lo; omega) (by have := ho.lo; have := ho.lov; have := ho.lom; simp; omega)
    refine r71_1 (hA.size.trans rfl) hV1 hP1 hbp1 hM1 ho.b_ ho.bv_ ho.n2 ho.n1 (by omega) (fun z hz hPz => hv q1 z hq1.2 hPz (hG1.upd hz ho.lo)) ((hA.old 0 (by decide)).trans rfl) ((hA.old 1 (by decide)).trans rfl) (fun ac' wz' j q' u' es' hr' hd' hV' hP' hK' => ?_) (fun ac' wz' q' er hr' hd' hK' => ?_)
    · have hK'' : KeepL [b, bv, mb] M y wz' := hK1.trans (hK'.more (fun k _ h => by simp at h ⊢; rcases h with h | h <;> simp [h]) (Nat.le_refl _))
      refine bodyPost_end (results_none (by kernel_rfl) _ _ _) (hd'.trans hA.defers) ⟨hK'', ?_⟩
      rw [e, hr']
      refine ⟨rfl, hP', ⟨u', nv', es', hV'⟩, hbp.keepL hK'' ho.bp_ hin1, hbm.keepL hK'' ho.bm_ hin2, hm1.same (hK'.block mb hm1.lt ho.mb_ (by simp [ho.m4, ho.m5])), Nat.le_trans hM hK''.size⟩
    · have hK'' : KeepL [b, bv, mb] M y wz' := hK1.trans (hK'.more (fun k _ h => by simp at h ⊢; rcases h with h | h <;> simp [h]) (Nat.le_refl _))
      refine ⟨hd'.trans hA.defers, hK'', ?_⟩
      rw [e, hr']; rfl
  · refine ⟨hd, hK, ?_⟩
    unfold stepO
    rw [hr]
    rfl
end Go.Proofs.YtogippkapadolaaDoor
