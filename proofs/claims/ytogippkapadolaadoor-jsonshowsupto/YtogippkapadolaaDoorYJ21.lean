/- Same of the document, at every two values (by gen_jsrsame.py). -/
import Derived.Deep.Cut
import Derived.Test.YtogippkapadolaaDoorYJ14
import Derived.Test.YtogippkapadolaaDoorYJ18
namespace Go.Proofs.YtogippkapadolaaDoor
open Go.RowKit

def q15_11 : Array Oper := #[{ dst := some 77, op := Op.fieldAddr 27 (Operand.tmp 2) 4, type := 0, pos := "ref.go:107", after := #[], guard := none }, { dst := some 78, op := Op.load 24 (Operand.tmp 77), type := 24, pos := "ref.go:107", after := #[{ on := 0, ground := Ground.data }], guard := none }, { dst := some 79, op := Op.move (Operand.tmp 6), type := 3, pos := "ref.go:107", after := #[], guard := none }, { dst := some 80, op := Op.indexAddr 24 (Operand.tmp 78) (Operand.tmp 79), type := 0, pos := "ref.go:107", after := #[{ on := 1, ground := Ground.data }, { on := 2, ground := Ground.data }], guard := none }, { dst := some 81, op := Op.load 27 (Operand.tmp 80), type := 27, pos := "ref.go:107", after := #[{ on := 3, ground := Ground.data }], guard := none }, { dst := some 82, op := Op.fieldAddr 27 (Operand.tmp 3) 4, type := 0, pos := "ref.go:107", after := #[], guard := none }, { dst := some 83, op := Op.load 24 (Operand.tmp 82), type := 24, pos := "ref.go:107", after := #[{ on := 5, ground := Ground.data }], guard := none }, { dst := some 84, op := Op.move (Operand.tmp 6), type := 3, pos := "ref.go:107", after := #[], guard := none }, { dst := some 85, op := Op.indexAddr 24 (Operand.tmp 83) (Operand.tmp 84), type := 0, pos := "ref.go:107", after := #[{ on := 6, ground := Ground.data }, { on := 7, ground := Ground.data }], guard := none }, { dst := some 86, op := Op.load 27 (Operand.tmp 85), type := 27, pos := "ref.go:107", after := #[{ on := 8, ground := Ground.data }], guard := none }, { dst := some 87, op := Op.call { callee := Callee.value (Operand.func 15), args := #[Operand.tmp 81, Operand.tmp 86], argTypes := #[27, 27] }, type := 4, pos := "ref.go:107", after := #[{ on := 4, ground := Ground.data }, { on := 9, ground := Ground.data }], guard := none }, { dst := some 7, op := Op.assign (Operand.tmp 87), type := 4, pos := "ref.go:107", after := #[{ on := 10, ground := Ground.data }, { on := 10, ground := Ground.chain }, { on := 0, ground := Ground.phase }, { on := 1, ground := Ground.phase }, { on := 2, ground := Ground.phase }, { on := 3, ground := Ground.phase }, { on := 4, ground := Ground.phase }, { on := 5, ground := Ground.phase }, { on := 6, ground := Ground.phase }, { on := 7, ground := Ground.phase }, { on := 8, ground := Ground.phase }, { on := 9, ground := Ground.phase }, { on := 10, ground := Ground.phase }], guard := none }]
set_option maxRecDepth 100000 in
theorem r15_11 {Q : Exit → Act → World → Prop} {a0 : Act} {w : World} (hz : a0.tmps.size = 90) {N2 N3 i g off g' off' n lc lc' : Nat} {c d : List Value} {B : Bool} (h78 : ∀ y, Gr w y → y.cell? ⟨N2, 4, none⟩ = some (.slice (some ⟨g, off, none⟩) n lc)) (h83 : ∀ y, Gr w y → y.cell? ⟨N3, 4, none⟩ = some (.slice (some ⟨g', off', none⟩) n lc'))
    (hi : i < n) (hr : w.rangeAt g (off + i * 6) c) (hgw : g < w.heap.size) (h6 : c.length = 6) (hr' : w.rangeAt g' (off' + i * 6) d) (hgw' : g' < w.heap.size) (k6 : d.length = 6) (hc : ∀ y, Gr w y → Calls Tryd.prog 15 #[.agg c.toArray, .agg d.toArray] y fun e z => e = .returned (.bool B) ∧ Gr y z) (e2 : a0.eval (.tmp 2) = .pointer (some ⟨N2, 0, none⟩)) (e3 : a0.eval (.tmp 3) = .pointer (some ⟨N3, 0, none⟩)) (e6 : a0.eval (.tmp 6) = .int .i64 (i : Int)) (hend : ∀ ac wz, After [77, 78, 79, 80, 81, 82, 83, 84, 85, 86, 87, 7] a0 ac → ac.eval (.tmp 7) = .bool B → Gr w wz → Q .normal ac wz) : (Code.region 11 q15_11 true).wp Tryd.prog Q a0 w := by
  refine drawn_by (by kernel_rfl) (by kernel_rfl) (by kernel_rfl) [77, 78, 79, 80, 81, 82, 83, 84, 85, 86, 87, 7] (fun | 77 => .val (.pointer (some ⟨N2, 4, none⟩)) | 78 => .val (.slice (some ⟨g, off, none⟩) n lc) | 79 => .val (.int .i64 (i : Int)) | 80 => .val (.pointer (some ⟨g, off + i * 6, none⟩)) | 81 => .val (.agg c.toArray) | 82 => .val (.pointer (some ⟨N3, 4, none⟩)) | 83 => .val (.slice (some ⟨g', off', none⟩) n lc') | 84 => .val (.int .i64 (i : Int)) | 85 => .val (.pointer (some ⟨g', off' + i * 6, none⟩)) | 86 => .val (.agg d.toArray) | 87 => .val (.bool B) | 7 => .val (.bool B) | _ => .any) (by kernel_rfl) (List.forall_mem_cons.2 ⟨?s0, List.forall_mem_cons.2 ⟨?s1, List.forall_mem_cons.2 ⟨?s2, List.forall_mem_cons.2 ⟨?s3, List.forall_mem_cons.2 ⟨?s4, List.forall_mem_cons.2 ⟨?s5, List.forall_mem_cons.2 ⟨?s6, List.forall_mem_cons.2 ⟨?s7, List.forall_mem_cons.2 ⟨?s8, List.forall_mem_cons.2 ⟨?s9, List.forall_mem_cons.2 ⟨?s10, List.forall_mem_cons.2 ⟨?s11, fun o ho => nomatch ho⟩⟩⟩⟩⟩⟩⟩⟩⟩⟩⟩⟩) ?e
  case s0 => exact sa_fa 27 (.tmp 2) 4 77 (.pointer (some ⟨N2, 0, none⟩)) (.pointer (some ⟨N2, 4, none⟩)) rfl rfl rfl (.old 2 _ (by decide) e2) (by intro w; kernel_rfl) rfl
  case s1 => exact sa_loadc 24 (.tmp 77) 78 (N2) (4) (.slice (some ⟨g, off, none⟩) n lc) rfl rfl rfl (by intro w; kernel_rfl) (.new 77 (by kernel_rfl) (by rw [hz]; decide)) h78 rfl
  case s2 => exact sa_move (.tmp 6) 79 (.val (.int .i64 (i : Int))) (.inl rfl) rfl rfl (.old 6 _ (by decide) e6) rfl
  case s3 => exact sa_ixa 24 (.tmp 78) (.tmp 79) 80 (.slice (some ⟨g, off, none⟩) n lc) (.int .i64 (i : Int)) (.pointer (some ⟨g, off + i * 6, none⟩)) rfl rfl rfl (.new 78 (by kernel_rfl) (by rw [hz]; decide)) (.new 79 (by kernel_rfl) (by rw [hz]; decide)) (ix_slice und24 size27 hi rfl) rfl
  case s4 => exact sa_row 27 (.tmp 80) 81 g (off + i * 6) 6 _ c rfl rfl rfl Tryd.underlying27 rfl siz27 h6 (.new 80 (by kernel_rfl) (by rw [hz]; decide)) (fun y hy => range_gr1 hr hy hgw) rfl
  case s5 => exact sa_fa 27 (.tmp 3) 4 82 (.pointer (some ⟨N3, 0, none⟩)) (.pointer (some ⟨N3, 4, none⟩)) rfl rfl rfl (.old 3 _ (by decide) e3) (by intro w; kernel_rfl) rfl
  case s6 => exact sa_loadc 24 (.tmp 82) 83 (N3) (4) (.slice (some ⟨g', off', none⟩) n lc') rfl rfl rfl (by intro w; kernel_rfl) (.new 82 (by kernel_rfl) (by rw [hz]; decide)) h83 rfl
  case s7 => exact sa_move (.tmp 6) 84 (.val (.int .i64 (i : Int))) (.inl rfl) rfl rfl (.old 6 _ (by decide) e6) rfl
  case s8 => exact sa_ixa 24 (.tmp 83) (.tmp 84) 85 (.slice (some ⟨g', off', none⟩) n lc') (.int .i64 (i : Int)) (.pointer (some ⟨g', off' + i * 6, none⟩)) rfl rfl rfl (.new 83 (by kernel_rfl) (by rw [hz]; decide)) (.new 84 (by kernel_rfl) (by rw [hz]; decide)) (ix_slice und24 size27 hi rfl) rfl
  case s9 => exact sa_row 27 (.tmp 85) 86 g' (off' + i * 6) 6 _ d rfl rfl rfl Tryd.underlying27 rfl siz27 k6 (.new 85 (by kernel_rfl) (by rw [hz]; decide)) (fun y hy => range_gr1 hr' hy hgw') rfl
  case s10 => exact sa_call2 15 (.tmp 81) (.tmp 86) _ 87 (.val (.agg c.toArray)) (.val (.agg d.toArray)) rfl rfl rfl (.new 81 (by kernel_rfl) (by rw [hz]; decide)) (.new 86 (by kernel_rfl) (by rw [hz]; decide)) (enters_of Tryd.func15 (by kernel_rfl) rfl) (fun v0 v1 y hgy q0 q1 => by rw [show v0 = _ from q0]; rw [show v1 = _ from q1]; exact (hc y hgy).mono fun e z ⟨e1, e2⟩ => ⟨_, e1, e2, rfl⟩)
  case s11 => exact sa_move (.tmp 87) 7 (.val (.bool B)) (.inr rfl) rfl rfl (.new 87 (by kernel_rfl) (by rw [hz]; decide)) rfl
  case e =>
  intro ac wz hA hgr hv
  exact hend ac wz hA (hv 7 (by kernel_rfl) (by rw [hz]; decide)) hgr
theorem neq9 (s t : ByteArray) (w : World) : (binOp .neq 9 (.string s) (.string t)).run Tryd.prog w = .ok (.bool (!(s.toList == t.toList))) w := by kernel_rfl
theorem guard9n (s t : ByteArray) (u v : Operand) (w : World) : (eqGuard .neq 9 u v (.string s) (.string t)).run Tryd.prog w = .ok () w := by kernel_rfl
def q15_6 : Array Oper := #[{ dst := some 59, op := Op.fieldAddr 27 (Operand.tmp 2) 5, type := 0, pos := "ref.go:102", after := #[], guard := none }, { dst := some 60, op := Op.load 25 (Operand.tmp 59), type := 25, pos := "ref.go:102", after := #[{ on := 0, ground := Ground.data }], guard := none }, { dst := some 61, op := Op.move (Operand.tmp 5), type := 3, pos := "ref.go:102", after := #[], guard := none }, { dst := some 62, op := Op.indexAddr 25 (Operand.tmp 60) (Operand.tmp 61), type := 0, pos := "ref.go:102", after := #[{ on := 1, ground := Ground.data }, { on := 2, ground := Ground.data }], guard := none }, { dst := some 63, op := Op.load 9 (Operand.tmp 62), type := 9, pos := "ref.go:102", after := #[{ on := 3, ground := Ground.data }], guard := none }, { dst := some 64, op := Op.fieldAddr 27 (Operand.tmp 3) 5, type := 0, pos := "ref.go:102", after := #[], guard := none }, { dst := some 65, op := Op.load 25 (Operand.tmp 64), type := 25, pos := "ref.go:102", after := #[{ on := 5, ground := Ground.data }], guard := none }, { dst := some 66, op := Op.move (Operand.tmp 5), type := 3, pos := "ref.go:102", after := #[], guard := none }, { dst := some 67, op := Op.indexAddr 25 (Operand.tmp 65) (Operand.tmp 66), type := 0, pos := "ref.go:102", after := #[{ on := 6, ground := Ground.data }, { on := 7, ground := Ground.data }], guard := none }, { dst := some 68, op := Op.load 9 (Operand.tmp 67), type := 9, pos := "ref.go:102", after := #[{ on := 8, ground := Ground.data }], guard := none }, { dst := some 69, op := Op.binOp BinOp.neq 9 (Operand.tmp 63) (Operand.tmp 68) 9, type := 4, pos := "ref.go:102", after := #[{ on := 4, ground := Ground.data }, { on := 9, ground := Ground.data }], guard := none }]
set_option maxRecDepth 100000 in
theorem r15_6 {Q : Exit → Act → World → Prop} {a0 : Act} {w : World} (hz : a0.tmps.size = 90) {N2 N3 i g off g' off' n lc lc' : Nat} {m1 m2 : List UInt8} (h60 : ∀ y, Gr w y → y.cell? ⟨N2, 5, none⟩ = some (.slice (some ⟨g, off, none⟩) n lc)) (h65 : ∀ y, Gr w y → y.cell? ⟨N3, 5, none⟩ = some (.slice (some ⟨g', off', none⟩) n lc'))
    (hi : i < n) (h63 : ∀ y, Gr w y → y.cell? ⟨g, off + i, none⟩ = some (.string (strL m1))) (h68 : ∀ y, Gr w y → y.cell? ⟨g', off' + i, none⟩ = some (.string (strL m2))) (e2 : a0.eval (.tmp 2) = .pointer (some ⟨N2, 0, none⟩)) (e3 : a0.eval (.tmp 3) = .pointer (some ⟨N3, 0, none⟩)) (e5 : a0.eval (.tmp 5) = .int .i64 (i : Int)) (hend : ∀ ac wz, After [59, 60, 61, 62, 63, 64, 65, 66, 67, 68, 69] a0 ac → ac.eval (.tmp 69) = .bool (!((strL m1).toList == (strL m2).toList)) → Gr w wz → Q .normal ac wz) : (Code.region 6 q15_6 true).wp Tryd.prog Q a0 w := by
  refine drawn_by (by kernel_rfl) (by kernel_rfl) (by kernel_rfl) [59, 60, 61, 62, 63, 64, 65, 66, 67, 68, 69] (fun | 59 => .val (.pointer (some ⟨N2, 5, none⟩)) | 60 => .val (.slice (some ⟨g, off, none⟩) n lc) | 61 => .val (.int .i64 (i : Int)) | 62 => .val (.pointer (some ⟨g, off + i, none⟩)) | 63 => .val (.string (strL m1)) | 64 => .val (.pointer (some ⟨N3, 5, none⟩)) | 65 => .val (.slice (some ⟨g', off', none⟩) n lc') | 66 => .val (.int .i64 (i : Int)) | 67 => .val (.pointer (some ⟨g', off' + i, none⟩)) | 68 => .val (.string (strL m2)) | 69 => .val (.bool (!((strL m1).toList == (strL m2).toList))) | _ => .any) (by kernel_rfl) (List.forall_mem_cons.2 ⟨?s0, List.forall_mem_cons.2 ⟨?s1, List.forall_mem_cons.2 ⟨?s2, List.forall_mem_cons.2 ⟨?s3, List.forall_mem_cons.2 ⟨?s4, List.forall_mem_cons.2 ⟨?s5, List.forall_mem_cons.2 ⟨?s6, List.forall_mem_cons.2 ⟨?s7, List.forall_mem_cons.2 ⟨?s8, List.forall_mem_cons.2 ⟨?s9, List.forall_mem_cons.2 ⟨?s10, fun o ho => nomatch ho⟩⟩⟩⟩⟩⟩⟩⟩⟩⟩⟩) ?e
  case s0 => exact sa_fa 27 (.tmp 2) 5 59 (.pointer (some ⟨N2, 0, none⟩)) (.pointer (some ⟨N2, 5, none⟩)) rfl rfl rfl (.old 2 _ (by decide) e2) (by intro w; kernel_rfl) rfl
  case s1 => exact sa_loadc 25 (.tmp 59) 60 (N2) (5) (.slice (some ⟨g, off, none⟩) n lc) rfl rfl rfl (by intro w; kernel_rfl) (.new 59 (by kernel_rfl) (by rw [hz]; decide)) h60 rfl
  case s2 => exact sa_move (.tmp 5) 61 (.val (.int .i64 (i : Int))) (.inl rfl) rfl rfl (.old 5 _ (by decide) e5) rfl
  case s3 => exact sa_ixa 25 (.tmp 60) (.tmp 61) 62 (.slice (some ⟨g, off, none⟩) n lc) (.int .i64 (i : Int)) (.pointer (some ⟨g, off + i, none⟩)) rfl rfl rfl (.new 60 (by kernel_rfl) (by rw [hz]; decide)) (.new 61 (by kernel_rfl) (by rw [hz]; decide)) (ix_slice und25 size25 hi (by omega)) rfl
  case s4 => exact sa_loadc 9 (.tmp 62) 63 (g) (off + i) (.string (strL m1)) rfl rfl rfl (by intro w; kernel_rfl) (.new 62 (by kernel_rfl) (by rw [hz]; decide)) h63 rfl
  case s5 => exact sa_fa 27 (.tmp 3) 5 64 (.pointer (some ⟨N3, 0, none⟩)) (.pointer (some ⟨N3, 5, none⟩)) rfl rfl rfl (.old 3 _ (by decide) e3) (by intro w; kernel_rfl) rfl
  case s6 => exact sa_loadc 25 (.tmp 64) 65 (N3) (5) (.slice (some ⟨g', off', none⟩) n lc') rfl rfl rfl (by intro w; kernel_rfl) (.new 64 (by kernel_rfl) (by rw [hz]; decide)) h65 rfl
  case s7 => exact sa_move (.tmp 5) 66 (.val (.int .i64 (i : Int))) (.inl rfl) rfl rfl (.old 5 _ (by decide) e5) rfl
  case s8 => exact sa_ixa 25 (.tmp 65) (.tmp 66) 67 (.slice (some ⟨g', off', none⟩) n lc') (.int .i64 (i : Int)) (.pointer (some ⟨g', off' + i, none⟩)) rfl rfl rfl (.new 65 (by kernel_rfl) (by rw [hz]; decide)) (.new 66 (by kernel_rfl) (by rw [hz]; decide)) (ix_slice und25 size25 hi (by omega)) rfl
  case s9 => exact sa_loadc 9 (.tmp 67) 68 (g') (off' + i) (.string (strL m2)) rfl rfl rfl (by intro w; kernel_rfl) (.new 67 (by kernel_rfl) (by rw [hz]; decide)) h68 rfl
  case s10 => exact sa_bin .neq 9 (.tmp 63) (.tmp 68) 9 69 (.string (strL m1)) (.string (strL m2)) (.bool (!((strL m1).toList == (strL m2).toList))) rfl rfl rfl (.new 63 (by kernel_rfl) (by rw [hz]; decide)) (.new 68 (by kernel_rfl) (by rw [hz]; decide)) (fun w => guard9n _ _ _ _ w) (fun w => neq9 _ _ w) rfl
  case e =>
  intro ac wz hA hgr hv
  exact hend ac wz hA (hv 69 (by kernel_rfl) (by rw [hz]; decide)) hgr
def SameR (w0 : World) (j : J) (v : Value) (j' : J) (v' : Value) : Prop := ∀ (w : World), Gr w0 w → Calls Tryd.prog 15 #[v, v'] w fun e w' => e = .returned (.bool (sameB j j')) ∧ Gr w w'
theorem lies_str {w0 wr : World} {S : Nat → Prop} {na : Option Addr} {names : List (List UInt8)} (h : Lies w0 S na (names.map strV1)) (hg : Gr w0 wr) {i : Nat} (hi : i < names.length) : ∃ g o, na = some ⟨g, o, none⟩ ∧ g < w0.heap.size ∧ wr.cell? ⟨g, o + i, none⟩ = some (.string (strL names[i])) := by
  rcases h with h | ⟨g, o, rfl, _, hl, hr⟩
  · have := congrArg List.length h
    simp at this; subst this; simp at hi
  · exact ⟨g, o, rfl, hl, cell_below hg hl (hr i _ (by simp [List.getElem?_eq_getElem hi, strV1]))⟩
set_option maxHeartbeats 8000000 in
set_option maxRecDepth 100000 in
theorem rsame_mk {w0 : World} {S S' : Nat → Prop} {k k' : Int} {b b' : Bool} {n n' : Int} {s s' : List UInt8} {l l' : List J} {names names' : List (List UInt8)} {la la' na na' : Option Addr} {lc lc' nc nc' : Nat} {es es' : List (List Value)}
    (hes : es.length = l.length) (h6' : ∀ c ∈ es, c.length = 6) (hlies : Lies w0 S la es.flatten) (hnames : Lies w0 S na (names.map strV1)) (hl : l.length < maxLen) (hnl : names.length < maxLen)
    (hes' : es'.length = l'.length) (k6' : ∀ c ∈ es', c.length = 6) (hlies' : Lies w0 S' la' es'.flatten) (hnames' : Lies w0 S' na' (names'.map strV1)) (hl' : l'.length < maxLen) (hnl' : names'.length < maxLen)
    (ih : ∀ (i : Nat) (x y : J) (c d : List Value), l[i]? = some x → es[i]? = some c → l'[i]? = some y → es'[i]? = some d → SameR w0 x (.agg c.toArray) y (.agg d.toArray)) (w : World) (hw : Gr w0 w) :
    Calls Tryd.prog 15 #[.agg #[.int .i64 k, .bool b, .int .i64 n, .string (strL s), .slice la l.length lc, .slice na names.length nc], .agg #[.int .i64 k', .bool b', .int .i64 n', .string (strL s'), .slice la' l'.length lc', .slice na' names'.length nc']] w fun e w' => e = .returned (.bool (decide (k = k') && (b == b') && decide (n = n') && decide (s = s') && decide (names = names') && samesB l l')) ∧ Gr w w' := by
  have hl1 : l.length ≤ 9223372036854775806 := by unfold maxLen at hl; omega
  have hl2 : l'.length ≤ 9223372036854775806 := by unfold maxLen at hl'; omega
  have hn1 : names.length ≤ 9223372036854775806 := by unfold maxLen at hnl; omega
  have hn2 : names'.length ≤ 9223372036854775806 := by unfold maxLen at hnl'; omega
  have hsl := @samesB_ne l l'
  obtain ⟨LL, hLL⟩ : ∃ q, l.length = q := ⟨_, rfl⟩
  obtain ⟨LL', hLL'⟩ : ∃ q, l'.length = q := ⟨_, rfl⟩
  obtain ⟨NN, hNN⟩ : ∃ q, names.length = q := ⟨_, rfl⟩
  obtain ⟨NN', hNN'⟩ : ∃ q, names'.length = q := ⟨_, rfl⟩
  rw [hLL, hLL', hNN, hNN']
  rw [hLL] at hl1 hsl
  rw [hLL'] at hl2 hsl
  rw [hNN] at hn1
  rw [hNN'] at hn2
  clear hl hl' hnl hnl'
  obtain ⟨W, hW⟩ : ∃ W, (w.alloc (.cells #[.int .i64 k, .bool b, .int .i64 n, .string (strL s), .slice la LL lc, .slice na NN nc] 27)).alloc (.cells #[.int .i64 k', .bool b', .int .i64 n', .string (strL s'), .slice la' LL' lc', .slice na' NN' nc'] 27) = W := ⟨_, rfl⟩
  have hg : Gr w W := hW ▸ (Gr.alloc _ _).trans (Gr.alloc _ _)
  have hlt : w.heap.size + 1 < W.heap.size := by rw [← hW]; simp
  have h4 : ∀ y, Gr W y → y.cell? ⟨w.heap.size, 4, none⟩ = some (.slice la LL lc) := fun y hy => cell_below hy (by omega) (by rw [← hW]; exact cell_two0 _ _ _ 4 _ rfl)
  have h5 : ∀ y, Gr W y → y.cell? ⟨w.heap.size, 5, none⟩ = some (.slice na NN nc) := fun y hy => cell_below hy (by omega) (by rw [← hW]; exact cell_two0 _ _ _ 5 _ rfl)
  have h4' : ∀ y, Gr W y → y.cell? ⟨w.heap.size + 1, 4, none⟩ = some (.slice la' LL' lc') := fun y hy => cell_below hy hlt (by rw [← hW]; exact cell_two1 _ _ _ 4 _ rfl)
  have h5' : ∀ y, Gr W y → y.cell? ⟨w.heap.size + 1, 5, none⟩ = some (.slice na' NN' nc') := fun y hy => cell_below hy hlt (by rw [← hW]; exact cell_two1 _ _ _ 5 _ rfl)
  by_cases hk : k = k'
  case neg =>
    have g : (k == k') = false := by simp [hk]
    have g' : (k != k') = true := by simp [hk]
    simp only [decide_eq_false hk, Bool.false_and]
    clear h5 h5' h4 h4' hlt ih hk
    subst hW
    go_enter Tryd.func15, Tryd.ntmps15
    go_wp2
    go_ret
    exact ⟨rfl, hg⟩
  subst hk
  by_cases hb : b = b'
  case neg =>
    have g : (b == b') = false := by simp [hb]
    have g' : (b != b') = true := by simp [hb]
    simp only [g, decide_true, Bool.true_and, Bool.false_and]
    clear h5 h5' h4 h4' hlt ih hb
    subst hW
    go_enter Tryd.func15, Tryd.ntmps15
    go_wp2
    go_ret
    exact ⟨rfl, hg⟩
  subst hb
  by_cases hn : n = n'
  case neg =>
    have g : (n == n') = false := by simp [hn]
    have g' : (n != n') = true := by simp [hn]
    simp only [decide_eq_false hn, decide_true, beq_self_eq_true, Bool.true_and, Bool.false_and]
    clear h5 h5' h4 h4' hlt ih hn
    subst hW
    go_enter Tryd.func15, Tryd.ntmps15
    go_wp2
    go_ret
    exact ⟨rfl, hg⟩
  subst hn
  by_cases hs : s = s'
  case neg =>
    have g := toList_ne hs
    have g2 : ((strL s).toList == (strL s').toList) = false := by simp [g]
    have g3 := strL_ne hs
    simp only [decide_eq_false hs, decide_true, beq_self_eq_true, Bool.true_and, Bool.false_and]
    clear h5 h5' h4 h4' hlt ih hs
    subst hW
    go_enter Tryd.func15, Tryd.ntmps15
    go_wp2
    go_ret
    exact ⟨rfl, hg⟩
  subst hs
  by_cases hll : LL = LL'
  case neg =>
    have g' : ((LL : Int) != (LL' : Int)) = true := by simp; omega
    rw [hsl hll, Bool.and_false]
    clear h5 h5' h4 h4' hlt ih hll
    subst hW
    go_enter Tryd.func15, Tryd.ntmps15
    go_wp2
    go_ret
    exact ⟨rfl, hg⟩
  subst hll
  by_cases hnn : NN = NN'
  case neg =>
    have g' : ((NN : Int) != (NN' : Int)) = true := by simp; omega
    rw [decide_eq_false (show ¬ names = names' from fun e => hnn (by rw [← hNN, ← hNN', e]))]
    simp only [Bool.and_false, Bool.false_and]
    clear h5 h5' h4 h4' hlt ih hnn
    subst hW
    go_enter Tryd.func15, Tryd.ntmps15
    go_wp2
    go_ret
    exact ⟨rfl, hg⟩
  subst hnn
  simp only [decide_true, beq_self_eq_true, Bool.true_and]
  obtain ⟨X, hX⟩ : ∃ X, (decide (names = names') && samesB l l') = X := ⟨_, rfl⟩
  rw [hX]
  subst hW
  go_enter Tryd.func15, Tryd.ntmps15
  go_wp2_with fail
  go_loopw [5] (fun c wr => ∃ i : Nat, c = .int .i64 (i : Int) ∧ i ≤ NN ∧ names.take i = names'.take i ∧ Gr ((w.alloc (.cells #[.int .i64 k, .bool b, .int .i64 n, .string (strL s), .slice la LL lc, .slice na NN nc] 27)).alloc (.cells #[.int .i64 k, .bool b, .int .i64 n, .string (strL s), .slice la' LL lc', .slice na' NN nc'] 27)) wr) (fun c _ => NN - (intOf c).toNat)
  case atStart => exact ⟨0, rfl, by omega, rfl, Gr.refl _⟩
  case round =>
    obtain ⟨i, rfl, hi, hT, hgr⟩ := hrel
    have q5 := h5 _ hgr
    have q5' := h5' _ hgr
    have q4 := h4 _ hgr
    rcases Nat.lt_or_ge i NN with hlt2 | hge
    · obtain ⟨g1, o1, rfl, _, e1⟩ := lies_str hnames (hw.trans (hg.trans hgr)) (i := i) (by omega)
      obtain ⟨g2, o2, rfl, _, e2⟩ := lies_str hnames' (hw.trans (hg.trans hgr)) (i := i) (by omega)
      have gi : (i : Int) < (NN : Int) := by omega
      have hw1 : IntKind.i64.wrap ((i : Int) + 1) = ((i + 1 : Nat) : Int) := by rw [wrap_in (by omega) (by omega)]; omega
      have f1 : ∀ y, Gr wr y → y.cell? ⟨g1, o1 + i, none⟩ = some (.string (strL (names[i]'(by omega)))) := fun y hy => by
        obtain ⟨g, o, e, _, e3⟩ := lies_str hnames (hw.trans (hg.trans (hgr.trans hy))) (i := i) (by omega)
        cases e; exact e3
      have f2 : ∀ y, Gr wr y → y.cell? ⟨g2, o2 + i, none⟩ = some (.string (strL (names'[i]'(by omega)))) := fun y hy => by
        obtain ⟨g, o, e, _, e3⟩ := lies_str hnames' (hw.trans (hg.trans (hgr.trans hy))) (i := i) (by omega)
        cases e; exact e3
      by_cases hx : names[i]'(by omega) = names'[i]'(by omega)
      · have hT' : names.take (i + 1) = names'.take (i + 1) := by rw [List.take_succ_eq_append_getElem (by omega), List.take_succ_eq_append_getElem (by omega), hT, hx]
        have gz : (!((strL (names[i]'(by omega))).toList == (strL (names'[i]'(by omega))).toList)) = false := by rw [hx]; simp
        generalize names[i]'(by omega) = m1 at *
        generalize names'[i]'(by omega) = m2 at *
        clear ih hlies hlies' hnames hnames' hx
        go_upto_region 6 with fail
        refine r15_6 rfl (fun y hy => h5 y (hgr.trans hy)) (fun y hy => h5' y (hgr.trans hy)) hlt2 f1 f2 rfl rfl rfl fun ac wz hA h69 hgz => ?_
        rw [gz] at h69
        rename_i hK
        refine hK _ _ ?_
        have e : ac = ⟨(ac.eval (.tmp 0) :: ac.eval (.tmp 1) :: ac.eval (.tmp 2) :: ac.eval (.tmp 3) :: ac.eval (.tmp 4) :: ac.eval (.tmp 5) :: ac.eval (.tmp 6) :: ac.eval (.tmp 7) :: ac.eval (.tmp 8) :: ac.eval (.tmp 9) :: ac.eval (.tmp 10) :: ac.eval (.tmp 11) :: ac.eval (.tmp 12) :: ac.eval (.tmp 13) :: ac.eval (.tmp 14) :: ac.eval (.tmp 15) :: ac.eval (.tmp 16) :: ac.eval (.tmp 17) :: ac.eval (.tmp 18) :: ac.eval (.tmp 19) :: ac.eval (.tmp 20) :: ac.eval (.tmp 21) :: ac.eval (.tmp 22) :: ac.eval (.tmp 23) :: ac.eval (.tmp 24) :: ac.eval (.tmp 25) :: ac.eval (.tmp 26) :: ac.eval (.tmp 27) :: ac.eval (.tmp 28) :: ac.eval (.tmp 29) :: ac.eval (.tmp 30) :: ac.eval (.tmp 31) :: ac.eval (.tmp 32) :: ac.eval (.tmp 33) :: ac.eval (.tmp 34) :: ac.eval (.tmp 35) :: ac.eval (.tmp 36) :: ac.eval (.tmp 37) :: ac.eval (.tmp 38) :: ac.eval (.tmp 39) :: ac.eval (.tmp 40) :: ac.eval (.tmp 41) :: ac.eval (.tmp 42) :: ac.eval (.tmp 43) :: ac.eval (.tmp 44) :: ac.eval (.tmp 45) :: ac.eval (.tmp 46) :: ac.eval (.tmp 47) :: ac.eval (.tmp 48) :: ac.eval (.tmp 49) :: ac.eval (.tmp 50) :: ac.eval (.tmp 51) :: ac.eval (.tmp 52) :: ac.eval (.tmp 53) :: ac.eval (.tmp 54) :: ac.eval (.tmp 55) :: ac.eval (.tmp 56) :: ac.eval (.tmp 57) :: ac.eval (.tmp 58) :: ac.eval (.tmp 59) :: ac.eval (.tmp 60) :: ac.eval (.tmp 61) :: ac.eval (.tmp 62) :: ac.eval (.tmp 63) :: ac.eval (.tmp 64) :: ac.eval (.tmp 65) :: ac.eval (.tmp 66) :: ac.eval (.tmp 67) :: ac.eval (.tmp 68) :: ac.eval (.tmp 69) :: ac.eval (.tmp 70) :: ac.eval (.tmp 71) :: ac.eval (.tmp 72) :: ac.eval (.tmp 73) :: ac.eval (.tmp 74) :: ac.eval (.tmp 75) :: ac.eval (.tmp 76) :: ac.eval (.tmp 77) :: ac.eval (.tmp 78) :: ac.eval (.tmp 79) :: ac.eval (.tmp 80) :: ac.eval (.tmp 81) :: ac.eval (.tmp 82) :: ac.eval (.tmp 83) :: ac.eval (.tmp 84) :: ac.eval (.tmp 85) :: ac.eval (.tmp 86) :: ac.eval (.tmp 87) :: ac.eval (.tmp 88) :: ac.eval (.tmp 89) :: ([] : List Value)).toArray, ac.defers⟩ := (act_lit2 (hA.size.trans rfl)).trans rfl
        rw [hA.defers, (hA.old 0 (by decide)).trans rfl, (hA.old 1 (by decide)).trans rfl, (hA.old 2 (by decide)).trans rfl, (hA.old 3 (by decide)).trans rfl, (hA.old 4 (by decide)).trans rfl, (hA.old 5 (by decide)).trans rfl, (hA.old 6 (by decide)).trans rfl, (hA.old 7 (by decide)).trans rfl, (hA.old 8 (by decide)).trans rfl, (hA.old 9 (by decide)).trans rfl, (hA.old 10 (by decide)).trans rfl, (hA.old 11 (by decide)).trans rfl, (hA.old 12 (by decide)).trans rfl, (hA.old 13 (by decide)).trans rfl, (hA.old 14 (by decide)).trans rfl, (hA.old 15 (by decide)).trans rfl, (hA.old 16 (by decide)).trans rfl, (hA.old 17 (by decide)).trans rfl, (hA.old 18 (by decide)).trans rfl, (hA.old 19 (by decide)).trans rfl, (hA.old 20 (by decide)).trans rfl, (hA.old 21 (by decide)).trans rfl, (hA.old 22 (by decide)).trans rfl, (hA.old 23 (by decide)).trans rfl, (hA.old 24 (by decide)).trans rfl, (hA.old 25 (by decide)).trans rfl, (hA.old 26 (by decide)).trans rfl, (hA.old 27 (by decide)).trans rfl, (hA.old 28 (by decide)).trans rfl, (hA.old 29 (by decide)).trans rfl, (hA.old 30 (by decide)).trans rfl, (hA.old 31 (by decide)).trans rfl, (hA.old 32 (by decide)).trans rfl, (hA.old 33 (by decide)).trans rfl, (hA.old 34 (by decide)).trans rfl, (hA.old 35 (by decide)).trans rfl, (hA.old 36 (by decide)).trans rfl, (hA.old 37 (by decide)).trans rfl, (hA.old 38 (by decide)).trans rfl, (hA.old 39 (by decide)).trans rfl, (hA.old 40 (by decide)).trans rfl, (hA.old 41 (by decide)).trans rfl, (hA.old 42 (by decide)).trans rfl, (hA.old 43 (by decide)).trans rfl, (hA.old 44 (by decide)).trans rfl, (hA.old 45 (by decide)).trans rfl, (hA.old 46 (by decide)).trans rfl, (hA.old 47 (by decide)).trans rfl, (hA.old 48 (by decide)).trans rfl, (hA.old 49 (by decide)).trans rfl, (hA.old 50 (by decide)).trans rfl, (hA.old 51 (by decide)).trans rfl, (hA.old 52 (by decide)).trans rfl, (hA.old 53 (by decide)).trans rfl, (hA.old 54 (by decide)).trans rfl, (hA.old 55 (by decide)).trans rfl, (hA.old 56 (by decide)).trans rfl, (hA.old 57 (by decide)).trans rfl, (hA.old 58 (by decide)).trans rfl, (hA.old 70 (by decide)).trans rfl, (hA.old 71 (by decide)).trans rfl, (hA.old 72 (by decide)).trans rfl, (hA.old 73 (by decide)).trans rfl, (hA.old 74 (by decide)).trans rfl, (hA.old 75 (by decide)).trans rfl, (hA.old 76 (by decide)).trans rfl, (hA.old 77 (by decide)).trans rfl, (hA.old 78 (by decide)).trans rfl, (hA.old 79 (by decide)).trans rfl, (hA.old 80 (by decide)).trans rfl, (hA.old 81 (by decide)).trans rfl, (hA.old 82 (by decide)).trans rfl, (hA.old 83 (by decide)).trans rfl, (hA.old 84 (by decide)).trans rfl, (hA.old 85 (by decide)).trans rfl, (hA.old 86 (by decide)).trans rfl, (hA.old 87 (by decide)).trans rfl, (hA.old 88 (by decide)).trans rfl, (hA.old 89 (by decide)).trans rfl, h69] at e
        generalize ac.eval (.tmp 59) = x59 at e
        generalize ac.eval (.tmp 60) = x60 at e
        generalize ac.eval (.tmp 61) = x61 at e
        generalize ac.eval (.tmp 62) = x62 at e
        generalize ac.eval (.tmp 63) = x63 at e
        generalize ac.eval (.tmp 64) = x64 at e
        generalize ac.eval (.tmp 65) = x65 at e
        generalize ac.eval (.tmp 66) = x66 at e
        generalize ac.eval (.tmp 67) = x67 at e
        generalize ac.eval (.tmp 68) = x68 at e
        subst e
        have hgr := hgr.trans hgz
        go_wp2
        exact ⟨⟨i + 1, rfl, by omega, hT', hgr⟩, by simp; omega⟩
      · have hne : ¬ names = names' := fun e => hx (by simp [e])
        rw [decide_eq_false hne, Bool.false_and] at hX
        subst hX
        have gz : (!((strL (names[i]'(by omega))).toList == (strL (names'[i]'(by omega))).toList)) = true := by simp [toList_ne hx]
        generalize names[i]'(by omega) = m1 at *
        generalize names'[i]'(by omega) = m2 at *
        clear ih hlies hlies' hnames hnames' hx hne hT
        go_upto_region 6 with fail
        refine r15_6 rfl (fun y hy => h5 y (hgr.trans hy)) (fun y hy => h5' y (hgr.trans hy)) hlt2 f1 f2 rfl rfl rfl fun ac wz hA h69 hgz => ?_
        rw [gz] at h69
        rename_i hK
        refine hK _ _ ?_
        have e : ac = ⟨(ac.eval (.tmp 0) :: ac.eval (.tmp 1) :: ac.eval (.tmp 2) :: ac.eval (.tmp 3) :: ac.eval (.tmp 4) :: ac.eval (.tmp 5) :: ac.eval (.tmp 6) :: ac.eval (.tmp 7) :: ac.eval (.tmp 8) :: ac.eval (.tmp 9) :: ac.eval (.tmp 10) :: ac.eval (.tmp 11) :: ac.eval (.tmp 12) :: ac.eval (.tmp 13) :: ac.eval (.tmp 14) :: ac.eval (.tmp 15) :: ac.eval (.tmp 16) :: ac.eval (.tmp 17) :: ac.eval (.tmp 18) :: ac.eval (.tmp 19) :: ac.eval (.tmp 20) :: ac.eval (.tmp 21) :: ac.eval (.tmp 22) :: ac.eval (.tmp 23) :: ac.eval (.tmp 24) :: ac.eval (.tmp 25) :: ac.eval (.tmp 26) :: ac.eval (.tmp 27) :: ac.eval (.tmp 28) :: ac.eval (.tmp 29) :: ac.eval (.tmp 30) :: ac.eval (.tmp 31) :: ac.eval (.tmp 32) :: ac.eval (.tmp 33) :: ac.eval (.tmp 34) :: ac.eval (.tmp 35) :: ac.eval (.tmp 36) :: ac.eval (.tmp 37) :: ac.eval (.tmp 38) :: ac.eval (.tmp 39) :: ac.eval (.tmp 40) :: ac.eval (.tmp 41) :: ac.eval (.tmp 42) :: ac.eval (.tmp 43) :: ac.eval (.tmp 44) :: ac.eval (.tmp 45) :: ac.eval (.tmp 46) :: ac.eval (.tmp 47) :: ac.eval (.tmp 48) :: ac.eval (.tmp 49) :: ac.eval (.tmp 50) :: ac.eval (.tmp 51) :: ac.eval (.tmp 52) :: ac.eval (.tmp 53) :: ac.eval (.tmp 54) :: ac.eval (.tmp 55) :: ac.eval (.tmp 56) :: ac.eval (.tmp 57) :: ac.eval (.tmp 58) :: ac.eval (.tmp 59) :: ac.eval (.tmp 60) :: ac.eval (.tmp 61) :: ac.eval (.tmp 62) :: ac.eval (.tmp 63) :: ac.eval (.tmp 64) :: ac.eval (.tmp 65) :: ac.eval (.tmp 66) :: ac.eval (.tmp 67) :: ac.eval (.tmp 68) :: ac.eval (.tmp 69) :: ac.eval (.tmp 70) :: ac.eval (.tmp 71) :: ac.eval (.tmp 72) :: ac.eval (.tmp 73) :: ac.eval (.tmp 74) :: ac.eval (.tmp 75) :: ac.eval (.tmp 76) :: ac.eval (.tmp 77) :: ac.eval (.tmp 78) :: ac.eval (.tmp 79) :: ac.eval (.tmp 80) :: ac.eval (.tmp 81) :: ac.eval (.tmp 82) :: ac.eval (.tmp 83) :: ac.eval (.tmp 84) :: ac.eval (.tmp 85) :: ac.eval (.tmp 86) :: ac.eval (.tmp 87) :: ac.eval (.tmp 88) :: ac.eval (.tmp 89) :: ([] : List Value)).toArray, ac.defers⟩ := (act_lit2 (hA.size.trans rfl)).trans rfl
        rw [hA.defers, (hA.old 0 (by decide)).trans rfl, (hA.old 1 (by decide)).trans rfl, (hA.old 2 (by decide)).trans rfl, (hA.old 3 (by decide)).trans rfl, (hA.old 4 (by decide)).trans rfl, (hA.old 5 (by decide)).trans rfl, (hA.old 6 (by decide)).trans rfl, (hA.old 7 (by decide)).trans rfl, (hA.old 8 (by decide)).trans rfl, (hA.old 9 (by decide)).trans rfl, (hA.old 10 (by decide)).trans rfl, (hA.old 11 (by decide)).trans rfl, (hA.old 12 (by decide)).trans rfl, (hA.old 13 (by decide)).trans rfl, (hA.old 14 (by decide)).trans rfl, (hA.old 15 (by decide)).trans rfl, (hA.old 16 (by decide)).trans rfl, (hA.old 17 (by decide)).trans rfl, (hA.old 18 (by decide)).trans rfl, (hA.old 19 (by decide)).trans rfl, (hA.old 20 (by decide)).trans rfl, (hA.old 21 (by decide)).trans rfl, (hA.old 22 (by decide)).trans rfl, (hA.old 23 (by decide)).trans rfl, (hA.old 24 (by decide)).trans rfl, (hA.old 25 (by decide)).trans rfl, (hA.old 26 (by decide)).trans rfl, (hA.old 27 (by decide)).trans rfl, (hA.old 28 (by decide)).trans rfl, (hA.old 29 (by decide)).trans rfl, (hA.old 30 (by decide)).trans rfl, (hA.old 31 (by decide)).trans rfl, (hA.old 32 (by decide)).trans rfl, (hA.old 33 (by decide)).trans rfl, (hA.old 34 (by decide)).trans rfl, (hA.old 35 (by decide)).trans rfl, (hA.old 36 (by decide)).trans rfl, (hA.old 37 (by decide)).trans rfl, (hA.old 38 (by decide)).trans rfl, (hA.old 39 (by decide)).trans rfl, (hA.old 40 (by decide)).trans rfl, (hA.old 41 (by decide)).trans rfl, (hA.old 42 (by decide)).trans rfl, (hA.old 43 (by decide)).trans rfl, (hA.old 44 (by decide)).trans rfl, (hA.old 45 (by decide)).trans rfl, (hA.old 46 (by decide)).trans rfl, (hA.old 47 (by decide)).trans rfl, (hA.old 48 (by decide)).trans rfl, (hA.old 49 (by decide)).trans rfl, (hA.old 50 (by decide)).trans rfl, (hA.old 51 (by decide)).trans rfl, (hA.old 52 (by decide)).trans rfl, (hA.old 53 (by decide)).trans rfl, (hA.old 54 (by decide)).trans rfl, (hA.old 55 (by decide)).trans rfl, (hA.old 56 (by decide)).trans rfl, (hA.old 57 (by decide)).trans rfl, (hA.old 58 (by decide)).trans rfl, (hA.old 70 (by decide)).trans rfl, (hA.old 71 (by decide)).trans rfl, (hA.old 72 (by decide)).trans rfl, (hA.old 73 (by decide)).trans rfl, (hA.old 74 (by decide)).trans rfl, (hA.old 75 (by decide)).trans rfl, (hA.old 76 (by decide)).trans rfl, (hA.old 77 (by decide)).trans rfl, (hA.old 78 (by decide)).trans rfl, (hA.old 79 (by decide)).trans rfl, (hA.old 80 (by decide)).trans rfl, (hA.old 81 (by decide)).trans rfl, (hA.old 82 (by decide)).trans rfl, (hA.old 83 (by decide)).trans rfl, (hA.old 84 (by decide)).trans rfl, (hA.old 85 (by decide)).trans rfl, (hA.old 86 (by decide)).trans rfl, (hA.old 87 (by decide)).trans rfl, (hA.old 88 (by decide)).trans rfl, (hA.old 89 (by decide)).trans rfl, h69] at e
        generalize ac.eval (.tmp 59) = x59 at e
        generalize ac.eval (.tmp 60) = x60 at e
        generalize ac.eval (.tmp 61) = x61 at e
        generalize ac.eval (.tmp 62) = x62 at e
        generalize ac.eval (.tmp 63) = x63 at e
        generalize ac.eval (.tmp 64) = x64 at e
        generalize ac.eval (.tmp 65) = x65 at e
        generalize ac.eval (.tmp 66) = x66 at e
        generalize ac.eval (.tmp 67) = x67 at e
        generalize ac.eval (.tmp 68) = x68 at e
        subst e
        go_wp2
        go_ret
        exact ⟨rfl, hg.trans (hgr.trans hgz)⟩
    · have hne : names = names' := by rwa [List.take_of_length_le (by omega), List.take_of_length_le (by omega)] at hT
      rw [decide_eq_true hne, Bool.true_and] at hX
      have gi : ¬ (i : Int) < (NN : Int) := by omega
      clear hnames hnames' hT hne q5' hsl
      go_wp2_with fail
      go_loopw [6] (fun c wx => ∃ m : Nat, c = .int .i64 (m : Int) ∧ m ≤ LL ∧ samesB (l.drop m) (l'.drop m) = X ∧ Gr wr wx) (fun c _ => LL - (intOf c).toNat)
      case atStart => exact ⟨0, rfl, by omega, by rw [List.drop_zero, List.drop_zero]; exact hX, Gr.refl _⟩
      case round =>
        rename_i wx _
        obtain ⟨m, rfl, hm, hE, hgx⟩ := hrel
        have hgx2 := hgr.trans hgx
        have q4 := h4 _ hgx2
        rcases Nat.lt_or_ge m LL with hlt2 | hge2
        · have hx : l[m]? = some l[m] := List.getElem?_eq_getElem (by omega)
          have hy : l'[m]? = some l'[m] := List.getElem?_eq_getElem (by omega)
          have hce : es[m]? = some (es[m]'(by omega)) := List.getElem?_eq_getElem (by omega)
          have hde : es'[m]? = some (es'[m]'(by omega)) := List.getElem?_eq_getElem (by omega)
          have h6 := h6' _ (List.mem_of_getElem? hce)
          have k6 := k6' _ (List.mem_of_getElem? hde)
          have ihx := ih m _ _ _ _ hx hce hy hde
          have hgw := hw.trans (hg.trans hgx2)
          obtain ⟨g, off, rfl, hgS, hrng⟩ := hlies.elemG hgw h6' hce
          obtain ⟨g', off', rfl, hgS', hrng'⟩ := hlies'.elemG hgw k6' hde
          rw [sames_drop (by omega) (by omega)] at hE
          have g1 : (m : Int) < (LL : Int) := by omega
          have hw1 : IntKind.i64.wrap ((m : Int) + 1) = ((m + 1 : Nat) : Int) := by rw [wrap_in (by omega) (by omega)]; omega
          generalize l[m] = x at *
          generalize l'[m] = y at *
          generalize es[m]'(by omega) = c at *
          generalize es'[m]'(by omega) = d at *
          clear ih hlies hlies'
          cases hr : sameB x y with
          | false =>
            rw [hr] at hE
            have hE : X = false := by simpa using hE.symm
            subst hE
            go_upto_region 11 with fail
            refine r15_11 (B := false) rfl (fun y hy => h4 y (hgx2.trans hy)) (fun y hy => h4' y (hgx2.trans hy)) hlt2 hrng (Nat.lt_of_lt_of_le hgS hgw.size) h6 hrng' (Nat.lt_of_lt_of_le hgS' hgw.size) k6 (fun y hy => by have := ihx y (hgw.trans hy); rwa [hr] at this) rfl rfl rfl fun ac wz hA h7 hgz => ?_
            rename_i hK
            refine hK _ _ ?_
            have e : ac = ⟨(ac.eval (.tmp 0) :: ac.eval (.tmp 1) :: ac.eval (.tmp 2) :: ac.eval (.tmp 3) :: ac.eval (.tmp 4) :: ac.eval (.tmp 5) :: ac.eval (.tmp 6) :: ac.eval (.tmp 7) :: ac.eval (.tmp 8) :: ac.eval (.tmp 9) :: ac.eval (.tmp 10) :: ac.eval (.tmp 11) :: ac.eval (.tmp 12) :: ac.eval (.tmp 13) :: ac.eval (.tmp 14) :: ac.eval (.tmp 15) :: ac.eval (.tmp 16) :: ac.eval (.tmp 17) :: ac.eval (.tmp 18) :: ac.eval (.tmp 19) :: ac.eval (.tmp 20) :: ac.eval (.tmp 21) :: ac.eval (.tmp 22) :: ac.eval (.tmp 23) :: ac.eval (.tmp 24) :: ac.eval (.tmp 25) :: ac.eval (.tmp 26) :: ac.eval (.tmp 27) :: ac.eval (.tmp 28) :: ac.eval (.tmp 29) :: ac.eval (.tmp 30) :: ac.eval (.tmp 31) :: ac.eval (.tmp 32) :: ac.eval (.tmp 33) :: ac.eval (.tmp 34) :: ac.eval (.tmp 35) :: ac.eval (.tmp 36) :: ac.eval (.tmp 37) :: ac.eval (.tmp 38) :: ac.eval (.tmp 39) :: ac.eval (.tmp 40) :: ac.eval (.tmp 41) :: ac.eval (.tmp 42) :: ac.eval (.tmp 43) :: ac.eval (.tmp 44) :: ac.eval (.tmp 45) :: ac.eval (.tmp 46) :: ac.eval (.tmp 47) :: ac.eval (.tmp 48) :: ac.eval (.tmp 49) :: ac.eval (.tmp 50) :: ac.eval (.tmp 51) :: ac.eval (.tmp 52) :: ac.eval (.tmp 53) :: ac.eval (.tmp 54) :: ac.eval (.tmp 55) :: ac.eval (.tmp 56) :: ac.eval (.tmp 57) :: ac.eval (.tmp 58) :: ac.eval (.tmp 59) :: ac.eval (.tmp 60) :: ac.eval (.tmp 61) :: ac.eval (.tmp 62) :: ac.eval (.tmp 63) :: ac.eval (.tmp 64) :: ac.eval (.tmp 65) :: ac.eval (.tmp 66) :: ac.eval (.tmp 67) :: ac.eval (.tmp 68) :: ac.eval (.tmp 69) :: ac.eval (.tmp 70) :: ac.eval (.tmp 71) :: ac.eval (.tmp 72) :: ac.eval (.tmp 73) :: ac.eval (.tmp 74) :: ac.eval (.tmp 75) :: ac.eval (.tmp 76) :: ac.eval (.tmp 77) :: ac.eval (.tmp 78) :: ac.eval (.tmp 79) :: ac.eval (.tmp 80) :: ac.eval (.tmp 81) :: ac.eval (.tmp 82) :: ac.eval (.tmp 83) :: ac.eval (.tmp 84) :: ac.eval (.tmp 85) :: ac.eval (.tmp 86) :: ac.eval (.tmp 87) :: ac.eval (.tmp 88) :: ac.eval (.tmp 89) :: ([] : List Value)).toArray, ac.defers⟩ := (act_lit2 (hA.size.trans rfl)).trans rfl
            rw [hA.defers, (hA.old 0 (by decide)).trans rfl, (hA.old 1 (by decide)).trans rfl, (hA.old 2 (by decide)).trans rfl, (hA.old 3 (by decide)).trans rfl, (hA.old 4 (by decide)).trans rfl, (hA.old 5 (by decide)).trans rfl, (hA.old 6 (by decide)).trans rfl, (hA.old 8 (by decide)).trans rfl, (hA.old 9 (by decide)).trans rfl, (hA.old 10 (by decide)).trans rfl, (hA.old 11 (by decide)).trans rfl, (hA.old 12 (by decide)).trans rfl, (hA.old 13 (by decide)).trans rfl, (hA.old 14 (by decide)).trans rfl, (hA.old 15 (by decide)).trans rfl, (hA.old 16 (by decide)).trans rfl, (hA.old 17 (by decide)).trans rfl, (hA.old 18 (by decide)).trans rfl, (hA.old 19 (by decide)).trans rfl, (hA.old 20 (by decide)).trans rfl, (hA.old 21 (by decide)).trans rfl, (hA.old 22 (by decide)).trans rfl, (hA.old 23 (by decide)).trans rfl, (hA.old 24 (by decide)).trans rfl, (hA.old 25 (by decide)).trans rfl, (hA.old 26 (by decide)).trans rfl, (hA.old 27 (by decide)).trans rfl, (hA.old 28 (by decide)).trans rfl, (hA.old 29 (by decide)).trans rfl, (hA.old 30 (by decide)).trans rfl, (hA.old 31 (by decide)).trans rfl, (hA.old 32 (by decide)).trans rfl, (hA.old 33 (by decide)).trans rfl, (hA.old 34 (by decide)).trans rfl, (hA.old 35 (by decide)).trans rfl, (hA.old 36 (by decide)).trans rfl, (hA.old 37 (by decide)).trans rfl, (hA.old 38 (by decide)).trans rfl, (hA.old 39 (by decide)).trans rfl, (hA.old 40 (by decide)).trans rfl, (hA.old 41 (by decide)).trans rfl, (hA.old 42 (by decide)).trans rfl, (hA.old 43 (by decide)).trans rfl, (hA.old 44 (by decide)).trans rfl, (hA.old 45 (by decide)).trans rfl, (hA.old 46 (by decide)).trans rfl, (hA.old 47 (by decide)).trans rfl, (hA.old 48 (by decide)).trans rfl, (hA.old 49 (by decide)).trans rfl, (hA.old 50 (by decide)).trans rfl, (hA.old 51 (by decide)).trans rfl, (hA.old 52 (by decide)).trans rfl, (hA.old 53 (by decide)).trans rfl, (hA.old 54 (by decide)).trans rfl, (hA.old 55 (by decide)).trans rfl, (hA.old 56 (by decide)).trans rfl, (hA.old 57 (by decide)).trans rfl, (hA.old 58 (by decide)).trans rfl, (hA.old 59 (by decide)).trans rfl, (hA.old 60 (by decide)).trans rfl, (hA.old 61 (by decide)).trans rfl, (hA.old 62 (by decide)).trans rfl, (hA.old 63 (by decide)).trans rfl, (hA.old 64 (by decide)).trans rfl, (hA.old 65 (by decide)).trans rfl, (hA.old 66 (by decide)).trans rfl, (hA.old 67 (by decide)).trans rfl, (hA.old 68 (by decide)).trans rfl, (hA.old 69 (by decide)).trans rfl, (hA.old 70 (by decide)).trans rfl, (hA.old 71 (by decide)).trans rfl, (hA.old 72 (by decide)).trans rfl, (hA.old 73 (by decide)).trans rfl, (hA.old 74 (by decide)).trans rfl, (hA.old 75 (by decide)).trans rfl, (hA.old 76 (by decide)).trans rfl, (hA.old 88 (by decide)).trans rfl, (hA.old 89 (by decide)).trans rfl, h7] at e
            generalize ac.eval (.tmp 77) = x77 at e
            generalize ac.eval (.tmp 78) = x78 at e
            generalize ac.eval (.tmp 79) = x79 at e
            generalize ac.eval (.tmp 80) = x80 at e
            generalize ac.eval (.tmp 81) = x81 at e
            generalize ac.eval (.tmp 82) = x82 at e
            generalize ac.eval (.tmp 83) = x83 at e
            generalize ac.eval (.tmp 84) = x84 at e
            generalize ac.eval (.tmp 85) = x85 at e
            generalize ac.eval (.tmp 86) = x86 at e
            generalize ac.eval (.tmp 87) = x87 at e
            subst e
            go_wp2
            go_ret
            exact ⟨rfl, hg.trans (hgx2.trans hgz)⟩
          | true =>
            rw [hr, Bool.true_and] at hE
            go_upto_region 11 with fail
            refine r15_11 (B := true) rfl (fun y hy => h4 y (hgx2.trans hy)) (fun y hy => h4' y (hgx2.trans hy)) hlt2 hrng (Nat.lt_of_lt_of_le hgS hgw.size) h6 hrng' (Nat.lt_of_lt_of_le hgS' hgw.size) k6 (fun y hy => by have := ihx y (hgw.trans hy); rwa [hr] at this) rfl rfl rfl fun ac wz hA h7 hgz => ?_
            rename_i hK
            refine hK _ _ ?_
            have e : ac = ⟨(ac.eval (.tmp 0) :: ac.eval (.tmp 1) :: ac.eval (.tmp 2) :: ac.eval (.tmp 3) :: ac.eval (.tmp 4) :: ac.eval (.tmp 5) :: ac.eval (.tmp 6) :: ac.eval (.tmp 7) :: ac.eval (.tmp 8) :: ac.eval (.tmp 9) :: ac.eval (.tmp 10) :: ac.eval (.tmp 11) :: ac.eval (.tmp 12) :: ac.eval (.tmp 13) :: ac.eval (.tmp 14) :: ac.eval (.tmp 15) :: ac.eval (.tmp 16) :: ac.eval (.tmp 17) :: ac.eval (.tmp 18) :: ac.eval (.tmp 19) :: ac.eval (.tmp 20) :: ac.eval (.tmp 21) :: ac.eval (.tmp 22) :: ac.eval (.tmp 23) :: ac.eval (.tmp 24) :: ac.eval (.tmp 25) :: ac.eval (.tmp 26) :: ac.eval (.tmp 27) :: ac.eval (.tmp 28) :: ac.eval (.tmp 29) :: ac.eval (.tmp 30) :: ac.eval (.tmp 31) :: ac.eval (.tmp 32) :: ac.eval (.tmp 33) :: ac.eval (.tmp 34) :: ac.eval (.tmp 35) :: ac.eval (.tmp 36) :: ac.eval (.tmp 37) :: ac.eval (.tmp 38) :: ac.eval (.tmp 39) :: ac.eval (.tmp 40) :: ac.eval (.tmp 41) :: ac.eval (.tmp 42) :: ac.eval (.tmp 43) :: ac.eval (.tmp 44) :: ac.eval (.tmp 45) :: ac.eval (.tmp 46) :: ac.eval (.tmp 47) :: ac.eval (.tmp 48) :: ac.eval (.tmp 49) :: ac.eval (.tmp 50) :: ac.eval (.tmp 51) :: ac.eval (.tmp 52) :: ac.eval (.tmp 53) :: ac.eval (.tmp 54) :: ac.eval (.tmp 55) :: ac.eval (.tmp 56) :: ac.eval (.tmp 57) :: ac.eval (.tmp 58) :: ac.eval (.tmp 59) :: ac.eval (.tmp 60) :: ac.eval (.tmp 61) :: ac.eval (.tmp 62) :: ac.eval (.tmp 63) :: ac.eval (.tmp 64) :: ac.eval (.tmp 65) :: ac.eval (.tmp 66) :: ac.eval (.tmp 67) :: ac.eval (.tmp 68) :: ac.eval (.tmp 69) :: ac.eval (.tmp 70) :: ac.eval (.tmp 71) :: ac.eval (.tmp 72) :: ac.eval (.tmp 73) :: ac.eval (.tmp 74) :: ac.eval (.tmp 75) :: ac.eval (.tmp 76) :: ac.eval (.tmp 77) :: ac.eval (.tmp 78) :: ac.eval (.tmp 79) :: ac.eval (.tmp 80) :: ac.eval (.tmp 81) :: ac.eval (.tmp 82) :: ac.eval (.tmp 83) :: ac.eval (.tmp 84) :: ac.eval (.tmp 85) :: ac.eval (.tmp 86) :: ac.eval (.tmp 87) :: ac.eval (.tmp 88) :: ac.eval (.tmp 89) :: ([] : List Value)).toArray, ac.defers⟩ := (act_lit2 (hA.size.trans rfl)).trans rfl
            rw [hA.defers, (hA.old 0 (by decide)).trans rfl, (hA.old 1 (by decide)).trans rfl, (hA.old 2 (by decide)).trans rfl, (hA.old 3 (by decide)).trans rfl, (hA.old 4 (by decide)).trans rfl, (hA.old 5 (by decide)).trans rfl, (hA.old 6 (by decide)).trans rfl, (hA.old 8 (by decide)).trans rfl, (hA.old 9 (by decide)).trans rfl, (hA.old 10 (by decide)).trans rfl, (hA.old 11 (by decide)).trans rfl, (hA.old 12 (by decide)).trans rfl, (hA.old 13 (by decide)).trans rfl, (hA.old 14 (by decide)).trans rfl, (hA.old 15 (by decide)).trans rfl, (hA.old 16 (by decide)).trans rfl, (hA.old 17 (by decide)).trans rfl, (hA.old 18 (by decide)).trans rfl, (hA.old 19 (by decide)).trans rfl, (hA.old 20 (by decide)).trans rfl, (hA.old 21 (by decide)).trans rfl, (hA.old 22 (by decide)).trans rfl, (hA.old 23 (by decide)).trans rfl, (hA.old 24 (by decide)).trans rfl, (hA.old 25 (by decide)).trans rfl, (hA.old 26 (by decide)).trans rfl, (hA.old 27 (by decide)).trans rfl, (hA.old 28 (by decide)).trans rfl, (hA.old 29 (by decide)).trans rfl, (hA.old 30 (by decide)).trans rfl, (hA.old 31 (by decide)).trans rfl, (hA.old 32 (by decide)).trans rfl, (hA.old 33 (by decide)).trans rfl, (hA.old 34 (by decide)).trans rfl, (hA.old 35 (by decide)).trans rfl, (hA.old 36 (by decide)).trans rfl, (hA.old 37 (by decide)).trans rfl, (hA.old 38 (by decide)).trans rfl, (hA.old 39 (by decide)).trans rfl, (hA.old 40 (by decide)).trans rfl, (hA.old 41 (by decide)).trans rfl, (hA.old 42 (by decide)).trans rfl, (hA.old 43 (by decide)).trans rfl, (hA.old 44 (by decide)).trans rfl, (hA.old 45 (by decide)).trans rfl, (hA.old 46 (by decide)).trans rfl, (hA.old 47 (by decide)).trans rfl, (hA.old 48 (by decide)).trans rfl, (hA.old 49 (by decide)).trans rfl, (hA.old 50 (by decide)).trans rfl, (hA.old 51 (by decide)).trans rfl, (hA.old 52 (by decide)).trans rfl, (hA.old 53 (by decide)).trans rfl, (hA.old 54 (by decide)).trans rfl, (hA.old 55 (by decide)).trans rfl, (hA.old 56 (by decide)).trans rfl, (hA.old 57 (by decide)).trans rfl, (hA.old 58 (by decide)).trans rfl, (hA.old 59 (by decide)).trans rfl, (hA.old 60 (by decide)).trans rfl, (hA.old 61 (by decide)).trans rfl, (hA.old 62 (by decide)).trans rfl, (hA.old 63 (by decide)).trans rfl, (hA.old 64 (by decide)).trans rfl, (hA.old 65 (by decide)).trans rfl, (hA.old 66 (by decide)).trans rfl, (hA.old 67 (by decide)).trans rfl, (hA.old 68 (by decide)).trans rfl, (hA.old 69 (by decide)).trans rfl, (hA.old 70 (by decide)).trans rfl, (hA.old 71 (by decide)).trans rfl, (hA.old 72 (by decide)).trans rfl, (hA.old 73 (by decide)).trans rfl, (hA.old 74 (by decide)).trans rfl, (hA.old 75 (by decide)).trans rfl, (hA.old 76 (by decide)).trans rfl, (hA.old 88 (by decide)).trans rfl, (hA.old 89 (by decide)).trans rfl, h7] at e
            generalize ac.eval (.tmp 77) = x77 at e
            generalize ac.eval (.tmp 78) = x78 at e
            generalize ac.eval (.tmp 79) = x79 at e
            generalize ac.eval (.tmp 80) = x80 at e
            generalize ac.eval (.tmp 81) = x81 at e
            generalize ac.eval (.tmp 82) = x82 at e
            generalize ac.eval (.tmp 83) = x83 at e
            generalize ac.eval (.tmp 84) = x84 at e
            generalize ac.eval (.tmp 85) = x85 at e
            generalize ac.eval (.tmp 86) = x86 at e
            generalize ac.eval (.tmp 87) = x87 at e
            subst e
            go_wp2
            exact ⟨⟨m + 1, rfl, by omega, hE, hgx.trans hgz⟩, by simp; omega⟩
        · have g1 : ¬ (m : Int) < (LL : Int) := by omega
          rw [List.drop_of_length_le (by omega), List.drop_of_length_le (by omega), samesB] at hE
          subst hE
          go_wp2
          go_ret
          exact ⟨rfl, hg.trans hgx2⟩
theorem rsame_ok {w0 : World} {S : Nat → Prop} : ∀ {j : J} {v : Value}, JAt w0 S j v → ∀ {S' : Nat → Prop} {j' : J} {v' : Value}, JAt w0 S' j' v' → Fits j → Fits j' → SameR w0 j v j' v' := by
  intro j v hJ
  induction hJ with
  | mk k b n s l names la na lc nc es hes h6 hl hlies hnames ih =>
    intro S' j' v' hJ' hF hF' w hw
    cases hJ' with
    | mk k' b' n' s' l' names' la' na' lc' nc' es' hes' h6' hl' hlies' hnames' =>
      obtain ⟨hll, hnl, hsl, hfx⟩ := hF
      obtain ⟨hll', hnl', hsl', hfx'⟩ := hF'
      rw [sameB]
      exact rsame_mk hes h6 hlies hnames hll hnl hes' h6' hlies' hnames' hll' hnl' (fun i x y c d h1 h2 h3 h4 => ih i x c h1 h2 (hl' i y d h3 h4) (hfx x (List.mem_of_getElem? h1)) (hfx' y (List.mem_of_getElem? h3))) w hw
end Go.Proofs.YtogippkapadolaaDoor
