/- JsRText, JsRShow. -/
import Derived.Deep.Cut
import Derived.Test.YtogippkapadolaaDoorYJ6
import Derived.Test.YtogippkapadolaaDoorYJ16
import Derived.Test.YtogippkapadolaaDoorYJ17
import Derived.Test.YtogippkapadolaaDoorYJ24
import Derived.Test.YtogippkapadolaaDoorYJ18
/- The document's text of a text, and a number's (by gen_jsrtext.py). -/
namespace Go.Proofs.YtogippkapadolaaDoor
open Go.RowKit

theorem add_str (a b : List UInt8) (h : a.length + b.length ≤ 9223372036854775807) : ∀ w, (binOp .add 9 (.string (strL a)) (.string (strL b))).run Tryd.prog w = .ok (.string (strL (a ++ b))) w := fun w => by
  have := run_string_add_sum (P := Tryd.prog) w (strL a) (strL b) (by rw [strL_size, strL_size]; exact h)
  rw [strL_app] at this
  rw [binOp_string_add]
  exact this
theorem guard_add (a b : Value) (u v : Operand) : ∀ w, (eqGuard .add 9 u v a b).run Tryd.prog w = .ok () w := fun w => by unfold eqGuard; rfl
theorem guard_b (o : BinOp) (a b : Int) (u v : Operand) : ∀ w, (eqGuard o 5 u v (.int .u8 a) (.int .u8 b)).run Tryd.prog w = .ok () w := fun w => by unfold eqGuard; cases o <;> rfl
theorem wrap8n {n : Nat} (h : n < 256) : IntKind.u8.wrap (n : Int) = (n : Int) := by
  have : ∀ m < 256, IntKind.u8.wrap ((m : Nat) : Int) = ((m : Nat) : Int) := by decide +kernel
  exact this n h
theorem bin_quo16 (c : UInt8) : ∀ w, (binOp .quo 5 (.int .u8 (c.toNat : Int)) (.int .u8 16)).run Tryd.prog w = .ok (.int .u8 ((c.toNat / 16 : Nat) : Int)) w := by
  intro w
  have hc : c.toNat < 256 := c.toNat_lt
  have e : (c.toNat : Int).tdiv 16 = ((c.toNat / 16 : Nat) : Int) := by rw [Int.tdiv_eq_ediv_of_nonneg (by omega)]; omega
  have hw : IntKind.u8.wrap ((c.toNat / 16 : Nat) : Int) = ((c.toNat / 16 : Nat) : Int) := wrap8n (by omega)
  simpa [binOp, Op.intDiv, e] using hw
theorem bin_rem16 (c : UInt8) : ∀ w, (binOp .rem 5 (.int .u8 (c.toNat : Int)) (.int .u8 16)).run Tryd.prog w = .ok (.int .u8 ((c.toNat % 16 : Nat) : Int)) w := by
  intro w
  have hc : c.toNat < 256 := c.toNat_lt
  have e : (c.toNat : Int).tmod 16 = ((c.toNat % 16 : Nat) : Int) := by rw [Int.tmod_eq_emod_of_nonneg (by omega)]; omega
  simp [binOp, Op.intDiv, e]
theorem convert_row {w : World} {g cap : Nat} {bs : List UInt8} (h : Holds w g (bs.map byteV) 5) : (convert 55 9 (.slice (some ⟨g, 0, none⟩) bs.length cap)).run Tryd.prog w = .ok (.string (strL bs)) w := by
  have := run_convert_bytes_arg (P := Tryd.prog) w 55 5 und55 und5 g 0 bs.length cap (bs.map fun c => (c.toNat : Int)) (by simp) (fun i hi => by
    have hl : i < bs.length := by simpa using hi
    rw [Nat.zero_add]
    have := h.at i (byteV bs[i]) (by simp [hl])
    rw [this]
    simp [hl]; rfl) 9 und9
  rw [str_nums] at this
  exact this
theorem convert_two (w : World) (a b : UInt8) : (convert 55 9 (.slice (some ⟨w.heap.size, 0, none⟩) 2 2)).run Tryd.prog (w.alloc (.cells #[.int .u8 (a.toNat : Int), .int .u8 (b.toNat : Int)] 5)) = .ok (.string (strL [a, b])) (w.alloc (.cells #[.int .u8 (a.toNat : Int), .int .u8 (b.toNat : Int)] 5)) :=
  convert_row (bs := [a, b]) (holds_new w [byteV a, byteV b] 5)
theorem convert_92 (w : World) (b : UInt8) : (convert 55 9 (.slice (some ⟨w.heap.size, 0, none⟩) 2 2)).run Tryd.prog (w.alloc (.cells #[.int .u8 92, .int .u8 (b.toNat : Int)] 5)) = .ok (.string (strL [92, b])) (w.alloc (.cells #[.int .u8 92, .int .u8 (b.toNat : Int)] 5)) := convert_two w 92 b
theorem convert_one (w : World) (b : UInt8) : (convert 55 9 (.slice (some ⟨w.heap.size, 0, none⟩) 1 1)).run Tryd.prog (w.alloc (.cells #[.int .u8 (b.toNat : Int)] 5)) = .ok (.string (strL [b])) (w.alloc (.cells #[.int .u8 (b.toNat : Int)] 5)) :=
  convert_row (bs := [b]) (holds_new w [byteV b] 5)
def twoB (a b : UInt8) : Fact := ⟨fun v y => ∃ B, v = .slice (some ⟨B, 0, none⟩) 2 2 ∧ Holds y B [byteV a, byteV b] 5, fun ⟨B, h1, h2⟩ g => ⟨B, h1, h2.gr g⟩⟩
theorem bs55two (a b : Int) (y : World) : (Instr.buildSlice 55 2 #[(0, .int .u8 a), (1, .int .u8 b)]).run Tryd.prog y = .ok (.slice (some ⟨y.heap.size, 0, none⟩) 2 2) (y.alloc (.cells #[.int .u8 a, .int .u8 b] 5)) := by kernel_rfl
/-- FormatInt at base 10. -/
theorem fmt_any {w : World} {n : Int} (h0 : -9223372036854775808 ≤ n) (h1 : n ≤ 9223372036854775807) (htab : Tab w.heap.size w) : Calls Tryd.prog 44 #[.int .i64 n, .int .i64 10] w fun e w' => e = .returned (.string (strL (Lib.itoa n))) ∧ Gr w w' := by
  have hf := Tryd.internal_strconv_FormatInt_10 n h0 h1 w htab.here
  go_enter Tryd.func44, Tryd.ntmps44
  go_wp2_with (go_at_call 65; refine hf.mono ?_; rintro e w1 ⟨rfl, k, os, rfl⟩)
  go_ret
  exact ⟨rfl, Lib.below_grow _ _ (Nat.le_refl _) _ _⟩
def q45_11 : Array Oper := #[{ dst := some 40, op := Op.move (Operand.tmp 4), type := 9, pos := "ref.go:49", after := #[], guard := none }, { dst := some 41, op := Op.binOp BinOp.add 9 (Operand.tmp 40) (Operand.const (Value.string { data := #[92, 117, 48, 48] })) 9, type := 9, pos := "ref.go:49", after := #[{ on := 0, ground := Ground.data }], guard := none }, { dst := some 42, op := Op.move (Operand.tmp 3), type := 9, pos := "ref.go:49", after := #[], guard := none }, { dst := some 43, op := Op.move (Operand.tmp 6), type := 5, pos := "ref.go:49", after := #[], guard := none }, { dst := some 44, op := Op.binOp BinOp.quo 5 (Operand.tmp 43) (Operand.const (Value.int IntKind.u8 16)) 5, type := 5, pos := "ref.go:49", after := #[{ on := 3, ground := Ground.data }], guard := none }, { dst := some 45, op := Op.index 9 (Operand.tmp 42) (Operand.tmp 44), type := 5, pos := "ref.go:49", after := #[{ on := 2, ground := Ground.data }, { on := 4, ground := Ground.data }], guard := none }, { dst := some 46, op := Op.move (Operand.tmp 3), type := 9, pos := "ref.go:49", after := #[], guard := none }, { dst := some 47, op := Op.move (Operand.tmp 6), type := 5, pos := "ref.go:49", after := #[], guard := none }, { dst := some 48, op := Op.binOp BinOp.rem 5 (Operand.tmp 47) (Operand.const (Value.int IntKind.u8 16)) 5, type := 5, pos := "ref.go:49", after := #[{ on := 7, ground := Ground.data }], guard := none }, { dst := some 49, op := Op.index 9 (Operand.tmp 46) (Operand.tmp 48), type := 5, pos := "ref.go:49", after := #[{ on := 6, ground := Ground.data }, { on := 8, ground := Ground.data }], guard := none }, { dst := some 50, op := Op.buildSlice 55 2 #[(0, Operand.tmp 45), (1, Operand.tmp 49)], type := 55, pos := "ref.go:49", after := #[{ on := 5, ground := Ground.data }, { on := 9, ground := Ground.data }], guard := none }, { dst := some 51, op := Op.convert 55 9 (Operand.tmp 50), type := 9, pos := "ref.go:49", after := #[{ on := 10, ground := Ground.data }], guard := none }, { dst := some 52, op := Op.binOp BinOp.add 9 (Operand.tmp 41) (Operand.tmp 51) 9, type := 9, pos := "ref.go:49", after := #[{ on := 1, ground := Ground.data }, { on := 11, ground := Ground.data }], guard := none }, { dst := some 4, op := Op.assign (Operand.tmp 52), type := 9, pos := "ref.go:49", after := #[{ on := 12, ground := Ground.data }, { on := 0, ground := Ground.phase }, { on := 1, ground := Ground.phase }, { on := 2, ground := Ground.phase }, { on := 3, ground := Ground.phase }, { on := 4, ground := Ground.phase }, { on := 5, ground := Ground.phase }, { on := 6, ground := Ground.phase }, { on := 7, ground := Ground.phase }, { on := 8, ground := Ground.phase }, { on := 9, ground := Ground.phase }, { on := 10, ground := Ground.phase }, { on := 11, ground := Ground.phase }, { on := 12, ground := Ground.phase }], guard := none }]
set_option maxRecDepth 100000 in
theorem r45_11 {Q : Exit → Act → World → Prop} {a0 : Act} {w : World} (hz : a0.tmps.size = 55) {O : List UInt8} {c : UInt8} (hO : O.length ≤ 9223372036854775000) (e4 : a0.eval (.tmp 4) = .string (strL O)) (e3 : a0.eval (.tmp 3) = .string ⟨#[48, 49, 50, 51, 52, 53, 54, 55, 56, 57, 97, 98, 99, 100, 101, 102]⟩) (e6 : a0.eval (.tmp 6) = .int .u8 (c.toNat : Int)) (hend : ∀ ac wz, After [4, 40, 41, 42, 43, 44, 45, 46, 47, 48, 49, 50, 51, 52] a0 ac → ac.eval (.tmp 4) = .string (strL (O ++ [92, 117, 48, 48] ++ [digC (c.toNat / 16), digC (c.toNat % 16)])) → Gr w wz → Q .normal ac wz) : (Code.region 11 q45_11 true).wp Tryd.prog Q a0 w := by
  refine drawn_tail (by kernel_rfl) (by kernel_rfl) 13 (by decide) (by kernel_rfl) (by kernel_rfl) [40, 41, 42, 43, 44, 45, 46, 47, 48, 49, 50, 51, 52] (fun | 40 => .val (.string (strL O)) | 41 => .val (.string (strL (O ++ [92, 117, 48, 48]))) | 42 => .val (.string ⟨#[48, 49, 50, 51, 52, 53, 54, 55, 56, 57, 97, 98, 99, 100, 101, 102]⟩) | 43 => .val (.int .u8 (c.toNat : Int)) | 44 => .val (.int .u8 ((c.toNat / 16 : Nat) : Int)) | 45 => .val (.int .u8 ((digC (c.toNat / 16)).toNat : Int)) | 46 => .val (.string ⟨#[48, 49, 50, 51, 52, 53, 54, 55, 56, 57, 97, 98, 99, 100, 101, 102]⟩) | 47 => .val (.int .u8 (c.toNat : Int)) | 48 => .val (.int .u8 ((c.toNat % 16 : Nat) : Int)) | 49 => .val (.int .u8 ((digC (c.toNat % 16)).toNat : Int)) | 50 => twoB (digC (c.toNat / 16)) (digC (c.toNat % 16)) | 51 => .val (.string (strL [digC (c.toNat / 16), digC (c.toNat % 16)])) | 52 => .val (.string (strL (O ++ [92, 117, 48, 48] ++ [digC (c.toNat / 16), digC (c.toNat % 16)]))) | _ => .any) (by kernel_rfl) (List.forall_mem_cons.2 ⟨?s0, List.forall_mem_cons.2 ⟨?s1, List.forall_mem_cons.2 ⟨?s2, List.forall_mem_cons.2 ⟨?s3, List.forall_mem_cons.2 ⟨?s4, List.forall_mem_cons.2 ⟨?s5, List.forall_mem_cons.2 ⟨?s6, List.forall_mem_cons.2 ⟨?s7, List.forall_mem_cons.2 ⟨?s8, List.forall_mem_cons.2 ⟨?s9, List.forall_mem_cons.2 ⟨?s10, List.forall_mem_cons.2 ⟨?s11, List.forall_mem_cons.2 ⟨?s12, fun o ho => nomatch ho⟩⟩⟩⟩⟩⟩⟩⟩⟩⟩⟩⟩⟩) ?e
  case s0 => exact sa_move (.tmp 4) 40 (.val (.string (strL O))) (.inl rfl) rfl rfl (.old 4 _ (by decide) e4) rfl
  case s1 => exact sa_bin .add 9 (.tmp 40) (.const _) 9 41 (.string (strL O)) (.string (strL [92, 117, 48, 48])) (.string (strL (O ++ [92, 117, 48, 48]))) rfl rfl rfl (.new 40 (by kernel_rfl) (by rw [hz]; decide)) (.const _) (guard_add _ _ _ _) (add_str _ _ (by simp only [List.length_cons, List.length_nil]; omega)) rfl
  case s2 => exact sa_move (.tmp 3) 42 (.val (.string ⟨#[48, 49, 50, 51, 52, 53, 54, 55, 56, 57, 97, 98, 99, 100, 101, 102]⟩)) (.inl rfl) rfl rfl (.old 3 _ (by decide) e3) rfl
  case s3 => exact sa_move (.tmp 6) 43 (.val (.int .u8 (c.toNat : Int))) (.inl rfl) rfl rfl (.old 6 _ (by decide) e6) rfl
  case s4 => exact sa_bin .quo 5 (.tmp 43) (.const _) 5 44 (.int .u8 (c.toNat : Int)) (.int .u8 16) (.int .u8 ((c.toNat / 16 : Nat) : Int)) rfl rfl rfl (.new 43 (by kernel_rfl) (by rw [hz]; decide)) (.const _) (guard_b _ _ _ _ _) (bin_quo16 c) rfl
  case s5 => exact sa_ix 9 (.tmp 42) (.tmp 44) 45 (.string ⟨#[48, 49, 50, 51, 52, 53, 54, 55, 56, 57, 97, 98, 99, 100, 101, 102]⟩) (.int .u8 ((c.toNat / 16 : Nat) : Int)) (.int .u8 ((digC (c.toNat / 16)).toNat : Int)) rfl rfl rfl (.new 42 (by kernel_rfl) (by rw [hz]; decide)) (.new 44 (by kernel_rfl) (by rw [hz]; decide)) (ix_dig (by have := c.toNat_lt; omega)) rfl
  case s6 => exact sa_move (.tmp 3) 46 (.val (.string ⟨#[48, 49, 50, 51, 52, 53, 54, 55, 56, 57, 97, 98, 99, 100, 101, 102]⟩)) (.inl rfl) rfl rfl (.old 3 _ (by decide) e3) rfl
  case s7 => exact sa_move (.tmp 6) 47 (.val (.int .u8 (c.toNat : Int))) (.inl rfl) rfl rfl (.old 6 _ (by decide) e6) rfl
  case s8 => exact sa_bin .rem 5 (.tmp 47) (.const _) 5 48 (.int .u8 (c.toNat : Int)) (.int .u8 16) (.int .u8 ((c.toNat % 16 : Nat) : Int)) rfl rfl rfl (.new 47 (by kernel_rfl) (by rw [hz]; decide)) (.const _) (guard_b _ _ _ _ _) (bin_rem16 c) rfl
  case s9 => exact sa_ix 9 (.tmp 46) (.tmp 48) 49 (.string ⟨#[48, 49, 50, 51, 52, 53, 54, 55, 56, 57, 97, 98, 99, 100, 101, 102]⟩) (.int .u8 ((c.toNat % 16 : Nat) : Int)) (.int .u8 ((digC (c.toNat % 16)).toNat : Int)) rfl rfl rfl (.new 46 (by kernel_rfl) (by rw [hz]; decide)) (.new 48 (by kernel_rfl) (by rw [hz]; decide)) (ix_dig (by omega)) rfl
  case s10 => exact (sa_of 50 rfl rfl fun f a y cx => by
      have e1 : a.eval (.tmp 45) = _ := (Has.new (T := (fun | 40 => .val (.string (strL O)) | 41 => .val (.string (strL (O ++ [92, 117, 48, 48]))) | 42 => .val (.string ⟨#[48, 49, 50, 51, 52, 53, 54, 55, 56, 57, 97, 98, 99, 100, 101, 102]⟩) | 43 => .val (.int .u8 (c.toNat : Int)) | 44 => .val (.int .u8 ((c.toNat / 16 : Nat) : Int)) | 45 => .val (.int .u8 ((digC (c.toNat / 16)).toNat : Int)) | 46 => .val (.string ⟨#[48, 49, 50, 51, 52, 53, 54, 55, 56, 57, 97, 98, 99, 100, 101, 102]⟩) | 47 => .val (.int .u8 (c.toNat : Int)) | 48 => .val (.int .u8 ((c.toNat % 16 : Nat) : Int)) | 49 => .val (.int .u8 ((digC (c.toNat % 16)).toNat : Int)) | 50 => twoB (digC (c.toNat / 16)) (digC (c.toNat % 16)) | 51 => .val (.string (strL [digC (c.toNat / 16), digC (c.toNat % 16)])) | 52 => .val (.string (strL (O ++ [92, 117, 48, 48] ++ [digC (c.toNat / 16), digC (c.toNat % 16)]))) | _ => .any)) 45 (by kernel_rfl) (by rw [hz]; decide)).get cx
      have e2 : a.eval (.tmp 49) = _ := (Has.new (T := (fun | 40 => .val (.string (strL O)) | 41 => .val (.string (strL (O ++ [92, 117, 48, 48]))) | 42 => .val (.string ⟨#[48, 49, 50, 51, 52, 53, 54, 55, 56, 57, 97, 98, 99, 100, 101, 102]⟩) | 43 => .val (.int .u8 (c.toNat : Int)) | 44 => .val (.int .u8 ((c.toNat / 16 : Nat) : Int)) | 45 => .val (.int .u8 ((digC (c.toNat / 16)).toNat : Int)) | 46 => .val (.string ⟨#[48, 49, 50, 51, 52, 53, 54, 55, 56, 57, 97, 98, 99, 100, 101, 102]⟩) | 47 => .val (.int .u8 (c.toNat : Int)) | 48 => .val (.int .u8 ((c.toNat % 16 : Nat) : Int)) | 49 => .val (.int .u8 ((digC (c.toNat % 16)).toNat : Int)) | 50 => twoB (digC (c.toNat / 16)) (digC (c.toNat % 16)) | 51 => .val (.string (strL [digC (c.toNat / 16), digC (c.toNat % 16)])) | 52 => .val (.string (strL (O ++ [92, 117, 48, 48] ++ [digC (c.toNat / 16), digC (c.toNat % 16)]))) | _ => .any)) 49 (by kernel_rfl) (by rw [hz]; decide)).get cx
      refine op_val (.slice (some ⟨y.heap.size, 0, none⟩) 2 2) (y := y.alloc (.cells #[byteV (digC (c.toNat / 16)), byteV (digC (c.toNat % 16))] 5)) ?_ ⟨_, rfl, Gr.alloc _ _, y.heap.size, rfl, holds_new y [byteV (digC (c.toNat / 16)), byteV (digC (c.toNat % 16))] 5⟩
      show (execOp a.eval (Oper.mk _ (.buildSlice 55 2 #[(0, .tmp 45), (1, .tmp 49)]) _ _ _ _)).run Tryd.prog y = _
      unfold execOp
      simp only [List.map_toArray, List.map_cons, List.map_nil, Sem.run_bind, e1, e2, bs55two, Sem.run_pure, Result.andThen_ok]
      rfl)
  case s11 => exact (sa_of 51 rfl rfl fun f a y cx => by
      obtain ⟨B, e1, hB⟩ : (twoB (digC (c.toNat / 16)) (digC (c.toNat % 16))).holds (a.eval (.tmp 50)) y := (Has.new (T := (fun | 40 => .val (.string (strL O)) | 41 => .val (.string (strL (O ++ [92, 117, 48, 48]))) | 42 => .val (.string ⟨#[48, 49, 50, 51, 52, 53, 54, 55, 56, 57, 97, 98, 99, 100, 101, 102]⟩) | 43 => .val (.int .u8 (c.toNat : Int)) | 44 => .val (.int .u8 ((c.toNat / 16 : Nat) : Int)) | 45 => .val (.int .u8 ((digC (c.toNat / 16)).toNat : Int)) | 46 => .val (.string ⟨#[48, 49, 50, 51, 52, 53, 54, 55, 56, 57, 97, 98, 99, 100, 101, 102]⟩) | 47 => .val (.int .u8 (c.toNat : Int)) | 48 => .val (.int .u8 ((c.toNat % 16 : Nat) : Int)) | 49 => .val (.int .u8 ((digC (c.toNat % 16)).toNat : Int)) | 50 => twoB (digC (c.toNat / 16)) (digC (c.toNat % 16)) | 51 => .val (.string (strL [digC (c.toNat / 16), digC (c.toNat % 16)])) | 52 => .val (.string (strL (O ++ [92, 117, 48, 48] ++ [digC (c.toNat / 16), digC (c.toNat % 16)]))) | _ => .any)) 50 (by kernel_rfl) (by rw [hz]; decide)).get cx
      exact op_conv 55 9 (.tmp 50) _ (.string (strL [digC (c.toNat / 16), digC (c.toNat % 16)])) rfl e1 (convert_row (bs := [digC (c.toNat / 16), digC (c.toNat % 16)]) hB) ⟨_, rfl, Gr.refl _, rfl⟩)
  case s12 => exact sa_bin .add 9 (.tmp 41) (.tmp 51) 9 52 (.string (strL (O ++ [92, 117, 48, 48]))) (.string (strL [digC (c.toNat / 16), digC (c.toNat % 16)])) (.string (strL (O ++ [92, 117, 48, 48] ++ [digC (c.toNat / 16), digC (c.toNat % 16)]))) rfl rfl rfl (.new 41 (by kernel_rfl) (by rw [hz]; decide)) (.new 51 (by kernel_rfl) (by rw [hz]; decide)) (guard_add _ _ _ _) (add_str _ _ (by simp only [List.length_append, List.length_cons, List.length_nil]; omega)) rfl
  case e =>
  intro ac wz hA hgr hv
  have o52 : ac.eval (.tmp 52) = .string (strL (O ++ [92, 117, 48, 48] ++ [digC (c.toNat / 16), digC (c.toNat % 16)])) := hv 52 (by kernel_rfl) (by rw [hz]; decide)
  refine wl_of rfl (op_move (.tmp 52) (.inr rfl) (wl_end ?_))
  exact hend _ wz (hA.put 4 _) ((ev_put (by rw [hA.size, hz]; decide)).trans ((if_pos rfl).trans o52)) hgr
set_option maxHeartbeats 4000000 in
set_option maxRecDepth 100000 in
theorem rtext_any {w : World} {s : List UInt8} (hs : s.length ≤ 140737488355328) : Calls Tryd.prog 45 #[.string (strL s)] w fun e w' => e = .returned (.string (strL (textJ s))) ∧ Gr w w' := by
  obtain ⟨n, hn⟩ : ∃ n, s.length = n := ⟨_, rfl⟩
  have hsz : (strL s).size = n := hn
  have hfl := flat_len s
  go_enter Tryd.func45, Tryd.ntmps45
  go_wp2_with fail
  go_loopw [4, 5] (fun v c wr => ∃ i : Nat, c = .int .i64 (i : Int) ∧ i ≤ n ∧ v = .string (strL (34 :: (s.take i).flatMap byteJ)) ∧ Gr w wr) (fun _ c _ => n - (intOf c).toNat)
  case atStart => exact ⟨0, rfl, by omega, rfl, Gr.refl _⟩
  case round =>
    obtain ⟨i, rfl, hi, rfl, hg⟩ := hrel
    have htl := take_len s i
    have hol : (34 :: (s.take i).flatMap byteJ).length ≤ 844424930131969 := by rw [List.length_cons]; omega
    rcases Nat.lt_or_ge i n with hlt | hge
    · have hd : s[i]? = some s[i] := List.getElem?_eq_getElem (by omega)
      have g1 : (i : Int) < (n : Int) := by omega
      have hwr : IntKind.i64.wrap ((i : Int) + 1) = ((i + 1 : Nat) : Int) := by rw [wrap_in (by omega) (by omega)]; omega
      have hix : ∀ w, (Instr.index 9 (.string (strL s)) (.int .i64 (i : Int))).run Tryd.prog w = .ok (.int .u8 ((s[i]).toNat : Int)) w := ix_str (wd := strL s) (by rw [strL_size]; omega)
      have hst : 34 :: (s.take (i + 1)).flatMap byteJ = (34 :: (s.take i).flatMap byteJ) ++ byteJ s[i] := by rw [take_step hd]; rfl
      generalize hO : 34 :: (s.take i).flatMap byteJ = O at *
      generalize s[i] = c at *
      generalize hzz : strL s = z at *
      have hb92 := convert_92 wr c
      have hb1 := convert_one wr c
      have hOs : (strL O).size = O.length := strL_size O
      by_cases h1 : c = 34 ∨ c = 92
      · have e : byteJ c = [92, c] := by unfold byteJ; rw [if_pos h1]
        rw [e] at hst
        have hgX := hg.trans (Gr.alloc wr (.cells #[.int .u8 92, .int .u8 (c.toNat : Int)] 5))
        clear hb1
        rcases h1 with rfl | rfl
        · have hb92 : (convert 55 9 (.slice (some ⟨wr.heap.size, 0, none⟩) 2 2)).run Tryd.prog (wr.alloc (.cells #[.int .u8 92, .int .u8 34] 5)) = .ok (.string (strL [92, 34])) (wr.alloc (.cells #[.int .u8 92, .int .u8 34] 5)) := hb92
          have qn : ((34 : UInt8).toNat : Int) = 34 := rfl
          rw [qn] at hix hgX
          have hy2 : (strL [92, 34]).size = 2 := rfl
          have hst2 : strL (34 :: (s.take (i + 1)).flatMap byteJ) = strL O ++ strL [92, 34] := by rw [hst, strL_app]
          clear hst hO
          generalize strL [92, 34] = y2 at *
          go_wp2
          exact ⟨⟨i + 1, rfl, by omega, by rw [hst2], hgX⟩, by simp; omega⟩
        · have hb92 : (convert 55 9 (.slice (some ⟨wr.heap.size, 0, none⟩) 2 2)).run Tryd.prog (wr.alloc (.cells #[.int .u8 92, .int .u8 92] 5)) = .ok (.string (strL [92, 92])) (wr.alloc (.cells #[.int .u8 92, .int .u8 92] 5)) := hb92
          have qn : ((92 : UInt8).toNat : Int) = 92 := rfl
          rw [qn] at hix hgX
          have hy2 : (strL [92, 92]).size = 2 := rfl
          have hst2 : strL (34 :: (s.take (i + 1)).flatMap byteJ) = strL O ++ strL [92, 92] := by rw [hst, strL_app]
          clear hst hO
          generalize strL [92, 92] = y2 at *
          go_wp2
          exact ⟨⟨i + 1, rfl, by omega, by rw [hst2], hgX⟩, by simp; omega⟩
      · have n34 : ((c.toNat : Int) == 34) = false := u8_neq_of (fun h => h1 (.inl h))
        have n92 : ((c.toNat : Int) == 92) = false := u8_neq_of (fun h => h1 (.inr h))
        by_cases h2 : c.toNat < 32 ∨ 127 ≤ c.toNat
        · have e : byteJ c = [92, 117, 48, 48, digC (c.toNat / 16), digC (c.toNat % 16)] := by unfold byteJ; rw [if_neg h1, if_pos h2]
          have hst3 : strL (34 :: (s.take (i + 1)).flatMap byteJ) = strL (O ++ [92, 117, 48, 48] ++ [digC (c.toNat / 16), digC (c.toNat % 16)]) := by rw [hst, e]; simp
          clear hb92 hb1 hO h1 e hst
          rcases Nat.lt_or_ge c.toNat 32 with h3 | h3
          · have k1 : (c.toNat : Int) < 32 := by omega
            go_upto_region 11 with fail
            refine r45_11 (O := O) (c := c) rfl (by omega) rfl rfl rfl fun ac wz hA h4 hgz => ?_
            rw [← hst3] at h4
            rename_i hK
            refine hK _ _ ?_
            have e : ac = ⟨(ac.eval (.tmp 0) :: ac.eval (.tmp 1) :: ac.eval (.tmp 2) :: ac.eval (.tmp 3) :: ac.eval (.tmp 4) :: ac.eval (.tmp 5) :: ac.eval (.tmp 6) :: ac.eval (.tmp 7) :: ac.eval (.tmp 8) :: ac.eval (.tmp 9) :: ac.eval (.tmp 10) :: ac.eval (.tmp 11) :: ac.eval (.tmp 12) :: ac.eval (.tmp 13) :: ac.eval (.tmp 14) :: ac.eval (.tmp 15) :: ac.eval (.tmp 16) :: ac.eval (.tmp 17) :: ac.eval (.tmp 18) :: ac.eval (.tmp 19) :: ac.eval (.tmp 20) :: ac.eval (.tmp 21) :: ac.eval (.tmp 22) :: ac.eval (.tmp 23) :: ac.eval (.tmp 24) :: ac.eval (.tmp 25) :: ac.eval (.tmp 26) :: ac.eval (.tmp 27) :: ac.eval (.tmp 28) :: ac.eval (.tmp 29) :: ac.eval (.tmp 30) :: ac.eval (.tmp 31) :: ac.eval (.tmp 32) :: ac.eval (.tmp 33) :: ac.eval (.tmp 34) :: ac.eval (.tmp 35) :: ac.eval (.tmp 36) :: ac.eval (.tmp 37) :: ac.eval (.tmp 38) :: ac.eval (.tmp 39) :: ac.eval (.tmp 40) :: ac.eval (.tmp 41) :: ac.eval (.tmp 42) :: ac.eval (.tmp 43) :: ac.eval (.tmp 44) :: ac.eval (.tmp 45) :: ac.eval (.tmp 46) :: ac.eval (.tmp 47) :: ac.eval (.tmp 48) :: ac.eval (.tmp 49) :: ac.eval (.tmp 50) :: ac.eval (.tmp 51) :: ac.eval (.tmp 52) :: ac.eval (.tmp 53) :: ac.eval (.tmp 54) :: ([] : List Value)).toArray, ac.defers⟩ := (act_lit2 (hA.size.trans rfl)).trans rfl
            rw [hA.defers, (hA.old 0 (by decide)).trans rfl, (hA.old 1 (by decide)).trans rfl, (hA.old 2 (by decide)).trans rfl, (hA.old 3 (by decide)).trans rfl, (hA.old 5 (by decide)).trans rfl, (hA.old 6 (by decide)).trans rfl, (hA.old 7 (by decide)).trans rfl, (hA.old 8 (by decide)).trans rfl, (hA.old 9 (by decide)).trans rfl, (hA.old 10 (by decide)).trans rfl, (hA.old 11 (by decide)).trans rfl, (hA.old 12 (by decide)).trans rfl, (hA.old 13 (by decide)).trans rfl, (hA.old 14 (by decide)).trans rfl, (hA.old 15 (by decide)).trans rfl, (hA.old 16 (by decide)).trans rfl, (hA.old 17 (by decide)).trans rfl, (hA.old 18 (by decide)).trans rfl, (hA.old 19 (by decide)).trans rfl, (hA.old 20 (by decide)).trans rfl, (hA.old 21 (by decide)).trans rfl, (hA.old 22 (by decide)).trans rfl, (hA.old 23 (by decide)).trans rfl, (hA.old 24 (by decide)).trans rfl, (hA.old 25 (by decide)).trans rfl, (hA.old 26 (by decide)).trans rfl, (hA.old 27 (by decide)).trans rfl, (hA.old 28 (by decide)).trans rfl, (hA.old 29 (by decide)).trans rfl, (hA.old 30 (by decide)).trans rfl, (hA.old 31 (by decide)).trans rfl, (hA.old 32 (by decide)).trans rfl, (hA.old 33 (by decide)).trans rfl, (hA.old 34 (by decide)).trans rfl, (hA.old 35 (by decide)).trans rfl, (hA.old 36 (by decide)).trans rfl, (hA.old 37 (by decide)).trans rfl, (hA.old 38 (by decide)).trans rfl, (hA.old 39 (by decide)).trans rfl, (hA.old 53 (by decide)).trans rfl, (hA.old 54 (by decide)).trans rfl, h4] at e
            generalize ac.eval (.tmp 40) = x40 at e
            generalize ac.eval (.tmp 41) = x41 at e
            generalize ac.eval (.tmp 42) = x42 at e
            generalize ac.eval (.tmp 43) = x43 at e
            generalize ac.eval (.tmp 44) = x44 at e
            generalize ac.eval (.tmp 45) = x45 at e
            generalize ac.eval (.tmp 46) = x46 at e
            generalize ac.eval (.tmp 47) = x47 at e
            generalize ac.eval (.tmp 48) = x48 at e
            generalize ac.eval (.tmp 49) = x49 at e
            generalize ac.eval (.tmp 50) = x50 at e
            generalize ac.eval (.tmp 51) = x51 at e
            generalize ac.eval (.tmp 52) = x52 at e
            subst e
            go_wp2
            exact ⟨⟨i + 1, by first | rfl | rw [hwr] | simp [hwr], by omega, by first | rfl | (rw [hst3, List.append_assoc]; rfl), hg.trans hgz⟩, by simp; omega⟩
          · have k1 : ¬ (c.toNat : Int) < 32 := by omega
            have k2 : (c.toNat : Int) > 126 := by omega
            go_upto_region 11 with fail
            refine r45_11 (O := O) (c := c) rfl (by omega) rfl rfl rfl fun ac wz hA h4 hgz => ?_
            rw [← hst3] at h4
            rename_i hK
            refine hK _ _ ?_
            have e : ac = ⟨(ac.eval (.tmp 0) :: ac.eval (.tmp 1) :: ac.eval (.tmp 2) :: ac.eval (.tmp 3) :: ac.eval (.tmp 4) :: ac.eval (.tmp 5) :: ac.eval (.tmp 6) :: ac.eval (.tmp 7) :: ac.eval (.tmp 8) :: ac.eval (.tmp 9) :: ac.eval (.tmp 10) :: ac.eval (.tmp 11) :: ac.eval (.tmp 12) :: ac.eval (.tmp 13) :: ac.eval (.tmp 14) :: ac.eval (.tmp 15) :: ac.eval (.tmp 16) :: ac.eval (.tmp 17) :: ac.eval (.tmp 18) :: ac.eval (.tmp 19) :: ac.eval (.tmp 20) :: ac.eval (.tmp 21) :: ac.eval (.tmp 22) :: ac.eval (.tmp 23) :: ac.eval (.tmp 24) :: ac.eval (.tmp 25) :: ac.eval (.tmp 26) :: ac.eval (.tmp 27) :: ac.eval (.tmp 28) :: ac.eval (.tmp 29) :: ac.eval (.tmp 30) :: ac.eval (.tmp 31) :: ac.eval (.tmp 32) :: ac.eval (.tmp 33) :: ac.eval (.tmp 34) :: ac.eval (.tmp 35) :: ac.eval (.tmp 36) :: ac.eval (.tmp 37) :: ac.eval (.tmp 38) :: ac.eval (.tmp 39) :: ac.eval (.tmp 40) :: ac.eval (.tmp 41) :: ac.eval (.tmp 42) :: ac.eval (.tmp 43) :: ac.eval (.tmp 44) :: ac.eval (.tmp 45) :: ac.eval (.tmp 46) :: ac.eval (.tmp 47) :: ac.eval (.tmp 48) :: ac.eval (.tmp 49) :: ac.eval (.tmp 50) :: ac.eval (.tmp 51) :: ac.eval (.tmp 52) :: ac.eval (.tmp 53) :: ac.eval (.tmp 54) :: ([] : List Value)).toArray, ac.defers⟩ := (act_lit2 (hA.size.trans rfl)).trans rfl
            rw [hA.defers, (hA.old 0 (by decide)).trans rfl, (hA.old 1 (by decide)).trans rfl, (hA.old 2 (by decide)).trans rfl, (hA.old 3 (by decide)).trans rfl, (hA.old 5 (by decide)).trans rfl, (hA.old 6 (by decide)).trans rfl, (hA.old 7 (by decide)).trans rfl, (hA.old 8 (by decide)).trans rfl, (hA.old 9 (by decide)).trans rfl, (hA.old 10 (by decide)).trans rfl, (hA.old 11 (by decide)).trans rfl, (hA.old 12 (by decide)).trans rfl, (hA.old 13 (by decide)).trans rfl, (hA.old 14 (by decide)).trans rfl, (hA.old 15 (by decide)).trans rfl, (hA.old 16 (by decide)).trans rfl, (hA.old 17 (by decide)).trans rfl, (hA.old 18 (by decide)).trans rfl, (hA.old 19 (by decide)).trans rfl, (hA.old 20 (by decide)).trans rfl, (hA.old 21 (by decide)).trans rfl, (hA.old 22 (by decide)).trans rfl, (hA.old 23 (by decide)).trans rfl, (hA.old 24 (by decide)).trans rfl, (hA.old 25 (by decide)).trans rfl, (hA.old 26 (by decide)).trans rfl, (hA.old 27 (by decide)).trans rfl, (hA.old 28 (by decide)).trans rfl, (hA.old 29 (by decide)).trans rfl, (hA.old 30 (by decide)).trans rfl, (hA.old 31 (by decide)).trans rfl, (hA.old 32 (by decide)).trans rfl, (hA.old 33 (by decide)).trans rfl, (hA.old 34 (by decide)).trans rfl, (hA.old 35 (by decide)).trans rfl, (hA.old 36 (by decide)).trans rfl, (hA.old 37 (by decide)).trans rfl, (hA.old 38 (by decide)).trans rfl, (hA.old 39 (by decide)).trans rfl, (hA.old 53 (by decide)).trans rfl, (hA.old 54 (by decide)).trans rfl, h4] at e
            generalize ac.eval (.tmp 40) = x40 at e
            generalize ac.eval (.tmp 41) = x41 at e
            generalize ac.eval (.tmp 42) = x42 at e
            generalize ac.eval (.tmp 43) = x43 at e
            generalize ac.eval (.tmp 44) = x44 at e
            generalize ac.eval (.tmp 45) = x45 at e
            generalize ac.eval (.tmp 46) = x46 at e
            generalize ac.eval (.tmp 47) = x47 at e
            generalize ac.eval (.tmp 48) = x48 at e
            generalize ac.eval (.tmp 49) = x49 at e
            generalize ac.eval (.tmp 50) = x50 at e
            generalize ac.eval (.tmp 51) = x51 at e
            generalize ac.eval (.tmp 52) = x52 at e
            subst e
            go_wp2
            exact ⟨⟨i + 1, by first | rfl | rw [hwr] | simp [hwr], by omega, by first | rfl | (rw [hst3, List.append_assoc]; rfl), hg.trans hgz⟩, by simp; omega⟩
        · have e : byteJ c = [c] := by unfold byteJ; rw [if_neg h1, if_neg h2]
          have k1 : ¬ (c.toNat : Int) < 32 := by omega
          have k2 : ¬ (c.toNat : Int) > 126 := by omega
          have hgX := hg.trans (Gr.alloc wr (.cells #[.int .u8 (c.toNat : Int)] 5))
          have hst2 : strL (34 :: (s.take (i + 1)).flatMap byteJ) = strL O ++ strL [c] := by rw [hst, e, strL_app]
          have hy2 : (strL [c]).size = 1 := rfl
          clear hb92 hst hO h1 h2 e
          generalize strL [c] = y2 at *
          go_wp2
          exact ⟨⟨i + 1, rfl, by omega, by rw [hst2], hgX⟩, by simp; omega⟩
    · have hin : i = n := by omega
      subst hin
      have g1 : ¬ (i : Int) < (i : Int) := by omega
      rw [List.take_of_length_le (by omega)] at *
      have hst2 : strL (textJ s) = strL (34 :: s.flatMap byteJ) ++ strL [34] := by rw [strL_app]; rfl
      have hOs : (strL (34 :: s.flatMap byteJ)).size = (34 :: s.flatMap byteJ).length := strL_size _
      have hy2 : (⟨#[34]⟩ : ByteArray).size = 1 := rfl
      have hy3 : (⟨#[34]⟩ : ByteArray) = strL [34] := rfl
      generalize strL (34 :: s.flatMap byteJ) = y1 at *
      rw [← hy3] at hst2
      clear hy3
      go_wp2
      go_ret
      exact ⟨rfl, hg⟩
end Go.Proofs.YtogippkapadolaaDoor

/- The document's show, at right values (by gen_jsrshow.py). -/
namespace Go.Proofs.YtogippkapadolaaDoor
open Go.RowKit

def ShowR (w0 : World) (j : J) (v : Value) : Prop := ∀ (w : World), Gr w0 w → Calls Tryd.prog 27 #[v] w fun e w' => e = .returned (.string (strL (showJ j))) ∧ Gr w w'
set_option maxHeartbeats 4000000 in
set_option maxRecDepth 100000 in
theorem rshow_leaf {w : World} {k : Int} {b : Bool} {n : Int} {s : List UInt8} {la na : Option Addr} {ll lc nl nc : Nat} (hk : (k = 0) ∨ k = 1 ∨ (k = 2 ∧ -9223372036854775808 ≤ n ∧ n ≤ 9223372036854775807) ∨ (k = 3 ∧ s.length ≤ 140737488351232)) (htab : Tab w.heap.size w) (l : List J) (names : List (List UInt8)) :
    Calls Tryd.prog 27 #[.agg #[.int .i64 k, .bool b, .int .i64 n, .string (strL s), .slice la ll lc, .slice na nl nc]] w fun e w' => e = .returned (.string (strL (showJ (.mk k b n s l names)))) ∧ Gr w w' := by
  have hgW : Gr w (w.alloc (.cells #[.int .i64 k, .bool b, .int .i64 n, .string (strL s), .slice la ll lc, .slice na nl nc] 27)) := Gr.alloc _ _
  have htab2 : Tab (w.alloc (.cells #[.int .i64 k, .bool b, .int .i64 n, .string (strL s), .slice la ll lc, .slice na nl nc] 27)).heap.size (w.alloc (.cells #[.int .i64 k, .bool b, .int .i64 n, .string (strL s), .slice la ll lc, .slice na nl nc] 27)) := (htab.of hgW).up hgW.size
  rw [showJ]
  rcases hk with rfl | rfl | ⟨rfl, h1, h2⟩ | ⟨rfl, h1⟩
  · clear htab htab2
    go_enter Tryd.func27, Tryd.ntmps27
    go_wp2
    go_ret
    exact ⟨rfl, hgW⟩
  · clear htab htab2
    cases b with
    | true =>
      go_enter Tryd.func27, Tryd.ntmps27
      go_wp2
      go_ret
      exact ⟨rfl, hgW⟩
    | false =>
      go_enter Tryd.func27, Tryd.ntmps27
      go_wp2
      go_ret
      exact ⟨rfl, hgW⟩
  · have hf := fmt_any h1 h2 htab2
    clear htab htab2
    go_enter Tryd.func27, Tryd.ntmps27
    go_wp2_with (go_at_call 44; refine hf.mono ?_; rintro e w3 ⟨rfl, hg3⟩)
    go_ret
    exact ⟨rfl, hgW.trans hg3⟩
  · have hf := rtext_any (w := w.alloc (.cells #[.int .i64 3, .bool b, .int .i64 n, .string (strL s), .slice la ll lc, .slice na nl nc] 27)) (s := s) (by omega)
    clear htab htab2
    go_enter Tryd.func27, Tryd.ntmps27
    go_wp2_with (go_at_call 45; refine hf.mono ?_; rintro e w3 ⟨rfl, hg3⟩)
    go_ret
    exact ⟨rfl, hgW.trans hg3⟩
set_option maxHeartbeats 4000000 in
set_option maxRecDepth 100000 in
theorem rshow_4 {w0 : World} {S : Nat → Prop} {l : List J} {names : List (List UInt8)} {la na : Option Addr} {lc nc : Nat} {es : List (List Value)} (hes : es.length = l.length) (h6' : ∀ c ∈ es, c.length = 6) (hlies : Lies w0 S la es.flatten) 
    (hl : l.length ≤ 9223372036854775806) (hlen : (partsJ false 0 l []).length ≤ 4611686018427387904) (ih : ∀ (i : Nat) (x : J) (c : List Value), l[i]? = some x → es[i]? = some c → ShowR w0 x (.agg c.toArray)) (w : World) (hw : Gr w0 w) :
    Calls Tryd.prog 27 #[.agg #[.int .i64 4, .bool false, .int .i64 0, .string (strL []), .slice la l.length lc, .slice na names.length nc]] w fun e w' => e = .returned (.string (strL (91 :: partsJ false 0 l [] ++ [93]))) ∧ Gr w w' := by
  obtain ⟨L, hL⟩ : ∃ L, l.length = L := ⟨_, rfl⟩
  obtain ⟨NN, hNN⟩ : ∃ q, names.length = q := ⟨_, rfl⟩
  obtain ⟨P, hP⟩ : ∃ P, partsJ false 0 l [] = P := ⟨_, rfl⟩
  rw [hL, hNN, hP]
  rw [hP] at hlen
  have h0 : ∀ y, Gr (w.alloc (.cells #[.int .i64 4, .bool false, .int .i64 0, .string (strL []), .slice la L lc, .slice na NN nc] 27)) y → _ := cell_new27 w #[.int .i64 4, .bool false, .int .i64 0, .string (strL []), .slice la L lc, .slice na NN nc] 0 _ rfl
  have h4 : ∀ y, Gr (w.alloc (.cells #[.int .i64 4, .bool false, .int .i64 0, .string (strL []), .slice la L lc, .slice na NN nc] 27)) y → _ := cell_new27 w #[.int .i64 4, .bool false, .int .i64 0, .string (strL []), .slice la L lc, .slice na NN nc] 4 _ rfl
  have h5 : ∀ y, Gr (w.alloc (.cells #[.int .i64 4, .bool false, .int .i64 0, .string (strL []), .slice la L lc, .slice na NN nc] 27)) y → _ := cell_new27 w #[.int .i64 4, .bool false, .int .i64 0, .string (strL []), .slice la L lc, .slice na NN nc] 5 _ rfl
  have hgW : Gr w (w.alloc (.cells #[.int .i64 4, .bool false, .int .i64 0, .string (strL []), .slice la L lc, .slice na NN nc] 27)) := Gr.alloc _ _
  go_enter Tryd.func27, Tryd.ntmps27
  go_wp2_with fail
  go_loopw [3, 4] (fun v c wr => ∃ (i : Nat) (O : List UInt8), c = .int .i64 (i : Int) ∧ i ≤ L ∧ O ++ partsJ false i (l.drop i) [] = P ∧ v = .string (strL O) ∧ Gr (w.alloc (.cells #[.int .i64 4, .bool false, .int .i64 0, .string (strL []), .slice la L lc, .slice na NN nc] 27)) wr) (fun _ c _ => L - (intOf c).toNat)
  case atStart => exact ⟨0, [], rfl, by omega, by rw [List.drop_zero]; exact hP, rfl, Gr.refl _⟩
  case round =>
    obtain ⟨i, O, rfl, hi, hE, rfl, hg⟩ := hrel
    have c0 := h0 wr hg
    have c4 := h4 wr hg
    have c5 := h5 wr hg
    have hgw := hgW.trans hg
    rcases Nat.lt_or_ge i L with hlt | hge
    · have hx : l[i]? = some l[i] := List.getElem?_eq_getElem (by omega)
      have hce : es[i]? = some (es[i]'(by omega)) := List.getElem?_eq_getElem (by omega)
      have h6 := h6' _ (List.mem_of_getElem? hce)
      have ihx : ∀ (y : World), Gr w0 y → Calls Tryd.prog 27 #[.agg (es[i]'(by omega)).toArray] y fun e w' => e = .returned (.string (strL (showJ (l[i]'(by omega))))) ∧ Gr y w' := ih i _ _ hx hce
      obtain ⟨g, off, rfl, hgS, hrng⟩ := hlies.elemG (hw.trans hgw) h6' hce
      have hgl : g < wr.heap.size := Nat.lt_of_lt_of_le hgS (hw.trans hgw).size
      have hixa : ∀ w, (Instr.indexAt 24 (.slice (some ⟨g, off, none⟩) L lc) (.int .i64 (i : Int))).run Tryd.prog w = .ok (.pointer (some ⟨g, off + i * 6, none⟩)) w := ix_slice und24 size27 hlt rfl
      have g1 : (i : Int) < (L : Int) := by omega
      have hw1 : IntKind.i64.wrap ((i : Int) + 1) = ((i + 1 : Nat) : Int) := by rw [wrap_in (by omega) (by omega)]; omega
      generalize hxl : l[i] = x at *
      generalize es[i]'(by omega) = c at *
      rcases Nat.eq_zero_or_pos i with hi0 | hi0
      · have gi0 : ¬ (i : Int) > 0 := by omega
        have hpc : O ++ (showJ x) ++ partsJ false (i + 1) (l.drop (i + 1)) [] = P := by
          rw [← hE, List.drop_eq_getElem_cons (show i < l.length by omega), partsJ]
          rw [if_neg (show ¬ 0 < i by omega)]
          rw [if_neg (by decide)]
          rw [hxl]
          simp only [List.append_assoc, List.nil_append]
        have hlc := congrArg List.length hpc
        simp only [List.length_append] at hlc
        have hfin : strL (O ++ (showJ x)) = strL O ++ strL (showJ x) := by simp only [strL_app]
        have s0 : (strL O).size = O.length := strL_size _
        have s1 : (strL (showJ x)).size = (showJ x).length := strL_size _
        have c44 : (⟨#[44]⟩ : ByteArray) = strL [44] := rfl
        have c58 : (⟨#[58]⟩ : ByteArray) = strL [58] := rfl
        have z44 : (strL [44]).size = 1 := rfl
        have z58 : (strL [58]).size = 1 := rfl
        rw [← c44] at z44 
        rw [← c58] at z58 
        clear c44 c58 hE hxl 
        generalize strL (showJ x) = y1 at *
        generalize hO2 : strL O = yO at *
        clear hi0 hO2
        go_wp2_with (first
          | (refine wpList_load_part rfl 27 (.tmp 50) rfl g (off + i * 6) rfl c _ hrng Tryd.underlying27 rfl (by rw [h6]; kernel_rfl) ?_)
          | (go_at_call 27; refine (ihx wr ((hw.trans hgW).trans hg)).mono ?_; rintro e w4 ⟨rfl, hg4'⟩; have hg4 := hg.trans hg4'))
        exact ⟨⟨i + 1, O ++ (showJ x), rfl, by omega, hpc, by rw [hfin], hg4⟩, by simp; omega⟩
      · have gi0 : (i : Int) > 0 := by omega
        have hpc : O ++ [44] ++ (showJ x) ++ partsJ false (i + 1) (l.drop (i + 1)) [] = P := by
          rw [← hE, List.drop_eq_getElem_cons (show i < l.length by omega), partsJ]
          rw [if_pos (show 0 < i by omega)]
          rw [if_neg (by decide)]
          rw [hxl]
          simp only [List.append_assoc, List.nil_append]
        have hlc := congrArg List.length hpc
        simp only [List.length_append, List.length_cons, List.length_nil] at hlc
        have hfin : strL (O ++ [44] ++ (showJ x)) = (strL O ++ strL [44]) ++ strL (showJ x) := by simp only [strL_app]
        have s0 : (strL O).size = O.length := strL_size _
        have s1 : (strL (showJ x)).size = (showJ x).length := strL_size _
        have c44 : (⟨#[44]⟩ : ByteArray) = strL [44] := rfl
        have c58 : (⟨#[58]⟩ : ByteArray) = strL [58] := rfl
        have z44 : (strL [44]).size = 1 := rfl
        have z58 : (strL [58]).size = 1 := rfl
        rw [← c44] at z44 hfin
        rw [← c58] at z58 
        clear c44 c58 hE hxl 
        generalize strL (showJ x) = y1 at *
        generalize hO2 : strL O = yO at *
        have t0 : (yO ++ (⟨#[44]⟩ : ByteArray)).size = O.length + 1 := by rw [ByteArray.size_append, s0, z44]
        clear hi0 hO2
        go_wp2_with (first
          | (refine wpList_load_part rfl 27 (.tmp 50) rfl g (off + i * 6) rfl c _ hrng Tryd.underlying27 rfl (by rw [h6]; kernel_rfl) ?_)
          | (go_at_call 27; refine (ihx wr ((hw.trans hgW).trans hg)).mono ?_; rintro e w4 ⟨rfl, hg4'⟩; have hg4 := hg.trans hg4'))
        exact ⟨⟨i + 1, O ++ [44] ++ (showJ x), rfl, by omega, hpc, by rw [hfin], hg4⟩, by simp; omega⟩
    · have g1 : ¬ (i : Int) < (L : Int) := by omega
      rw [List.drop_of_length_le (by omega), partsJ, List.append_nil] at hE
      subst hE
      have hfin : strL (91 :: O ++ [93]) = strL [91] ++ strL O ++ strL [93] := by rw [strL_app, strL_app]; rfl
      have co : (⟨#[91]⟩ : ByteArray) = strL [91] := rfl
      have cc : (⟨#[93]⟩ : ByteArray) = strL [93] := rfl
      have zo : (strL [91]).size = 1 := rfl
      have zc : (strL [93]).size = 1 := rfl
      have s0 : (strL O).size = O.length := strL_size _
      rw [← co, ← cc] at hfin
      rw [← co] at zo
      rw [← cc] at zc
      clear co cc hP
      generalize hO2 : strL O = yO at *
      go_wp2
      go_ret
      exact ⟨(congrArg (fun z => Ending.returned (Value.string z)) hfin).symm, hgw⟩
set_option maxHeartbeats 4000000 in
set_option maxRecDepth 100000 in
theorem rshow_5 {w0 : World} {S : Nat → Prop} {l : List J} {names : List (List UInt8)} {la na : Option Addr} {lc nc : Nat} {es : List (List Value)} (hes : es.length = l.length) (h6' : ∀ c ∈ es, c.length = 6) (hlies : Lies w0 S la es.flatten) (hnames : Lies w0 S na (names.map strV1)) (hnn : names.length = l.length) (hnl : ∀ x ∈ names, x.length ≤ 140737488351232)
    (hl : l.length ≤ 9223372036854775806) (hlen : (partsJ true 0 l names).length ≤ 4611686018427387904) (ih : ∀ (i : Nat) (x : J) (c : List Value), l[i]? = some x → es[i]? = some c → ShowR w0 x (.agg c.toArray)) (w : World) (hw : Gr w0 w) :
    Calls Tryd.prog 27 #[.agg #[.int .i64 5, .bool false, .int .i64 0, .string (strL []), .slice la l.length lc, .slice na names.length nc]] w fun e w' => e = .returned (.string (strL (123 :: partsJ true 0 l names ++ [125]))) ∧ Gr w w' := by
  obtain ⟨L, hL⟩ : ∃ L, l.length = L := ⟨_, rfl⟩
  obtain ⟨NN, hNN⟩ : ∃ q, names.length = q := ⟨_, rfl⟩
  obtain ⟨P, hP⟩ : ∃ P, partsJ true 0 l names = P := ⟨_, rfl⟩
  rw [hL, hNN, hP]
  rw [hP] at hlen
  have h0 : ∀ y, Gr (w.alloc (.cells #[.int .i64 5, .bool false, .int .i64 0, .string (strL []), .slice la L lc, .slice na NN nc] 27)) y → _ := cell_new27 w #[.int .i64 5, .bool false, .int .i64 0, .string (strL []), .slice la L lc, .slice na NN nc] 0 _ rfl
  have h4 : ∀ y, Gr (w.alloc (.cells #[.int .i64 5, .bool false, .int .i64 0, .string (strL []), .slice la L lc, .slice na NN nc] 27)) y → _ := cell_new27 w #[.int .i64 5, .bool false, .int .i64 0, .string (strL []), .slice la L lc, .slice na NN nc] 4 _ rfl
  have h5 : ∀ y, Gr (w.alloc (.cells #[.int .i64 5, .bool false, .int .i64 0, .string (strL []), .slice la L lc, .slice na NN nc] 27)) y → _ := cell_new27 w #[.int .i64 5, .bool false, .int .i64 0, .string (strL []), .slice la L lc, .slice na NN nc] 5 _ rfl
  have hgW : Gr w (w.alloc (.cells #[.int .i64 5, .bool false, .int .i64 0, .string (strL []), .slice la L lc, .slice na NN nc] 27)) := Gr.alloc _ _
  go_enter Tryd.func27, Tryd.ntmps27
  go_wp2_with fail
  go_loopw [3, 4] (fun v c wr => ∃ (i : Nat) (O : List UInt8), c = .int .i64 (i : Int) ∧ i ≤ L ∧ O ++ partsJ true i (l.drop i) names = P ∧ v = .string (strL O) ∧ Gr (w.alloc (.cells #[.int .i64 5, .bool false, .int .i64 0, .string (strL []), .slice la L lc, .slice na NN nc] 27)) wr) (fun _ c _ => L - (intOf c).toNat)
  case atStart => exact ⟨0, [], rfl, by omega, by rw [List.drop_zero]; exact hP, rfl, Gr.refl _⟩
  case round =>
    obtain ⟨i, O, rfl, hi, hE, rfl, hg⟩ := hrel
    have c0 := h0 wr hg
    have c4 := h4 wr hg
    have c5 := h5 wr hg
    have hgw := hgW.trans hg
    rcases Nat.lt_or_ge i L with hlt | hge
    · have hx : l[i]? = some l[i] := List.getElem?_eq_getElem (by omega)
      have hce : es[i]? = some (es[i]'(by omega)) := List.getElem?_eq_getElem (by omega)
      have h6 := h6' _ (List.mem_of_getElem? hce)
      have ihx : ∀ (y : World), Gr w0 y → Calls Tryd.prog 27 #[.agg (es[i]'(by omega)).toArray] y fun e w' => e = .returned (.string (strL (showJ (l[i]'(by omega))))) ∧ Gr y w' := ih i _ _ hx hce
      obtain ⟨g, off, rfl, hgS, hrng⟩ := hlies.elemG (hw.trans hgw) h6' hce
      have hgl : g < wr.heap.size := Nat.lt_of_lt_of_le hgS (hw.trans hgw).size
      have hixa : ∀ w, (Instr.indexAt 24 (.slice (some ⟨g, off, none⟩) L lc) (.int .i64 (i : Int))).run Tryd.prog w = .ok (.pointer (some ⟨g, off + i * 6, none⟩)) w := ix_slice und24 size27 hlt rfl
      have g1 : (i : Int) < (L : Int) := by omega
      have hw1 : IntKind.i64.wrap ((i : Int) + 1) = ((i + 1 : Nat) : Int) := by rw [wrap_in (by omega) (by omega)]; omega
      obtain ⟨g2, o2, rfl, _, e2⟩ := lies_str hnames (hw.trans hgw) (i := i) (by omega)
      have ix2 : ∀ w, (Instr.indexAt 25 (.slice (some ⟨g2, o2, none⟩) NN nc) (.int .i64 (i : Int))).run Tryd.prog w = .ok (.pointer (some ⟨g2, o2 + i, none⟩)) w := ix_slice und25 size25 (by omega) (by omega)
      have htx : ∀ y, Gr w y → Calls Tryd.prog 45 #[.string (strL (names[i]'(by omega)))] y fun e w' => e = .returned (.string (strL (textJ (names[i]'(by omega))))) ∧ Gr y w' := fun y _ => rtext_any (by have := hnl _ (List.getElem_mem (show i < names.length by omega)); omega)
      generalize hm1 : names[i]'(by omega) = m1 at *
      generalize hxl : l[i] = x at *
      generalize es[i]'(by omega) = c at *
      rcases Nat.eq_zero_or_pos i with hi0 | hi0
      · have gi0 : ¬ (i : Int) > 0 := by omega
        have hpc : O ++ (textJ m1) ++ [58] ++ (showJ x) ++ partsJ true (i + 1) (l.drop (i + 1)) names = P := by
          rw [← hE, List.drop_eq_getElem_cons (show i < l.length by omega), partsJ]
          rw [if_neg (show ¬ 0 < i by omega)]
          rw [if_pos rfl, names_get (h := by omega) hm1]
          rw [hxl]
          simp only [List.append_assoc, List.nil_append]
        have hlc := congrArg List.length hpc
        simp only [List.length_append, List.length_cons, List.length_nil] at hlc
        have hfin : strL (O ++ (textJ m1) ++ [58] ++ (showJ x)) = ((strL O ++ strL (textJ m1)) ++ strL [58]) ++ strL (showJ x) := by simp only [strL_app]
        have s0 : (strL O).size = O.length := strL_size _
        have s1 : (strL (showJ x)).size = (showJ x).length := strL_size _
        have c44 : (⟨#[44]⟩ : ByteArray) = strL [44] := rfl
        have c58 : (⟨#[58]⟩ : ByteArray) = strL [58] := rfl
        have z44 : (strL [44]).size = 1 := rfl
        have z58 : (strL [58]).size = 1 := rfl
        rw [← c44] at z44 
        rw [← c58] at z58 hfin
        have s2 : (strL (textJ m1)).size = (textJ m1).length := strL_size _
        clear c44 c58 hE hxl hm1
        generalize strL (showJ x) = y1 at *
        generalize strL (textJ m1) = y2 at *
        generalize hO2 : strL O = yO at *
        have t0 : (yO ++ y2).size = O.length + (textJ m1).length := by rw [ByteArray.size_append, s0, s2]
        have t1 : ((yO ++ y2) ++ (⟨#[58]⟩ : ByteArray)).size = O.length + (textJ m1).length + 1 := by rw [ByteArray.size_append, t0, z58]
        clear hi0 hO2
        go_wp2_with (first
          | (go_at_call 45; refine (htx wr hgw).mono ?_; rintro e w3 ⟨rfl, hg3'⟩; have hg3 := hg.trans hg3'; have c4 := h4 w3 hg3; have c0 := h0 w3 hg3; have hrg := range_gr hrng hg3' hgl)
          | (refine wpList_load_part rfl 27 (.tmp 50) rfl g (off + i * 6) rfl c _ hrg Tryd.underlying27 rfl (by rw [h6]; kernel_rfl) ?_)
          | (go_at_call 27; refine (ihx w3 ((hw.trans hgW).trans hg3)).mono ?_; rintro e w4 ⟨rfl, hg4'⟩; have hg4 := hg3.trans hg4'))
        exact ⟨⟨i + 1, O ++ (textJ m1) ++ [58] ++ (showJ x), rfl, by omega, hpc, by rw [hfin], hg4⟩, by simp; omega⟩
      · have gi0 : (i : Int) > 0 := by omega
        have hpc : O ++ [44] ++ (textJ m1) ++ [58] ++ (showJ x) ++ partsJ true (i + 1) (l.drop (i + 1)) names = P := by
          rw [← hE, List.drop_eq_getElem_cons (show i < l.length by omega), partsJ]
          rw [if_pos (show 0 < i by omega)]
          rw [if_pos rfl, names_get (h := by omega) hm1]
          rw [hxl]
          simp only [List.append_assoc]
        have hlc := congrArg List.length hpc
        simp only [List.length_append, List.length_cons, List.length_nil] at hlc
        have hfin : strL (O ++ [44] ++ (textJ m1) ++ [58] ++ (showJ x)) = (((strL O ++ strL [44]) ++ strL (textJ m1)) ++ strL [58]) ++ strL (showJ x) := by simp only [strL_app]
        have s0 : (strL O).size = O.length := strL_size _
        have s1 : (strL (showJ x)).size = (showJ x).length := strL_size _
        have c44 : (⟨#[44]⟩ : ByteArray) = strL [44] := rfl
        have c58 : (⟨#[58]⟩ : ByteArray) = strL [58] := rfl
        have z44 : (strL [44]).size = 1 := rfl
        have z58 : (strL [58]).size = 1 := rfl
        rw [← c44] at z44 hfin
        rw [← c58] at z58 hfin
        have s2 : (strL (textJ m1)).size = (textJ m1).length := strL_size _
        clear c44 c58 hE hxl hm1
        generalize strL (showJ x) = y1 at *
        generalize strL (textJ m1) = y2 at *
        generalize hO2 : strL O = yO at *
        have t0 : (yO ++ (⟨#[44]⟩ : ByteArray)).size = O.length + 1 := by rw [ByteArray.size_append, s0, z44]
        have t1 : ((yO ++ (⟨#[44]⟩ : ByteArray)) ++ y2).size = O.length + 1 + (textJ m1).length := by rw [ByteArray.size_append, t0, s2]
        have t2 : (((yO ++ (⟨#[44]⟩ : ByteArray)) ++ y2) ++ (⟨#[58]⟩ : ByteArray)).size = O.length + 1 + (textJ m1).length + 1 := by rw [ByteArray.size_append, t1, z58]
        clear hi0 hO2
        go_wp2_with (first
          | (go_at_call 45; refine (htx wr hgw).mono ?_; rintro e w3 ⟨rfl, hg3'⟩; have hg3 := hg.trans hg3'; have c4 := h4 w3 hg3; have c0 := h0 w3 hg3; have hrg := range_gr hrng hg3' hgl)
          | (refine wpList_load_part rfl 27 (.tmp 50) rfl g (off + i * 6) rfl c _ hrg Tryd.underlying27 rfl (by rw [h6]; kernel_rfl) ?_)
          | (go_at_call 27; refine (ihx w3 ((hw.trans hgW).trans hg3)).mono ?_; rintro e w4 ⟨rfl, hg4'⟩; have hg4 := hg3.trans hg4'))
        exact ⟨⟨i + 1, O ++ [44] ++ (textJ m1) ++ [58] ++ (showJ x), rfl, by omega, hpc, by rw [hfin], hg4⟩, by simp; omega⟩
    · have g1 : ¬ (i : Int) < (L : Int) := by omega
      rw [List.drop_of_length_le (by omega), partsJ, List.append_nil] at hE
      subst hE
      have hfin : strL (123 :: O ++ [125]) = strL [123] ++ strL O ++ strL [125] := by rw [strL_app, strL_app]; rfl
      have co : (⟨#[123]⟩ : ByteArray) = strL [123] := rfl
      have cc : (⟨#[125]⟩ : ByteArray) = strL [125] := rfl
      have zo : (strL [123]).size = 1 := rfl
      have zc : (strL [125]).size = 1 := rfl
      have s0 : (strL O).size = O.length := strL_size _
      rw [← co, ← cc] at hfin
      rw [← co] at zo
      rw [← cc] at zc
      clear co cc hP
      generalize hO2 : strL O = yO at *
      go_wp2
      go_ret
      exact ⟨(congrArg (fun z => Ending.returned (Value.string z)) hfin).symm, hgw⟩
theorem parts_mem {o : Bool} : ∀ (l : List J) (i : Nat) (names : List (List UInt8)) {x : J}, x ∈ l → (showJ x).length ≤ (partsJ o i l names).length
  | y :: r, i, names, x, h => by
    rw [partsJ]
    simp only [List.length_append]
    rcases List.mem_cons.1 h with rfl | h
    · omega
    · have := parts_mem (o := o) r (i + 1) names h
      omega
theorem rshow_ok {w0 : World} {S : Nat → Prop} (htab : Tab w0.heap.size w0) : ∀ {j : J} {v : Value}, JAt w0 S j v → ∀ {within : Nat}, rightP within j = true → OpenJ j → (showJ j).length ≤ 4611686018427387904 → ShowR w0 j v := by
  intro j v hJ
  induction hJ with
  | mk k b n s l names la na lc nc es hes h6 hl hlies hnames ih =>
    intro within hR hO hlen w hw
    obtain ⟨hn, hs, hl88, hnl, hns, hx⟩ := hO
    have ht : Tab w.heap.size w := (htab.of hw).up hw.size
    rcases right_kinds hR with e | ⟨b', e⟩ | ⟨n', e⟩ | ⟨s', e⟩ | ⟨l', e, _, hr⟩ | ⟨l', names', e, _, hN, hnn, hr⟩
    · unfold jnull at e
      cases e
      exact rshow_leaf (.inl rfl) ht [] []
    · cases e
      exact rshow_leaf (.inr (.inl rfl)) ht [] []
    · cases e
      exact rshow_leaf (.inr (.inr (.inl ⟨rfl, hn⟩))) ht [] []
    · cases e
      exact rshow_leaf (.inr (.inr (.inr ⟨rfl, hs⟩))) ht [] []
    · cases e
      have e2 : showJ (.mk 4 false 0 [] l []) = 91 :: partsJ false 0 l [] ++ [93] := by rw [showJ]; rfl
      rw [e2] at hlen ⊢
      have hp : (partsJ false 0 l []).length ≤ 4611686018427387904 := by simp only [List.length_append, List.length_cons, List.length_nil] at hlen; omega
      exact rshow_4 (names := []) hes h6 hlies (by omega) hp (fun i x c h1 h2 => ih i x c h1 h2 (rights_mem hr x (List.mem_of_getElem? h1)) (hx x (List.mem_of_getElem? h1)) (Nat.le_trans (parts_mem l 0 [] (List.mem_of_getElem? h1)) hp)) w hw
    · cases e
      have e2 : showJ (.mk 5 false 0 [] l names) = 123 :: partsJ true 0 l names ++ [125] := by rw [showJ]; rfl
      rw [e2] at hlen ⊢
      have hp : (partsJ true 0 l names).length ≤ 4611686018427387904 := by simp only [List.length_append, List.length_cons, List.length_nil] at hlen; omega
      exact rshow_5 hes h6 hlies hnames hnn hns (by omega) hp (fun i x c h1 h2 => ih i x c h1 h2 (rights_mem hr x (List.mem_of_getElem? h1)) (hx x (List.mem_of_getElem? h1)) (Nat.le_trans (parts_mem l 0 names (List.mem_of_getElem? h1)) hp)) w hw
end Go.Proofs.YtogippkapadolaaDoor
