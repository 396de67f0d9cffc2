/- JsAll, JsWhole, EngX, JsParse. -/
import Derived.Defers
import Derived.Recover
import Derived.Laws.Pointers
import Derived.Test.YtogippkapadolaaDoorYJ14
import Derived.Test.YtogippkapadolaaDoorYJ11
import Derived.Test.YtogippkapadolaaDoorYJ4
/- value of the parser at every depth. -/
namespace Go.Proofs.YtogippkapadolaaDoor
open Go.RowKit

theorem bind_ok {α β : Type} {r : Res α} {f : α → Nat → Res β} {y : β} {q : Nat} (h : r.bind f = .ok y q) : ∃ v p, r = .ok v p ∧ f v p = .ok y q := by
  cases r with
  | ok v p => exact ⟨v, p, rfl, h⟩
  | bad a b => cases h
theorem word_le {L W : List UInt8} {m q : Nat} {j j0 : J} (hW : ∀ d ∈ W, d ≠ 0) (h0 : 0 < W.length) (hm : m ≤ L.length) (h : ((passP L W m).bind fun _ q => .ok j0 q) = .ok j q) : m < q ∧ q ≤ L.length := by
  obtain ⟨_, p, h1, h2⟩ := bind_ok h
  cases h2
  have h3 := passP_le hW h1
  have := h3.2 hm
  have := h3.1
  omega
theorem val2_le {L : List UInt8} {inner : Option (Nat → Res J)} (hi : ∀ f, inner = some f → ∀ p j q, p ≤ L.length → f p = .ok j q → p < q ∧ q ≤ L.length) {m q : Nat} {j : J} (hm : m ≤ L.length) (h : val2 L inner m = .ok j q) : m < q ∧ q ≤ L.length := by
  unfold val2 at h
  split at h
  · exact word_le (by decide) (by decide) hm h
  split at h
  · exact word_le (by decide) (by decide) hm h
  split at h
  · exact word_le (by decide) (by decide) hm h
  split at h
  · obtain ⟨l, p, h1, h2⟩ := bind_ok h
    cases h2
    have := quoP_le hm h1
    omega
  split at h
  · rename_i hc
    have hl : m < L.length := here_lt (by rw [hc]; decide)
    cases inner with
    | none => cases h
    | some f =>
      obtain ⟨l, p, h1, h2⟩ := bind_ok (show ((eachP L 93 (stepL f) [] m).bind fun l q => .ok (.mk 4 false 0 [] l []) q) = .ok j q from h)
      cases h2
      exact eachP_le (stepL_goes (hi f rfl)) (by decide) hl h1
  split at h
  · rename_i hc
    have hl : m < L.length := here_lt (by rw [hc]; decide)
    cases inner with
    | none => cases h
    | some f =>
      obtain ⟨l, p, h1, h2⟩ := bind_ok (show ((eachP L 125 (stepO L f) ([], []) m).bind fun x q => .ok (.mk 5 false 0 [] x.2 x.1) q) = .ok j q from h)
      cases h2
      exact eachP_le (fun x q y q' hq h => ⟨(stepO_inv (hi f rfl) hq h).1, (stepO_inv (hi f rfl) hq h).2.1⟩) (by decide) hl h1
  · obtain ⟨n, p, h1, h2⟩ := bind_ok h
    cases h2
    exact numP_le h1
theorem valP_le {L : List UInt8} : ∀ (d p : Nat) (j : J) (q : Nat), p ≤ L.length → valP L d p = .ok j q → p < q ∧ q ≤ L.length
  | 0, p, j, q, hp, h => by
    have := val2_le (fun f hf => by cases hf) (next_le hp) h
    have := next_ge hp
    omega
  | d + 1, p, j, q, hp, h => by
    have := val2_le (fun f hf => by cases hf; exact valP_le d) (next_le hp) h
    have := next_ge hp
    omega
set_option maxRecDepth 100000 in
theorem each_deep {b p : Nat} {s cl : ByteArray} {fv : Value} {w : World} (h : PAt w b s p 16) : Calls Tryd.prog 69 #[.pointer (some ⟨b, 0, none⟩), .string cl, fv] w fun e w' => e = .panicked (faultV p 61) ∧ w' = w := by
  have c1 : w.cell? ⟨b, 1, none⟩ = some (.int .i64 (p : Int)) := h.at 1 _ rfl
  have c2 : w.cell? ⟨b, 2, none⟩ = some (.int .i64 16) := h.at 2 _ rfl
  clear h
  have hg := giveUp_any p 61 w
  go_enter Tryd.func69, Tryd.ntmps69
  go_wp2_with (go_at_call 61; refine hg.mono ?_; rintro e w' ⟨rfl, rfl⟩)
  exact ⟨rfl, rfl, rfl⟩
set_option maxRecDepth 100000 in
theorem list_deep {b p : Nat} {s : ByteArray} {w : World} (h : PAt w b s p 16) : Calls Tryd.prog 57 #[.pointer (some ⟨b, 0, none⟩)] w (Done b s 16 w (listP s.data.toList none p) (jsV w)) := by
  have hmf : ∀ (fn : Fn) (first cap : Array Value) (w : World), (Instr.makeFunc fn first cap).run Tryd.prog w = .ok (.func fn first cap) w := fun _ _ _ _ => rfl
  have hU : ∀ o1 o2 o3, Upd b w (((w.alloc o1).alloc o2).alloc o3) := fun o1 o2 o3 => (((Upd.refl b w).alloc o1).alloc o2).alloc o3
  have hd : ∀ o1 o2 o3 fv, Calls Tryd.prog 69 #[.pointer (some ⟨b, 0, none⟩), .string ⟨#[93]⟩, fv] (((w.alloc o1).alloc o2).alloc o3) fun e w' => e = .panicked (faultV p 61) ∧ w' = (((w.alloc o1).alloc o2).alloc o3) := fun o1 o2 o3 fv => each_deep (((h.alloc o1).alloc o2).alloc o3)
  clear h
  go_enter Tryd.func57, Tryd.ntmps57
  go_wp2_with (go_at_call 69; refine (hd _ _ _ _).mono ?_; rintro e w' ⟨rfl, rfl⟩)
  exact ⟨rfl, hU _ _ _, rfl⟩
set_option maxRecDepth 100000 in
theorem object_deep {b p : Nat} {s : ByteArray} {w : World} (h : PAt w b s p 16) : Calls Tryd.prog 58 #[.pointer (some ⟨b, 0, none⟩)] w (Done b s 16 w (objP s.data.toList none p) (jsV w)) := by
  have hmf : ∀ (fn : Fn) (first cap : Array Value) (w : World), (Instr.makeFunc fn first cap).run Tryd.prog w = .ok (.func fn first cap) w := fun _ _ _ _ => rfl
  have hmm : ∀ w : World, (Instr.makeMap 53 none).run Tryd.prog w = .ok (.map (some w.heap.size)) (w.alloc (.map #[] 0)) := by intro w; kernel_rfl
  have hU : ∀ o1 o2 o3 o4 o5, Upd b w (((((w.alloc o1).alloc o2).alloc o3).alloc o4).alloc o5) := fun o1 o2 o3 o4 o5 => (((((Upd.refl b w).alloc o1).alloc o2).alloc o3).alloc o4).alloc o5
  have hd : ∀ o1 o2 o3 o4 o5 fv, Calls Tryd.prog 69 #[.pointer (some ⟨b, 0, none⟩), .string ⟨#[125]⟩, fv] (((((w.alloc o1).alloc o2).alloc o3).alloc o4).alloc o5) fun e w' => e = .panicked (faultV p 61) ∧ w' = (((((w.alloc o1).alloc o2).alloc o3).alloc o4).alloc o5) := fun o1 o2 o3 o4 o5 fv => each_deep (((((h.alloc o1).alloc o2).alloc o3).alloc o4).alloc o5)
  clear h
  go_enter Tryd.func58, Tryd.ntmps58
  go_wp2_with (go_at_call 69; refine (hd _ _ _ _ _ _).mono ?_; rintro e w' ⟨rfl, rfl⟩)
  exact ⟨rfl, hU _ _ _ _ _, rfl⟩
theorem val_ok {b : Nat} {s : ByteArray} (hs : s.size ≤ 1099511627775) (hb : 2 < b) : ∀ d, d ≤ 16 → ValOk b s (16 - d) (valP s.data.toList d)
  | 0, _ => fun p y hp h hG => value_step (inner := none) hp hs h hG hb (fun m z _ hP _ => list_deep hP) (fun m z _ hP _ => object_deep hP)
  | d + 1, hd => fun p y hp h hG => by
    have ih := val_ok hs hb d (by omega)
    have e : 16 - d = 16 - (d + 1) + 1 := by omega
    rw [e] at ih
    exact value_step (inner := some (valP s.data.toList d)) hp hs h hG hb (fun m z hm hP hGz => list_any (by omega) hm hs hP hGz hb ih (valP_le d)) (fun m z hm hP hGz => object_any (by omega) hm hs hP hGz hb ih (valP_le d))
end Go.Proofs.YtogippkapadolaaDoor

/- whole, with its deferred closure; Parse. -/
namespace Go.Proofs.YtogippkapadolaaDoor
open Go.RowKit

theorem ta_yes (p e : Int) (w : World) : (Instr.typeAssert (.iface 49 (.agg #[.int .i64 p, .int .i64 e])) 20 49 true).run Tryd.prog w = .ok (.tuple #[.agg #[.int .i64 p, .int .i64 e], .bool true]) w := by kernel_rfl
theorem ta_no (w : World) : (Instr.typeAssert .nilIface 20 49 true).run Tryd.prog w = .ok (.tuple #[.agg #[.int .i64 0, .int .i64 0], .bool false]) w := by kernel_rfl
theorem catch_panicking {fb : Nat} {p : Nat} {er : Int} {x y : Value} {w : World} (h : Holds w fb [x, y] 49) (older : List PanicEntry) :
    CallsD Tryd.prog 34 #[.pointer (some ⟨fb, 0, none⟩)] (.panicking ({ v := .iface 49 (.agg #[.int .i64 (p : Int), .int .i64 er]), recovered := false } :: older)) w fun e u' w' =>
      e = .returned (.tuple #[]) ∧ u' = .panicking ({ v := .iface 49 (.agg #[.int .i64 (p : Int), .int .i64 er]), recovered := true } :: older) ∧ w' = (w.setCell ⟨fb, 0, none⟩ (.int .i64 (p : Int))).setCell ⟨fb, 1, none⟩ (.int .i64 er) := by
  have c0 : w.cell? ⟨fb, 0, none⟩ = some x := h.at 0 _ rfl
  have f0 : w.frozen? ⟨fb, 0, none⟩ = false := h.frozen 0
  have c1 : w.cell? ⟨fb, 1, none⟩ = some y := h.at 1 _ rfl
  have f1 : w.frozen? ⟨fb, 1, none⟩ = false := h.frozen 1
  have h2 := ta_yes (p : Int) er w
  refine callsD_of_wpS Tryd.func34 rfl fun c₀ cs hu => ?_
  apply wpS_region
  simp [wpOpsS, go_sem, recoverD, hu, Tryd.ntmps34, c0, f0, c1, f1, h2, bodyPostS, results, Tryd.results34]
theorem catch_idle {fb : Nat} {x y : Value} {w : World} (h : Holds w fb [x, y] 49) :
    CallsD Tryd.prog 34 #[.pointer (some ⟨fb, 0, none⟩)] .returning w fun e u' w' => e = .returned (.tuple #[]) ∧ u' = .returning ∧ w' = (w.setCell ⟨fb, 0, none⟩ (.int .i64 0)).setCell ⟨fb, 1, none⟩ (.int .i64 0) := by
  have c0 : w.cell? ⟨fb, 0, none⟩ = some x := h.at 0 _ rfl
  have f0 : w.frozen? ⟨fb, 0, none⟩ = false := h.frozen 0
  have c1 : w.cell? ⟨fb, 1, none⟩ = some y := h.at 1 _ rfl
  have f1 : w.frozen? ⟨fb, 1, none⟩ = false := h.frozen 1
  have h2 := ta_no w
  refine callsD_of_wpS Tryd.func34 rfl fun c₀ cs hu => ?_
  apply wpS_region
  simp [wpOpsS, go_sem, recoverD, hu, Tryd.ntmps34, c0, f0, c1, f1, h2, bodyPostS, results, Tryd.results34]
  cases c₀
  simp_all
def q22_4 : Array Oper := #[{ dst := some 10, op := Op.move (Operand.tmp 0), type := 45, pos := "parse.go:26", after := #[], guard := none }, { dst := some 11, op := Op.move (Operand.tmp 0), type := 45, pos := "parse.go:26", after := #[], guard := none }, { dst := some 12, op := Op.nilCheck (Operand.tmp 11), type := 0, pos := "parse.go:26", after := #[{ on := 1, ground := Ground.data }], guard := none }, { dst := some 13, op := Op.fieldAddr 47 (Operand.tmp 12) 1, type := 0, pos := "parse.go:26", after := #[{ on := 2, ground := Ground.data }], guard := none }, { dst := some 14, op := Op.load 3 (Operand.tmp 13), type := 3, pos := "parse.go:26", after := #[{ on := 3, ground := Ground.data }], guard := none }, { dst := some 15, op := Op.move (Operand.tmp 0), type := 45, pos := "parse.go:26", after := #[], guard := none }, { dst := some 16, op := Op.nilCheck (Operand.tmp 15), type := 0, pos := "parse.go:26", after := #[{ on := 5, ground := Ground.data }], guard := none }, { dst := some 17, op := Op.fieldAddr 47 (Operand.tmp 16) 0, type := 0, pos := "parse.go:26", after := #[{ on := 6, ground := Ground.data }], guard := none }, { dst := some 18, op := Op.load 9 (Operand.tmp 17), type := 9, pos := "parse.go:26", after := #[{ on := 7, ground := Ground.data }], guard := none }, { dst := some 19, op := Op.call { callee := Callee.builtin Builtin.len, args := #[Operand.tmp 18], argTypes := #[9] }, type := 3, pos := "parse.go:26", after := #[{ on := 8, ground := Ground.data }], guard := none }, { dst := some 20, op := Op.binOp BinOp.eql 3 (Operand.tmp 14) (Operand.tmp 19) 3, type := 4, pos := "parse.go:26", after := #[{ on := 4, ground := Ground.data }, { on := 9, ground := Ground.data }], guard := none }, { dst := some 21, op := Op.call { callee := Callee.value (Operand.func 37), args := #[Operand.tmp 10, Operand.tmp 20], argTypes := #[45, 4] }, type := 0, pos := "parse.go:26", after := #[{ on := 0, ground := Ground.data }, { on := 10, ground := Ground.data }], guard := none }]
set_option maxRecDepth 100000 in
theorem r22_4 {Q : Exit → Act → World → Prop} {a0 : Act} {w : World} (hz : a0.tmps.size = 24) {b q k : Nat} {s : ByteArray} (hP : PAt w b s q k) (e0 : a0.eval (.tmp 0) = .pointer (some ⟨b, 0, none⟩))
    (hok : ∀ ac wz, q = s.size → After [21, 10, 11, 12, 13, 14, 15, 16, 17, 18, 19, 20] a0 ac → Gr w wz → Q .normal ac wz) (hbad : ∀ ac wz, q ≠ s.size → After [21, 10, 11, 12, 13, 14, 15, 16, 17, 18, 19, 20] a0 ac → Gr w wz → Q (.panic (faultV q 60)) ac wz) : (Code.region 4 q22_4 true).wp Tryd.prog Q a0 w := by
  refine drawn_last (by kernel_rfl) (by kernel_rfl) 11 (by decide) (by kernel_rfl) _ rfl [21, 10, 11, 12, 13, 14, 15, 16, 17, 18, 19, 20] (fun | 10 => .val (.pointer (some ⟨b, 0, none⟩)) | 11 => .val (.pointer (some ⟨b, 0, none⟩)) | 12 => .val (.pointer (some ⟨b, 0, none⟩)) | 13 => .val (.pointer (some ⟨b, 1, none⟩)) | 14 => .val (.int .i64 (q : Int)) | 15 => .val (.pointer (some ⟨b, 0, none⟩)) | 16 => .val (.pointer (some ⟨b, 0, none⟩)) | 17 => .val (.pointer (some ⟨b, 0, none⟩)) | 18 => .val (.string s) | 19 => .val (.int .i64 (s.size : Int)) | 20 => .val (.bool (decide (q = s.size))) | _ => .any) (by kernel_rfl) (List.forall_mem_cons.2 ⟨?s0, List.forall_mem_cons.2 ⟨?s1, List.forall_mem_cons.2 ⟨?s2, List.forall_mem_cons.2 ⟨?s3, List.forall_mem_cons.2 ⟨?s4, List.forall_mem_cons.2 ⟨?s5, List.forall_mem_cons.2 ⟨?s6, List.forall_mem_cons.2 ⟨?s7, List.forall_mem_cons.2 ⟨?s8, List.forall_mem_cons.2 ⟨?s9, List.forall_mem_cons.2 ⟨?s10, fun o ho => nomatch ho⟩⟩⟩⟩⟩⟩⟩⟩⟩⟩⟩) ?e
  case s0 => exact sa_move (.tmp 0) 10 (.val (.pointer (some ⟨b, 0, none⟩))) (.inl rfl) rfl rfl (.old 0 _ (by decide) e0) rfl
  case s1 => exact sa_move (.tmp 0) 11 (.val (.pointer (some ⟨b, 0, none⟩))) (.inl rfl) rfl rfl (.old 0 _ (by decide) e0) rfl
  case s2 => exact sa_nil (.tmp 11) 12 ⟨b, 0, none⟩ rfl rfl rfl (.new 11 (by kernel_rfl) (by rw [hz]; decide)) rfl
  case s3 => exact sa_fa 47 (.tmp 12) 1 13 (.pointer (some ⟨b, 0, none⟩)) (.pointer (some ⟨b, 1, none⟩)) rfl rfl rfl (.new 12 (by kernel_rfl) (by rw [hz]; decide)) (by intro w; kernel_rfl) rfl
  case s4 => exact sa_loadc 3 (.tmp 13) 14 b 1 (.int .i64 (q : Int)) rfl rfl rfl (by intro w; kernel_rfl) (.new 13 (by kernel_rfl) (by rw [hz]; decide)) (fun y hy => (hP.gr hy).at 1 _ rfl) rfl
  case s5 => exact sa_move (.tmp 0) 15 (.val (.pointer (some ⟨b, 0, none⟩))) (.inl rfl) rfl rfl (.old 0 _ (by decide) e0) rfl
  case s6 => exact sa_nil (.tmp 15) 16 ⟨b, 0, none⟩ rfl rfl rfl (.new 15 (by kernel_rfl) (by rw [hz]; decide)) rfl
  case s7 => exact sa_fa 47 (.tmp 16) 0 17 (.pointer (some ⟨b, 0, none⟩)) (.pointer (some ⟨b, 0, none⟩)) rfl rfl rfl (.new 16 (by kernel_rfl) (by rw [hz]; decide)) (by intro w; kernel_rfl) rfl
  case s8 => exact sa_loadc 9 (.tmp 17) 18 b 0 (.string s) rfl rfl rfl (by intro w; kernel_rfl) (.new 17 (by kernel_rfl) (by rw [hz]; decide)) (fun y hy => (hP.gr hy).at 0 _ rfl) rfl
  case s9 => exact sa_len 9 (.tmp 18) 19 (.string s) (.int .i64 (s.size : Int)) rfl rfl rfl (.new 18 (by kernel_rfl) (by rw [hz]; decide)) (by intro w; kernel_rfl) rfl
  case s10 => exact sa_bin .eql 3 (.tmp 14) (.tmp 19) 3 20 (.int .i64 (q : Int)) (.int .i64 (s.size : Int)) (.bool (decide (q = s.size))) rfl rfl rfl (.new 14 (by kernel_rfl) (by rw [hz]; decide)) (.new 19 (by kernel_rfl) (by rw [hz]; decide)) guard_int (bin_eql (by simp only [Int.natCast_inj])) rfl
  case e =>
  intro ac wz hA hgr hv
  have o10 : ac.eval (.tmp 10) = .pointer (some ⟨b, 0, none⟩) := hv 10 (by kernel_rfl) (by rw [hz]; decide)
  have o20 : ac.eval (.tmp 20) = .bool (decide (q = s.size)) := hv 20 (by kernel_rfl) (by rw [hz]; decide)
  refine ⟨wanted_none rfl _, op_callP 37 #[.tmp 10, .tmp 20] #[45, 4] rfl #[.pointer (some ⟨b, 0, none⟩), .bool (decide (q = s.size))] (by simp [o10, o20]) (enters_of Tryd.func37 (by kernel_rfl) rfl) ?_⟩
  by_cases h : q = s.size
  · rw [decide_eq_true h]
    refine (insist_true _ wz).mono ?_
    rintro e z ⟨rfl, rfl⟩
    exact .inl ⟨_, rfl, hok _ _ h (hA.put 21 _ |>.mono (by decide)) hgr⟩
  · rw [decide_eq_false h]
    refine (insist_false b s q k wz (hP.gr hgr)).mono ?_
    rintro e z ⟨rfl, rfl⟩
    exact .inr ⟨_, rfl, hbad _ _ h hA hgr⟩
theorem results_rows2 {P : Program} {fn : Func} {p q : Tmp} {t1 t2 : TypeId} (h : fn.results = #[.cell p t1, .cell q t2]) (tmps : Array Value) (w : World) (g1 g2 : Nat) (c1 c2 : List Value) (d1 d2 : TypeDesc)
    (hp : tmps.getD p undef = .pointer (some ⟨g1, 0, none⟩)) (hq : tmps.getD q undef = .pointer (some ⟨g2, 0, none⟩)) (h1 : Holds w g1 c1 t1) (h2 : Holds w g2 c2 t2)
    (u1 : P.underlying t1 = some d1) (u2 : P.underlying t2 = some d2) (r1 : (match d1 with | .struct _ | .array _ _ => true | _ => false) = true) (r2 : (match d2 with | .struct _ | .array _ _ => true | _ => false) = true) (s1 : (P.info? t1).map (·.size) = some c1.length) (s2 : (P.info? t2).map (·.size) = some c2.length) :
    (results fn tmps).run P w = .ok (.tuple #[.agg c1.toArray, .agg c2.toArray]) w := by
  have hp' : tmps[p]?.getD undef = .pointer (some ⟨g1, 0, none⟩) := by simpa using hp
  have hq' : tmps[q]?.getD undef = .pointer (some ⟨g2, 0, none⟩) := by simpa using hq
  simp [results, h, hp', hq', asAddr, run_loadVar_row w g1 t1 t1 c1.toArray (0, 0) d1 h1 u1 r1 (by simpa using s1), run_loadVar_row w g2 t2 t2 c2.toArray (0, 0) d2 h2 u2 r2 (by simpa using s2)]
theorem act_lit2 {a : Act} {n : Nat} (h : a.tmps.size = n) : a = ⟨((List.range n).map fun s => a.eval (.tmp s)).toArray, a.defers⟩ := by
  obtain ⟨A, Df⟩ := a
  have h2 : A.size = n := h
  congr 1
  apply Array.ext
  · simp [h2]
  · intro i hi1 hi2
    simp only [List.getElem_toArray, List.getElem_map, List.getElem_range]
    show A[i] = A.getD i undef
    simp [hi1]
/-- What whole comes to. -/
def WholeP (b : Nat) (w : World) (r : Res J) : Ending → World → Prop := fun e w' => Upd b w w' ∧ match r with
  | .ok j _ => ∃ v, e = .returned (.tuple #[v, .agg #[.int .i64 0, .int .i64 0]]) ∧ JAt w' (fun i => w.heap.size ≤ i) j v
  | .bad q er => e = .returned (.tuple #[.agg zeroJ.toArray, .agg #[.int .i64 (q : Int), .int .i64 er]])
set_option maxHeartbeats 4000000 in
set_option maxRecDepth 100000 in
theorem whole_any {b : Nat} {s : ByteArray} {w : World} (hs : s.size ≤ 1099511627775) (h : PAt w b s 0 0) (hG : Glob w) (hb : 2 < b) :
    Calls Tryd.prog 22 #[.pointer (some ⟨b, 0, none⟩)] w (WholeP b w (wholeP s.data.toList)) := by
  have hmf : ∀ (fn : Fn) (first cap : Array Value) (w : World), (Instr.makeFunc fn first cap).run Tryd.prog w = .ok (.func fn first cap) w := fun _ _ _ _ => rfl
  obtain ⟨N, hN⟩ : ∃ N, w.heap.size = N := ⟨_, rfl⟩
  have hbN : b < N := hN ▸ h.lt
  obtain ⟨W, hW⟩ : ∃ W, (w.alloc (.cells zeroJ.toArray 27)).alloc (.cells #[.int .i64 0, .int .i64 0] 49) = W := ⟨_, rfl⟩
  have hg : Gr w W := by rw [← hW]; exact (Gr.alloc _ _).trans (Gr.alloc _ _)
  have hsz : W.heap.size = N + 2 := by rw [← hW]; simp [hN]
  have hv0 : Holds W N zeroJ 27 := by
    have h1 : Holds (w.alloc (.cells zeroJ.toArray 27)) N zeroJ 27 := by
      have := heap_alloc_new w (.cells zeroJ.toArray 27)
      rw [hN] at this; exact this
    rw [← hW]; exact h1.alloc _
  have hf0 : Holds W (N + 1) [.int .i64 0, .int .i64 0] 49 := by
    have := heap_alloc_new (w.alloc (.cells zeroJ.toArray 27)) (.cells #[.int .i64 0, .int .i64 0] 49)
    rw [hW] at this
    simpa [hN, Holds] using this
  have hval := val_ok hs hb 16 (Nat.le_refl _) 0 W (Nat.zero_le _) (h.gr hg) (hG.gr hg)
  -- a fault that is caught
  have hbadR : ∀ z q er, Upd b W z → CallsD Tryd.prog 34 #[.pointer (some ⟨N + 1, 0, none⟩)] (.panicking (faultV q er)) z fun e u' z' => e = .returned (.tuple #[]) ∧ u' = .panicking [{ v := .iface 49 (.agg #[.int .i64 (q : Int), .int .i64 er]), recovered := true }] ∧ Upd b w z' ∧ Holds z' N zeroJ 27 ∧ Holds z' (N + 1) [.int .i64 (q : Int), .int .i64 er] 49 := fun z q er hz => by
    have h1 := hf0.upd hz (by omega)
    refine (catch_panicking (p := q) (er := er) h1 []).mono ?_
    rintro e u' z' ⟨e1, e2, rfl⟩
    have h3 := (h1.set 0 (.int .i64 (q : Int))).set 1 (.int .i64 er)
    refine ⟨e1, e2, ?_, ((hv0.upd hz (by omega)).setOther _ _ _ (by omega)).setOther _ _ _ (by omega), h3⟩
    refine ⟨hz.os.trans hg.os, hz.tape.trans hg.tape, hz.output.trans hg.output, by simpa using Nat.le_trans hg.size hz.size, fun i h4 h5 => ?_⟩
    rw [heap_setCell_other _ _ _ _ (by simp; omega), heap_setCell_other _ _ _ _ (by simp; omega)]
    exact (hz.block i (Nat.lt_of_lt_of_le h4 hg.size) h5).trans (hg.block i h4)
  have hdone : ∀ z' (q : Nat) (er : Int) (tm : Array Value), Upd b w z' → Holds z' N zeroJ 27 → Holds z' (N + 1) [.int .i64 (q : Int), .int .i64 er] 49 → tm.getD 2 undef = .pointer (some ⟨N, 0, none⟩) → tm.getD 3 undef = .pointer (some ⟨N + 1, 0, none⟩) → Leaves Tryd.prog Tryd.f22 tm (WholeP b w (.bad q er)) [] .returning z' := fun z' q er tm h1 h2 h3 h4 h5 =>
    ⟨_, results_rows2 (by kernel_rfl) tm z' N (N + 1) _ _ _ _ h4 h5 h2 h3 Tryd.underlying27 Tryd.underlying49 rfl rfl (by kernel_rfl) (by kernel_rfl), h1, rfl⟩
  unfold wholeP
  cases hr : valP s.data.toList 16 0 with
  | bad q er =>
    rw [hr] at hval
    show Calls _ _ _ _ (WholeP b w (.bad q er))
    clear hr h hG hv0 hf0 hg hsz hbN
    subst hN hW
    go_enter_defers Tryd.func22, Tryd.ntmps22
    go_wp2_with (go_at_call 35; refine hval.mono ?_; rintro e z ⟨hUz, rfl⟩)
    refine leaves_cons (f := 34) (args := #[.pointer (some ⟨w.heap.size + 1, 0, none⟩)]) (by simp) (by simp [go_sem]) ?_
    refine (hbadR z q er hUz).mono ?_
    rintro e u' z' ⟨rfl, rfl, hU', hv', hf'⟩
    exact hdone z' q er _ hU' hv' hf' rfl rfl
  | ok j q =>
    rw [hr] at hval
    obtain ⟨m, hm⟩ : ∃ m, nextP s.data.toList q = m := ⟨_, rfl⟩
    have hql := (valP_le 16 0 j q (Nat.zero_le _) hr).2
    obtain ⟨RR, hRR⟩ : ∃ RR, (if nextP s.data.toList q = s.data.toList.length then Res.ok j (nextP s.data.toList q) else Res.bad (nextP s.data.toList q) 60) = RR := ⟨_, rfl⟩
    show Calls _ _ _ _ (WholeP b w (if nextP s.data.toList q = s.data.toList.length then Res.ok j (nextP s.data.toList q) else Res.bad (nextP s.data.toList q) 60))
    rw [hRR]
    rw [hm] at hRR
    have hnx : ∀ y, PAt y b s q 0 → Calls Tryd.prog 36 #[.pointer (some ⟨b, 0, none⟩)] y fun e w' => e = .returned (.int .u8 ((hereP s.data.toList (nextP s.data.toList q)).toNat : Int)) ∧ PAt w' b s m 0 ∧ Upd b y w' := fun y hy => hm ▸ next_any b s q 0 hql (by omega) y hy
    clear hr h hG
    subst hN hW
    go_enter_defers Tryd.func22, Tryd.ntmps22
    go_wp2_with (first
      | (go_at_call 35; refine hval.mono ?_; rintro e z ⟨hUz, v, rfl, hJz, hPz⟩; obtain ⟨cs, rfl, h6, h1⟩ := jat_cells hJz; clear hval)
      | (refine wpList_store_all rfl 27 (.tmp 4) (.tmp 7) rfl z.heap.size rfl cs rfl 27 zeroJ (holds_new z zeroJ 27) (by rw [h6]; kernel_rfl) h6.symm h1 ?_; intro z1 hT1; have hP1 : PAt z1 b s q 0 := (hT1.others b (by have := hPz.lt; omega)).trans (hPz.alloc _))
      | (go_at_call 36; refine (hnx _ hP1).mono ?_; rintro e z2 ⟨rfl, hP2, hU2⟩; clear hnx))
    have hzsz : w.heap.size + 2 ≤ z.heap.size := hsz ▸ hUz.size
    have hz1 : z1.heap.size = z.heap.size + 1 := by rw [hT1.size]; simp
    have hU1 : Upd b _ z1 := ⟨hT1.os.trans hUz.os, hT1.tape.trans hUz.tape, hT1.output.trans hUz.output, by have := hUz.size; omega, fun i h4 h5 => (hT1.others i (by have := hUz.size; omega)).trans (by
      have := (hUz.alloc (.cells zeroJ.toArray 27)).block i h4 h5
      exact this)⟩
    refine r22_4 rfl hP2 rfl (fun ac wz heq hA hgz => ?_) (fun ac wz hmne hA hgz => ?_)
    · have e : ac = ⟨(ac.eval (.tmp 0) :: ac.eval (.tmp 1) :: ac.eval (.tmp 2) :: ac.eval (.tmp 3) :: ac.eval (.tmp 4) :: ac.eval (.tmp 5) :: ac.eval (.tmp 6) :: ac.eval (.tmp 7) :: ac.eval (.tmp 8) :: ac.eval (.tmp 9) :: ac.eval (.tmp 10) :: ac.eval (.tmp 11) :: ac.eval (.tmp 12) :: ac.eval (.tmp 13) :: ac.eval (.tmp 14) :: ac.eval (.tmp 15) :: ac.eval (.tmp 16) :: ac.eval (.tmp 17) :: ac.eval (.tmp 18) :: ac.eval (.tmp 19) :: ac.eval (.tmp 20) :: ac.eval (.tmp 21) :: ac.eval (.tmp 22) :: ac.eval (.tmp 23) :: ([] : List Value)).toArray, ac.defers⟩ := (act_lit2 (hA.size.trans rfl)).trans rfl
      rw [hA.defers, (hA.old 0 (by decide)).trans rfl, (hA.old 2 (by decide)).trans rfl, (hA.old 3 (by decide)).trans rfl, (hA.old 4 (by decide)).trans rfl] at e
      generalize ac.eval (.tmp 1) = x1 at e
      generalize ac.eval (.tmp 5) = x5 at e
      generalize ac.eval (.tmp 6) = x6 at e
      generalize ac.eval (.tmp 7) = x7 at e
      generalize ac.eval (.tmp 8) = x8 at e
      generalize ac.eval (.tmp 9) = x9 at e
      generalize ac.eval (.tmp 10) = x10 at e
      generalize ac.eval (.tmp 11) = x11 at e
      generalize ac.eval (.tmp 12) = x12 at e
      generalize ac.eval (.tmp 13) = x13 at e
      generalize ac.eval (.tmp 14) = x14 at e
      generalize ac.eval (.tmp 15) = x15 at e
      generalize ac.eval (.tmp 16) = x16 at e
      generalize ac.eval (.tmp 17) = x17 at e
      generalize ac.eval (.tmp 18) = x18 at e
      generalize ac.eval (.tmp 19) = x19 at e
      generalize ac.eval (.tmp 20) = x20 at e
      generalize ac.eval (.tmp 21) = x21 at e
      generalize ac.eval (.tmp 22) = x22 at e
      generalize ac.eval (.tmp 23) = x23 at e
      have hRR : Res.ok j m = RR := by rw [← hRR, if_pos (show m = s.data.toList.length from heq)]
      subst hRR
      have hUw := (hU1.trans hU2).trans (gr_upd hgz)
      have hcs : Holds wz z.heap.size cs 27 := (hT1.holds.upd hU2 (by have := hPz.lt; omega)).gr hgz
      have hvw := hv0.upd hUw (by omega)
      have hfw := hf0.upd hUw (by omega)
      have hJw : JAt wz (fun i => w.heap.size + 2 ≤ i) j (.agg cs.toArray) := by
        have hJz : JAt z (fun i => w.heap.size + 2 ≤ i) j (.agg cs.toArray) := JAt.mono (show JAt z _ j _ from hJz) fun i h4 _ => ⟨hsz ▸ h4, rfl⟩
        exact hJz.mono fun i h4 h5 => ⟨h4, ((gr_upd (b := b) hgz).block i (by have := hU2.size; omega) (by omega)).trans ((hU2.block i (by omega) (by omega)).trans ((hT1.others i (by omega)).trans (by
          have := ((Upd.refl b z).alloc (.cells zeroJ.toArray 27)).block i h5 (by omega)
          exact this)))⟩
      have hUf : Upd b w wz := ((gr_upd hg).trans hUw)
      generalize hac : ac = ac' at *
      subst e
      clear hdone hbadR hac
      go_wp2_with (first
        | (refine wpList_load_part rfl 27 (.tmp 4) rfl z.heap.size 0 rfl _ _ (range_of hcs) Tryd.underlying27 rfl (by rw [h6]; kernel_rfl) ?_)
        | (refine wpList_store_all rfl 27 (.tmp 2) (.tmp 22) rfl w.heap.size rfl cs rfl 27 zeroJ hvw (by rw [h6]; kernel_rfl) h6.symm h1 ?_; intro z3 hT3; have hf3 : Holds z3 (w.heap.size + 1) _ 49 := (hT3.others _ (by omega)).trans hfw)
        | (refine wpList_store_all rfl 49 (.tmp 3) (.tmp 23) rfl (w.heap.size + 1) rfl [.int .i64 0, .int .i64 0] rfl 49 [.int .i64 0, .int .i64 0] hf3 (by kernel_rfl) rfl (by intro v hv; simp at hv; subst hv; rfl) ?_; intro z4 hT4))
      have hv4 : Holds z4 w.heap.size cs 27 := (hT4.others _ (by omega)).trans hT3.holds
      refine leaves_cons (f := 34) (args := #[.pointer (some ⟨w.heap.size + 1, 0, none⟩)]) (by simp) (by simp [go_sem]) ?_
      refine (catch_idle hT4.holds).mono ?_
      rintro e u' z5 ⟨rfl, rfl, rfl⟩
      have hv5 := (hv4.setOther (w.heap.size + 1) 0 (.int .i64 0) (by omega)).setOther (w.heap.size + 1) 1 (.int .i64 0) (by omega)
      have hf5 := (hT4.holds.set 0 (.int .i64 0)).set 1 (.int .i64 0)
      have hsame : ∀ i, i ≠ w.heap.size → i ≠ w.heap.size + 1 → ((z4.setCell ⟨w.heap.size + 1, 0, none⟩ (.int .i64 0)).setCell ⟨w.heap.size + 1, 1, none⟩ (.int .i64 0)).heap[i]? = wz.heap[i]? := fun i h4 h5 => by
        rw [heap_setCell_other _ _ _ _ h5, heap_setCell_other _ _ _ _ h5, hT4.others i h5, hT3.others i h4]
      refine ⟨_, results_rows2 (p := 2) (q := 3) (by kernel_rfl) _ _ w.heap.size (w.heap.size + 1) cs [.int .i64 0, .int .i64 0] _ _ rfl rfl hv5 hf5 Tryd.underlying27 Tryd.underlying49 rfl rfl (by rw [h6]; kernel_rfl) (by kernel_rfl), ⟨hT4.os.trans (hT3.os.trans hUf.os), hT4.tape.trans (hT3.tape.trans hUf.tape), hT4.output.trans (hT3.output.trans hUf.output), ?_, fun i h4 h5 => (hsame i (by omega) (by omega)).trans (hUf.block i h4 h5)⟩, _, rfl, hJw.mono fun i h4 _ => ⟨by omega, hsame i (by omega) (by omega)⟩⟩
      have := hUf.size
      have := hT3.size
      have := hT4.size
      simp; omega
    · have e : ac = ⟨(ac.eval (.tmp 0) :: ac.eval (.tmp 1) :: ac.eval (.tmp 2) :: ac.eval (.tmp 3) :: ac.eval (.tmp 4) :: ac.eval (.tmp 5) :: ac.eval (.tmp 6) :: ac.eval (.tmp 7) :: ac.eval (.tmp 8) :: ac.eval (.tmp 9) :: ac.eval (.tmp 10) :: ac.eval (.tmp 11) :: ac.eval (.tmp 12) :: ac.eval (.tmp 13) :: ac.eval (.tmp 14) :: ac.eval (.tmp 15) :: ac.eval (.tmp 16) :: ac.eval (.tmp 17) :: ac.eval (.tmp 18) :: ac.eval (.tmp 19) :: ac.eval (.tmp 20) :: ac.eval (.tmp 21) :: ac.eval (.tmp 22) :: ac.eval (.tmp 23) :: ([] : List Value)).toArray, ac.defers⟩ := (act_lit2 (hA.size.trans rfl)).trans rfl
      rw [hA.defers, (hA.old 0 (by decide)).trans rfl, (hA.old 2 (by decide)).trans rfl, (hA.old 3 (by decide)).trans rfl, (hA.old 4 (by decide)).trans rfl] at e
      generalize ac.eval (.tmp 1) = x1 at e
      generalize ac.eval (.tmp 5) = x5 at e
      generalize ac.eval (.tmp 6) = x6 at e
      generalize ac.eval (.tmp 7) = x7 at e
      generalize ac.eval (.tmp 8) = x8 at e
      generalize ac.eval (.tmp 9) = x9 at e
      generalize ac.eval (.tmp 10) = x10 at e
      generalize ac.eval (.tmp 11) = x11 at e
      generalize ac.eval (.tmp 12) = x12 at e
      generalize ac.eval (.tmp 13) = x13 at e
      generalize ac.eval (.tmp 14) = x14 at e
      generalize ac.eval (.tmp 15) = x15 at e
      generalize ac.eval (.tmp 16) = x16 at e
      generalize ac.eval (.tmp 17) = x17 at e
      generalize ac.eval (.tmp 18) = x18 at e
      generalize ac.eval (.tmp 19) = x19 at e
      generalize ac.eval (.tmp 20) = x20 at e
      generalize ac.eval (.tmp 21) = x21 at e
      generalize ac.eval (.tmp 22) = x22 at e
      generalize ac.eval (.tmp 23) = x23 at e
      have hRR : Res.bad m 60 = RR := by rw [← hRR, if_neg (show ¬ m = s.data.toList.length from hmne)]
      subst hRR
      have hUw := (hU1.trans hU2).trans (gr_upd hgz)
      generalize hac : ac = ac' at *
      subst e
      clear hac
      refine leaves_cons (f := 34) (args := #[.pointer (some ⟨w.heap.size + 1, 0, none⟩)]) (by simp) (by simp [go_sem]) ?_
      refine (hbadR wz m 60 hUw).mono ?_
      rintro e u' z' ⟨rfl, rfl, hU', hv', hf'⟩
      exact hdone z' m 60 _ hU' hv' hf' rfl rfl
end Go.Proofs.YtogippkapadolaaDoor

/- The engine: as EngP, the operations that change a thing told by their places (a store may be one). -/
namespace Go.Proofs.YtogippkapadolaaDoor
open Go.RowKit
variable {P : Program} {ops : Array Oper} {Q : Exit → Act → World → Prop} {R : World → World → Prop}
structure MidX (ops : Array Oper) (D C : List Nat) (T : Nat → FactR R) (S : Nat → World → Prop) (a0 : Act) (w : World) (f : Env) (listed : Array Bool) (a : Act) (x : World) : Prop where
  over : Over a0 f a
  grown : R w x
  fact : ∀ s v, f s = some v → (T s).holds v x
  done : ∀ (j : Nat) (o : Oper) (d : Nat), ops[j]? = some o → listed.getD j false = true → o.dst = some d → (f d).isSome = true
  out : ∀ s, s ∉ D → f s = none
  closed : ∀ (j : Nat) (o : Oper), ops[j]? = some o → listed.getD j false = true → ∀ e ∈ o.after, Region.binds .any e = true → listed.getD e.on false = true
  st : ∃ k, k ≤ C.length ∧ S k x ∧ ∀ j d, C[j]? = some d → (listed.getD d false = true ↔ j < k)
theorem drawn_ix {id : Nat} {a0 : Act} {w : World} (rt : ∀ {x y z}, R x y → R y z → R x z) (rg : ∀ {x y}, Gr x y → R x y) (hm : P.follows .mixedOrders = true) (hlex : lexOk ops = true) (m : Nat) (hsz : m < ops.size) (hcov : coverB ops m = true) (hch : chainB ops m = true) (D C : List Nat) (hCn : C.Nodup) (T : Nat → FactR R) (S : Nat → World → Prop)
    (hD : ((ops.toList.take m).all fun o => match o.dst with | some d => D.contains d | none => true) = true) (hC : (C.all fun i => decide (i < m)) = true)
    (s0 : S 0 w) (sg : ∀ {k x y}, S k x → Gr x y → S k y)
    (hstep : ∀ i, i < m → ∃ o, ops[i]? = some o ∧ ((StepR P ops D T a0 w Q o ∧ C.contains i = false) ∨ ∃ c, C[c]? = some i ∧ (c = 0 ∨ ∃ i', C[c - 1]? = some i' ∧ edgeB ops i i' = true) ∧ StepC P ops D T S a0 w Q c o))
    (hend : ∀ (a : Act) (x : World), After D a0 a → R w x → S C.length x → (∀ s, dstsB ops m s = true → s < a0.tmps.size → (T s).holds (a.eval (.tmp s)) x) → wpList P ops Q (ops.toList.drop m) a x) :
    (Code.region id ops true).wp P Q a0 w := by
  refine wp_region_any hm ?_
  have key : ∀ (fuel : Nat) (listed : Array Bool) (f : Env) (a : Act) (x : World), listed.size = ops.size → (unlisted ops listed).length ≤ fuel → listed.getD m true = false → MidX ops D C T S a0 w f listed a x → wpAny P .any ops Q fuel listed a x := by
    intro fuel
    induction fuel with
    | zero =>
      intro listed f a x hz hu hl h
      have : m ∈ unlisted ops listed := List.mem_filter.2 ⟨List.mem_range.2 (by omega), by rw [hl]; rfl⟩
      have hnil : unlisted ops listed = [] := List.eq_nil_of_length_eq_zero (by omega)
      rw [hnil] at this; cases this
    | succ fuel ih =>
      intro listed f a x hz hu hlm h
      refine ⟨fun hr => ?_, fun i hi => ?_⟩
      · have := all_listed hlex hz hr m (by omega)
        rw [hlm] at this; cases this
      · obtain ⟨h0, o, ho, haf⟩ := mem_ready.1 hi
        have hil := (Array.getElem?_eq_some_iff.1 ho).1
        have hif : listed.getD i false = false := by
          have hs : i < listed.size := by omega
          simpa [hs] using h0
        by_cases him : i = m
        · subst him
          have hall : ∀ n j, i ≤ j + n → j < i → listed.getD j false = true := by
            intro n
            induction n with
            | zero => intro j h1 h2; omega
            | succ n ihn =>
              intro j h1 h2
              obtain ⟨k, ok, e, hjk, hk, hok, he, hb, hon⟩ := cover_spec hcov h2
              by_cases hki : k = i
              · subst hki
                rw [ho] at hok
                cases hok
                have := haf e he hb
                rw [hon] at this; exact this
              · have := h.closed k ok hok (ihn k (by omega) (by omega)) e he hb
                rw [hon] at this; exact this
          have hall : ∀ j, j < i → listed.getD j false = true := fun j hj => hall i j (by omega) hj
          have hfil : ∀ s, dstsB ops i s = true → (f s).isSome = true := fun s hs => by
            obtain ⟨oj, hoj, hd⟩ := List.any_eq_true.1 hs
            have hd := of_decide_eq_true hd
            obtain ⟨j, hj⟩ := List.mem_iff_getElem?.1 hoj
            have hjk : j < i := by
              have := (List.getElem?_eq_some_iff.1 hj).1
              simp at this; omega
            rw [List.getElem?_take_of_lt hjk] at hj
            exact h.done j oj s (by simpa using hj) (hall j hjk) hd
          obtain ⟨k, hkC, hSk, hk⟩ := h.st
          have hkl : k = C.length := by
            rcases Nat.eq_zero_or_pos C.length with q | q
            · omega
            · have hl1 : C.length - 1 < C.length := by omega
              have hc : C[C.length - 1]? = some C[C.length - 1] := List.getElem?_eq_getElem hl1
              have hlt := of_decide_eq_true (List.all_eq_true.1 hC _ (List.getElem_mem hl1))
              have := (hk _ _ hc).1 (hall _ hlt)
              omega
          have hwl : wpList P ops Q (ops.toList.drop i) a x := hend a x (h.over.after h.out) h.grown (hkl ▸ hSk) (fun s hs hsz' => by
            obtain ⟨v, hv⟩ := Option.isSome_iff_exists.1 (hfil s hs)
            rw [h.over.get hsz' hv]
            exact h.fact s v hv)
          have hlate : ∀ j, i ≤ j → j < ops.size → listed.getD j true = false := fun j h1 h2 => by
            cases hl : listed.getD j true with
            | false => rfl
            | true =>
              exfalso
              have hbad := late_closed hch h.closed j h1 h2 (by
                have hs : j < listed.size := by omega
                simp [hs] at hl ⊢; exact hl)
              have hs : i < listed.size := by omega
              simp [hs] at hlm hbad
              rw [hlm] at hbad; cases hbad
          have := (any_of_list hlex hch (ops.size - i) i (fuel + 1) listed a x (by omega) hz (by
            have h9 : (unlisted ops listed).length ≤ fuel + 1 := hu
            have h8 : ops.size - i ≤ (unlisted ops listed).length := late_len hlate
            omega) hall hlate hwl (Nat.le_refl _)).2 i hi
          exact this
        · have hlt' : i < m := by
            rcases Nat.lt_or_ge i m with q | q
            · exact q
            · exfalso
              obtain ⟨o1, e1, ho1, he1, hb1, hon⟩ := chain_spec hch (show m < i by omega) hil
              rw [ho] at ho1
              cases ho1
              have h1 := haf e1 he1 hb1
              rw [hon] at h1
              have hbad := late_closed hch h.closed (i - 1) (by omega) (by omega) h1
              have hs : m < listed.size := by omega
              simp [hs] at hlm hbad
              rw [hlm] at hbad; cases hbad
          have hmem : o ∈ ops.toList.take m := by
            rw [List.mem_iff_getElem?]
            exact ⟨i, by rw [List.getElem?_take_of_lt (by omega)]; simpa using ho⟩
          have hneed : ∀ s, needsB ops o s = true → (f s).isSome = true := fun s hs => by
            obtain ⟨e, he, hb⟩ := List.any_eq_true.1 hs
            rw [Bool.and_eq_true] at hb
            have b2 := of_decide_eq_true hb.2
            cases hoj : ops[e.on]? with
            | none => rw [hoj] at b2; cases b2
            | some oj =>
              rw [hoj] at b2
              exact h.done e.on oj s hoj (haf e (by simpa using he) hb.1) b2
          have hc : CtxR ops D T a0 w o f a x := ⟨h.over, h.grown, fun s hs => by
            obtain ⟨v, hv⟩ := Option.isSome_iff_exists.1 (hneed s hs)
            exact ⟨v, hv, h.fact s v hv⟩, h.out⟩
          have hDo : ∀ d, o.dst = some d → d ∈ D := fun d hd => by
            have := List.all_eq_true.1 hD o hmem
            rw [hd] at this
            simpa using this
          have hun : i ∈ unlisted ops listed := List.mem_filter.2 ⟨List.mem_range.2 hil, by rw [h0]; rfl⟩
          have hlt : (unlisted ops (listed.setIfInBounds i true)).length < (unlisted ops listed).length := by
            have hsub : unlisted ops (listed.setIfInBounds i true) = (unlisted ops listed).filter fun j => decide (j ≠ i) := by
              unfold unlisted
              rw [List.filter_filter]
              apply List.filter_congr
              intro j hj
              by_cases e : i = j
              · subst e
                have : i < listed.size := by omega
                simp [this]
              · rw [getD_set_ne true e]
                have e' : ¬ j = i := fun q => e q.symm
                simp [e']
            rw [hsub]
            exact List.length_filter_lt_length_iff_exists.2 ⟨i, hun, by simp⟩
          have next : ∀ (v : Value) (y : World), R x y → (∃ k, k ≤ C.length ∧ S k y ∧ ∀ j d, C[j]? = some d → ((listed.setIfInBounds i true).getD d false = true ↔ j < k)) → (∀ d, o.dst = some d → (T d).holds v y) → wpAny P .any ops Q fuel (listed.setIfInBounds i true) (a.put o.dst v) y := fun v y r1 hst f1 => by
            refine ih (listed.setIfInBounds i true) (putE f o.dst v) _ y (by simp [hz]) (by omega) (by rw [getD_set_ne true him]; exact hlm) ⟨h.over.put o.dst v, rt h.grown r1, fun s u hs => ?_, fun j oj d hoj hl hd => ?_, fun s hs => ?_, fun j oj hoj hl e he hb => ?_, hst⟩
            · unfold putE at hs
              by_cases e : o.dst = some s
              · rw [if_pos e] at hs
                cases hs
                exact f1 s e
              · rw [if_neg e] at hs
                exact (T s).mono (h.fact s u hs) r1
            · unfold putE
              by_cases e : o.dst = some d
              · rw [if_pos e]; rfl
              · rw [if_neg e]
                by_cases hji : i = j
                · subst hji
                  rw [ho] at hoj
                  cases hoj
                  exact absurd hd e
                · rw [getD_set_ne false hji] at hl
                  exact h.done j oj d hoj hl hd
            · unfold putE
              by_cases e : o.dst = some s
              · exact absurd (hDo s e) hs
              · rw [if_neg e]; exact h.out s hs
            · have hle : listed.getD e.on false = true := by
                by_cases hji : i = j
                · subst hji
                  rw [ho] at hoj
                  cases hoj
                  exact haf e he hb
                · rw [getD_set_ne false hji] at hl
                  exact h.closed j oj hoj hl e he hb
              by_cases q : i = e.on
              · have : i < listed.size := by omega
                rw [← q]; simp [this]
              · rw [getD_set_ne false q]; exact hle
          obtain ⟨k, hkC, hSk, hk⟩ := h.st
          unfold wpOp
          obtain ⟨o', ho', hst'⟩ := hstep i hlt'
          rw [ho] at ho'
          cases ho'
          have his : i < listed.size := by omega
          have hset : (listed.setIfInBounds i true).getD i false = true := by simp [his]
          rcases hst' with ⟨hR, hnC⟩ | ⟨c, hcd, hpre, hSC⟩
          · obtain ⟨hw, hwp⟩ := hR f a x hc
            simp only [ho, hw, if_true]
            refine .inl (Oper.wp_mono (fun a' y ⟨v, e1, r1, f1⟩ => ?_) hwp)
            subst e1
            refine next v y (rg r1) ⟨k, hkC, sg hSk r1, fun j d hj => ?_⟩ f1
            have hne : i ≠ d := fun e => by
              have h2 : C.contains i = true := by
                rw [List.contains_iff_mem, e]
                exact List.mem_iff_getElem?.2 ⟨j, hj⟩
              rw [hnC] at h2; cases h2
            rw [getD_set_ne false hne]; exact hk j d hj
          · have hck : k = c := by
              have h1 : ¬ c < k := fun q => by
                have := (hk c i hcd).2 q
                rw [hif] at this; cases this
              rcases hpre with rfl | ⟨i', hd', hed⟩
              · omega
              · have hl : listed.getD i' false = true := by
                  unfold edgeB at hed
                  rw [ho] at hed
                  obtain ⟨e, he, hb⟩ := List.any_eq_true.1 hed
                  rw [Bool.and_eq_true] at hb
                  have hon := of_decide_eq_true hb.2
                  have := haf e (by simpa using he) hb.1
                  rw [hon] at this; exact this
                have := (hk _ _ hd').1 hl
                omega
            subst hck
            have hcl : k < C.length := (List.getElem?_eq_some_iff.1 hcd).1
            obtain ⟨hw, hwp⟩ := hSC f a x hc hSk
            simp only [ho, hw, if_true]
            refine .inl (Oper.wp_mono (fun a' y ⟨v, e1, r1, s1, f1⟩ => ?_) hwp)
            subst e1
            refine next v y r1 ⟨k + 1, hcl, s1, fun j d2 hj => ?_⟩ f1
            by_cases e : i = d2
            · subst e
              have hjk : j = k := by
                have hjl := (List.getElem?_eq_some_iff.1 hj).1
                exact (List.getElem?_inj hjl hCn).1 (hj.trans hcd.symm)
              rw [hset, hjk]
              simp
            · rw [getD_set_ne false e, hk j d2 hj]
              have hjk : j ≠ k := fun q => by
                rw [q, hcd] at hj
                exact e (Option.some.inj hj)
              omega
  refine key ops.size (Array.replicate ops.size false) (fun _ => none) a0 _ (by simp) ?_ (by simp [hsz]) ⟨Over.start a0, rg (Gr.drew w), (fun s v h => nomatch h), fun j o d _ hl _ => ?_, fun _ _ => rfl, fun j o _ hl _ _ _ => ?_, ⟨0, Nat.zero_le _, sg s0 (Gr.drew w), fun j d _ => ⟨fun h => ?_, fun h => absurd h (Nat.not_lt_zero _)⟩⟩⟩
  · exact Nat.le_trans (List.length_filter_le _ _) (by simp)
  all_goals
    exfalso
    first
      | (have : (Array.replicate ops.size false).getD j false = false := by
          by_cases hj : j < ops.size <;> simp [hj]
         rw [this] at hl; cases hl)
      | (have : (Array.replicate ops.size false).getD d false = false := by
          by_cases hj : d < ops.size <;> simp [hj]
         rw [this] at h; cases h)
end Go.Proofs.YtogippkapadolaaDoor

/- Parse. -/
namespace Go.Proofs.YtogippkapadolaaDoor
open Go.RowKit

def q9_3 : Array Oper := #[{ dst := some 16, op := Op.load 27 (Operand.tmp 6), type := 27, pos := "json.go:21", after := #[], guard := none }, { dst := some 17, op := Op.fieldAddr 49 (Operand.tmp 7) 0, type := 0, pos := "json.go:21", after := #[{ on := 5, ground := Ground.gcOnly Departure.lateStores }], guard := none }, { dst := some 18, op := Op.load 3 (Operand.tmp 17), type := 3, pos := "json.go:21", after := #[{ on := 1, ground := Ground.data }, { on := 5, ground := Ground.gcOnly Departure.lateStores }], guard := none }, { dst := some 19, op := Op.fieldAddr 49 (Operand.tmp 7) 1, type := 0, pos := "json.go:21", after := #[{ on := 6, ground := Ground.gcOnly Departure.lateStores }], guard := none }, { dst := some 20, op := Op.load 28 (Operand.tmp 19), type := 28, pos := "json.go:21", after := #[{ on := 3, ground := Ground.data }, { on := 6, ground := Ground.gcOnly Departure.lateStores }], guard := none }, { dst := none, op := Op.store 27 (Operand.tmp 2) (Operand.tmp 16), type := 0, pos := "json.go:21", after := #[{ on := 0, ground := Ground.data }, { on := 0, ground := Ground.phase }, { on := 1, ground := Ground.textOnly Departure.lateStores }, { on := 2, ground := Ground.textOnly Departure.lateStores }, { on := 3, ground := Ground.textOnly Departure.lateStores }, { on := 4, ground := Ground.textOnly Departure.lateStores }], guard := none }, { dst := some 3, op := Op.assign (Operand.tmp 18), type := 3, pos := "json.go:21", after := #[{ on := 2, ground := Ground.data }, { on := 5, ground := Ground.chain }, { on := 0, ground := Ground.phase }, { on := 1, ground := Ground.phase }, { on := 2, ground := Ground.phase }, { on := 3, ground := Ground.textOnly Departure.lateStores }, { on := 4, ground := Ground.textOnly Departure.lateStores }, { on := 5, ground := Ground.phase }], guard := none }, { dst := some 4, op := Op.assign (Operand.tmp 20), type := 28, pos := "json.go:21", after := #[{ on := 4, ground := Ground.data }, { on := 6, ground := Ground.chain }, { on := 0, ground := Ground.phase }, { on := 1, ground := Ground.phase }, { on := 2, ground := Ground.phase }, { on := 3, ground := Ground.phase }, { on := 4, ground := Ground.phase }, { on := 5, ground := Ground.phase }, { on := 6, ground := Ground.phase }], guard := none }]
set_option maxRecDepth 100000 in
theorem r9_3 {Q : Exit → Act → World → Prop} {a0 : Act} {w : World} (hz : a0.tmps.size = 21) {N h g : Nat} {cs : List Value} {q er : Int} (hv : Holds w N zeroJ 27) (hc : Holds w h cs 27) (hg : Holds w g [.int .i64 q, .int .i64 er] 49) (h6 : cs.length = 6) (h1 : ∀ x ∈ cs, x.oneCell' = true) (hh : h ≠ N) (hgN : g ≠ N) (e2 : a0.eval (.tmp 2) = .pointer (some ⟨N, 0, none⟩)) (e6 : a0.eval (.tmp 6) = .pointer (some ⟨h, 0, none⟩)) (e7 : a0.eval (.tmp 7) = .pointer (some ⟨g, 0, none⟩))
    (hend : ∀ ac wz, After [4, 16, 17, 18, 19, 20, 3] a0 ac → ac.eval (.tmp 3) = .int .i64 q → ac.eval (.tmp 4) = .int .i64 er → Upd N w wz → Holds wz N cs 27 → Q .normal ac wz) : (Code.region 3 q9_3 true).wp Tryd.prog Q a0 w := by
  refine drawn_ix (R := Upd N) (fun h k => h.trans k) gr_upd (by kernel_rfl) (by kernel_rfl) 7 (by decide) (by kernel_rfl) (by kernel_rfl) [16, 17, 18, 19, 20, 3] [5] (by simp) (fun | 16 => .val (.agg cs.toArray) | 17 => .val (.pointer (some ⟨g, 0, none⟩)) | 18 => .val (.int .i64 q) | 19 => .val (.pointer (some ⟨g, 1, none⟩)) | 20 => .val (.int .i64 er) | 3 => .val (.int .i64 q) | _ => .any) (fun | 0, y => Holds y N zeroJ 27 | _ + 1, y => Holds y N cs 27) (by kernel_rfl) (by kernel_rfl) hv (fun {n x y} h g => by cases n with
    | zero => exact Holds.gr (show Holds x N zeroJ 27 from h) g
    | succ n => exact Holds.gr (show Holds x N cs 27 from h) g) (fun
    | 0, _ => ⟨_, rfl, .inl ⟨?s0, rfl⟩⟩
    | 1, _ => ⟨_, rfl, .inl ⟨?s1, rfl⟩⟩
    | 2, _ => ⟨_, rfl, .inl ⟨?s2, rfl⟩⟩
    | 3, _ => ⟨_, rfl, .inl ⟨?s3, rfl⟩⟩
    | 4, _ => ⟨_, rfl, .inl ⟨?s4, rfl⟩⟩
    | 5, _ => ⟨_, rfl, .inr ⟨0, rfl, .inl rfl, ?s5⟩⟩
    | 6, _ => ⟨_, rfl, .inl ⟨?s6, rfl⟩⟩
    | n + 7, hn => absurd hn (by omega)) ?e
  case s0 => exact sr_of 16 rfl rfl fun f a y c => op_row 27 (.tmp 6) 6 _ cs rfl h 0 ((c.over.old (c.out 6 (by decide))).trans e6) Tryd.underlying27 rfl (by kernel_rfl) h6 (range_of (hc.upd c.grown hh)) ⟨_, rfl, Gr.refl _, rfl⟩
  case s1 => exact sr_fa 49 (.tmp 7) 0 17 (.pointer (some ⟨g, 0, none⟩)) (.pointer (some ⟨g, 0, none⟩)) rfl rfl rfl (.old 7 _ (by decide) e7) (fun w => by kernel_rfl) rfl
  case s2 => exact sr_loadc 3 (.tmp 17) 18 g 0 (.int .i64 q) rfl rfl rfl (fun w => by kernel_rfl) (.new 17 (by kernel_rfl) (by rw [hz]; decide)) (fun y hy => (hg.upd hy hgN).at 0 _ rfl) rfl
  case s3 => exact sr_fa 49 (.tmp 7) 1 19 (.pointer (some ⟨g, 0, none⟩)) (.pointer (some ⟨g, 1, none⟩)) rfl rfl rfl (.old 7 _ (by decide) e7) (fun w => by kernel_rfl) rfl
  case s4 => exact sr_loadc 28 (.tmp 19) 20 g 1 (.int .i64 er) rfl rfl rfl (fun w => by kernel_rfl) (.new 19 (by kernel_rfl) (by rw [hz]; decide)) (fun y hy => (hg.upd hy hgN).at 1 _ rfl) rfl
  case s5 =>
    intro f a y c hS
    have hS : Holds y N zeroJ 27 := hS
    have x16 : a.eval (.tmp 16) = .agg cs.toArray := (HasR.new (T := (fun | 16 => .val (.agg cs.toArray) | 17 => .val (.pointer (some ⟨g, 0, none⟩)) | 18 => .val (.int .i64 q) | 19 => .val (.pointer (some ⟨g, 1, none⟩)) | 20 => .val (.int .i64 er) | 3 => .val (.int .i64 q) | _ => .any)) 16 (by kernel_rfl) (by rw [hz]; decide)).get c
    have hT := turned_setCells (t := 27) N cs 0 y zeroJ hS (by rw [h6]; decide)
    refine ⟨wanted_none rfl _, wp_store_mid 27 (.tmp 2) (.tmp 16) rfl N 0 cs.toArray ((c.over.old (c.out 2 (by decide))).trans e2) x16 (hS.there 0 _ (by simp [h6]; decide)) (by rw [show cs.toArray.size = 6 by simpa using h6]; kernel_rfl) (all_oneCell_toArray h1) ⟨_, rfl, ⟨hT.os, hT.tape, hT.output, Nat.le_of_eq hT.size.symm, fun k _ hk => hT.others k hk⟩, ?_, fun d hd => by cases hd⟩⟩
    have hh := hT.holds
    have e : overV zeroJ 0 cs = cs := by unfold overV; rw [List.take_zero, List.nil_append, List.drop_of_length_le (by rw [h6]; decide), List.append_nil]
    rw [e] at hh
    exact hh
  case s6 => exact sr_move (.tmp 18) 3 (.val (.int .i64 q)) (.inr rfl) rfl rfl (.new 18 (by kernel_rfl) (by rw [hz]; decide)) rfl
  case e =>
  intro ac wz hA hR hS hf
  have x3 : ac.eval (.tmp 3) = .int .i64 q := hf 3 (by kernel_rfl) (by rw [hz]; decide)
  have x20 : ac.eval (.tmp 20) = .int .i64 er := hf 20 (by kernel_rfl) (by rw [hz]; decide)
  refine wl_of rfl (op_move (.tmp 20) (.inr rfl) (wl_end ?_))
  exact hend _ wz (hA.put 4 _) ((ev_put (by rw [hA.size, hz]; decide)).trans ((if_neg (by decide)).trans x3)) ((ev_put (by rw [hA.size, hz]; decide)).trans ((if_pos rfl).trans x20)) hR hS
theorem results_row2 {P : Program} {fn : Func} {p t u : Tmp} {t1 : TypeId} (h : fn.results = #[.cell p t1, .tmp t, .tmp u]) (tmps : Array Value) (w : World) (g1 : Nat) (c1 : List Value) (d1 : TypeDesc) (x y : Value)
    (hp : tmps.getD p undef = .pointer (some ⟨g1, 0, none⟩)) (hx : tmps.getD t undef = x) (hy : tmps.getD u undef = y) (h1 : Holds w g1 c1 t1)
    (u1 : P.underlying t1 = some d1) (r1 : (match d1 with | .struct _ | .array _ _ => true | _ => false) = true) (s1 : (P.info? t1).map (·.size) = some c1.length) :
    (results fn tmps).run P w = .ok (.tuple #[.agg c1.toArray, x, y]) w := by
  have hp' : tmps[p]?.getD undef = .pointer (some ⟨g1, 0, none⟩) := by simpa using hp
  have hx' : tmps[t]?.getD undef = x := by simpa using hx
  have hy' : tmps[u]?.getD undef = y := by simpa using hy
  simp [results, h, hp', hx', hy', asAddr, run_loadVar_row w g1 t1 t1 c1.toArray (0, 0) d1 h1 u1 r1 (by simpa using s1)]
/-- What Parse comes to. -/
def ParseP (w : World) (r : Res J) : Ending → World → Prop := fun e w' => Gr w w' ∧ match r with
  | .ok j _ => ∃ v, e = .returned (.tuple #[v, .int .i64 0, .int .i64 0]) ∧ JAt w' (fun i => w.heap.size ≤ i) j v
  | .bad q er => e = .returned (.tuple #[.agg zeroJ.toArray, .int .i64 (q : Int), .int .i64 er])
set_option maxHeartbeats 4000000 in
set_option maxRecDepth 100000 in
theorem parse_any {s : ByteArray} {w : World} (hs : s.size ≤ 1099511627775) (hG : Glob w) (h3 : 2 < w.heap.size) :
    Calls Tryd.prog 9 #[.string s] w (ParseP w (wholeP s.data.toList)) := by
  obtain ⟨N, hN⟩ : ∃ N, w.heap.size = N := ⟨_, rfl⟩
  obtain ⟨W, hW⟩ : ∃ W, (w.alloc (.cells zeroJ.toArray 27)).alloc (.cells #[.string s, .int .i64 0, .int .i64 0] 47) = W := ⟨_, rfl⟩
  have hg : Gr w W := by rw [← hW]; exact (Gr.alloc _ _).trans (Gr.alloc _ _)
  have hsz : W.heap.size = N + 2 := by rw [← hW]; simp [hN]
  have hv0 : Holds W N zeroJ 27 := by
    have h1 : Holds (w.alloc (.cells zeroJ.toArray 27)) N zeroJ 27 := by
      have := heap_alloc_new w (.cells zeroJ.toArray 27)
      rw [hN] at this; exact this
    rw [← hW]; exact h1.alloc _
  have hP0 : PAt W (N + 1) s 0 0 := by
    have := heap_alloc_new (w.alloc (.cells zeroJ.toArray 27)) (.cells #[.string s, .int .i64 0, .int .i64 0] 47)
    rw [hW] at this
    simpa [hN, Holds] using this
  have hwh := whole_any hs hP0 (hG.gr hg) (by omega)
  obtain ⟨r, hr⟩ : ∃ r, wholeP s.data.toList = r := ⟨_, rfl⟩
  rw [hr] at hwh ⊢
  have hwh : Calls Tryd.prog 22 #[.pointer (some ⟨N + 1, 0, none⟩)] W (fun e z => Upd (N + 1) W z ∧ ∃ (cs : List Value) (q er : Int), cs.length = 6 ∧ (∀ x ∈ cs, x.oneCell' = true) ∧ e = .returned (.tuple #[.agg cs.toArray, .agg #[.int .i64 q, .int .i64 er]]) ∧ ∀ z', (∀ i, N + 2 ≤ i → i < z.heap.size → z'.heap[i]? = z.heap[i]?) → Gr w z' → ParseP w r (.returned (.tuple #[.agg cs.toArray, .int .i64 q, .int .i64 er])) z') := by
    refine hwh.mono ?_
    rintro e z ⟨hU, hres⟩
    refine ⟨hU, ?_⟩
    cases r with
    | ok j q =>
      obtain ⟨v, rfl, hJ⟩ := hres
      obtain ⟨cs, rfl, h6, h1⟩ := jat_cells hJ
      exact ⟨cs, 0, 0, h6, h1, rfl, fun z' hz hg' => ⟨hg', _, rfl, hJ.mono fun i h4 h5 => ⟨by omega, hz i (by omega) h5⟩⟩⟩
    | bad q er => exact ⟨zeroJ, (q : Int), er, rfl, (by intro x hx; simp only [zeroJ, List.mem_cons, List.not_mem_nil, or_false] at hx; rcases hx with rfl | rfl | rfl | rfl | rfl | rfl <;> rfl), hres, fun z' hz hg' => ⟨hg', rfl⟩⟩
  have hpre : ∀ z : World, Holds ((z.alloc (.cells zeroJ.toArray 27)).alloc (.cells #[.int .i64 0, .int .i64 0] 49)) (z.heap.size + 1) [.int .i64 0, .int .i64 0] 49 := fun z => by
    have := heap_alloc_new (z.alloc (.cells zeroJ.toArray 27)) (.cells #[.int .i64 0, .int .i64 0] 49)
    simpa [Holds] using this
  clear hr hP0
  subst hN hW
  go_enter Tryd.func9, Tryd.ntmps9
  go_wp2_with (first
    | (go_at_call 22; refine hwh.mono ?_; rintro e z ⟨hUz, cs, q, er, h6, h1, rfl, hfin⟩; clear hwh)
    | (refine wpList_store_all rfl 27 (.tmp 6) (.tmp 14) rfl z.heap.size rfl cs rfl 27 zeroJ ((holds_new z zeroJ 27).alloc _) (by rw [h6]; kernel_rfl) h6.symm h1 ?_; intro z1 hT1; have hf1 : Holds z1 (z.heap.size + 1) [.int .i64 0, .int .i64 0] 49 := (hT1.others (z.heap.size + 1) (by omega)).trans (hpre z))
    | (refine wpList_store_all rfl 49 (.tmp 7) (.tmp 15) rfl (z.heap.size + 1) rfl [.int .i64 q, .int .i64 er] rfl 49 [.int .i64 0, .int .i64 0] hf1 (by kernel_rfl) rfl (by intro v hv; simp at hv; rcases hv with rfl | rfl <;> rfl) ?_; intro z2 hT2))
  have hz2 : z.heap.size + 2 = z2.heap.size := by rw [hT2.size, hT1.size]; simp
  have hc2 : Holds z2 z.heap.size cs 27 := (hT2.others _ (by omega)).trans hT1.holds
  have hz : w.heap.size + 2 ≤ z.heap.size := hsz ▸ hUz.size
  have hsame : ∀ i, i < z.heap.size → z2.heap[i]? = z.heap[i]? := fun i h => (hT2.others i (by omega)).trans ((hT1.others i (by omega)).trans (((Below.refl _ z).alloc (Nat.le_refl _) _ |>.alloc (by simp) _).block i h))
  have hv2 : Holds z2 w.heap.size zeroJ 27 := (hsame _ (by omega)).trans (hv0.upd hUz (by omega))
  refine r9_3 rfl hv2 hc2 hT2.holds h6 h1 (by omega) (by omega) rfl rfl rfl fun ac wz hA x3 x4 hU hN => ?_
  rename_i hK
  refine hK _ _ ?_
  have hsz2 : w.heap.size ≤ wz.heap.size := by have := hU.size; omega
  have hgz : Gr w wz := ⟨hU.os.trans (hT2.os.trans (hT1.os.trans (hUz.os.trans hg.os))), hU.tape.trans (hT2.tape.trans (hT1.tape.trans (hUz.tape.trans hg.tape))), hU.output.trans (hT2.output.trans (hT1.output.trans (hUz.output.trans hg.output))), hsz2, fun i h => (hU.block i (by omega) (by omega)).trans ((hsame i (by omega)).trans ((hUz.block i (by omega) (by omega)).trans (hg.block i h)))⟩
  refine wp_ret ?_
  exact bodyPost_ret (results_row2 (p := 2) (t := 3) (u := 4) (by kernel_rfl) ac.tmps wz w.heap.size cs _ _ _ ((hA.old 2 (by decide)).trans rfl) x3 x4 hN Tryd.underlying27 rfl (by rw [h6]; kernel_rfl)) (hA.defers.trans rfl) (hfin wz (fun i h4 h5 => (hU.block i (by omega) (by omega)).trans (hsame i h5)) hgz)
end Go.Proofs.YtogippkapadolaaDoor
