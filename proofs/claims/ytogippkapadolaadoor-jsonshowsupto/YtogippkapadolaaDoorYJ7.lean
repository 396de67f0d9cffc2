/- JsOnce, JsElem, JsEachP. -/
import Derived.Test.YtogippkapadolaaDoorYJ6
/- Names, each once. -/
namespace Go.Proofs.YtogippkapadolaaDoor
open Go.RowKit

theorem Lies.cell {w : World} {S : Nat → Prop} {na : Option Addr} {names : List (List UInt8)} (h : Lies w S na (names.map strV1)) {i : Nat} (hi : i < names.length) :
    ∃ g off, na = some ⟨g, off, none⟩ ∧ ∀ z, Gr w z → z.cell? ⟨g, off + i, none⟩ = some (.string (strL names[i])) := by
  rcases h with h | ⟨g, off, rfl, _, hlt, hr⟩
  · exfalso
    have := congrArg List.length h
    simp at this
    rw [this] at hi; simp at hi
  · refine ⟨g, off, rfl, fun z hz => ?_⟩
    show z.cell? _ = some (strV1 names[i])
    rw [← hr i (strV1 names[i]) (by rw [List.getElem?_map, List.getElem?_eq_getElem hi]; rfl)]
    simp only [World.cell?, hz.block g hlt]
theorem nodup_step {names : List (List UInt8)} {i : Nat} (hi : i < names.length) (h : (names.take i).Nodup) (hn : names[i] ∉ names.take i) : (names.take (i + 1)).Nodup := by
  rw [List.take_add_one, List.getElem?_eq_getElem hi]
  simp only [Option.toList_some]
  rw [List.nodup_append]
  exact ⟨h, by simp, fun a ha b hb => by simp at hb; subst hb; exact fun e => hn (e ▸ ha)⟩
theorem nodup_not {names : List (List UInt8)} {i : Nat} (hi : i < names.length) (hn : names[i] ∈ names.take i) : ¬ names.Nodup := by
  intro h
  rw [← List.take_append_drop i names, List.nodup_append] at h
  exact h.2.2 names[i] hn names[i] (by rw [List.drop_eq_getElem_cons hi]; exact List.mem_cons_self) rfl
set_option maxHeartbeats 1000000 in
set_option maxRecDepth 100000 in
theorem areOnce_any {w : World} {S : Nat → Prop} {na : Option Addr} {nc : Nat} {names : List (List UInt8)} (h : Lies w S na (names.map strV1)) (hl : names.length < maxLen) (hls : ∀ x ∈ names, x.length ≤ maxLen) :
    Calls Tryd.prog 46 #[.slice na names.length nc] w fun e w' => e = .returned (.bool (decide names.Nodup)) ∧ Gr w w' := by
  have hmm : ∀ w : World, (Instr.makeMap 53 none).run Tryd.prog w = .ok (.map (some w.heap.size)) (w.alloc (.map #[] 0)) := by intro w; kernel_rfl
  obtain ⟨n, hn⟩ : ∃ n, names.length = n := ⟨_, rfl⟩
  have hm0 := nms_made w
  have hg0 := Gr.alloc w (.map #[] 0)
  have hn64 : (n : Int) ≤ 9223372036854775806 := by unfold maxLen at hl; omega
  rw [hn]
  go_enter Tryd.func46, Tryd.ntmps46
  go_wp2_with fail
  go_loopw [9] (fun c wr => ∃ i : Nat, c = .int .i64 (i : Int) ∧ i ≤ n ∧ (names.take i).Nodup ∧ NmsAt wr w.heap.size (names.take i) ∧ Gr w wr) (fun c _ => n - (intOf c).toNat)
  case atStart => exact ⟨0, rfl, by omega, by simp, by simpa using hm0, hg0⟩
  case round =>
    obtain ⟨i, rfl, hi, hnd, hm, hg⟩ := hrel
    rcases Nat.lt_or_ge i n with hlt | hge
    · obtain ⟨g, off, rfl, hcell⟩ := h.cell (show i < names.length by omega)
      have hc := hcell wr hg
      have hixn : ∀ w, (Instr.indexAt 25 (.slice (some ⟨g, off, none⟩) n nc) (.int .i64 (i : Int))).run Tryd.prog w = .ok (.pointer (some ⟨g, off + i, none⟩)) w := ix_slice und25 size25 hlt (by omega)
      have htk := take_any (s := names[i]'(by omega)) hm (by rw [List.length_take]; omega) (hls _ (List.getElem_mem _))
      have g1 : (i : Int) < (n : Int) := by omega
      have hgr : ∀ w', Upd w.heap.size wr w' → Gr w w' := fun w' hu => ⟨hu.os.trans hg.os, hu.tape.trans hg.tape, hu.output.trans hg.output, Nat.le_trans hg.size hu.size, fun k hk => (hu.block k (Nat.lt_of_lt_of_le hk hg.size) (by omega)).trans (hg.block k hk)⟩
      have hi1 : (i : Int) + 1 ≤ 9223372036854775806 := by omega
      by_cases hin : names[i]'(by omega) ∈ names.take i
      · rw [show (!decide (names[i]'(by omega) ∈ names.take i)) = false by simp [hin]] at htk
        have hno := nodup_not (show i < names.length by omega) hin
        clear hin hm hcell h
        generalize names[i]'(by omega) = nm at *
        go_wp2_with (go_at_call 23; refine htk.mono ?_; rintro e w2 ⟨rfl, _, hu⟩)
        go_ret
        exact ⟨by simp [hno], hgr _ hu⟩
      · rw [show (!decide (names[i]'(by omega) ∈ names.take i)) = true by simp [hin]] at htk
        have hnd2 := nodup_step (show i < names.length by omega) hnd hin
        have hnm : names.take i ++ [names[i]'(by omega)] = names.take (i + 1) := by rw [List.take_add_one, List.getElem?_eq_getElem (by omega)]; rfl
        rw [hnm] at htk
        clear hin hm hcell h hnm
        generalize names[i]'(by omega) = nm at *
        go_wp2_with (go_at_call 23; refine htk.mono ?_; rintro e w2 ⟨rfl, hm2, hu⟩)
        exact ⟨⟨i + 1, rfl, by omega, hnd2, hm2, hgr _ hu⟩, by simp; omega⟩
    · have hin : i = n := by omega
      subst hin
      have g1 : ¬ (i : Int) < (i : Int) := by omega
      rw [List.take_of_length_le (by omega)] at hnd
      go_wp2
      go_ret
      exact ⟨by simp, hg⟩
end Go.Proofs.YtogippkapadolaaDoor

/- The closures' regions: one element more, one name more (by gen_js.py). -/
namespace Go.Proofs.YtogippkapadolaaDoor
open Go.RowKit
def q70_0 : Array Oper := #[{ dst := some 2, op := Op.fieldAddr 27 (Operand.tmp 0) 4, type := 0, pos := "parse.go:112", after := #[], guard := none }, { dst := some 3, op := Op.load 24 (Operand.tmp 2), type := 24, pos := "parse.go:112", after := #[{ on := 0, ground := Ground.data }], guard := none }, { dst := some 4, op := Op.load 45 (Operand.tmp 1), type := 45, pos := "parse.go:112", after := #[], guard := none }, { dst := some 5, op := Op.call { callee := Callee.value (Operand.func 35), args := #[Operand.tmp 4], argTypes := #[45] }, type := 27, pos := "parse.go:112", after := #[{ on := 2, ground := Ground.data }], guard := none }, { dst := some 6, op := Op.call { callee := Callee.builtin Builtin.len, args := #[Operand.tmp 3], argTypes := #[24] }, type := 3, pos := "parse.go:112", after := #[{ on := 1, ground := Ground.data }], guard := none }, { dst := some 7, op := Op.buildSlice 24 1 #[(0, Operand.const (Value.agg #[Value.int IntKind.i64 0, Value.bool false, Value.int IntKind.i64 0, Value.string { data := #[] }, Value.slice none 0 0, Value.slice none 0 0]))], type := 24, pos := "parse.go:112", after := #[], guard := none }, { dst := some 8, op := Op.call { callee := Callee.builtin Builtin.append, args := #[Operand.tmp 3, Operand.tmp 7], argTypes := #[24, 24] }, type := 24, pos := "parse.go:112", after := #[{ on := 1, ground := Ground.data }, { on := 5, ground := Ground.data }, { on := 3, ground := Ground.chain }, { on := 0, ground := Ground.phase }, { on := 1, ground := Ground.phase }, { on := 2, ground := Ground.phase }, { on := 3, ground := Ground.phase }, { on := 4, ground := Ground.phase }, { on := 5, ground := Ground.phase }], guard := none }, { dst := some 9, op := Op.indexAddr 24 (Operand.tmp 8) (Operand.tmp 6), type := 0, pos := "parse.go:112", after := #[{ on := 6, ground := Ground.data }, { on := 4, ground := Ground.data }, { on := 0, ground := Ground.phase }, { on := 1, ground := Ground.phase }, { on := 2, ground := Ground.phase }, { on := 3, ground := Ground.phase }, { on := 4, ground := Ground.phase }, { on := 5, ground := Ground.phase }, { on := 6, ground := Ground.phase }, { on := 10, ground := Ground.gcOnly Departure.appendInPlace }], guard := none }, { dst := none, op := Op.store 27 (Operand.tmp 9) (Operand.tmp 5), type := 0, pos := "parse.go:112", after := #[{ on := 7, ground := Ground.data }, { on := 3, ground := Ground.data }, { on := 6, ground := Ground.chain }, { on := 0, ground := Ground.phase }, { on := 1, ground := Ground.phase }, { on := 2, ground := Ground.phase }, { on := 3, ground := Ground.phase }, { on := 4, ground := Ground.phase }, { on := 5, ground := Ground.phase }, { on := 6, ground := Ground.phase }, { on := 10, ground := Ground.gcOnly Departure.appendInPlace }], guard := none }, { dst := some 10, op := Op.fieldAddr 27 (Operand.tmp 0) 4, type := 0, pos := "parse.go:112", after := #[{ on := 0, ground := Ground.phase }, { on := 1, ground := Ground.phase }, { on := 2, ground := Ground.phase }, { on := 3, ground := Ground.phase }, { on := 4, ground := Ground.phase }, { on := 5, ground := Ground.phase }, { on := 6, ground := Ground.phase }, { on := 7, ground := Ground.textOnly Departure.appendInPlace }, { on := 8, ground := Ground.textOnly Departure.appendInPlace }], guard := none }, { dst := none, op := Op.store 24 (Operand.tmp 10) (Operand.tmp 8), type := 0, pos := "parse.go:112", after := #[{ on := 9, ground := Ground.data }, { on := 6, ground := Ground.data }, { on := 6, ground := Ground.chain }, { on := 8, ground := Ground.textOnly Departure.appendInPlace }, { on := 0, ground := Ground.phase }, { on := 1, ground := Ground.phase }, { on := 2, ground := Ground.phase }, { on := 3, ground := Ground.phase }, { on := 4, ground := Ground.phase }, { on := 5, ground := Ground.phase }, { on := 6, ground := Ground.phase }, { on := 7, ground := Ground.textOnly Departure.appendInPlace }, { on := 8, ground := Ground.textOnly Departure.appendInPlace }], guard := none }]
set_option maxRecDepth 100000 in
set_option maxHeartbeats 1000000 in
theorem r70_0 {Q : Exit → Act → World → Prop} {a0 : Act} {w : World} (hz : a0.tmps.size = 11) {M bv b bp p k : Nat} {s : ByteArray} {kd : Int} {l : List J} {names : List (List UInt8)} {u nv : Value} {es : List (List Value)} {r : Res J}
    (hV : VIn M bv kd l names w u nv es) (hP : PAt w b s p k) (hbp : Holds w bp [.pointer (some ⟨b, 0, none⟩)] 45) (hM : M ≤ w.heap.size) (hb : b < M) (hbv : bv < M) (hpb : bp ≠ b) (hne : bv ≠ b) (hn : l.length ≤ 1099511627776)
    (hval : ∀ y, Upd b w y → PAt y b s p k → Calls Tryd.prog 35 #[.pointer (some ⟨b, 0, none⟩)] y (Done b s k y r (jsV y))) (e0 : a0.eval (.tmp 0) = .pointer (some ⟨bv, 0, none⟩)) (e1 : a0.eval (.tmp 1) = .pointer (some ⟨bp, 0, none⟩))
    (hok : ∀ ac wz j q u' es', r = .ok j q → ac.defers = a0.defers → VIn M bv kd (l ++ [j]) names wz u' nv es' → PAt wz b s q k → KeepL [b, bv] M w wz → Q .normal ac wz)
    (hbad : ∀ ac wz q er, r = .bad q er → ac.defers = a0.defers → KeepL [b, bv] M w wz → Q (.panic (faultV q er)) ac wz) : (Code.region 0 q70_0 true).wp Tryd.prog Q a0 w := by
  obtain ⟨ua, un, uc, hu⟩ := own_slice hV.own
  have hun : un = l.length := by
    rcases hV.own.2 with ⟨q, q0⟩ | ⟨g, cap, cur, q, _⟩
    · rw [hu] at q; cases q; exact q0.symm
    · rw [hu] at q; cases q; rfl
  subst hun
  have hbw : b < w.heap.size := hP.lt
  have hcu : ∀ y, Upd b w y → y.cell? ⟨bv, 4, none⟩ = some u := fun y hy => (hV.box.upd hy hne).at 4 _ rfl
  have hcb : ∀ y, Upd b w y → y.cell? ⟨bp, 0, none⟩ = some (.pointer (some ⟨b, 0, none⟩)) := fun y hy => (hbp.upd hy hpb).at 0 _ rfl
  refine drawn_star (R := Upd b) (fun h k => h.trans k) gr_upd (by kernel_rfl) (by kernel_rfl) (by kernel_rfl) 6 (by decide) (by kernel_rfl) (by kernel_rfl) [2, 3, 4, 5, 6, 7] [5] (by simp) (fun | 2 => .val (.pointer (some ⟨bv, 4, none⟩)) | 3 => .val u | 4 => .val (.pointer (some ⟨b, 0, none⟩)) | 5 => jsFR b w hbw r | 6 => .val (.int .i64 (l.length : Int)) | 7 => newFR b w hbw | _ => .any) (jsS b s p k r) (by kernel_rfl) (by kernel_rfl) hP (fun h g => jsS_gr h g) (List.forall_mem_cons.2 ⟨?s0, List.forall_mem_cons.2 ⟨?s1, List.forall_mem_cons.2 ⟨?s2, List.forall_mem_cons.2 ⟨?s3, List.forall_mem_cons.2 ⟨?s4, List.forall_mem_cons.2 ⟨?s5, fun o ho => nomatch ho⟩⟩⟩⟩⟩⟩) ?e
  case s0 => exact .inl ⟨sr_fa 27 (.tmp 0) 4 2 (.pointer (some ⟨bv, 0, none⟩)) (.pointer (some ⟨bv, 4, none⟩)) rfl rfl rfl (.old 0 _ (by decide) e0) (fun w => by kernel_rfl) rfl, fun d hd => by cases hd; decide⟩
  case s1 => exact .inl ⟨sr_loadc 24 (.tmp 2) 3 bv 4 u rfl rfl rfl (fun w => by kernel_rfl) (.new 2 (by kernel_rfl) (by rw [hz]; decide)) hcu rfl, fun d hd => by cases hd; decide⟩
  case s2 => exact .inl ⟨sr_loadc 45 (.tmp 1) 4 bp 0 (.pointer (some ⟨b, 0, none⟩)) rfl rfl rfl (fun w => by kernel_rfl) (.old 1 _ (by decide) e1) hcb rfl, fun d hd => by cases hd; decide⟩
  case s3 =>
    refine .inr ⟨0, 5, rfl, rfl, .inl rfl, fun f a y c hS => ⟨wanted_none rfl _, op_callP 35 #[.tmp 4] #[45] rfl #[.pointer (some ⟨b, 0, none⟩)] (by simp [show a.eval (.tmp 4) = _ from (HasR.new (T := (fun | 2 => .val (.pointer (some ⟨bv, 4, none⟩)) | 3 => .val u | 4 => .val (.pointer (some ⟨b, 0, none⟩)) | 5 => jsFR b w hbw r | 6 => .val (.int .i64 (l.length : Int)) | 7 => newFR b w hbw | _ => .any)) 4 (by kernel_rfl) (by rw [hz]; decide)).get c]) (enters_of Tryd.func35 (by kernel_rfl) rfl) ((hval y c.grown hS).mono ?_)⟩⟩
    rintro e z ⟨hz1, hz2⟩
    cases hr : r with
    | ok j q =>
      rw [hr] at hz2
      obtain ⟨v, rfl, hJ, hP'⟩ := hz2
      refine .inl ⟨v, rfl, v, rfl, hz1, hP', fun d hd => ?_⟩
      cases hd
      show jsF w (.ok j q) v z
      exact hJ.mono fun k h1 h2 => ⟨Nat.le_trans c.grown.size h1, rfl⟩
    | bad q er =>
      rw [hr] at hz2
      refine .inr ⟨_, hz2, hbad _ _ _ _ hr c.over.defers ((c.grown.trans hz1).keepL (by simp) M)⟩
  case s4 => exact .inl ⟨sr_run 6 (.int .i64 (l.length : Int)) rfl rfl rfl fun f a y c => by
      have e2 : a.eval (.tmp 3) = u := (HasR.new (T := (fun | 2 => .val (.pointer (some ⟨bv, 4, none⟩)) | 3 => .val u | 4 => .val (.pointer (some ⟨b, 0, none⟩)) | 5 => jsFR b w hbw r | 6 => .val (.int .i64 (l.length : Int)) | 7 => newFR b w hbw | _ => .any)) 3 (by kernel_rfl) (by rw [hz]; decide)).get c
      show (execOp a.eval (Oper.mk _ (.call { callee := .builtin .len, args := #[.tmp 3], argTypes := #[24] }) _ _ _ _)).run Tryd.prog y = _
      unfold execOp
      simp only [resolve, invoke, builtin, Sem.run_bind, Sem.run_pure, Result.andThen_ok, List.map_toArray, List.map_cons, List.map_nil, e2, hu, len24], fun d hd => by cases hd; decide⟩
  case s5 => exact .inl ⟨sr_of 7 rfl rfl fun f a y c => by
      refine op_val (.slice (some ⟨y.heap.size, 0, none⟩) 1 1) (y := y.alloc (.cells zeroJ.toArray 27)) ?_ ⟨_, rfl, Gr.alloc _ _, y.heap.size, rfl, (0, 0), heap_alloc_new y _, by have := c.grown.size; omega⟩
      show (execOp a.eval (Oper.mk _ (.buildSlice 24 1 #[(0, .const (.agg zeroJ.toArray))]) _ _ _ _)).run Tryd.prog y = _
      unfold execOp
      simp only [List.map_toArray, List.map_cons, List.map_nil, Sem.run_bind, ev_const, bs24, Sem.run_pure, Result.andThen_ok], fun d hd => by cases hd; decide⟩
  case e =>
  intro ac x hA hR hS hf fuel listed hsz hfu hl1 hl2
  have x2 : ac.eval (.tmp 2) = .pointer (some ⟨bv, 4, none⟩) := hf 2 (by kernel_rfl) (by rw [hz]; decide)
  have x3 : ac.eval (.tmp 3) = u := hf 3 (by kernel_rfl) (by rw [hz]; decide)
  have x5 : jsF w r (ac.eval (.tmp 5)) x := hf 5 (by kernel_rfl) (by rw [hz]; decide)
  have x6 : ac.eval (.tmp 6) = .int .i64 (l.length : Int) := hf 6 (by kernel_rfl) (by rw [hz]; decide)
  obtain ⟨B, x7, fr, hB, _⟩ : newF w (ac.eval (.tmp 7)) x := hf 7 (by kernel_rfl) (by rw [hz]; decide)
  cases hr : r with
  | bad q er => rw [hr] at hS; exact hS.elim
  | ok j q =>
    rw [hr] at hS x5
    rw [lb_of hsz hl1 (fun j h1 h2 => hl2 j h1 (by exact h2))]
    refine elem_tail (m := 6) (by kernel_rfl) rfl rfl rfl rfl rfl 0 3 5 6 7 8 9 10 ⟨rfl, rfl, rfl⟩ ⟨rfl, rfl, rfl⟩ ⟨rfl, rfl, rfl⟩ ⟨rfl, rfl, rfl⟩ ⟨rfl, rfl, rfl⟩ (by kernel_rfl) ⟨(by rw [hA.size, hz]; decide), (by rw [hA.size, hz]; decide), (by rw [hA.size, hz]; decide)⟩ (hV.upd hR hne hb) (Nat.le_trans hM hR.size) hbv hn (j := j) (x5.mono fun k h1 h2 => ⟨⟨Nat.le_trans hM h1, fun e => ?_, fun e => ?_⟩, rfl⟩) ((hA.old 0 (by decide)).trans e0) x3 rfl x6 x7 hB ?_ fuel hfu
    · have := own_lt hV.own e; omega
    · have := own_lt hV.nown e; omega
    · intro ac' wz u' es' hA' hV' hK
      exact hok ac' wz j q u' es' hr (hA'.defers.trans hA.defers) hV' (hS.keep hK hb (fun e => hne e.symm)) ((hR.keepL (by simp) M).trans (hK.keepL (by simp)))
def q71_1 : Array Oper := #[{ dst := some 11, op := Op.fieldAddr 27 (Operand.tmp 0) 4, type := 0, pos := "parse.go:121", after := #[], guard := none }, { dst := some 12, op := Op.load 24 (Operand.tmp 11), type := 24, pos := "parse.go:121", after := #[{ on := 0, ground := Ground.data }], guard := none }, { dst := some 13, op := Op.load 45 (Operand.tmp 1), type := 45, pos := "parse.go:121", after := #[], guard := none }, { dst := some 14, op := Op.call { callee := Callee.value (Operand.func 35), args := #[Operand.tmp 13], argTypes := #[45] }, type := 27, pos := "parse.go:121", after := #[{ on := 2, ground := Ground.data }], guard := none }, { dst := some 15, op := Op.call { callee := Callee.builtin Builtin.len, args := #[Operand.tmp 12], argTypes := #[24] }, type := 3, pos := "parse.go:121", after := #[{ on := 1, ground := Ground.data }], guard := none }, { dst := some 16, op := Op.buildSlice 24 1 #[(0, Operand.const (Value.agg #[Value.int IntKind.i64 0, Value.bool false, Value.int IntKind.i64 0, Value.string { data := #[] }, Value.slice none 0 0, Value.slice none 0 0]))], type := 24, pos := "parse.go:121", after := #[], guard := none }, { dst := some 17, op := Op.call { callee := Callee.builtin Builtin.append, args := #[Operand.tmp 12, Operand.tmp 16], argTypes := #[24, 24] }, type := 24, pos := "parse.go:121", after := #[{ on := 1, ground := Ground.data }, { on := 5, ground := Ground.data }, { on := 3, ground := Ground.chain }, { on := 0, ground := Ground.phase }, { on := 1, ground := Ground.phase }, { on := 2, ground := Ground.phase }, { on := 3, ground := Ground.phase }, { on := 4, ground := Ground.phase }, { on := 5, ground := Ground.phase }], guard := none }, { dst := some 18, op := Op.indexAddr 24 (Operand.tmp 17) (Operand.tmp 15), type := 0, pos := "parse.go:121", after := #[{ on := 6, ground := Ground.data }, { on := 4, ground := Ground.data }, { on := 0, ground := Ground.phase }, { on := 1, ground := Ground.phase }, { on := 2, ground := Ground.phase }, { on := 3, ground := Ground.phase }, { on := 4, ground := Ground.phase }, { on := 5, ground := Ground.phase }, { on := 6, ground := Ground.phase }, { on := 10, ground := Ground.gcOnly Departure.appendInPlace }], guard := none }, { dst := none, op := Op.store 27 (Operand.tmp 18) (Operand.tmp 14), type := 0, pos := "parse.go:121", after := #[{ on := 7, ground := Ground.data }, { on := 3, ground := Ground.data }, { on := 6, ground := Ground.chain }, { on := 0, ground := Ground.phase }, { on := 1, ground := Ground.phase }, { on := 2, ground := Ground.phase }, { on := 3, ground := Ground.phase }, { on := 4, ground := Ground.phase }, { on := 5, ground := Ground.phase }, { on := 6, ground := Ground.phase }, { on := 10, ground := Ground.gcOnly Departure.appendInPlace }], guard := none }, { dst := some 19, op := Op.fieldAddr 27 (Operand.tmp 0) 4, type := 0, pos := "parse.go:121", after := #[{ on := 0, ground := Ground.phase }, { on := 1, ground := Ground.phase }, { on := 2, ground := Ground.phase }, { on := 3, ground := Ground.phase }, { on := 4, ground := Ground.phase }, { on := 5, ground := Ground.phase }, { on := 6, ground := Ground.phase }, { on := 7, ground := Ground.textOnly Departure.appendInPlace }, { on := 8, ground := Ground.textOnly Departure.appendInPlace }], guard := none }, { dst := none, op := Op.store 24 (Operand.tmp 19) (Operand.tmp 17), type := 0, pos := "parse.go:121", after := #[{ on := 9, ground := Ground.data }, { on := 6, ground := Ground.data }, { on := 6, ground := Ground.chain }, { on := 8, ground := Ground.textOnly Departure.appendInPlace }, { on := 0, ground := Ground.phase }, { on := 1, ground := Ground.phase }, { on := 2, ground := Ground.phase }, { on := 3, ground := Ground.phase }, { on := 4, ground := Ground.phase }, { on := 5, ground := Ground.phase }, { on := 6, ground := Ground.phase }, { on := 7, ground := Ground.textOnly Departure.appendInPlace }, { on := 8, ground := Ground.textOnly Departure.appendInPlace }], guard := none }]
set_option maxRecDepth 100000 in
set_option maxHeartbeats 1000000 in
theorem r71_1 {Q : Exit → Act → World → Prop} {a0 : Act} {w : World} (hz : a0.tmps.size = 20) {M bv b bp p k : Nat} {s : ByteArray} {kd : Int} {l : List J} {names : List (List UInt8)} {u nv : Value} {es : List (List Value)} {r : Res J}
    (hV : VIn M bv kd l names w u nv es) (hP : PAt w b s p k) (hbp : Holds w bp [.pointer (some ⟨b, 0, none⟩)] 45) (hM : M ≤ w.heap.size) (hb : b < M) (hbv : bv < M) (hpb : bp ≠ b) (hne : bv ≠ b) (hn : l.length ≤ 1099511627776)
    (hval : ∀ y, Upd b w y → PAt y b s p k → Calls Tryd.prog 35 #[.pointer (some ⟨b, 0, none⟩)] y (Done b s k y r (jsV y))) (e0 : a0.eval (.tmp 0) = .pointer (some ⟨bv, 0, none⟩)) (e1 : a0.eval (.tmp 1) = .pointer (some ⟨bp, 0, none⟩))
    (hok : ∀ ac wz j q u' es', r = .ok j q → ac.defers = a0.defers → VIn M bv kd (l ++ [j]) names wz u' nv es' → PAt wz b s q k → KeepL [b, bv] M w wz → Q .normal ac wz)
    (hbad : ∀ ac wz q er, r = .bad q er → ac.defers = a0.defers → KeepL [b, bv] M w wz → Q (.panic (faultV q er)) ac wz) : (Code.region 1 q71_1 true).wp Tryd.prog Q a0 w := by
  obtain ⟨ua, un, uc, hu⟩ := own_slice hV.own
  have hun : un = l.length := by
    rcases hV.own.2 with ⟨q, q0⟩ | ⟨g, cap, cur, q, _⟩
    · rw [hu] at q; cases q; exact q0.symm
    · rw [hu] at q; cases q; rfl
  subst hun
  have hbw : b < w.heap.size := hP.lt
  have hcu : ∀ y, Upd b w y → y.cell? ⟨bv, 4, none⟩ = some u := fun y hy => (hV.box.upd hy hne).at 4 _ rfl
  have hcb : ∀ y, Upd b w y → y.cell? ⟨bp, 0, none⟩ = some (.pointer (some ⟨b, 0, none⟩)) := fun y hy => (hbp.upd hy hpb).at 0 _ rfl
  refine drawn_star (R := Upd b) (fun h k => h.trans k) gr_upd (by kernel_rfl) (by kernel_rfl) (by kernel_rfl) 6 (by decide) (by kernel_rfl) (by kernel_rfl) [11, 12, 13, 14, 15, 16] [14] (by simp) (fun | 11 => .val (.pointer (some ⟨bv, 4, none⟩)) | 12 => .val u | 13 => .val (.pointer (some ⟨b, 0, none⟩)) | 14 => jsFR b w hbw r | 15 => .val (.int .i64 (l.length : Int)) | 16 => newFR b w hbw | _ => .any) (jsS b s p k r) (by kernel_rfl) (by kernel_rfl) hP (fun h g => jsS_gr h g) (List.forall_mem_cons.2 ⟨?s0, List.forall_mem_cons.2 ⟨?s1, List.forall_mem_cons.2 ⟨?s2, List.forall_mem_cons.2 ⟨?s3, List.forall_mem_cons.2 ⟨?s4, List.forall_mem_cons.2 ⟨?s5, fun o ho => nomatch ho⟩⟩⟩⟩⟩⟩) ?e
  case s0 => exact .inl ⟨sr_fa 27 (.tmp 0) 4 11 (.pointer (some ⟨bv, 0, none⟩)) (.pointer (some ⟨bv, 4, none⟩)) rfl rfl rfl (.old 0 _ (by decide) e0) (fun w => by kernel_rfl) rfl, fun d hd => by cases hd; decide⟩
  case s1 => exact .inl ⟨sr_loadc 24 (.tmp 11) 12 bv 4 u rfl rfl rfl (fun w => by kernel_rfl) (.new 11 (by kernel_rfl) (by rw [hz]; decide)) hcu rfl, fun d hd => by cases hd; decide⟩
  case s2 => exact .inl ⟨sr_loadc 45 (.tmp 1) 13 bp 0 (.pointer (some ⟨b, 0, none⟩)) rfl rfl rfl (fun w => by kernel_rfl) (.old 1 _ (by decide) e1) hcb rfl, fun d hd => by cases hd; decide⟩
  case s3 =>
    refine .inr ⟨0, 14, rfl, rfl, .inl rfl, fun f a y c hS => ⟨wanted_none rfl _, op_callP 35 #[.tmp 13] #[45] rfl #[.pointer (some ⟨b, 0, none⟩)] (by simp [show a.eval (.tmp 13) = _ from (HasR.new (T := (fun | 11 => .val (.pointer (some ⟨bv, 4, none⟩)) | 12 => .val u | 13 => .val (.pointer (some ⟨b, 0, none⟩)) | 14 => jsFR b w hbw r | 15 => .val (.int .i64 (l.length : Int)) | 16 => newFR b w hbw | _ => .any)) 13 (by kernel_rfl) (by rw [hz]; decide)).get c]) (enters_of Tryd.func35 (by kernel_rfl) rfl) ((hval y c.grown hS).mono ?_)⟩⟩
    rintro e z ⟨hz1, hz2⟩
    cases hr : r with
    | ok j q =>
      rw [hr] at hz2
      obtain ⟨v, rfl, hJ, hP'⟩ := hz2
      refine .inl ⟨v, rfl, v, rfl, hz1, hP', fun d hd => ?_⟩
      cases hd
      show jsF w (.ok j q) v z
      exact hJ.mono fun k h1 h2 => ⟨Nat.le_trans c.grown.size h1, rfl⟩
    | bad q er =>
      rw [hr] at hz2
      refine .inr ⟨_, hz2, hbad _ _ _ _ hr c.over.defers ((c.grown.trans hz1).keepL (by simp) M)⟩
  case s4 => exact .inl ⟨sr_run 15 (.int .i64 (l.length : Int)) rfl rfl rfl fun f a y c => by
      have e2 : a.eval (.tmp 12) = u := (HasR.new (T := (fun | 11 => .val (.pointer (some ⟨bv, 4, none⟩)) | 12 => .val u | 13 => .val (.pointer (some ⟨b, 0, none⟩)) | 14 => jsFR b w hbw r | 15 => .val (.int .i64 (l.length : Int)) | 16 => newFR b w hbw | _ => .any)) 12 (by kernel_rfl) (by rw [hz]; decide)).get c
      show (execOp a.eval (Oper.mk _ (.call { callee := .builtin .len, args := #[.tmp 12], argTypes := #[24] }) _ _ _ _)).run Tryd.prog y = _
      unfold execOp
      simp only [resolve, invoke, builtin, Sem.run_bind, Sem.run_pure, Result.andThen_ok, List.map_toArray, List.map_cons, List.map_nil, e2, hu, len24], fun d hd => by cases hd; decide⟩
  case s5 => exact .inl ⟨sr_of 16 rfl rfl fun f a y c => by
      refine op_val (.slice (some ⟨y.heap.size, 0, none⟩) 1 1) (y := y.alloc (.cells zeroJ.toArray 27)) ?_ ⟨_, rfl, Gr.alloc _ _, y.heap.size, rfl, (0, 0), heap_alloc_new y _, by have := c.grown.size; omega⟩
      show (execOp a.eval (Oper.mk _ (.buildSlice 24 1 #[(0, .const (.agg zeroJ.toArray))]) _ _ _ _)).run Tryd.prog y = _
      unfold execOp
      simp only [List.map_toArray, List.map_cons, List.map_nil, Sem.run_bind, ev_const, bs24, Sem.run_pure, Result.andThen_ok], fun d hd => by cases hd; decide⟩
  case e =>
  intro ac x hA hR hS hf fuel listed hsz hfu hl1 hl2
  have x2 : ac.eval (.tmp 11) = .pointer (some ⟨bv, 4, none⟩) := hf 11 (by kernel_rfl) (by rw [hz]; decide)
  have x3 : ac.eval (.tmp 12) = u := hf 12 (by kernel_rfl) (by rw [hz]; decide)
  have x5 : jsF w r (ac.eval (.tmp 14)) x := hf 14 (by kernel_rfl) (by rw [hz]; decide)
  have x6 : ac.eval (.tmp 15) = .int .i64 (l.length : Int) := hf 15 (by kernel_rfl) (by rw [hz]; decide)
  obtain ⟨B, x7, fr, hB, _⟩ : newF w (ac.eval (.tmp 16)) x := hf 16 (by kernel_rfl) (by rw [hz]; decide)
  cases hr : r with
  | bad q er => rw [hr] at hS; exact hS.elim
  | ok j q =>
    rw [hr] at hS x5
    rw [lb_of hsz hl1 (fun j h1 h2 => hl2 j h1 (by exact h2))]
    refine elem_tail (m := 6) (by kernel_rfl) rfl rfl rfl rfl rfl 0 12 14 15 16 17 18 19 ⟨rfl, rfl, rfl⟩ ⟨rfl, rfl, rfl⟩ ⟨rfl, rfl, rfl⟩ ⟨rfl, rfl, rfl⟩ ⟨rfl, rfl, rfl⟩ (by kernel_rfl) ⟨(by rw [hA.size, hz]; decide), (by rw [hA.size, hz]; decide), (by rw [hA.size, hz]; decide)⟩ (hV.upd hR hne hb) (Nat.le_trans hM hR.size) hbv hn (j := j) (x5.mono fun k h1 h2 => ⟨⟨Nat.le_trans hM h1, fun e => ?_, fun e => ?_⟩, rfl⟩) ((hA.old 0 (by decide)).trans e0) x3 rfl x6 x7 hB ?_ fuel hfu
    · have := own_lt hV.own e; omega
    · have := own_lt hV.nown e; omega
    · intro ac' wz u' es' hA' hV' hK
      exact hok ac' wz j q u' es' hr (hA'.defers.trans hA.defers) hV' (hS.keep hK hb (fun e => hne e.symm)) ((hR.keepL (by simp) M).trans (hK.keepL (by simp)))
def q71_0 : Array Oper := #[{ dst := some 3, op := Op.fieldAddr 27 (Operand.tmp 0) 5, type := 0, pos := "parse.go:120", after := #[], guard := none }, { dst := some 4, op := Op.load 25 (Operand.tmp 3), type := 25, pos := "parse.go:120", after := #[{ on := 0, ground := Ground.data }], guard := none }, { dst := some 5, op := Op.load 45 (Operand.tmp 1), type := 45, pos := "parse.go:120", after := #[], guard := none }, { dst := some 6, op := Op.load 53 (Operand.tmp 2), type := 53, pos := "parse.go:120", after := #[], guard := none }, { dst := some 7, op := Op.call { callee := Callee.value (Operand.func 72), args := #[Operand.tmp 5, Operand.tmp 6], argTypes := #[45, 53] }, type := 9, pos := "parse.go:120", after := #[{ on := 2, ground := Ground.data }, { on := 3, ground := Ground.data }], guard := none }, { dst := some 8, op := Op.buildSlice 25 1 #[(0, Operand.tmp 7)], type := 25, pos := "parse.go:120", after := #[{ on := 4, ground := Ground.data }], guard := none }, { dst := some 9, op := Op.call { callee := Callee.builtin Builtin.append, args := #[Operand.tmp 4, Operand.tmp 8], argTypes := #[25, 25] }, type := 25, pos := "parse.go:120", after := #[{ on := 1, ground := Ground.data }, { on := 5, ground := Ground.data }, { on := 4, ground := Ground.chain }], guard := none }, { dst := some 10, op := Op.fieldAddr 27 (Operand.tmp 0) 5, type := 0, pos := "parse.go:120", after := #[{ on := 0, ground := Ground.phase }, { on := 1, ground := Ground.phase }, { on := 2, ground := Ground.phase }, { on := 3, ground := Ground.phase }, { on := 4, ground := Ground.phase }, { on := 5, ground := Ground.phase }, { on := 6, ground := Ground.phase }], guard := none }, { dst := none, op := Op.store 25 (Operand.tmp 10) (Operand.tmp 9), type := 0, pos := "parse.go:120", after := #[{ on := 7, ground := Ground.data }, { on := 6, ground := Ground.data }, { on := 6, ground := Ground.chain }, { on := 0, ground := Ground.phase }, { on := 1, ground := Ground.phase }, { on := 2, ground := Ground.phase }, { on := 3, ground := Ground.phase }, { on := 4, ground := Ground.phase }, { on := 5, ground := Ground.phase }, { on := 6, ground := Ground.phase }], guard := none }]
set_option maxRecDepth 100000 in
set_option maxHeartbeats 1000000 in
theorem r71_0 {Q : Exit → Act → World → Prop} {a0 : Act} {w : World} (hz : a0.tmps.size = 20) {M bv b bp bm mb p k : Nat} {s : ByteArray} {kd : Int} {l : List J} {names : List (List UInt8)} {u nv : Value} {es : List (List Value)} {r : Res (List UInt8)}
    (hV : VIn M bv kd l names w u nv es) (hP : PAt w b s p k) (hm : NmsAt w mb names) (hbp : Holds w bp [.pointer (some ⟨b, 0, none⟩)] 45) (hbm : Holds w bm [.map (some mb)] 53) (hM : M ≤ w.heap.size) (hb : b < M) (hbv : bv < M) (hmb : mb < M) (hpb : bp ≠ b) (hne : bv ≠ b) (hbmb : bm ≠ b) (n1 : bp ≠ mb) (n2 : bv ≠ mb) (n3 : bm ≠ mb) (hn : names.length ≤ 1099511627776)
    (hnm : ∀ y, PAt y b s p k → NmsAt y mb names → Calls Tryd.prog 72 #[.pointer (some ⟨b, 0, none⟩), .map (some mb)] y (NameP b mb s k names y r)) (e0 : a0.eval (.tmp 0) = .pointer (some ⟨bv, 0, none⟩)) (e1 : a0.eval (.tmp 1) = .pointer (some ⟨bp, 0, none⟩)) (e2 : a0.eval (.tmp 2) = .pointer (some ⟨bm, 0, none⟩))
    (hok : ∀ ac wz nm q nv', r = .ok nm q → After [3, 4, 5, 6, 7, 8, 9, 10] a0 ac → VIn M bv kd l (names ++ [nm]) wz u nv' es → PAt wz b s q k → NmsAt wz mb (names ++ [nm]) → KeepL [b, bv, mb] M w wz → Q .normal ac wz)
    (hbad : ∀ ac wz q er, r = .bad q er → ac.defers = a0.defers → KeepL [b, bv, mb] M w wz → Q (.panic (faultV q er)) ac wz) : (Code.region 0 q71_0 true).wp Tryd.prog Q a0 w := by
  have hbw : b < w.heap.size := hP.lt
  have hmw : mb < w.heap.size := hm.lt
  have hcu : ∀ y, Up2 b mb w y → y.cell? ⟨bv, 5, none⟩ = some nv := fun y hy => (hV.box.up2 hy hne n2).at 5 _ rfl
  have hcb : ∀ y, Up2 b mb w y → y.cell? ⟨bp, 0, none⟩ = some (.pointer (some ⟨b, 0, none⟩)) := fun y hy => (hbp.up2 hy hpb n1).at 0 _ rfl
  have hcm : ∀ y, Up2 b mb w y → y.cell? ⟨bm, 0, none⟩ = some (.map (some mb)) := fun y hy => (hbm.up2 hy hbmb n3).at 0 _ rfl
  refine drawn_ph (R := Up2 b mb) (fun h k => h.trans k) (fun h => (gr_upd h).two) (by kernel_rfl) (by kernel_rfl) (by kernel_rfl) 6 (by decide) (by kernel_rfl) (by kernel_rfl) [3, 4, 5, 6, 7, 8] [7] (by simp) (fun | 3 => .val (.pointer (some ⟨bv, 5, none⟩)) | 4 => .val nv | 5 => .val (.pointer (some ⟨b, 0, none⟩)) | 6 => .val (.map (some mb)) | 7 => nmFR b mb r | 8 => nmNR b mb w hbw hmw r | _ => .any) (nmS b mb s p k names r) (by kernel_rfl) (by kernel_rfl) ⟨hP, hm⟩ (fun h g => nmS_gr h g) (List.forall_mem_cons.2 ⟨?s0, List.forall_mem_cons.2 ⟨?s1, List.forall_mem_cons.2 ⟨?s2, List.forall_mem_cons.2 ⟨?s3, List.forall_mem_cons.2 ⟨?s4, List.forall_mem_cons.2 ⟨?s5, fun o ho => nomatch ho⟩⟩⟩⟩⟩⟩) ?e
  case s0 => exact .inl ⟨sr_fa 27 (.tmp 0) 5 3 (.pointer (some ⟨bv, 0, none⟩)) (.pointer (some ⟨bv, 5, none⟩)) rfl rfl rfl (.old 0 _ (by decide) e0) (fun w => by kernel_rfl) rfl, fun d hd => by cases hd; decide⟩
  case s1 => exact .inl ⟨sr_loadc 25 (.tmp 3) 4 bv 5 nv rfl rfl rfl (fun w => by kernel_rfl) (.new 3 (by kernel_rfl) (by rw [hz]; decide)) hcu rfl, fun d hd => by cases hd; decide⟩
  case s2 => exact .inl ⟨sr_loadc 45 (.tmp 1) 5 bp 0 (.pointer (some ⟨b, 0, none⟩)) rfl rfl rfl (fun w => by kernel_rfl) (.old 1 _ (by decide) e1) hcb rfl, fun d hd => by cases hd; decide⟩
  case s3 => exact .inl ⟨sr_loadc 53 (.tmp 2) 6 bm 0 (.map (some mb)) rfl rfl rfl (fun w => by kernel_rfl) (.old 2 _ (by decide) e2) hcm rfl, fun d hd => by cases hd; decide⟩
  case s4 =>
    refine .inr ⟨0, 7, rfl, rfl, .inl rfl, fun f a y c hS => ⟨wanted_none rfl _, op_callP 72 #[.tmp 5, .tmp 6] #[45, 53] rfl #[.pointer (some ⟨b, 0, none⟩), .map (some mb)] (by simp [show a.eval (.tmp 5) = _ from (HasR.new (T := (fun | 3 => .val (.pointer (some ⟨bv, 5, none⟩)) | 4 => .val nv | 5 => .val (.pointer (some ⟨b, 0, none⟩)) | 6 => .val (.map (some mb)) | 7 => nmFR b mb r | 8 => nmNR b mb w hbw hmw r | _ => .any)) 5 (by kernel_rfl) (by rw [hz]; decide)).get c, show a.eval (.tmp 6) = _ from (HasR.new (T := (fun | 3 => .val (.pointer (some ⟨bv, 5, none⟩)) | 4 => .val nv | 5 => .val (.pointer (some ⟨b, 0, none⟩)) | 6 => .val (.map (some mb)) | 7 => nmFR b mb r | 8 => nmNR b mb w hbw hmw r | _ => .any)) 6 (by kernel_rfl) (by rw [hz]; decide)).get c]) (enters_of Tryd.func72 (by kernel_rfl) rfl) ((hnm y hS.1 hS.2).mono ?_)⟩⟩
    rintro e z ⟨hz1, hz2⟩
    cases hr : r with
    | ok j q =>
      rw [hr] at hz2
      obtain ⟨rfl, hP', hm'⟩ := hz2
      refine .inl ⟨_, rfl, _, rfl, hz1, ⟨hP', hm'⟩, fun d hd => ?_⟩
      cases hd
      show nmF (.ok j q) _ z
      rfl
    | bad q er =>
      rw [hr] at hz2
      refine .inr ⟨_, hz2, hbad _ _ _ _ hr c.over.defers ((c.grown.trans hz1).keepL (by simp) (by simp) M)⟩
  case s5 => exact .inl ⟨sr_of 8 rfl rfl fun f a y c => by
      have hx : nmF r (a.eval (.tmp 7)) y := (HasR.new (T := (fun | 3 => .val (.pointer (some ⟨bv, 5, none⟩)) | 4 => .val nv | 5 => .val (.pointer (some ⟨b, 0, none⟩)) | 6 => .val (.map (some mb)) | 7 => nmFR b mb r | 8 => nmNR b mb w hbw hmw r | _ => .any)) 7 (by kernel_rfl) (by rw [hz]; decide)).get c
      have hx2 : ∃ s, a.eval (.tmp 7) = .string s := by
        cases hr : r with
        | ok j q => rw [hr] at hx; exact ⟨_, hx⟩
        | bad q er => rw [hr] at hx; exact hx
      obtain ⟨sx, hsx⟩ := hx2
      refine op_val (.slice (some ⟨y.heap.size, 0, none⟩) 1 1) (y := y.alloc (.cells #[.string sx] 9)) ?_ ⟨_, rfl, Gr.alloc _ _, y.heap.size, rfl, sx, heap_alloc_new y _, (by have := c.grown.size; omega), ?_⟩
      · show (execOp a.eval (Oper.mk _ (.buildSlice 25 1 #[(0, .tmp 7)]) _ _ _ _)).run Tryd.prog y = _
        unfold execOp
        simp only [List.map_toArray, List.map_cons, List.map_nil, Sem.run_bind, hsx, bs25, Sem.run_pure, Result.andThen_ok]
      · intro nm q hr
        rw [hr] at hx
        rw [hsx] at hx
        cases hx; rfl, fun d hd => by cases hd; decide⟩
  case e =>
  intro ac x hA hR hS hf
  have x3 : ac.eval (.tmp 4) = nv := hf 4 (by kernel_rfl) (by rw [hz]; decide)
  obtain ⟨B, x7, sx, hB, _, hsx⟩ : nmN w r (ac.eval (.tmp 8)) x := hf 8 (by kernel_rfl) (by rw [hz]; decide)
  cases hr : r with
  | bad q er => rw [hr] at hS; exact hS.elim
  | ok nm q =>
    rw [hr] at hS
    have hsx := hsx nm q hr
    subst hsx
    have hVx := hV.up2 hR hne n2 hb hmb
    have hMx := Nat.le_trans hM hR.size
    obtain ⟨i, i1, i2, i3, i4⟩ := inf9
    have und25' : Tryd.prog.underlying 25 = some (.slice 9) := und25
    refine wpList_append_lies x rfl (.tmp 4) (.tmp 8) 25 rfl M 9 i (.string ⟨#[]⟩) 1 16 und25' i1 i2 i3 i4 rfl (by omega) nv names.length (names.map strV1) x3 hVx.nown ⟨B, 0, none⟩ 1 1 [strV1 nm] x7 rfl (World.news_of_block hB) (by intro x hx; simp at hx; subst hx; rfl) (by omega) (by unfold maxLen; omega) (by omega) hMx x.heap.size rfl ?_
    intro g cap w1 hown hgr hat hlt
    have hMg : M ≤ g := own_base hown g rfl
    have hnb : ∀ k, nv.ownBlock = some k → M ≤ k := fun k hk => own_base hVx.nown k hk
    have hbox : Holds w1 bv (boxV kd u nv) 27 := (hgr.block bv hVx.box.lt (fun e => by have := hnb bv e.symm; omega)).trans hVx.box
    have hAz : (ac.put (some 9) (.slice (some ⟨g, 0, none⟩) (names.length + 1) cap)).tmps.size = 20 := by rw [put_size, hA.size, hz]
    have y0 : (ac.put (some 9) (.slice (some ⟨g, 0, none⟩) (names.length + 1) cap)).eval (.tmp 0) = .pointer (some ⟨bv, 0, none⟩) := (ev_put (by rw [hA.size, hz]; decide)).trans ((if_neg (by decide)).trans ((hA.old 0 (by decide)).trans e0))
    have y9 : (ac.put (some 9) (.slice (some ⟨g, 0, none⟩) (names.length + 1) cap)).eval (.tmp 9) = .slice (some ⟨g, 0, none⟩) (names.length + 1) cap := (ev_put (by rw [hA.size, hz]; decide)).trans (if_pos rfl)
    refine wl_of rfl (op_fa 27 (.tmp 0) 5 _ (.pointer (some ⟨bv, 5, none⟩)) rfl y0 (fun w => by kernel_rfl) ?_)
    have hAf : After [10, 9, 3, 4, 5, 6, 7, 8] a0 ((ac.put (some 9) (.slice (some ⟨g, 0, none⟩) (names.length + 1) cap)).put (some 10) (.pointer (some ⟨bv, 5, none⟩))) := (hA.put 9 _).put 10 _
    have z10 : ((ac.put (some 9) (.slice (some ⟨g, 0, none⟩) (names.length + 1) cap)).put (some 10) (.pointer (some ⟨bv, 5, none⟩))).eval (.tmp 10) = .pointer (some ⟨bv, 5, none⟩) := (ev_put (by rw [hAz]; decide)).trans (if_pos rfl)
    have z9 : ((ac.put (some 9) (.slice (some ⟨g, 0, none⟩) (names.length + 1) cap)).put (some 10) (.pointer (some ⟨bv, 5, none⟩))).eval (.tmp 9) = .slice (some ⟨g, 0, none⟩) (names.length + 1) cap := (ev_put (by rw [hAz]; decide)).trans ((if_neg (by decide)).trans y9)
    generalize (ac.put (some 9) (.slice (some ⟨g, 0, none⟩) (names.length + 1) cap)).put (some 10) (.pointer (some ⟨bv, 5, none⟩)) = az at hAf z10 z9 ⊢
    refine wl_of rfl (op_store1 25 (.tmp 10) (.tmp 9) rfl bv 5 z10 _ z9 rfl rfl size25 (hbox.at 5 _ rfl) (hbox.frozen 5) ?_)
    have hT := turned_set hbox 5 (.slice (some ⟨g, 0, none⟩) (names.length + 1) cap)
    exact names_more hV hR hgr hT hb hbv hmb hne n2 hown hat hS (hok _ _ nm q _ hr (hAf.mono (by decide)))
end Go.Proofs.YtogippkapadolaaDoor

/- What stands in brackets, in plain words. -/
namespace Go.Proofs.YtogippkapadolaaDoor
open Go.RowKit

theorem bin_neq8 {P : Program} {t : TypeId} (c d : UInt8) : ∀ w, (binOp .neq t (.int .u8 (c.toNat : Int)) (.int .u8 (d.toNat : Int))).run P w = .ok (.bool (c != d)) w := by
  intro w
  have := u8_eq c d
  simp only [bne, ← this]
  rfl
/-- Each step goes on, and not past the end. -/
def Goes {σ : Type} (L : List UInt8) (step : σ → Nat → Res σ) : Prop := ∀ x q y q', q ≤ L.length → step x q = .ok y q' → q < q' ∧ q' ≤ L.length
theorem each_fuel {σ : Type} {L : List UInt8} {step : σ → Nat → Res σ} (hg : Goes L step) : ∀ (n f f' q : Nat) (x : σ), L.length + 1 - q ≤ n → q ≤ L.length → L.length + 1 - q ≤ f → L.length + 1 - q ≤ f' → eachL L step f x q = eachL L step f' x q
  | 0, f, f', q, x, h1, h2, _, _ => by omega
  | n + 1, f, f', q, x, h1, h2, h3, h4 => by
    obtain ⟨g, rfl⟩ : ∃ g, f = g + 1 := ⟨f - 1, by omega⟩
    obtain ⟨g', rfl⟩ : ∃ g', f' = g' + 1 := ⟨f' - 1, by omega⟩
    rw [eachL, eachL]
    by_cases h : hereP L (nextP L q) = 44
    · rw [if_pos h, if_pos h]
      have hl : nextP L q < L.length := here_lt (by rw [h]; decide)
      have hge := next_ge h2
      cases hs : step x (nextP L q + 1) with
      | bad a b => rfl
      | ok y q' =>
        have := hg _ _ _ _ (by omega) hs
        exact each_fuel hg n g g' q' y (by omega) (by omega) (by omega) (by omega)
    · rw [if_neg h, if_neg h]
theorem each_go {σ : Type} {L : List UInt8} {step : σ → Nat → Res σ} (hg : Goes L step) {x y : σ} {q q' : Nat} (h2 : q ≤ L.length) (h : hereP L (nextP L q) = 44) (hs : step x (nextP L q + 1) = .ok y q') : eachL L step (L.length + 1 - q) x q = eachL L step (L.length + 1 - q') y q' := by
  obtain ⟨g, hgq⟩ : ∃ g, L.length + 1 - q = g + 1 := ⟨L.length - q, by omega⟩
  have hl : nextP L q < L.length := here_lt (by rw [h]; decide)
  have hge := next_ge h2
  have := hg _ _ _ _ (by omega) hs
  rw [hgq, eachL, if_pos h, hs]
  exact each_fuel hg (L.length + 1 - q') g _ q' y (Nat.le_refl _) (by omega) (by omega) (Nat.le_refl _)
theorem each_bad {σ : Type} {L : List UInt8} {step : σ → Nat → Res σ} {x : σ} {q p : Nat} {e : Int} (h2 : q ≤ L.length) (h : hereP L (nextP L q) = 44) (hs : step x (nextP L q + 1) = .bad p e) : eachL L step (L.length + 1 - q) x q = .bad p e := by
  obtain ⟨g, hgq⟩ : ∃ g, L.length + 1 - q = g + 1 := ⟨L.length - q, by omega⟩
  rw [hgq, eachL, if_pos h, hs]; rfl
theorem each_stop {σ : Type} {L : List UInt8} {step : σ → Nat → Res σ} {x : σ} {q : Nat} (h2 : q ≤ L.length) (h : ¬ hereP L (nextP L q) = 44) : eachL L step (L.length + 1 - q) x q = .ok x (nextP L q) := by
  obtain ⟨g, hgq⟩ : ∃ g, L.length + 1 - q = g + 1 := ⟨L.length - q, by omega⟩
  rw [hgq, eachL, if_neg h]
def eachM {σ : Type} (L : List UInt8) (step : σ → Nat → Res σ) (t : Bool) (x : σ) (p : Nat) : Res σ := if t = true then (step x p).bind fun y q => eachL L step (L.length + 1 - q) y q else .ok x p
/-- What the taking of one thing comes to. -/
def Took {σ : Type} (Ls : List Nat) (M b : Nat) (s : ByteArray) (k : Nat) (Inv : σ → World → Prop) (w : World) (r : Res σ) : Ending → World → Prop := fun e z => KeepL Ls M w z ∧ match r with
  | .ok x q => e = .returned (.tuple #[]) ∧ PAt z b s q (k + 1) ∧ Inv x z
  | .bad q er => e = .panicked (faultV q er)
end Go.Proofs.YtogippkapadolaaDoor
