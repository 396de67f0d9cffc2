/- RgRcO, RgRcE. -/
import Derived.Test.YthmnjebmnocoiaaGreatYA4
import Derived.Test.YthmnjebmnocoiaaGreatYA2
import Derived.Test.YthmnjebmnocoiaaGreatYE1
/- What the document's own Owned answers. -/
namespace Go.Proofs.YthmnjebmnocoiaaGreat
open Go.RowKit
def ownedTo (o : List Int) (node : Int) (k : Nat) : List Int := ((List.range k).filter fun i => decide (o.getD i 0 = node ∧ 0 < node)).map fun n => ((n : Nat) : Int)
def ownedL (o : List Int) (node : Int) : List Int := ownedTo o node 8
theorem ownedTo_succ (o : List Int) (node : Int) (k : Nat) : ownedTo o node (k + 1) = ownedTo o node k ++ (if o.getD k 0 = node ∧ 0 < node then [(k : Int)] else []) := by
  unfold ownedTo
  rw [List.range_succ, List.filter_append, List.map_append]
  congr 1
  by_cases h : o.getD k 0 = node ∧ 0 < node
  · rw [if_pos h, List.filter_cons_of_pos (by simpa using h)]; rfl
  · rw [if_neg h, List.filter_cons_of_neg (by simpa using h)]; rfl
theorem ownedTo_len (o : List Int) (node : Int) (k : Nat) : (ownedTo o node k).length ≤ k := by
  unfold ownedTo
  rw [List.length_map]
  exact Nat.le_trans (List.length_filter_le ..) (by simp)
set_option maxRecDepth 100000 in
set_option maxHeartbeats 1000000 in
theorem rowned_any (o : List Int) (ho : o.length = 8) (node : Int) (w : World) :
    Calls Tryz.prog 45 #[.agg (intV o).toArray, .int .i64 node] w fun e w' => ∃ v, e = .returned v ∧ w'.ownsRow w.heap.size 3 1 v (ownedL o node).length (intV (ownedL o node)) ∧ Below w.heap.size w w' := by
  obtain ⟨n, hn⟩ : ∃ n, w.heap.size = n := ⟨_, rfl⟩
  rw [hn]
  obtain ⟨i3, f3, hz3, hs3, hb3⟩ := inf3
  have F3 : Hid (Tryz.prog.info? 3 = some i3) := f3
  have HO : Hid (o.length = 8) := ho
  clear f3 ho
  go_enter Tryz.func45, Tryz.ntmps45
  go_wp2_with (first
    | (refine wpList_box_new 2 rfl rfl 43 _ rfl n hn _ rfl ?_; intro w1 h1))
  obtain ⟨h1o, h1s, h1h, h1b⟩ := h1
  have HB1 : Hid (Below n w w1) := h1b
  have HH : Hid (Holds w1 n (intV o) 43) := h1h
  clear h1h h1b h1o
  go_loopw [5, 6] (fun v c wr => ∃ k : Nat, k ≤ 8 ∧ c = .int .i64 (k : Int) ∧ wr.ownsRow (n + 1) 3 1 v (ownedTo o node k).length (intV (ownedTo o node k)) ∧ Below (n + 1) w1 wr) (fun _ c _ => 8 - (intOf c).toNat)
  case atStart => exact ⟨0, by omega, rfl, World.ownsRow_nil _ _ _ _, Below.refl _ _⟩
  case round =>
  obtain ⟨k, hk, rfl, hown, hB⟩ := hrel
  by_cases hlt : k < 8
  · have hcell : wr.cell? ⟨n, k, none⟩ = some (.int .i64 (o.getD k 0)) := (HH.out.below hB (by omega)).at k _ (intV_at o k (by rw [HO.out]; exact hlt))
    have hstep := ownedTo_succ o node k
    have hlen := ownedTo_len o node k
    generalize o.getD k 0 = x at hcell hstep
    generalize ownedTo o node k = L at hown hlen hstep
    obtain ⟨at_, ct, rfl⟩ := row_slice hown
    have i0 : (0 : Int) ≤ (k : Int) := by omega
    have i1 : (k : Int) < 8 := by omega
    have HOW : Hid (wr.ownsRow (n + 1) 3 1 (.slice at_ L.length ct) L.length (intV L)) := hown
    have HB : Hid (Below (n + 1) w1 wr) := hB
    have hsz : n + 1 ≤ wr.heap.size := by have := hB.size; omega
    clear hown hB
    by_cases hn0 : 0 < node
    · by_cases hxe : x = node
      · have hxb : (x == node) = true := by simpa using hxe
        have hst : Hid (ownedTo o node (k + 1) = L ++ [(k : Int)]) := by
          show _ = _
          rw [hstep, if_pos ⟨hxe, hn0⟩]
        have HNC : Hid (∀ (j : Nat) (u : Value), [Value.int .i64 (k : Int)][j]? = some u → (wr.alloc (.cells #[.int .i64 (k : Int)] 3)).cell? (Addr.add ⟨wr.heap.size, 0, none⟩ j) = some u) := fun j u hu => World.news_of_block (heap_alloc_new wr _) j u hu
        clear hstep hxe
        go_wp2_with (first
          | (at_builtin; refine wpList_append_src rfl (.tmp 20) (.tmp 22) 30 rfl (n + 1) 3 i3 _ 1 8 und24 F3.out hz3 hs3 hb3 (by rfl) (by omega) _ _ _ (HOW.out.alloc _) rfl [.int .i64 (k : Int)] _ 1 1 rfl (by rfl) (fun _ => ⟨_, rfl, fun j u hu => HNC.out j u hu⟩) (fun u hu => by simp at hu; subst hu; rfl) (by unfold maxLen; omega) (by omega) (by simp; omega) ?_; intro v3 w3 own3 gr3 _))
        have e3 : intV L ++ [.int .i64 (k : Int)] = intV (ownedTo o node (k + 1)) := by rw [hst.out]; simp [intV]
        have l3 : L.length + 1 = (ownedTo o node (k + 1)).length := by rw [hst.out]; simp
        rw [e3, l3] at own3
        exact ⟨⟨k + 1, by omega, by go_num, own3, (HB.out.trans ((Below.refl _ _).alloc hsz _)).grown gr3 (by simp; omega) (fun j e => own3_base HOW.out j e)⟩, by simp [intOf]; omega⟩
      · have hxb : (x == node) = false := by simpa using hxe
        have hst : Hid (ownedTo o node (k + 1) = L) := by
          show _ = _
          rw [hstep, if_neg (fun q => hxe q.1), List.append_nil]
        clear hstep
        go_wp2
        exact ⟨⟨k + 1, by omega, by go_num, by rw [hst.out]; exact HOW.out, HB.out⟩, by simp [intOf]; omega⟩
    · have hst : Hid (ownedTo o node (k + 1) = L) := by
        show _ = _
        rw [hstep, if_neg (fun q => hn0 q.2), List.append_nil]
      clear hstep
      go_wp2
      exact ⟨⟨k + 1, by omega, by go_num, by rw [hst.out]; exact HOW.out, HB.out⟩, by simp [intOf]; omega⟩
  · have e8 : k = 8 := by omega
    subst e8
    have HLe : Hid (ownedTo o node 8 = ownedL o node) := rfl
    rw [HLe.out] at hown
    generalize hL : ownedL o node = L at hown
    have HL : Hid (ownedL o node = L) := hL
    obtain ⟨at_, ct, rfl⟩ := row_slice hown
    have HOW : Hid (wr.ownsRow (n + 1) 3 1 (.slice at_ L.length ct) L.length (intV L)) := hown
    have HB : Hid (Below (n + 1) w1 wr) := hB
    clear hown hB hlt hL
    go_wp2
    go_ret
    rw [HL.out]
    exact ⟨_, rfl, row_base HOW.out (by omega), HB1.out.trans (HB.out.mono (by omega))⟩
end Go.Proofs.YthmnjebmnocoiaaGreat

/- What the document's own functions of the ring want besides: appends of lists, slices of slices, lengths. -/
namespace Go.Proofs.YthmnjebmnocoiaaGreat.En
open Go.RowKit
variable {ops : Array Oper} {Q : Exit → Act → World → Prop}
theorem range_of {w : World} {b : Nat} {l : List Value} {t : TypeId} (h : Holds w b l t) : w.rangeAt b 0 l := h.range 0 l (fun j v hv => by rw [Nat.zero_add]; exact hv)
def oneF (x : Int) : Fact := ⟨fun v y => ∃ g, v = .slice (some ⟨g, 0, none⟩) 1 1 ∧ Holds y g [.int .i64 x] 3, fun ⟨g, h1, h2⟩ k => ⟨g, h1, h2.below k h2.lt⟩⟩
theorem bs24 (x : Int) (y : World) : ∃ q z, (Instr.buildSlice 30 1 #[(0, .int .i64 x)]).run Tryz.prog y = .ok q z ∧ Gr y z ∧ (oneF x).holds q z :=
  ⟨.slice (some ⟨y.heap.size, 0, none⟩) 1 1, y.alloc (.cells #[.int .i64 x] 3), by kernel_rfl, Gr.alloc _ _, y.heap.size, rfl, heap_alloc_new _ _⟩
theorem After.keep {D : List Nat} {a0 a : Act} (h : After D a0 a) {L : Nat} (hD : (D.all fun s => decide (L ≤ s)) = true) {s : Nat} (hs : s < L) {v : Value} (e : a0.eval (.tmp s) = v) : a.eval (.tmp s) = v :=
  (h.old s (fun q => by have := List.all_eq_true.1 hD s q; simp at this; omega)).trans e
theorem owns_gr {w w' : World} {base : Nat} {e : TypeId} {size : Nat} {v : Value} {n : Nat} {xs : List Value} (h : w.ownsRow base e size v n xs) (hg : Gr w w') : w'.ownsRow base e size v n xs := by
  obtain ⟨h1, h2 | ⟨g, cap, cur, rfl, hb, hgg, r⟩⟩ := h
  · exact ⟨h1, .inl h2⟩
  · exact ⟨h1, .inr ⟨g, cap, cur, rfl, hb, (hg.block g (Array.getElem?_eq_some_iff.1 hgg).1).trans hgg, r⟩⟩
theorem grown_below {w w' : World} {B : Nat} {ob : Option Nat} (h : w.grownBy w' ob) (hB : B ≤ w.heap.size) (hb : ∀ j, ob = some j → B ≤ j) : Below B w w' := (Below.refl B w).grown h hB hb
theorem ints_at {B : Nat} {w : World} {v : Value} {l : List Int} (h : Ints B w v l) (k : Nat) (hk : k < l.length) : ∃ g of cap, v = .slice (some ⟨g, of, none⟩) l.length cap ∧ g < B ∧ w.cell? ⟨g, of + k, none⟩ = some (.int .i64 (l.getD k 0)) := by
  obtain ⟨a, cap, rfl, _, h0 | ⟨g, of, rfl, hg, hc⟩⟩ := h
  · omega
  · exact ⟨g, of, cap, rfl, hg, hc k hk⟩
theorem cell_below {B : Nat} {x y : World} (h : Below B x y) {g k : Nat} (hg : g < B) {v : Value} (hc : x.cell? ⟨g, k, none⟩ = some v) : y.cell? ⟨g, k, none⟩ = some v := by
  rw [← hc]
  simp only [World.cell?, h.block g hg]
theorem wpl_app {rest : List Oper} {o : Oper} {a : Act} {w : World} (hgd : o.guard = none) (s x : Operand) (ho : o.op = .call { callee := .builtin .append, args := #[s, x], argTypes := #[30, 30] }) (M : Nat) (v : Value) (L R : List Int) (hown : w.ownsRow M 3 1 v L.length (intV L)) (hs : a.eval s = v) (B : Nat) (vx : Value) (hx : a.eval x = vx) (hR : Ints B w vx R) (hb : L.length + R.length ≤ 17592186043904) (hM : M ≤ w.heap.size)
    (h : ∀ v' w', w'.ownsRow M 3 1 v' (L ++ R).length (intV (L ++ R)) → Below M w w' → wpList Tryz.prog ops Q rest (a.put o.dst v') w') : wpList Tryz.prog ops Q (o :: rest) a w := by
  obtain ⟨i3, f3, hz3, hs3, hb3⟩ := inf3
  obtain ⟨ad, cap, rfl, hcap, hc⟩ := hR
  refine wpList_append_src hgd s x 30 ho M 3 i3 _ 1 8 und24 f3 hz3 hs3 hb3 (by rfl) (by omega) v L.length (intV L) hown hs (intV R) ad R.length cap hx (by rw [intV_len, Nat.mul_one]) (fun h0 => ?_) (intV_one R) (by unfold maxLen; omega) (by omega) hM ?_
  · rcases hc with h1 | ⟨g, of, rfl, hg, hcell⟩
    · omega
    · refine ⟨_, rfl, fun j u hu => ?_⟩
      have hj : j < R.length := by
        have := (List.getElem?_eq_some_iff.1 hu).1
        rwa [intV_len] at this
      rw [intV_at R j hj] at hu
      cases hu
      rw [Addr.add_mid]
      exact hcell j hj
  · intro v' w' own gr _
    rw [← intV_append] at own
    refine h v' w' ?_ (grown_below gr hM (fun j e => own3_base hown j e))
    rw [List.length_append]
    exact own
theorem oneF_ints {x : Int} {v : Value} {y : World} (h : (oneF x).holds v y) : Ints y.heap.size y v [x] := by
  obtain ⟨g, rfl, hh⟩ := h
  refine ⟨_, _, rfl, Nat.le_refl _, Or.inr ⟨g, 0, rfl, hh.lt, fun j hj => ?_⟩⟩
  obtain rfl : j = 0 := by simp at hj; omega
  exact hh.at 0 _ rfl
section
variable {P : Program} {D : List Nat} {T : Nat → Fact} {a0 : Act} {w : World} {o : Oper}
theorem sa_to (t : TypeId) (u v : Operand) (d : Nat) (s r q : Value) (ho : o.op = .slice t u none (some v) none) (hd : o.dst = some d) (hg : o.guard = none) (h1 : Has ops D T a0 o u (Fact.val s)) (h2 : Has ops D T a0 o v (Fact.val r)) (hr : ∀ w, (Instr.sliceAt t s none (some r) none).run P w = .ok q w) (hT : T d = Fact.val q) : StepAt P ops D T a0 w Q o :=
  sa_of d hd hg fun f a y c => by
    have e1 : a.eval u = s := h1.get c
    have e2 : a.eval v = r := h2.get c
    refine op_val q (y := y) ?_ ⟨_, rfl, Gr.refl _, by rw [hT]; rfl⟩
    unfold execOp
    simp only [ho, Option.map_none, Option.map_some, e1, e2, Sem.run_bind, hr, Sem.run_pure, Result.andThen_ok]
theorem sa_from (t : TypeId) (u v : Operand) (d : Nat) (s r q : Value) (ho : o.op = .slice t u (some v) none none) (hd : o.dst = some d) (hg : o.guard = none) (h1 : Has ops D T a0 o u (Fact.val s)) (h2 : Has ops D T a0 o v (Fact.val r)) (hr : ∀ w, (Instr.sliceAt t s (some r) none none).run P w = .ok q w) (hT : T d = Fact.val q) : StepAt P ops D T a0 w Q o :=
  sa_of d hd hg fun f a y c => by
    have e1 : a.eval u = s := h1.get c
    have e2 : a.eval v = r := h2.get c
    refine op_val q (y := y) ?_ ⟨_, rfl, Gr.refl _, by rw [hT]; rfl⟩
    unfold execOp
    simp only [ho, Option.map_none, Option.map_some, e1, e2, Sem.run_bind, hr, Sem.run_pure, Result.andThen_ok]
def lenF (n : Nat) : Fact := ⟨fun v _ => ∃ a c, v = .slice a n c, fun h _ => h⟩
theorem sa_lenF (t : TypeId) (u : Operand) (d n : Nat) (ho : o.op = .call { callee := .builtin .len, args := #[u], argTypes := #[t] }) (hd : o.dst = some d) (hg : o.guard = none) (h1 : Has ops D T a0 o u (lenF n)) (hr : ∀ a c y, (Builtin.len_ #[t] o.type #[.slice a n c]).run P y = .ok (.int .i64 (n : Int)) y) (hT : T d = Fact.val (.int .i64 (n : Int))) : StepAt P ops D T a0 w Q o :=
  sa_of d hd hg fun f a y c => by
    obtain ⟨ad, cp, e⟩ := h1.get c
    refine op_val (.int .i64 (n : Int)) ?_ ⟨_, rfl, Gr.refl _, by rw [hT]; rfl⟩
    unfold execOp
    simp only [ho, resolve, invoke, builtin, Sem.run_bind, Sem.run_pure, Result.andThen_ok, List.map_toArray, List.map_cons, List.map_nil, e, hr]
theorem so_guardU (k d : Nat) (b : Bool) (hk : o.guard = some (k, b)) (hd : (ops[k]?).bind (·.dst) = some d) (hn : needsB ops o d = true) (hs : d < a0.tmps.size) (hT : T d = Fact.val undef) (hany : ∀ d, o.dst = some d → T d = Fact.val undef) : StepAt P ops D T a0 w Q o := fun f a x c => by
  refine .inr ⟨?_, fun d' hd' => by rw [hany d' hd']; rfl⟩
  obtain ⟨v, hf, hv⟩ := c.needs d hn
  rw [hT] at hv
  have hv : v = undef := hv
  subst hv
  have h1 := c.over.slot d
  rw [if_pos hs, hf] at h1
  have h2 : a.tmps.size = a0.tmps.size := c.over.size
  have h3 : a.tmps[d]? = some undef := by
    have hl : d < a.tmps.size := by omega
    have e : a.tmps.getD d undef = a.tmps[d] := by simp [hl]
    rw [Array.getElem?_eq_getElem hl, ← e, h1]; rfl
  unfold Region.wanted yielded
  rw [hk]
  simp only [hd, Option.bind_some, h3]
  rfl
theorem so_guardN (k d : Nat) (hk : o.guard = some (k, true)) (hd : (ops[k]?).bind (·.dst) = some d) (hn : needsB ops o d = true) (hs : d < a0.tmps.size) (hT : T d = Fact.val (.bool false)) (hany : ∀ d, o.dst = some d → T d = Fact.val undef) : StepAt P ops D T a0 w Q o := fun f a x c =>
  .inr ⟨guard_slot k d false hk hd hn hs hT c, fun d' hd' => by rw [hany d' hd']; rfl⟩
theorem so_guardFN (k d : Nat) (hk : o.guard = some (k, false)) (hd : (ops[k]?).bind (·.dst) = some d) (hn : needsB ops o d = true) (hs : d < a0.tmps.size) (hT : T d = Fact.val (.bool true)) (hany : ∀ d, o.dst = some d → T d = Fact.val undef) : StepAt P ops D T a0 w Q o := fun f a x c =>
  .inr ⟨guard_slotF k d true hk hd hn hs hT c, fun d' hd' => by rw [hany d' hd']; rfl⟩
theorem sa_callF2 (n : Nat) (u1 u2 : Operand) (tys : Array TypeId) (d : Nat) (v1 v2 : Value) (kf : Fact) (ho : o.op = .call { callee := .value (.func n), args := #[u1, u2], argTypes := tys }) (hd : o.dst = some d) (hg : o.guard = none) (h1 : Has ops D T a0 o u1 (Fact.val v1)) (h2 : Has ops D T a0 o u2 (Fact.val v2))
    (he : ∀ args w, (callFunc n args).run P w = .ok (.enter n args) w) (hc : ∀ y, Gr w y → Calls P n #[v1, v2] y fun e z => ∃ u, e = .returned u ∧ Gr y z ∧ kf.holds u z) (hT : T d = kf) : StepAt P ops D T a0 w Q o :=
  sa_call2 n u1 u2 tys d _ _ ho hd hg h1 h2 he (fun x1 x2 y hy q1 q2 => by rw [show x1 = v1 from q1, show x2 = v2 from q2, hT]; exact hc y hy)
end
theorem run_slice_to (w : World) (a : Option Addr) (ln cap m : Nat) (hm : m ≤ cap) : (Instr.slice 30 (.slice a ln cap) none (some (.int .i64 (m : Int))) none).run Tryz.prog w = .ok (.slice a m cap) w := by
  simp [Instr.slice, Sem.run_bind, run_underlying und24, go_sem, Instr.sliceBounds, show (m : Int) ≤ (cap : Int) by omega, run_sizeOf siz3]
theorem run_slice_from (w : World) (a : Option Addr) (ln cap m : Nat) (hm : m ≤ ln) : (Instr.slice 30 (.slice a ln cap) (some (.int .i64 (m : Int))) none none).run Tryz.prog w = .ok (.slice (if cap = m then a else a.map (·.add m)) (ln - m) (cap - m)) w := by
  simp [Instr.slice, Sem.run_bind, run_underlying und24, go_sem, Instr.sliceBounds, show (m : Int) ≤ (ln : Int) by omega, run_sizeOf siz3]
theorem slice_to (a : Option Addr) (ln cap m : Nat) (hm : m ≤ cap) (w : World) : (Instr.sliceAt 30 (.slice a ln cap) none (some (.int .i64 (m : Int))) none).run Tryz.prog w = .ok (.slice a m cap) w := by
  have h : (Instr.sliceAt 30 (.slice a ln cap) none (some (.int .i64 (m : Int))) none).run Tryz.prog w = (Instr.slice 30 (.slice a ln cap) none (some (.int .i64 (m : Int))) none).run Tryz.prog w := by simp [Instr.sliceAt, run_underlying und24]
  rw [h]; exact run_slice_to w a ln cap m hm
theorem slice_from (a : Option Addr) (ln cap m : Nat) (hm : m ≤ ln) (w : World) : (Instr.sliceAt 30 (.slice a ln cap) (some (.int .i64 (m : Int))) none none).run Tryz.prog w = .ok (.slice (if cap = m then a else a.map (·.add m)) (ln - m) (cap - m)) w := by
  have h : (Instr.sliceAt 30 (.slice a ln cap) (some (.int .i64 (m : Int))) none none).run Tryz.prog w = (Instr.slice 30 (.slice a ln cap) (some (.int .i64 (m : Int))) none none).run Tryz.prog w := by simp [Instr.sliceAt, run_underlying und24]
  rw [h]; exact run_slice_from w a ln cap m hm
theorem _root_.Go.Proofs.YthmnjebmnocoiaaGreat.Ints.parts {B : Nat} {w : World} {a : Option Addr} {cap : Nat} {L : List Int} (h : Ints B w (.slice a L.length cap) L) (m : Nat) (hm : m ≤ L.length) : L.length ≤ cap ∧ Ints B w (.slice a m cap) (L.take m) ∧ Ints B w (.slice (if cap = m then a else a.map (·.add m)) (L.length - m) (cap - m)) (L.drop m) := by
  obtain ⟨a', cap', e, hcap, hc⟩ := h
  cases e
  refine ⟨hcap, ?_, ?_⟩
  · refine ⟨a, cap, by rw [List.length_take, Nat.min_eq_left hm], by rw [List.length_take]; omega, ?_⟩
    rw [List.length_take, Nat.min_eq_left hm]
    rcases hc with h0 | ⟨g, o, e1, h1, h2⟩
    · exact Or.inl (by omega)
    · refine Or.inr ⟨g, o, e1, h1, fun j hj => ?_⟩
      rw [h2 j (by omega)]
      simp [List.getD_eq_getElem?_getD, hj]
  · refine ⟨_, _, by rw [List.length_drop], by rw [List.length_drop]; omega, ?_⟩
    rw [List.length_drop]
    rcases hc with h0 | ⟨g, o, e1, h1, h2⟩
    · exact Or.inl (by omega)
    · by_cases hcm : cap = m
      · exact Or.inl (by omega)
      · rw [if_neg hcm, e1]
        refine Or.inr ⟨g, o + m, by rw [Option.map_some, Addr.add_mid], h1, fun j hj => ?_⟩
        rw [show o + m + j = o + (m + j) by omega, h2 (m + j) (by omega)]
        simp [List.getD_eq_getElem?_getD, List.getElem?_drop]
section
variable {P : Program} {ops : Array Oper} {Q : Exit → Act → World → Prop} {D : List Nat} {T : Nat → Fact} {a0 : Act} {w : World} {o : Oper}
theorem so_nU (k d : Nat) (b : Bool) {n : Nat} (hz : a0.tmps.size = n) (hk : o.guard = some (k, b) := by exact rfl) (hd : (ops[k]?).bind (·.dst) = some d := by exact rfl) (hn : needsB ops o d = true := by kernel_rfl) (hs : d < n := by decide) (hT : T d = Fact.val undef := by exact rfl) (hany : ∀ d, o.dst = some d → T d = Fact.val undef := by exact (fun d hd => by cases hd; rfl)) : StepAt P ops D T a0 w Q o := so_guardU k d b hk hd hn (by rw [hz]; exact hs) hT hany
theorem so_nN (k d : Nat) {n : Nat} (hz : a0.tmps.size = n) (hk : o.guard = some (k, true) := by exact rfl) (hd : (ops[k]?).bind (·.dst) = some d := by exact rfl) (hn : needsB ops o d = true := by kernel_rfl) (hs : d < n := by decide) (hT : T d = Fact.val (.bool false) := by exact rfl) (hany : ∀ d, o.dst = some d → T d = Fact.val undef := by exact (fun d hd => by cases hd; rfl)) : StepAt P ops D T a0 w Q o := so_guardN k d hk hd hn (by rw [hz]; exact hs) hT hany
theorem so_nFN (k d : Nat) {n : Nat} (hz : a0.tmps.size = n) (hk : o.guard = some (k, false) := by exact rfl) (hd : (ops[k]?).bind (·.dst) = some d := by exact rfl) (hn : needsB ops o d = true := by kernel_rfl) (hs : d < n := by decide) (hT : T d = Fact.val (.bool true) := by exact rfl) (hany : ∀ d, o.dst = some d → T d = Fact.val undef := by exact (fun d hd => by cases hd; rfl)) : StepAt P ops D T a0 w Q o := so_guardFN k d hk hd hn (by rw [hz]; exact hs) hT hany
end
abbrev RW (k : Nat) (q : Array Oper) (b : Bool) (Q : Exit → Act → World → Prop) (a0 : Act) (w : World) : Prop := (Code.region k q b).wp Tryz.prog Q a0 w
end Go.Proofs.YthmnjebmnocoiaaGreat.En
