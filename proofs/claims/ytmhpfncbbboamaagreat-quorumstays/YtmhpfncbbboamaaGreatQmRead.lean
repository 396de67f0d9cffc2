/- A read: tally (34), Yes (26), None (14), NewRead (19); its map of cells. -/
import Derived.Test.YtmhpfncbbboamaaGreatQmSaid
import Derived.Test.YtmhpfncbbboamaaGreatQmVer
import Derived.Test.YtmhpfncbbboamaaGreatQmCell
import Derived.Test.YtmhpfncbbboamaaGreatQmGotR
namespace Go.Proofs.YtmhpfncbbboamaaGreat
open Go.RowKit Go.Maps Go.WideMaps

/-! A map of one cell of nothing. -/
noncomputable def celElem (v : Value) : Option (DataW Unit × List MemPlace) := open Classical in if v = E38 then some (.lit (.bool true), []) else none
theorem celElem_of : celElem E38 = some (.lit (.bool true), []) := if_pos rfl
theorem celElem_inv {v : Value} {y : DataW Unit × List MemPlace} (h : celElem v = some y) : v = E38 ∧ y = (.lit (.bool true), []) := by
  unfold celElem at h
  split at h
  · rename_i e; exact ⟨e, (Option.some.inj h).symm⟩
  · cases h
theorem und63 : Tryz.prog.underlying 63 = some (.map 3 38) := by kernel_rfl
theorem zero38 (w : World) : (zeroValue 38).run Tryz.prog w = .ok (.agg Z38.toArray) w := by kernel_rfl
def CmAt (w : World) (cb : Nat) (x : Int) : Prop := ∃ n D, w.ownsMap Tryz.prog 3 celElem cb n D ∧ ∀ y, D.atKey (.int .i64 y) .nil = if y = x then .lit (.bool true) else .nil
theorem CmAt.lt {w : World} {cb : Nat} {x : Int} (h : CmAt w cb x) : cb < w.heap.size := by
  obtain ⟨n, D, ⟨es, cl, hb, r⟩, h1⟩ := h
  exact (Array.getElem?_eq_some_iff.1 hb).1
theorem CmAt.same {w w' : World} {cb : Nat} {x : Int} (h : CmAt w cb x) (hs : w'.heap[cb]? = w.heap[cb]?) : CmAt w' cb x := by
  obtain ⟨n, D, ⟨es, cl, hb, r⟩, h1⟩ := h
  exact ⟨n, D, ⟨es, cl, hs.trans hb, r⟩, h1⟩
theorem CmAt.gr {w w' : World} {cb : Nat} {x : Int} (h : CmAt w cb x) (hg : Gr w w') : CmAt w' cb x := h.same (Below.block hg cb h.lt)
theorem CmAt.look {w : World} {cb : Nat} {x : Int} (h : CmAt w cb x) (y : Int) (hy : I64 y) : (Instr.lookup 63 (.map (some cb)) (.int .i64 y) true).run Tryz.prog w = .ok (if y = x then .tuple #[E38, .bool true] else .tuple #[.agg Z38.toArray, .bool false]) w := by
  obtain ⟨n, D, ⟨es, clock, hb, F, _, rfl⟩, hat⟩ := h
  rcases Maps.fit_look true law3 und63 (zero38 w) hb F (key3 y hy) with ⟨hrun, _, ha⟩ | ⟨e0, z, _, _, hrun, hR, ha, _⟩
  · have q := (ha .nil).symm.trans (hat y)
    have hz : y ≠ x := fun hz => by rw [if_pos hz] at q; cases q
    rw [hrun, if_neg hz]; rfl
  · have q := (ha .nil).symm.trans (hat y)
    obtain ⟨hv, hz⟩ := celElem_inv hR
    rw [hz] at q
    by_cases e : y = x
    · rw [hrun, if_pos e, hv]; rfl
    · rw [if_neg e] at q; cases q
theorem cm_store {w : World} {cb : Nat} (h : w.heap[cb]? = some (.map #[] 0)) (x : Int) (hx : I64 x) : ∃ w', (Instr.mapUpdate 63 (.map (some cb)) (.int .i64 x) E38).run Tryz.prog w = .ok () w' ∧ CmAt w' cb x ∧ Upd cb w w' := by
  have hown : w.ownsMap Tryz.prog 3 celElem cb 0 (.map []) := by
    obtain ⟨es, cl, hb, F, hs, hD⟩ := World.ownsMap_made w Tryz.prog 3 celElem
    have e : some (Obj.map #[] 0) = some (Obj.map es cl) := (heap_alloc_new w _).symm.trans hb
    obtain ⟨rfl, rfl⟩ : #[] = es ∧ 0 = cl := by simpa using e
    exact ⟨_, _, h, F, hs, hD⟩
  obtain ⟨w1, hput, hown1, hturn1⟩ := hown.store law3 und63 (by unfold maxLen; omega) (key3 x hx) celElem_of
  have hg := hturn1.grown
  refine ⟨w1, hput, ⟨_, _, hown1, fun y => ?_⟩, ⟨hg.os, hg.tape, hg.output, hg.size, fun i hi hne => hg.block i hi (by simpa using hne)⟩⟩
  by_cases e : y = x
  · subst e
    rw [atKey_put_same hown.isMap (isKeyLit_int _), if_pos rfl]
  · rw [atKey_put_other (fun q => e (by simpa using q)), if_neg e]; rfl
/-! The calls of a read that are its tally's. -/
theorem tally_some (b : Nat) (w : World) : Calls Tryz.prog 34 #[.pointer (some ⟨b, 0, none⟩)] w fun e w' => e = .returned (.pointer (some ⟨b, 0, none⟩)) ∧ w' = w := by
  go_enter Tryz.func34, Tryz.ntmps34
  go_wp2
  go_ret
  exact ⟨rfl, rfl⟩
theorem tally_nil (w : World) : Calls Tryz.prog 34 #[.pointer none] w fun e w' => e = .returned (.pointer none) ∧ w' = w := by
  go_enter Tryz.func34, Tryz.ntmps34
  go_wp2
  go_ret
  exact ⟨rfl, rfl⟩
theorem ryes_nil (v : Value) (w : World) : Calls Tryz.prog 26 #[.pointer none, v] w fun e w' => e = .returned (.bool false) ∧ w' = w := by
  have h34 : Hid (∀ W, Calls Tryz.prog 34 #[.pointer none] W fun e w' => e = .returned (.pointer none) ∧ w' = W) := tally_nil
  have h10 : Hid (∀ v W, Calls Tryz.prog 10 #[.pointer none, v] W fun e w' => e = .returned (.bool false) ∧ w' = W) := yes_nil
  go_enter Tryz.func26, Tryz.ntmps26
  go_wp2_with (first | (go_at_call 34; refine (h34.out _).mono ?_; rintro e w2 ⟨rfl, rfl⟩) | (go_at_call 10; refine (h10.out _ _).mono ?_; rintro e w2 ⟨rfl, rfl⟩))
  go_ret
  exact ⟨rfl, rfl⟩
theorem ryes_any {lo hi : Nat} {rest : List Value} {ty : TypeId} {need prime : Int} {w : World} {b : Nat} {l : Ses} (h : TyAt lo hi rest ty need prime w b l) (q qo cq : Nat) (x : Int) (hx : I64 x) (cx : w.cell? ⟨q, qo, none⟩ = some (.int .i64 x)) :
    Calls Tryz.prog 26 #[.pointer (some ⟨b, 0, none⟩), .slice (some ⟨q, qo, none⟩) 1 cq] w fun e w' => e = .returned (.bool (heardB l x)) ∧ TyAt lo hi rest ty need prime w' b (sayS 1 l x) ∧ Mid lo hi w w' := by
  have h34 : Hid (∀ W, Calls Tryz.prog 34 #[.pointer (some ⟨b, 0, none⟩)] W fun e w' => e = .returned (.pointer (some ⟨b, 0, none⟩)) ∧ w' = W) := tally_some b
  have h10 : Hid (Calls Tryz.prog 10 #[.pointer (some ⟨b, 0, none⟩), .slice (some ⟨q, qo, none⟩) 1 cq] w fun e w' => e = .returned (.bool (heardB l x)) ∧ Hid (TyAt lo hi rest ty need prime w' b (sayS 1 l x) ∧ Mid lo hi w w')) := yes_any h q qo cq x hx cx
  clear h cx
  go_enter Tryz.func26, Tryz.ntmps26
  go_wp2_with (first | (go_at_call 34; refine (h34.out _).mono ?_; rintro e w2 ⟨rfl, rfl⟩) | (go_at_call 10; refine h10.out.mono ?_; rintro e w2 ⟨rfl, h2⟩))
  go_ret
  exact ⟨rfl, h2.out⟩
theorem none_nil (x : Int) (w : World) : Calls Tryz.prog 14 #[.pointer none, .int .i64 x] w fun e w' => e = .returned (.bool false) ∧ Gr w w' := by
  have h26 : Hid (∀ v W, Calls Tryz.prog 26 #[.pointer none, v] W fun e w' => e = .returned (.bool false) ∧ w' = W) := ryes_nil
  go_enter Tryz.func14, Tryz.ntmps14
  go_wp2_with (go_at_call 26; refine (h26.out _ _).mono ?_; rintro e w2 ⟨rfl, e2⟩; rw [e2]; clear e2)
  go_ret
  exact ⟨rfl, al1⟩
theorem none_any {lo hi : Nat} {rest : List Value} {ty : TypeId} {need prime : Int} {w : World} {b : Nat} {l : Ses} (h : TyAt lo hi rest ty need prime w b l) (x : Int) (hx : I64 x) :
    Calls Tryz.prog 14 #[.pointer (some ⟨b, 0, none⟩), .int .i64 x] w fun e w' => e = .returned (.bool (heardB l x)) ∧ TyAt lo hi rest ty need prime w' b (sayS 1 l x) ∧ Mid lo hi w w' := by
  have h26 : Hid (Calls Tryz.prog 26 #[.pointer (some ⟨b, 0, none⟩), .slice (some ⟨w.heap.size, 0, none⟩) 1 1] (w.alloc (.cells #[.int .i64 x] 3)) fun e w' => e = .returned (.bool (heardB l x)) ∧ Hid (TyAt lo hi rest ty need prime w' b (sayS 1 l x) ∧ Mid lo hi w w')) := (ryes_any (h.gr al1) w.heap.size 0 1 x hx ((holds_new w [.int .i64 x] 3).at 0 _ rfl)).mono fun _ _ ⟨e1, e2, e3⟩ => ⟨e1, e2, (Mid.ofGr al1).trans e3⟩
  clear h
  go_enter Tryz.func14, Tryz.ntmps14
  go_wp2_with (go_at_call 26; refine h26.out.mono ?_; rintro e w2 ⟨rfl, h2⟩)
  go_ret
  exact ⟨rfl, h2.out⟩
theorem cnew_any : Tells 21 #[.int .i64 2] E38 := fun w => by
  go_enter Tryz.func21, Tryz.ntmps21
  go_wp2
  exact bodyPost_ret (results_cell_row (p := 2) (by kernel_rfl) _ _ w.heap.size 38 C38.toArray (0, 0) _ rfl (heap_alloc_new _ _) Tryz.underlying38 rfl siz38) rfl ⟨rfl, al1⟩
def threeL : List (Int × Int) := [(1, 1), (4, 2), (3, 3)]
theorem three_any (w : World) : Calls Tryz.prog 18 #[] w fun e w' => ∃ v, e = .returned v ∧ TgAt w'.heap.size w' v threeL ∧ Gr w w' := by
  go_enter Tryz.func18, Tryz.ntmps18
  go_wp2
  go_ret
  have hH := holds_new w [.int .i64 1, .int .i64 1, .int .i64 4, .int .i64 2, .int .i64 3, .int .i64 3] 53
  refine ⟨_, rfl, ⟨_, _, rfl, .inr ⟨w.heap.size, 0, rfl, by simp, fun i p hp => ?_⟩⟩, al1⟩
  match i, hp with
  | 0, h => cases h; exact ⟨hH.at 0 _ rfl, hH.at 1 _ rfl⟩
  | 1, h => cases h; exact ⟨hH.at 2 _ rfl, hH.at 3 _ rfl⟩
  | 2, h => cases h; exact ⟨hH.at 4 _ rfl, hH.at 5 _ rfl⟩
theorem read_made {N : Nat} {need prime : Int} {w : World} {l : Ses} {v : Value} {mb b : Nat} (h3 : Once l) (h4 : l.length ≤ 1000) (hm : N ≤ mb ∧ mb < w.heap.size) (hP : PlAt w mb (l.map (·.1))) (hR : w.ownsRow 0 77 3 v l.length (sesF l)) (hv : ∀ g, v.ownBlock = some g → N ≤ g ∧ g < w.heap.size ∧ g ≠ b) :
    TyAt N (w.alloc (.cells (tyC v (.map (some mb)) l need prime [.map none]).toArray 65)).heap.size [.map none] 65 need prime (w.alloc (.cells (tyC v (.map (some mb)) l need prime [.map none]).toArray 65)) w.heap.size l := by
  have hs := sz1 w (.cells (tyC v (.map (some mb)) l need prime [.map none]).toArray 65)
  refine ⟨⟨by omega, by omega⟩, Nat.le_refl _, h3, h4, v, mb, holds_new w _ 65, ⟨hm.1, by omega⟩, hP.gr al1, owns_same hR fun g q => Below.block al1 g (owns_lt hR q), fun g q => ?_⟩
  have := hv g q
  exact ⟨this.1, by omega, by omega⟩
set_option maxRecDepth 100000 in
theorem newRead_any (v : Value) (ts : List (Int × Int)) (need prime : Int) (w : World) (hfew : ts.length ≤ 1000) (h64 : ∀ p ∈ ts, I64 p.1) (h : TgAt w.heap.size w v ts) :
    Calls Tryz.prog 19 #[v, .int .i64 need, .int .i64 prime] w fun e w' => ∃ b, e = .returned (.pointer (some ⟨b, 0, none⟩)) ∧ TyAt w.heap.size w'.heap.size [.map none] 65 need prime w' b (seats ts) ∧ Below w.heap.size w w' := by
  have h15 : Hid (Calls Tryz.prog 15 #[v, .int .i64 need, .int .i64 prime] w fun e w' => e = .returned (.pointer (some ⟨w.heap.size + 1, 0, none⟩)) ∧ Hid (TyAt w.heap.size w'.heap.size [] 30 need prime w' (w.heap.size + 1) (seats ts) ∧ Below w.heap.size w w')) := new_any v ts need prime w hfew h64 h
  generalize hN : w.heap.size = N at h15 ⊢
  obtain ⟨av, cv, rfl⟩ := h.len
  clear h h64
  go_enter Tryz.func19, Tryz.ntmps19
  go_wp2_with (go_at_call 15; refine h15.out.mono ?_; rintro e w2 ⟨rfl, h2⟩; obtain ⟨v2, mb, hH, hm, hP, hR, hv⟩ := h2.out.1.mem; have a0 := hH.at 0 _ rfl; have a1 := hH.at 1 _ rfl; have a2 := hH.at 2 _ rfl; have a3 := hH.at 3 _ rfl; have a4 := hH.at 4 _ rfl; have a5 := hH.at 5 _ rfl; have a6 := hH.at 6 _ rfl; have a7 := hH.at 7 _ rfl; have a8 := hH.at 8 _ rfl; have a9 := hH.at 9 _ rfl)
  go_ret
  exact ⟨_, rfl, read_made h2.out.1.once h2.out.1.few hm hP hR hv, h2.out.2.trans (Below.mono al1 (by have := h2.out.1.low; omega))⟩
theorem TyAt.rest {N hi : Nat} {ty : TypeId} {need prime : Int} {w : World} {b : Nat} {l : Ses} {mc : Value} (h : TyAt N hi [mc] ty need prime w b l) (u : Value) : TyAt N hi [u] ty need prime (w.setCell ⟨b, 10, none⟩ u) b l := by
  obtain ⟨h1, h2, h3, h4, v, mb, hH, hm, hP, hR, hv⟩ := h
  refine ⟨h1, by simpa using h2, h3, h4, v, mb, hH.set 10 u, hm, hP.same (heap_setCell_other _ _ _ _ (pl_ne hH hP)), owns_same hR fun g q => heap_setCell_other _ _ _ _ (hv g q).2.2, hv⟩
theorem TyAt.cell10 {N hi : Nat} {ty : TypeId} {need prime : Int} {w : World} {b : Nat} {l : Ses} {mc : Value} (h : TyAt N hi [mc] ty need prime w b l) : w.cell? ⟨b, 10, none⟩ = some mc ∧ w.frozen? ⟨b, 10, none⟩ = false := by
  obtain ⟨_, _, _, _, v, mb, hH, _⟩ := h
  exact ⟨hH.at 10 _ rfl, hH.frozen 10⟩
/-- A tally stays where a map is turned that is not its own. -/
theorem TyAt.upd {N hi : Nat} {rest : List Value} {ty : TypeId} {need prime : Int} {w w' : World} {b cb : Nat} {l : Ses} (h : TyAt N hi rest ty need prime w b l) (hu : Upd cb w w') (hc : hi ≤ cb) : TyAt N hi rest ty need prime w' b l := by
  refine h.mid (lo' := cb) (hi' := cb + 1) ⟨hu.os, hu.tape, hu.output, hu.size, fun g hg hn => hu.block g hg (by omega)⟩ (.inl hc)
/-- How a read stands that got one cell. -/
structure RdAt (N : Nat) (need prime : Int) (w0 w : World) (b : Nat) (l : Ses) (x : Int) : Prop where
  cells : ∃ hi cb, TyAt N hi [.map (some cb)] 65 need prime w b l ∧ CmAt w cb x ∧ hi ≤ cb
  low : Below N w0 w
theorem RdAt.gr {N : Nat} {need prime : Int} {w0 w w' : World} {b : Nat} {l : Ses} {x : Int} (h : RdAt N need prime w0 w b l x) (hg : Gr w w') : RdAt N need prime w0 w' b l x := by
  obtain ⟨⟨hi, cb, hT, hC, hc⟩, hl⟩ := h
  exact ⟨⟨hi, cb, hT.gr hg, hC.gr hg, hc⟩, hl.trans (Below.mono hg (by have := hT.low; have := hT.top; omega))⟩
set_option maxRecDepth 100000 in
set_option maxHeartbeats 1000000 in
theorem got_first {N hi : Nat} {need prime : Int} {w0 w : World} {b : Nat} {l : Ses} (h : TyAt N hi [.map none] 65 need prime w b l) (hb : Below N w0 w) (x : Int) (hx : I64 x) (hh : heardB l x = true) :
    Calls Tryz.prog 20 #[.pointer (some ⟨b, 0, none⟩), .int .i64 x, E38] w fun e w' => e = .returned (.bool true) ∧ RdAt N need prime w0 w' b (sayS 1 l x) x := by
  have h26 : Hid (Calls Tryz.prog 26 #[.pointer (some ⟨b, 0, none⟩), .slice (some ⟨w.heap.size + 1, 0, none⟩) 1 1] ((w.alloc (.cells C38.toArray 38)).alloc (.cells #[.int .i64 x] 3)) fun e w' => e = .returned (.bool true) ∧ Hid (TyAt N hi [.map none] 65 need prime w' b (sayS 1 l x) ∧ Mid N hi w w' ∧ Holds w' w.heap.size C38 38 ∧ hi ≤ w.heap.size)) := by
    have hH2 : Holds ((w.alloc (.cells C38.toArray 38)).alloc (.cells #[.int .i64 x] 3)) (w.heap.size + 1) [.int .i64 x] 3 := new2
    have hB := (holds_new w C38 38).alloc (.cells #[.int .i64 x] 3)
    have := ryes_any (h.gr al2) (w.heap.size + 1) 0 1 x hx (hH2.at 0 _ rfl)
    rw [hh] at this
    refine this.mono fun _ _ ⟨e1, e2, e3⟩ => ⟨e1, e2, (Mid.ofGr al2).trans e3, ?_, h.top⟩
    unfold Holds
    rw [e3.block _ hB.lt (.inr h.top)]; exact hB
  have hmm := @run_makeMap Tryz.prog
  have hme : ∀ W, (binOp .eql 63 (.map none) (.map none)).run Tryz.prog W = .ok (.bool true) W := fun W => by kernel_rfl
  have HB : Hid (Below N w0 w) := hb
  have HL : Hid (N ≤ w.heap.size) := by have := h.low; have := h.top; show N ≤ w.heap.size; omega
  clear h hb hh
  go_enter Tryz.func20, Tryz.ntmps20
  go_upto_region 5 with (go_at_call 26; refine h26.out.mono ?_; rintro e w2 ⟨rfl, h2⟩; have c10 := h2.out.1.cell10.1; have f10 := h2.out.1.cell10.2; have c11 := (h2.out.1.gr (al1 (o := .map #[] 0))).cell10.1; have f11 := (h2.out.1.gr (al1 (o := .map #[] 0))).cell10.2)
  have hW : Hid (TyAt N hi [.map (some w2.heap.size)] 65 need prime ((w2.alloc (.map #[] 0)).setCell ⟨b, 10, none⟩ (.map (some w2.heap.size))) b (sayS 1 l x) ∧ ((w2.alloc (.map #[] 0)).setCell ⟨b, 10, none⟩ (.map (some w2.heap.size))).heap[w2.heap.size]? = some (.map #[] 0) ∧ Holds ((w2.alloc (.map #[] 0)).setCell ⟨b, 10, none⟩ (.map (some w2.heap.size))) w.heap.size C38 38 ∧ Below N w0 ((w2.alloc (.map #[] 0)).setCell ⟨b, 10, none⟩ (.map (some w2.heap.size))) ∧ hi ≤ w2.heap.size) := by
    obtain ⟨q1, q2, q3, q4⟩ := h2.out
    have hbl := q1.low
    have hq := q2.size
    refine ⟨(q1.gr al1).rest _, ?_, (q3.alloc _).setOther b 10 _ (by omega), ?_, by omega⟩
    · rw [heap_setCell_other _ _ _ _ (show w2.heap.size ≠ b by omega)]
      exact heap_alloc_new _ _
    · refine HB.out.trans ((q2.toBelow HL.out).trans ⟨rfl, rfl, rfl, by simp, fun k hk => ?_⟩)
      rw [heap_setCell_other _ _ _ _ (show k ≠ b by omega)]
      exact Below.block (al1 (o := .map #[] 0)) k (by have := HL.out; omega)
  generalize (w2.alloc (.map #[] 0)).setCell ⟨b, 10, none⟩ (.map (some w2.heap.size)) = W3 at hW ⊢
  generalize w2.heap.size = cb at hW ⊢
  clear h2 c10 f10 c11 f11 hmm hme h26
  refine r20_5 rfl (fun y u => CmAt u cb x ∧ Upd cb y u) b w.heap.size cb x cjoin_none hW.out.2.2.1 (fun y hy => (hW.out.1.gr hy).cell10.1) (fun y hy => cm_store ((Below.block hy cb (by have := (Array.getElem?_eq_some_iff.1 hW.out.2.1).1; exact this)).trans hW.out.2.1) x hx) rfl rfl rfl (fun z w5 hz hcu => ?_)
  simp only [putsL, List.foldl_cons, List.foldl_nil, put_lit, List.set_cons_succ, List.set_cons_zero]
  have hE : Hid (RdAt N need prime w0 w5 b (sayS 1 l x) x) := by
    obtain ⟨q1, q2, q3, q4, q5⟩ := hW.out
    have hbl := q1.low
    have ht := q1.top
    exact ⟨⟨hi, cb, (q1.gr hz).upd hcu.2 q5, hcu.1, q5⟩, q4.trans ((Below.mono hz (by omega)).trans (hcu.2.below (by omega) (by have := hz.size; omega)))⟩
  clear hcu hz hW
  go_wp2
  go_ret
  exact ⟨rfl, hE.out⟩
end Go.Proofs.YtmhpfncbbboamaaGreat
