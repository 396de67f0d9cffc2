/- The statements' own look at some answers that the document fixes ('awake') answers true. -/
import Derived.Test.YtbfadapffpijpaaDoorTrDuo
import Derived.Test.YtbfadapffpijpaaDoorTrWakeP
import Derived.Deep.RegionHeld3
import Derived.BigQuiet
namespace Go.Proofs.YtbfadapffpijpaaDoor
open Go.RowKit Go.Maps Go.WideMaps
attribute [local go_sem ↓] rule_eql rule_neq rule_eqlD rule_neqD rule26

theorem built7 : Tryd.prog.built 26 [(0, .int .u8 7)] = some (s7.map byteV).toArray := by kernel_rfl
theorem one_row {W : World} {base : Nat} {u : Value} {x : Int} (h : W.ownsRow base 3 1 u 1 [.int .i64 x]) : ∃ g cap, u = .slice (some ⟨g, 0, none⟩) 1 cap ∧ W.cell? ⟨g, 0, none⟩ = some (.int .i64 x) ∧ Foreign W g := by
  rcases h.2 with ⟨_, h0⟩ | ⟨g, cap, cur, rfl, _, hg, _⟩
  · omega
  · exact ⟨g, cap, rfl, h.cellAt 0 (by omega), cur, 3, _, hg, by decide⟩
theorem fit0 : Fit newT 536870912 := newT_fit _
theorem fit0r : Fit (reckT newT) 536870912 := fit_reck (newT_fit _)
theorem fitAr : Fit (reckT tA) 536870912 := fit_reck tA_fit
theorem intsF_one {W : World} {L cap : Nat} {x : Int} (h : Holds W L [.int .i64 x] 3) : IntsF W (.slice (some ⟨L, 0, none⟩) 1 cap) [x] := ⟨_, cap, rfl, fun i y hy => by
  cases i with
  | zero => simp at hy; subst hy; exact ⟨L, 0, rfl, h.foreign (by decide), h.at 0 _ rfl⟩
  | succ i => simp at hy⟩
theorem level_32 (T : Tr) (l : List Int) : ∀ s ∈ levelT T l, s.length = 32 := fun s hs => by
  unfold levelT at hs
  rcases List.mem_append.1 hs with hs | hs
  · split at hs
    · exact allB_32 T s hs
    · cases hs
  · obtain ⟨j, _, hs⟩ := List.mem_flatMap.1 hs
    exact partT_32 T j s hs
theorem level_len {T : Tr} (h : T.Ok) (l : List Int) : (levelT T l).length ≤ 16 + 16 * l.length := by
  have := parts_len_le h l
  unfold levelT
  rw [List.length_append]
  split
  · rw [allB_len]; omega
  · rw [List.length_nil]; omega
/-- What came out of w by making new things alone. -/
def Since (w : World) : Type := { W : World // Below w.heap.size w W }
theorem region_quiet_in {P : Program} {id : Nat} {Q : Exit → Act → World → Prop} {a : Act} {w : World} {l : List Oper} (C : World → Prop) (hm : P.follows .mixedOrders = true) (hB : Region.lexB .any l.toArray = true) (hC : C { w with drawn := w.drawn + 1 })
    (h : wpQuiet P l.toArray C (fun a' => ∀ w', C w' → Q .normal a' w') l a) : (Code.region id l.toArray true).wp P Q a w :=
  wp_region_quiet (C := C) hm hB hC (by simpa using h)
/-- In every world of the class a sum lies there. -/
def RowC (C : World → Prop) (p : Value) (s : List UInt8) : Prop := ∀ W, C W → rowOf W p 32 = some (s.map byteV)
theorem quietC_val {o : Oper} {a : Act} {C : World → Prop} {K : Act → Prop} {v : Value} (hne : ∃ w, C w) (h : ∀ w, C w → (execOp a.eval o).run Tryd.prog w = .ok (.value v) w) : Oper.quiet Tryd.prog o a C K = K (a.put o.dst v) := by
  refine propext ⟨fun ⟨u, h1, h2⟩ => ?_, fun hk => ⟨v, fun w' hw => ?_, hk⟩⟩
  · obtain ⟨w, hw⟩ := hne
    have := h1 w hw
    unfold Oper.quietAt at this
    rw [h w hw] at this
    obtain ⟨_, rfl⟩ := this
    exact h2
  · unfold Oper.quietAt
    rw [h w' hw]
    exact ⟨rfl, rfl⟩
theorem ruleC26 (dst : Option Tmp) (x : Operand) (t : TypeId) (pos : String) (af : Array Edge) (gd : Option (Nat × Bool)) (a : Act) (w : World) (K : Act → Prop) (h : RowC (fun w' => ∃ q : Since w, w' = q.1) (a.eval x) s7) :
    Oper.quiet Tryd.prog { dst := dst, op := .load 26 x, type := t, pos := pos, after := af, guard := gd } a (fun w' => ∃ q : Since w, w' = q.1) K = K (a.put dst (.agg (s7.map byteV).toArray)) :=
  quietC_val ⟨w, ⟨w, Below.refl _ _⟩, rfl⟩ fun W hW => exec_load26 dst x t pos af gd a W _ (h W hW)
theorem ruleC_eql (dst : Option Tmp) (x y : Operand) (yt t : TypeId) (pos : String) (af : Array Edge) (gd : Option (Nat × Bool)) (a : Act) (w : World) (K : Act → Prop) (h : Same32 (a.eval x) (a.eval y)) :
    Oper.quiet Tryd.prog { dst := dst, op := .binOp .eql 26 x y yt, type := t, pos := pos, after := af, guard := gd } a (fun w' => ∃ q : Since w, w' = q.1) K = K (a.put dst (.bool true)) :=
  quietC_val ⟨w, ⟨w, Below.refl _ _⟩, rfl⟩ fun W hW => by
    unfold execOp
    dsimp only
    rw [Sem.run_bind, run_eql_same x y _ _ _ h]
    rfl
attribute [local go_sem ↓] ruleC26 ruleC_eql
theorem wake_keys {w W : World} {n a b : Nat} (h : Duo w n W a b (reckT tA) (reckT newT)) : Calls Tryd.prog 12 #[.pointer (some ⟨a, 0, none⟩), .int .i64 202] W fun e w' => ∃ g c, e = .returned (.slice (some ⟨g, 0, none⟩) 1 c) ∧ w'.rangeAt g 1 (s7.map byteV) ∧ Foreign w' g ∧ Below W.heap.size W w' := by
  have h1 := h.keys fitAr 202 (by decide)
  rw [reck_leaf, tA_leaf] at h1
  refine h1.mono ?_
  rintro e w' ⟨u, e1, e2, e3⟩
  have e2' : w'.ownsRow W.heap.size 46 33 u 1 (cellsS [p7]) := e2
  rcases e2'.2 with ⟨_, h0⟩ | ⟨g, cap, cur, rfl, _, hg, _⟩
  · omega
  · refine ⟨g, cap, e1, fun j v hv => ?_, ⟨cur, 46, _, hg, by decide⟩, e3⟩
    have hj : j < 32 := by have := (List.getElem?_eq_some_iff.1 hv).1; rw [List.length_map, s7_len] at this; exact this
    rw [e2'.cellAt (1 + j) (by omega), show 1 + j = j + 1 by omega]
    exact (show (cellsS [p7])[j + 1]? = (s7.map byteV)[j]? from rfl).trans hv
set_option maxHeartbeats 8000000 in
set_option maxRecDepth 100000 in
theorem wake_any (w : World) (hL : Laid w) : Calls Tryd.prog 9 #[] w fun e w' => e = .returned (.bool true) ∧ Below w.heap.size w w' := by
  obtain ⟨n, hn⟩ : ∃ n, w.heap.size = n := ⟨_, rfl⟩
  have hx32 : s7.length = 32 := s7_len
  have S0 : Same32 (.agg ((rootH newT).map byteV).toArray) (.agg ((rootH newT).map byteV).toArray) := same32 _ (shaL_len _)
  have D1 : Diff32 (.agg ((rootH tA).map byteV).toArray) (.agg ((rootH (reckT newT)).map byteV).toArray) := diff32 _ _ (shaL_len _) (shaL_len _) (by rw [tA_root, reck_root, newT_root]; exact r_ne)
  rw [hn]
  go_enter Tryd.func9, Tryd.ntmps9
  go_wp2_with (first
    | (go_at_call 6; refine (tnew_any w).mono ?_; rw [hn]; rintro e w1 ⟨rfl, h1⟩)
    | (go_at_call 6; refine (tnew_any w1).mono ?_; rw [h1.size]; rintro e w2 ⟨rfl, h2⟩)
    | (refine wpList_build_at rfl 26 [(0, .const (.int .u8 7))] rfl (s7.map byteV).toArray built7 ?_)
    | (refine wpList_alloc_new 3 rfl rfl 26 rfl (n + 2) h2.size _ (zero_of_info info26).1 ?_; intro w3 h3)
    | (refine wpList_store_all rfl 26 (.tmp 3) (.tmp 18) rfl (n + 2) rfl (s7.map byteV) rfl 26 _ h3.holds (by rw [(zero_of_info info26).2, List.length_map, hx32]) (by rw [List.length_map, List.length_map, hx32]; rfl) (byteV_one _) ?_; intro w4 h4; have D4 : Duo w n w4 n (n + 1) newT newT := (duo_new hL h1 h2).ofBelow (h2.size ▸ (h3.below.trans (h4.below (Nat.le_refl _)))))
    | (go_at_call_of 10 (Value.pointer (some ⟨n, 0, none⟩)); refine (D4.root fit0).mono ?_; rintro e w5 ⟨rfl, D5, f5⟩)
    | (go_at_call 10; refine (D5.swap.root fit0).mono ?_; rintro e w6 ⟨rfl, D6x, f6⟩; have D6 : Duo w n w6 n (n + 1) (reckT newT) (reckT newT) := D6x.swap; have hS6 : Holds w6 (n + 2) (s7.map byteV) 26 := (h4.holds.fupd f5 (by decide)).fupd f6 (by decide); have r6 := hS6.row26 hx32))
  go_wp2_with (first
    | (go_at_call 7; refine (D6.put fit0r ⟨#[97]⟩ (by decide) s7 hx32).mono ?_; rintro e w7 ⟨rfl, D7x, f7⟩; have D7 : Duo w n w7 n (n + 1) tA (reckT newT) := D7x; have dr7 := D7.dirty; rw [tA_dirty] at dr7; have hS7 := hS6.fupd f7 (by decide))
    | (go_at_call 14; refine dr7.mono ?_; rintro e w7b ⟨rfl, rfl⟩)
    | (go_at_call_of 10 (Value.pointer (some ⟨n, 0, none⟩)); refine (D7.root tA_fit).mono ?_; rintro e w8 ⟨rfl, D8, f8⟩)
    | (go_at_call 10; refine (D8.swap.root fit0r).mono ?_; rintro e w9 ⟨rfl, D9x, f9⟩; have D9 : Duo w n w9 n (n + 1) (reckT tA) (reckT newT) := D9x.swap; have hS9 : Holds w9 (n + 2) (s7.map byteV) 26 := (hS7.fupd f8 (by decide)).fupd f9 (by decide); have r9 := hS9.row26 hx32))
  clear D4 D5 D6 D6x D7 D7x D8 D9x hS6 hS7 r6 dr7 h1 h2 h3 h4 f5 f6 f7 f8 f9 hL
  have tO : Hid (∀ T : Tr, T.Ok → ∀ l : List Int, l.length ≤ 1 → (levelT T l).length ≤ 1099511627776) := fun T hT l hl => by have := level_len hT l; omega
  have okA : Hid (reckT tA).Ok := reckT_ok tA_ok
  have okN : Hid (reckT newT).Ok := reckT_ok newT_ok
  go_wp2_with (first
    | (go_at_call 7; refine (D9.put fitAr ⟨#[97]⟩ (by decide) s7 hx32).mono ?_; rintro e w10 ⟨rfl, D10x, f10⟩; have D10 : Duo w n w10 n (n + 1) (reckT tA) (reckT newT) := tA_again ▸ D10x; have hS10 := hS9.fupd f10 (by decide))
    | (go_at_call_of 11 (Value.pointer (some ⟨n, 0, none⟩)); refine (D10.level fitAr _ [] (by decide) (intsF_none _)).mono ?_; rintro e w11 ⟨u11, rfl, own11, D11, f11⟩)
    | (go_at_call 11; refine (D11.swap.level fit0r _ [] (by decide) (intsF_none _)).mono ?_; rintro e w12 ⟨u12, rfl, own12, D12x, f12⟩; have D12 : Duo w n w12 n (n + 1) (reckT tA) (reckT newT) := D12x.swap; have hS12 : Holds w12 (n + 2) (s7.map byteV) 26 := (hS10.fupd f11 (by decide)).fupd f12 (by decide); have R11 : RowsAt w12 u11 (levelT (reckT tA) []) := RowsAt.fupd (level_32 _ _) own11 f12; have R12 : RowsAt w12 u12 (levelT (reckT newT) []) := .of (level_32 _ _) own12)
    | (go_at_call 15; refine (differ_any u11 u12 _ _ (tO.out _ okA.out [] (by decide)) (tO.out _ okN.out [] (by decide)) w12 R11 R12).mono ?_; rintro e w13 ⟨u13, rfl, own13, b13⟩; rw [reck_level, reck_level, diff_top] at own13; obtain ⟨g, cg, rfl, hg, fg⟩ := one_row own13; have D13 := D12.ofBelow b13; have hS13 := hS12.below b13 hS12.lt))
  have hg' : w13.cell? ⟨g, 0, none⟩ = some (.int .i64 12) := hg
  have C : Hid (∀ W, FUpd w13 W → W.cell? ⟨g, 0, none⟩ = some (.int .i64 12)) := fun W hW => by rw [World.cell?_of_block (w := w13) (hW.block g fg)]; exact hg'
  have HS : Hid (∀ W, FUpd w13 W → Holds W (n + 2) (s7.map byteV) 26) := fun W hW => hS13.fupd hW (by decide)
  have LT : Hid (∀ (W : World) (L cap : Nat), Below w13.heap.size w13 W → Holds W L [.int .i64 12] 3 → Calls Tryd.prog 11 #[.pointer (some ⟨n, 0, none⟩), .slice (some ⟨L, 0, none⟩) 1 cap] W fun e w' => ∃ u, e = .returned u ∧ w'.ownsRow W.heap.size 26 32 u (levelT tA [12]).length (rowsV (levelT tA [12])) ∧ Duo w n w' n (n + 1) (reckT tA) (reckT newT) ∧ FUpd W w' ∧ FUpd w13 w') := fun W L cap hW hH => by
    refine ((D13.ofBelow hW).level fitAr _ [12] (by decide) (intsF_one hH)).mono ?_
    rintro e w' ⟨u, e1, e2, e3, e4⟩
    exact ⟨u, e1, e2, e3, e4, (FUpd.ofBelow hW).trans e4⟩
  have LO : Hid (∀ (Y W : World) (L cap : Nat), Duo w n Y n (n + 1) (reckT tA) (reckT newT) → FUpd w13 Y → Below Y.heap.size Y W → Holds W L [.int .i64 12] 3 → Calls Tryd.prog 11 #[.pointer (some ⟨n + 1, 0, none⟩), .slice (some ⟨L, 0, none⟩) 1 cap] W fun e w' => ∃ u, e = .returned u ∧ w'.ownsRow W.heap.size 26 32 u (levelT newT [12]).length (rowsV (levelT newT [12])) ∧ Duo w n w' n (n + 1) (reckT tA) (reckT newT) ∧ FUpd Y w' ∧ FUpd w13 w') := fun Y W L cap hD hY hW hH => by
    refine ((hD.ofBelow hW).swap.level fit0r _ [12] (by decide) (intsF_one hH)).mono ?_
    rintro e w' ⟨u, e1, e2, e3, e4⟩
    exact ⟨u, e1, e2, e3.swap, (FUpd.ofBelow hW).trans e4, hY.trans ((FUpd.ofBelow hW).trans e4)⟩
  have HDf : Hid (∀ (X Y : World) (ba bb : Nat) (ua ub : Value), X.ownsRow ba 26 32 ua (levelT tA [12]).length (rowsV (levelT tA [12])) → FUpd X Y → Y.ownsRow bb 26 32 ub (levelT newT [12]).length (rowsV (levelT newT [12])) → Calls Tryd.prog 15 #[ua, ub] Y fun e w' => ∃ g2 c2, e = .returned (.slice (some ⟨g2, 0, none⟩) 1 c2) ∧ w'.cell? ⟨g2, 0, none⟩ = some (.int .i64 10) ∧ Foreign w' g2 ∧ Below Y.heap.size Y w') := fun X Y ba bb ua ub h1 h2 h3 => by
    refine (differ_any ua ub _ _ (tO.out _ tA_ok [12] (by decide)) (tO.out _ newT_ok [12] (by decide)) Y (RowsAt.fupd (level_32 _ _) h1 h2) (.of (level_32 _ _) h3)).mono ?_
    rintro e w' ⟨u, e1, e2, e3⟩
    rw [diff_low] at e2
    obtain ⟨g2, c2, q1, q2, q3⟩ := one_row e2
    subst q1
    exact ⟨g2, c2, e1, q2, q3, e3⟩
  obtain ⟨M, hM⟩ : ∃ M, w13.heap.size = M := ⟨_, rfl⟩
  have hA1 : Holds (w13.alloc (.cells #[.int .i64 12] 3)) M [.int .i64 12] 3 := hM ▸ holds_new w13 [.int .i64 12] 3
  have hA2 : Holds ((w13.alloc (.cells #[.int .i64 12] 3)).alloc (.cells #[.int .i64 12] 3)) (M + 1) [.int .i64 12] 3 := by
    have := holds_new (w13.alloc (.cells #[.int .i64 12] 3)) [.int .i64 12] 3
    rw [World.size_alloc, hM] at this
    exact this
  have HA1 : Hid (Holds (w13.alloc (.cells #[.int .i64 12] 3)) M [.int .i64 12] 3) := hA1
  have HA2 : Hid (Holds ((w13.alloc (.cells #[.int .i64 12] 3)).alloc (.cells #[.int .i64 12] 3)) (M + 1) [.int .i64 12] 3) := hA2
  have HMW : Hid (w13.heap.size = M) := hM
  clear own13 D12 D12x D11 D10 D10x D9 R11 R12 own11 own12 hS12 hS10 hS9 r9 hS13 f10 f11 f12 b13 hg hA1 hA2 fg
  go_region_held3 (fun W => W.cell? ⟨g, 0, none⟩ = some (.int .i64 12))
    (first
      | (refine C.out _ ?_; repeat (first | assumption | exact FUpd.refl _ | refine FUpd.drew ?_ | refine FUpd.alloc ?_ _))
      | go_loud (refine C.out _ ?_; repeat (first | assumption | exact FUpd.refl _ | refine FUpd.drew ?_ | refine FUpd.alloc ?_ _)))
    (first
      | (go_at_call_of 11 (Value.pointer (some ⟨n, 0, none⟩)); refine (LT.out _ _ _ ?tb ?th).mono ?_
         case tb => (repeat (first | exact Below.refl _ _ | refine Below.drew ?_ | refine Below.alloc ?_ (by simp) _))
         case th => first | exact HA1.out | exact HA2.out | exact HA1.out.alloc _
         rintro e w14 ⟨u14, rfl, own14, D14, fA14, f14⟩)
      | (go_at_call 11; refine (LO.out w14 _ _ _ D14 f14 ?rb ?rh).mono ?_
         case rb => (repeat (first | exact Below.refl _ _ | refine Below.drew ?_ | refine Below.alloc ?_ (by simp) _))
         case rh => first | exact holds_new w14 [.int .i64 12] 3 | exact (HA2.out.drew).fupd fA14 (by decide) | exact ((HA1.out.alloc _).drew).fupd fA14 (by decide)
         rintro e w15 ⟨u15, rfl, own15, D15, fB15, f15⟩)
      | (go_at_call 15; refine (HDf.out w14 w15 _ _ u14 u15 own14 fB15 own15).mono ?_
         rintro e w16 ⟨g2, c2, rfl, hc2, fg2, b16⟩
         have f16 : FUpd w13 w16 := f15.trans (.ofBelow b16)))
  all_goals
    have D16 := D15.ofBelow b16
    have LF : Hid (Calls Tryd.prog 25 #[.string ⟨#[97]⟩] w16 fun e w' => e = .returned (.int .i64 202) ∧ Below w16.heap.size w16 w') := by
      have := tleaf_any ⟨#[97]⟩ (by decide) w16 D16.laid
      rw [show (⟨#[97]⟩ : ByteArray).data.toList = [97] from rfl, leaf_a] at this
      exact this
    go_wp2_with (first
      | (go_at_call 25; refine LF.out.mono ?_; rintro e w17 ⟨rfl, b17⟩; have KC := wake_keys (D16.ofBelow b17))
      | (go_at_call 12; refine KC.mono ?_; rintro e w18 ⟨g3, c3, rfl, hg3, fg3, b18⟩))
    have B18 : Below w16.heap.size w16 w18 := b17.trans (b18.mono b17.size)
    have F18 : FUpd w16 w18 := .ofBelow B18
    have D18 := D16.ofBelow B18
    have HC : Hid (∀ W, Below w18.heap.size w18 W → W.cell? ⟨g, 0, none⟩ = some (.int .i64 12) ∧ W.cell? ⟨g2, 0, none⟩ = some (.int .i64 10) ∧ W.rangeAt g3 1 (s7.map byteV) ∧ W.rangeAt (n + 2) 0 (s7.map byteV)) := fun W hW => ⟨C.out W (f16.trans (F18.trans (.ofBelow hW))), by rw [World.cell?_of_block (w := w16) ((F18.trans (.ofBelow hW)).block g2 fg2)]; exact hc2, rangeAt_below hg3 hW fg3.lt, (HS.out W (f16.trans (F18.trans (.ofBelow hW)))).range 0 _ (fun j v hv => by rw [Nat.zero_add]; exact hv)⟩
    have DC : Hid (∀ W, Below w18.heap.size w18 W → Calls Tryd.prog 14 #[.pointer (some ⟨n, 0, none⟩)] W fun e w' => e = .returned (.int .i64 0) ∧ w' = W) := fun W hW => by
      have := (D18.ofBelow hW).dirty
      rw [reck_dirty] at this
      exact this
    have LC : Hid (∀ W, Below w18.heap.size w18 W → Calls Tryd.prog 13 #[.pointer (some ⟨n, 0, none⟩)] W fun e w' => e = .returned (.int .i64 1) ∧ w' = W) := fun W hW => by
      have := (D18.ofBelow hW).len fitAr
      rw [show lenT (reckT tA) = lenT tA from rfl, tA_len] at this
      exact this
    have LF2 : Hid (∀ W, Below w18.heap.size w18 W → Calls Tryd.prog 25 #[.string ⟨#[97]⟩] W fun e w' => e = .returned (.int .i64 202) ∧ Below w18.heap.size w18 w') := fun W hW => by
      have := tleaf_any ⟨#[97]⟩ (by decide) W (D18.ofBelow hW).laid
      rw [show (⟨#[97]⟩ : ByteArray).data.toList = [97] from rfl, leaf_a] at this
      refine this.mono ?_
      rintro e w' ⟨e1, e2⟩
      exact ⟨e1, hW.trans (e2.mono hW.size)⟩
    have HFin : Hid (∀ W, Below w18.heap.size w18 W → Below n w W) := fun W hW => (D18.ofBelow hW).below
    have S7 := same32 s7 hx32
    have hu26 := und26
    have hi26 : (Tryd.prog.info? 26).map (·.size) = some (s7.map byteV).length := by rw [List.length_map, hx32]; exact siz26
    have hl7 : (s7.map byteV).length = 32 := by rw [List.length_map, hx32]
    have ho7 := byteV_one s7
    clear D13 D14 D15 D16 D18 own14 own15 f14 f15 fA14 fB15 f16 b16 b17 b18 B18 F18 KC LT LO HDf HA1 HA2 HMW hc2 fg2 hg3 fg3 hg' C HS LF hM D1 S0
    go_wp2_with fail
    have hq0 : Nonempty (Since w18) := ⟨⟨w18, Below.refl _ _⟩⟩
    have k1 : ∀ q : Since w18, q.1.cell? ⟨g, 0, none⟩ = some (.int .i64 12) := fun q => (HC.out q.1 q.2).1
    have k2 : ∀ q : Since w18, q.1.cell? ⟨g2, 0, none⟩ = some (.int .i64 10) := fun q => (HC.out q.1 q.2).2.1
    have k3 : RowC (fun w' => ∃ q : Since w18, w' = q.1) (.pointer (some ⟨g3, 1, none⟩)) s7 := fun W ⟨q, e⟩ => e ▸ row_at (HC.out q.1 q.2).2.2.1 hx32
    have k4 : RowC (fun w' => ∃ q : Since w18, w' = q.1) (.pointer (some ⟨n + 2, 0, none⟩)) s7 := fun W ⟨q, e⟩ => e ▸ row_at (HC.out q.1 q.2).2.2.2 hx32
    have DQ : Hid (∀ q : Since w18, Calls Tryd.prog 14 #[.pointer (some ⟨n, 0, none⟩)] q.1 fun e w' => e = .returned (.int .i64 0) ∧ ∃ q : Since w18, w' = q.1) := fun q => (DC.out q.1 q.2).mono fun e w' ⟨e1, e2⟩ => ⟨e1, q, e2⟩
    have LQ : Hid (∀ q : Since w18, Calls Tryd.prog 13 #[.pointer (some ⟨n, 0, none⟩)] q.1 fun e w' => e = .returned (.int .i64 1) ∧ ∃ q : Since w18, w' = q.1) := fun q => (LC.out q.1 q.2).mono fun e w' ⟨e1, e2⟩ => ⟨e1, q, e2⟩
    have FQ : Hid (∀ q : Since w18, Calls Tryd.prog 25 #[.string ⟨#[97]⟩] q.1 fun e w' => e = .returned (.int .i64 202) ∧ ∃ q : Since w18, w' = q.1) := fun q => (LF2.out q.1 q.2).mono fun e w' ⟨e1, e2⟩ => ⟨e1, ⟨w', e2⟩, rfl⟩
    have q0 : ∃ q : Since w18, { w18 with drawn := w18.drawn + 1 } = q.1 := ⟨⟨w18.drew, (Below.refl _ _).drew⟩, rfl⟩
    clear hu26 hi26 hl7 ho7 HC DC LC LF2 tO okA okN
    refine region_quiet_in (fun w' => ∃ q : Since w18, w' = q.1) (by kernel_rfl) (by kernel_rfl) q0 ?_
    repeat (go_big_quiet_step (first
      | (go_at_call 14; exact DQ.out _)
      | (go_at_call 13; exact LQ.out _)
      | (go_at_call 25; exact FQ.out _)))
    refine wpQuiet_nil ?_
    intro W hW
    obtain ⟨q, rfl⟩ := hW
    go_wp2
    go_ret
    exact ⟨rfl, HFin.out q.1 q.2⟩
end Go.Proofs.YtbfadapffpijpaaDoor
