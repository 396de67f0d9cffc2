/- ShelfB, CkVals, CkColl, CkSortP, CkFoldA, CkFold, CkSame. -/
import Derived.Shelf.SlSortCmp.WholeK
import Derived.Ground.SlsfProg
import Derived.Test.YtfmmholkeadejaaGreatDoorProg
import Derived.RangeFuncNested
import Derived.RangeFuncBound
import Derived.RangeFuncCalls
import Derived.RangeFuncLeaves
import Derived.RangeFuncBox
import Derived.Shelf.Abstract
import Derived.Shelf.RegionOpen
import Derived.Sort.MapsRangeIn
import Derived.Sort.KeysCollected
import Derived.WalkKit
import Derived.OwnWalkIn
import Derived.TacticsInMore
import Derived.LoopNIn
import Derived.LoopIn
import Derived.Maps.AppendAt
import Derived.Shelf.SlSortCmp.InsertionK
import Derived.Lib.Bytealg
import Derived.Sort.Grow
import Derived.Laws.StructEq
import Derived.Deep.RegionHeld3
import Derived.Test.YtfmmholkeadejaaGreatDoorZC1
import Derived.Test.YtfmmholkeadejaaGreatDoorZC4
import Derived.Test.YtfmmholkeadejaaGreatDoorZShelf
/- slices.SortFunc at pairs: the library's contract at this program. -/
namespace Go.Proofs.YtfmmholkeadejaaGreatDoor
open Go.Shelf
def Tryz.sortPr_ren : Go.Shelf.Ren := ⟨fun | 6 => 114 | 15 => 156 | 14 => 155 | 28 => 191 | 29 => 192 | 20 => 183 | 21 => 184 | 22 => 185 | 23 => 186 | 24 => 187 | 25 => 188 | 26 => 189 | 27 => 190 | 46 => 208 | 47 => 209 | 48 => 210 | 49 => 211 | 50 => 212 | 57 => 229 | n => n, fun | 22 => 39 | 24 => 103 | 25 => 118 | 3 => 3 | 39 => 189 | 0 => 0 | 53 => 186 | 55 => 68 | 4 => 4 | 46 => 206 | 45 => 205 | 50 => 210 | 5 => 5 | 9 => 9 | 66 => 229 | 70 => 232 | 76 => 245 | 77 => 246 | n => n, fun | n => n⟩
theorem Tryz.sortPr : Go.Proofs.SlLaysF0.n6 Tryz.prog Tryz.sortPr_ren := {
  mixed := by kernel_rfl
  f6 := ⟨Tryz.f114.name, by decide, Tryz.func114.trans (congrArg some (by kernel_rfl))⟩
  f14 := ⟨Tryz.f155.name, by decide, Tryz.func155.trans (congrArg some (by kernel_rfl))⟩
  f15 := Tryz.func156.trans (congrArg some (by kernel_rfl))
  f20 := ⟨Tryz.f183.name, by decide, Tryz.func183.trans (congrArg some (by kernel_rfl))⟩
  f21 := ⟨Tryz.f184.name, by decide, Tryz.func184.trans (congrArg some (by kernel_rfl))⟩
  f22 := ⟨Tryz.f185.name, by decide, Tryz.func185.trans (congrArg some (by kernel_rfl))⟩
  f23 := ⟨Tryz.f186.name, by decide, Tryz.func186.trans (congrArg some (by kernel_rfl))⟩
  f24 := ⟨Tryz.f187.name, by decide, Tryz.func187.trans (congrArg some (by kernel_rfl))⟩
  f25 := ⟨Tryz.f188.name, by decide, Tryz.func188.trans (congrArg some (by kernel_rfl))⟩
  f26 := ⟨Tryz.f189.name, by decide, Tryz.func189.trans (congrArg some (by kernel_rfl))⟩
  f27 := ⟨Tryz.f190.name, by decide, Tryz.func190.trans (congrArg some (by kernel_rfl))⟩
  f28 := Tryz.func191.trans (congrArg some (by kernel_rfl))
  f29 := Tryz.func192.trans (congrArg some (by kernel_rfl))
  f46 := ⟨Tryz.f208.name, by decide, Tryz.func208.trans (congrArg some (by kernel_rfl))⟩
  f47 := Tryz.func209.trans (congrArg some (by kernel_rfl))
  f48 := Tryz.func210.trans (congrArg some (by kernel_rfl))
  f49 := ⟨Tryz.f211.name, by decide, Tryz.func211.trans (congrArg some (by kernel_rfl))⟩
  f50 := ⟨Tryz.f212.name, by decide, Tryz.func212.trans (congrArg some (by kernel_rfl))⟩
  f57 := ⟨Tryz.f229.name, by decide, Tryz.func229.trans (congrArg some (by kernel_rfl))⟩
  t0 := Tryz.underlying0
  a0 := Tryz.isAgg0
  z0 := Tryz.sizeOf0
  v0 := Tryz.zeroValue0
  t3 := Tryz.underlying3
  a3 := Tryz.isAgg3
  z3 := Tryz.sizeOf3
  v3 := Tryz.zeroValue3
  t4 := Tryz.underlying4
  a4 := Tryz.isAgg4
  z4 := Tryz.sizeOf4
  v4 := Tryz.zeroValue4
  t5 := Tryz.underlying5
  a5 := Tryz.isAgg5
  z5 := Tryz.sizeOf5
  v5 := Tryz.zeroValue5
  t9 := Tryz.underlying9
  a9 := Tryz.isAgg9
  z9 := Tryz.sizeOf9
  v9 := Tryz.zeroValue9
  t22 := Tryz.underlying39
  a22 := Tryz.isAgg39
  z22 := Tryz.sizeOf39
  v22 := Tryz.zeroValue39
  t25 := Tryz.underlying118
  a25 := Tryz.isAgg118
  z25 := Tryz.sizeOf118
  v25 := Tryz.zeroValue118
  t39 := Tryz.underlying189
  a39 := Tryz.isAgg189
  z39 := Tryz.sizeOf189
  v39 := Tryz.zeroValue189
  t45 := Tryz.underlying205
  a45 := Tryz.isAgg205
  z45 := Tryz.sizeOf205
  v45 := Tryz.zeroValue205
  t46 := Tryz.underlying206
  a46 := Tryz.isAgg206
  z46 := Tryz.sizeOf206
  v46 := Tryz.zeroValue206
  t50 := Tryz.underlying210
  a50 := Tryz.isAgg210
  z50 := Tryz.sizeOf210
  v50 := Tryz.zeroValue210
  t53 := Tryz.underlying186
  a53 := Tryz.isAgg186
  z53 := Tryz.sizeOf186
  v53 := Tryz.zeroValue186
  t55 := Tryz.underlying68
  a55 := Tryz.isAgg68
  z55 := Tryz.sizeOf68
  v55 := Tryz.zeroValue68
  t66 := Tryz.underlying229
  a66 := Tryz.isAgg229
  z66 := Tryz.sizeOf229
  v66 := Tryz.zeroValue229
  t70 := Tryz.underlying232
  a70 := Tryz.isAgg232
  z70 := Tryz.sizeOf232
  v70 := Tryz.zeroValue232
  t76 := Tryz.underlying245
  a76 := Tryz.isAgg245
  z76 := Tryz.sizeOf245
  v76 := Tryz.zeroValue245
  t77 := Tryz.underlying246
  a77 := Tryz.isAgg246
  z77 := Tryz.sizeOf246
  v77 := Tryz.zeroValue246 }
end Go.Proofs.YtfmmholkeadejaaGreatDoor

/- maps.Values (62, 115) at a cask's pairs: each key's pair once, in some order. -/
namespace Go.Proofs.YtfmmholkeadejaaGreatDoor
open Go.RowKit Go.Maps Go.WideMaps Go.Sort Go.Shelf
attribute [local go_sem] Oper.semAt_some

abbrev Pr := List UInt8 × List UInt8
abbrev encPr (p : Pr) : Value := .agg #[encStr p.1, encStr p.2]
def ValAt (D0 : DataW Unit) (p : Pr) : Prop := D0.atKey (.string p.1) .nil = .agg [.lit (.string p.1), .lit (.string p.2)]
/-- All have come: each key once, with its value. -/
def AllOf (D0 : DataW Unit) (ps : List Pr) : Prop := (ps.map (·.1)).Nodup ∧ (∀ x, x ∈ ps.map (·.1) ↔ has D0 (.string x) = true) ∧ ∀ p ∈ ps, ValAt D0 p
/-- Each pair bears its own key. -/
def Keyd (D0 : DataW Unit) : Prop := ∀ k a c, D0.atKey (.string k) .nil = .agg [.lit (.string a), .lit (.string c)] → a = k

set_option maxRecDepth 100000 in
set_option maxHeartbeats 1000000 in
theorem values1_in (F : Fence) (n : Nat) (h115 : F.fn 115) (hro : F.round = none) (hn : 1 ≤ n) (l Bm b nn : Nat) (D0 : DataW Unit) (hD : Keyd D0) (J Jx : List Pr → World → Prop)
    (hY : ∀ pre x W, J pre W → pre.length < Maps.size D0 → YieldAt F (n - 1) Tryz.prog l #[encPr x] W fun e W' =>
      (e = .returned (.bool true) ∧ J (pre ++ [x]) W' ∧ KeepsWalks W W') ∨ (e = .returned (.bool false) ∧ Jx (pre ++ [x]) W'))
    (W : World) (hJ : AbidesFrom W.heap.size J) (hm : W.cell? ⟨Bm, 0, none⟩ = some (.map (some b))) (hown : W.ownsMap Tryz.prog 9 pairElem b nn D0) (h0 : J [] W) :
    CallsIn F n Tryz.prog 115 #[.func (.yield l) #[] #[], .pointer (some ⟨Bm, 0, none⟩)] W fun e W' => (∃ v, e = .returned v) ∧
      ((∃ ps, AllOf D0 ps ∧ J ps W') ∨ (∃ pre, True ∧ Jx pre W')) := by
  refine callsIn_of_wp Tryz.func115 rfl h115 ?_ hro
  simp only [Tryz.ntmps115, List.size_toArray, List.length_cons, List.length_nil, Nat.reduceAdd, Nat.reduceSub, Array.replicate_succ, Array.replicate_zero, List.push_toArray, List.append_toArray, List.nil_append, List.cons_append]
  gi_wp2_with (first
    | (gi_at_range; refine wpListIn_range_own _ rfl _ 25 rfl 9 103 (string_keyed Tryz.underlying9) Tryz.underlying25 _ b nn _ rfl hown ?_; intro w0 hrg0 hg0 hs0)
    | gi_in)
  go_frame
  gi_loopw [4] (fun _ wr => ∃ (left : Lit → Bool) (cnt : Nat) (ps : List Pr), wr.ranges Tryz.prog 9 pairElem b W.heap.size nn D0 left cnt ∧ ps.length + cnt ≤ Maps.size D0 ∧ Collected D0 left (ps.map (·.1)) ∧ (∀ p ∈ ps, ValAt D0 p) ∧ J ps wr)
    (fun _ wr => wr.rangeLeft b W.heap.size)
  case atStart =>
    exact ⟨_, _, [], hrg0, by simp, Collected.start D0, by simp, hJ [] W w0 none h0 hg0 (fun r e => by cases e)⟩
  case round =>
    obtain ⟨left, cnt, ps, hrg, hcs, hC, hV, hJs⟩ := hrel
    gi_wp2_with (first
      | (gi_at_next; refine wpListIn_next_ranges _ rfl _ rfl 9 (string_keyed Tryz.underlying9) pairElem encStr encPr (fun key kl hk => by obtain ⟨x, hx, _⟩ := Maps.keyOf_str Tryz.underlying9 hk; exact ⟨x, hx⟩) (fun v y hv => by obtain ⟨a, c, rfl, _⟩ := pair_inv hv; exact ⟨(a.data.toList, c.data.toList), rfl⟩) b W.heap.size nn _ _ _ rfl hrg ?_ ?_)
      | gi_in)
    · -- nothing is left
      intro hc0 hl0
      gi_wp2
      go_end0
      exact ⟨⟨_, rfl⟩, .inl ⟨ps, ⟨hC.1, fun x => by rw [hC.2 x, hl0]; simp, hV⟩, hJs⟩⟩
    · -- a pair has come
      intro x c1 c2 kl yd yp w2 cnt2 hkey hlk hv hat hrg2 hlt hg2 hs2 hen
      obtain ⟨x', ex, rfl, _⟩ := Maps.keyOf_str Tryz.underlying9 hkey
      obtain rfl : x = x' := encStr_inj ex
      obtain ⟨a', c', ec, ez⟩ := pair_inv hv
      have hyd : yd = .agg [.lit (.string c1), .lit (.string c2)] := by
        have e1 : encPr (c1, c2) = .agg #[.string a', .string c'] := ec
        have e2 : Value.string ⟨c1.toArray⟩ = Value.string a' ∧ Value.string ⟨c2.toArray⟩ = Value.string c' := by simpa [encPr, encStr] using e1
        obtain ⟨e3, e4⟩ := e2
        cases e3; cases e4
        exact ez
      obtain rfl : c1 = x := hD x c1 c2 ((hat .nil).trans hyd)
      have hJ2 : J ps w2 := hJ ps wr w2 (some W.heap.size) hJs hg2 (fun r e => by cases e; exact ⟨Nat.le_refl _, hrg.iter_walk⟩)
      have hJ3 : J ps (w2.alloc (.cells #[encStr c1, encStr c2] 103)) := hJ ps w2 _ none hJ2 (World.grownBy_alloc w2 _ none) (fun r e => by cases e)
      obtain ⟨fn, tmps, assign, body, hy, hR⟩ := hY ps (c1, c2) _ hJ3 (by omega)
      have q0 := (holds_new w2 [encStr c1, encStr c2] 103).at 0 _ rfl
      have q1 := (holds_new w2 [encStr c1, encStr c2] 103).at 1 _ rfl
      have hC2 : Collected D0 (fun z => left z && !z.sameKey (.string c1)) ((ps ++ [(c1, c2)]).map (·.1)) := by simpa using hC.step hlk hat
      have hV2 : ∀ p ∈ ps ++ [(c1, c2)], ValAt D0 p := fun p hp => (List.mem_append.1 hp).elim (hV p) (fun e => by simp at e; subst e; exact (hat .nil).trans hyd)
      have hrg3 := hrg2.of_walks (KeepsWalks.alloc w2 (.cells #[encStr c1, encStr c2] 103))
      have hlt3 : (w2.alloc (.cells #[encStr c1, encStr c2] 103)).rangeLeft b W.heap.size < wr.rangeLeft b W.heap.size := by rw [hrg3.left_eq, hrg.left_eq]; exact hlt
      clear hs2 ec ez hv hyd
      dsimp only [encPr] at hy hen
      gi_wp2
      refine hR.mono ?_
      rintro e W3 (⟨rfl, hJ4, hk4⟩ | ⟨rfl, hJx4⟩)
      · gi_wp2
        have hrg4 := hrg3.of_walks hk4
        go_roundw
        case rel => exact ⟨_, cnt2, ps ++ [(c1, c2)], hrg4, by simp; omega, hC2, hV2, hJ4⟩
        case measure => rw [hrg4.left_eq, hrg.left_eq]; exact hlt
      · gi_wp2
        refine bodyPost_ret (results_none rfl _ _ _) rfl ?_
        exact ⟨⟨_, rfl⟩, .inr ⟨ps ++ [(c1, c2)], trivial, hJx4⟩⟩
set_option maxHeartbeats 1000000 in
theorem values_in (F : Fence) (n : Nat) (hf : F.fn 62) (hro : F.round = none) (mb : Option Nat) (w : World) :
    CallsIn F n Tryz.prog 62 #[.map mb] w fun e w' => e = .returned (.func (.func 115) #[] #[.pointer (some ⟨w.heap.size, 0, none⟩)]) ∧ w' = w.alloc (.cells #[.map mb] 25) := by
  refine callsIn_of_wp Tryz.func62 rfl hf ?_ hro
  simp only [Tryz.ntmps62, List.size_toArray, List.length_cons, List.length_nil, Nat.reduceAdd, Nat.reduceSub, Array.replicate_succ, Array.replicate_zero, List.push_toArray, List.append_toArray, List.nil_append, List.cons_append]
  gi_wp2
  go_ret
  exact ⟨rfl, rfl⟩
theorem values_stops (F : Fence) (n : Nat) (h115 : F.fn 115) (hro : F.round = none) (hn : 1 ≤ n) (Bm b nn : Nat) (D0 : DataW Unit) (hD : Keyd D0) (w : World) (hBm : Bm < w.heap.size)
    (hm : w.cell? ⟨Bm, 0, none⟩ = some (.map (some b))) (hown : w.ownsMap Tryz.prog 9 pairElem b nn D0) :
    SeqStopsK F n Tryz.prog 115 #[.pointer (some ⟨Bm, 0, none⟩)] (fun x : Pr => #[encPr x]) KeepsWalks (AllOf D0) (fun _ => True) (Maps.size D0) w := fun l J Jx W hW hJ _ hY h0 => by
  have hown' : W.ownsMap Tryz.prog 9 pairElem b nn D0 := by
    have hbl := hown.lt
    obtain ⟨es, clock, hb, Ft, hs, hD⟩ := hown
    exact ⟨es, clock, (hW.block b hbl).trans hb, Ft, hs, hD⟩
  exact values1_in F n h115 hro hn l Bm b nn D0 hD J Jx hY W hJ ((hW.cell (p := ⟨Bm, 0, none⟩) hBm).trans hm) hown' h0
end Go.Proofs.YtfmmholkeadejaaGreatDoor

/- slices.Collect (113), AppendSeq (154) of a cask's pairs. -/
namespace Go.Proofs.YtfmmholkeadejaaGreatDoor
open Go.RowKit Go.Maps Go.WideMaps Go.Sort Go.Shelf
attribute [local go_sem] Oper.semAt_some

def cellsP (ps : List Pr) : List Value := ps.flatMap fun p => [encStr p.1, encStr p.2]
theorem cellsP_append (a b : List Pr) : cellsP (a ++ b) = cellsP a ++ cellsP b := by simp [cellsP]
theorem info103 : (Tryz.prog.info? 103).map (fun i => (i.zero, i.size, i.bytes)) = some (some (.agg #[.string ⟨#[]⟩, .string ⟨#[]⟩]), 2, 32) := by kernel_rfl

theorem holds_own {β : Type} (B : Nat) (cs : β → List Value) (t : TypeId) : Go.Own (fun s W => Holds W B (cs s) t) := fun s X Y row hs hg hrow => by
  unfold Holds at *
  exact (grownBy_keeps_cells hg hrow hs rfl).trans hs
set_option maxRecDepth 100000 in
set_option maxHeartbeats 4000000 in
theorem appendSeq_some (Bm b nn : Nat) (D0 : DataW Unit) (hD : Keyd D0) (hmax : Maps.size D0 ≤ 16777216) (w : World) (hBm : Bm < w.heap.size) (hm : w.cell? ⟨Bm, 0, none⟩ = some (.map (some b))) (hown : w.ownsMap Tryz.prog 9 pairElem b nn D0) :
    Calls Tryz.prog 154 #[.slice none 0 0, .func (.func 115) #[] #[.pointer (some ⟨Bm, 0, none⟩)]] w fun e w' => ∃ v ps, e = .returned v ∧ AllOf D0 ps ∧ w'.ownsRow w.heap.size 103 2 v ps.length (cellsP ps) ∧ Below w.heap.size w w' := by
  obtain ⟨i0, hi, hz0, hz1, hz2⟩ := info_parts info103
  refine (callsIn_wide (n := 3)).1 ?_
  refine callsIn_of_wp_marks Tryz.func154 rfl trivial ?_ rfl
  simp only [Tryz.ntmps154, List.size_toArray, List.length_cons, List.length_nil, Nat.reduceAdd, Nat.reduceSub, Array.replicate_succ, Array.replicate_zero, List.push_toArray, List.append_toArray, List.nil_append, List.cons_append]
  gi_wp2
  obtain ⟨m, hm0⟩ : ∃ m, w.heap.size = m := ⟨_, rfl⟩
  rw [hm0]
  have b0 := holds_new w [.slice none 0 0] 39
  rw [hm0] at b0
  have hB0 : Below m w (w.alloc (.cells #[.slice none 0 0] 39)) := (Below.refl _ w).alloc (by omega) _
  have hsz : (w.alloc (.cells #[.slice none 0 0] 39)).heap.size = m + 1 := by simp [hm0]
  have hst := values_stops Fence.wide 2 trivial rfl (by omega) Bm b nn D0 hD w hBm hm hown
  obtain ⟨W0, hW0⟩ : ∃ W0, w.alloc (.cells #[.slice none 0 0] 39) = W0 := ⟨_, rfl⟩
  simp only [List.toArray] at b0
  rw [hW0] at b0 hB0 hsz ⊢
  clear hW0
  have hbox : Boxed W0 m 39 (.slice none 0 0) := b0
  refine wpIn_rangeFunc_ownH rfl (by omega) (gf := 115) (lb := #[.pointer (some ⟨Bm, 0, none⟩)]) rfl trivial (enters_of Tryz.func115 (by kernel_rfl) rfl)
    hst walksK_t walksK_b (hB0.mono (by omega)) (fun _ => rfl)
    (fun pre W => (∃ v, Boxed W m 39 v ∧ W.ownsRow m 103 2 v pre.length (cellsP pre) ∧ True) ∧ Below m w W)
    (fun _ _ _ => False)
    (OwnFrom.and (Go.Own.from (holdsRow_own m m 39 103 2 (fun pre : List Pr => pre.length) (fun pre => cellsP pre) (fun _ _ => True)) _) (ownFrom_below (by omega) (by omega)))
    (fun _ _ _ _ _ hs _ _ => hs)
    ⟨⟨_, hbox, World.ownsRow_nil _ _ _ _, trivial⟩, hB0⟩
    (fun x a' W => ∃ Bx, m < Bx ∧ Holds W Bx [encStr x.1, encStr x.2] 103 ∧ a' = { tmps := #[.slice none 0 0, .func (.func 115) #[] #[.pointer (some ⟨Bm, 0, none⟩)], .pointer (some ⟨m, 0, none⟩), undef, .slice none 0 0, .pointer (some ⟨Bx, 0, none⟩), .func (.func 115) #[] #[.pointer (some ⟨Bm, 0, none⟩)], encPr x, undef, undef, undef, undef, undef], defers := [] })
    (fun x a' _ X Y row hs hg hr => by obtain ⟨Bx, h1, h2, h3⟩ := hs; exact ⟨Bx, h1, holds_own Bx (fun (_ : Unit) => [encStr x.1, encStr x.2]) 103 () X Y row h2 hg (fun r e => (hr r e).2), h3⟩)
    ?assign ?body ?done ?stop
  case assign =>
    rintro l pre ⟨x1, x2⟩ W K ⟨⟨v, h1, hr, _⟩, hB1⟩ hK
    have hle : m ≤ W.heap.size := Nat.le_trans (by omega) hB1.size
    gi_wp2
    exact hK _ _ ((KeepsOthers.alloc _ _).from _) (KeepsWalks.alloc W _) ⟨⟨v, h1.alloc _, hr.alloc _, trivial⟩, hB1.alloc hle _⟩ ⟨W.heap.size, h1.lt, holds_new W [_, _] 103, rfl⟩
  case body =>
    rintro l pre ⟨x1, x2⟩ a' W hl ⟨r, hr⟩ ⟨⟨v, hv, hrow, _⟩, hB1⟩ ⟨Bx, hBx, bX, rfl⟩ hlt
    have c0 := hv.cell
    have y0 := bX.at 0 _ rfl
    have y1 := bX.at 1 _ rfl
    have hle : m ≤ W.heap.size := Nat.le_trans (by omega) hB1.size
    have hnew : ∀ j u, [encStr x1, encStr x2][j]? = some u → (W.alloc (.cells #[encStr x1, encStr x2] 103)).cell? ((⟨W.heap.size, 0, none⟩ : Addr).add j) = some u := fun j u hu => by
      have := (holds_new W [encStr x1, encStr x2] 103).at j u hu
      have e : (⟨W.heap.size, 0, none⟩ : Addr).add j = ⟨W.heap.size, j, none⟩ := by simp [Addr.add]; exact fun h => h.symm
      rw [e]; exact this
    gi_wp2_with (gi_at_builtin; refine wpListIn_append_own _ rfl _ _ 39 rfl m 103 i0 (.agg #[.string ⟨#[]⟩, .string ⟨#[]⟩]) 2 32 Tryz.underlying39 hi hz0 hz1 hz2 rfl (by decide) _ _ _ rfl (hrow.alloc _) ⟨W.heap.size, 0, none⟩ 1 1 [encStr x1, encStr x2] rfl rfl hnew (by simp [Value.oneCell', encStr]) (by unfold maxLen; omega) (by omega) (by simp; omega) ?_; intro v' w1 hown' hgrow _; obtain ⟨g', cap', rfl⟩ := ownsRow_succ hown'; obtain ⟨hv1, hv2, hr2, hk2, hb2⟩ := hv.appended (by decide) hrow hle (Nat.le_refl _) hown' hgrow; have hc1 := hv1.cell; have hf1 := hv1.frozen)
    have hcd : cellsP (pre ++ [(x1, x2)]) = cellsP pre ++ [encStr x1, encStr x2] := by rw [cellsP_append]; rfl
    have hr4 : (w1.setCell ⟨m, 0, none⟩ (.slice (some ⟨g', 0, none⟩) (pre.length + 1) cap')).ownsRow m 103 2 (.slice (some ⟨g', 0, none⟩) (pre.length + 1) cap') (pre ++ [(x1, x2)]).length (cellsP (pre ++ [(x1, x2)])) := by rw [hcd, List.length_append]; exact hr2
    exact ⟨hk2.from _, hk2.walks, ⟨_, hv2, hr4⟩, hB1.trans hb2⟩
  case done =>
    rintro D zs W hD0 hAll ⟨⟨v, hv, hrow, _⟩, hB1⟩ hK
    have c0 := hv.cell
    have hB3 := hB1.trans (belowK_b (w := w) (Nat.le_of_eq hm0.symm) W D (.deferred (some [])) (.deferred none) (by omega) hK rfl rfl)
    have hr3 := ownsRow_putObj hrow (.deferred none) hK rfl
    gi_wp2
    refine ⟨by simp, .inl ⟨_, _, rfl, run_takeDeferred hK, ?_⟩⟩
    refine ⟨_, results_tmp rfl _ _ _, _, zs, rfl, hAll, ?_, ?_⟩
    · rw [hm0]; exact hr3
    · rw [hm0]; exact hB3
  case stop =>
    rintro D c pre W _ _ h _
    exact h.elim
set_option maxRecDepth 100000 in
set_option maxHeartbeats 1000000 in
theorem collect_some (Bm b nn : Nat) (D0 : DataW Unit) (hD : Keyd D0) (hmax : Maps.size D0 ≤ 16777216) (w : World) (hBm : Bm < w.heap.size) (hm : w.cell? ⟨Bm, 0, none⟩ = some (.map (some b))) (hown : w.ownsMap Tryz.prog 9 pairElem b nn D0) :
    Calls Tryz.prog 113 #[.func (.func 115) #[] #[.pointer (some ⟨Bm, 0, none⟩)]] w fun e w' => ∃ v ps, e = .returned v ∧ AllOf D0 ps ∧ w'.ownsRow w.heap.size 103 2 v ps.length (cellsP ps) ∧ Below w.heap.size w w' := by
  have ha := appendSeq_some Bm b nn D0 hD hmax w hBm hm hown
  clear hown hm
  go_enter Tryz.func113, Tryz.ntmps113
  go_wp2_with (go_at_call 154; refine ha.mono ?_; rintro e w' ⟨v, ps, rfl, hR⟩)
  go_ret
  exact ⟨v, ps, rfl, hR⟩
end Go.Proofs.YtfmmholkeadejaaGreatDoor

/- Pairs by their keys: the order that Fold sorts by, without memory. -/
namespace Go.Proofs.YtfmmholkeadejaaGreatDoor
open Go.RowKit Go.Shelf Go.Sort Go.Lib

def prC (p : Pr) : List Value := [encStr p.1, encStr p.2]
def cmpP (x y : Pr) : Int := Lib.compareBytes x.1 y.1
theorem compareB_lt : ∀ a b : List UInt8, Lib.compareBytes a b < 0 ↔ a < b
  | [], [] => by simp [Lib.compareBytes]
  | [], _ :: _ => by simp [Lib.compareBytes]
  | _ :: _, [] => by simp [Lib.compareBytes]
  | a :: ar, b :: br => by
    rw [Lib.compareBytes, List.cons_lt_cons_iff]
    by_cases h1 : a < b
    · simp [h1]
    · by_cases h2 : b < a
      · have h3 : a ≠ b := fun e => by rw [e] at h2; exact absurd h2 (UInt8.lt_irrefl b)
        simp [h1, h2, h3]
      · have h3 : a = b := UInt8.le_antisymm (UInt8.not_lt.1 h2) (UInt8.not_lt.1 h1)
        simp [h3, compareB_lt ar br]
theorem cmpP_lt (x y : Pr) : ltOf cmpP x y = decide (x.1 < y.1) := by
  unfold ltOf cmpP
  exact decide_eq_decide.2 (compareB_lt x.1 y.1)
theorem cmpP_swo : SWO (ltOf cmpP) where
  irrefl x := by rw [cmpP_lt]; simp
  trans x y z h1 h2 := by rw [cmpP_lt] at *; simp at *; exact List.lt_trans h1 h2
  ntrans x y z h1 h2 := by rw [cmpP_lt] at *; simp at *; exact List.le_trans h2 h1
theorem cellsP_len (l : List Pr) : (cellsP l).length = l.length * 2 := by
  induction l with
  | nil => rfl
  | cons p l ih => simp [cellsP] at ih ⊢; omega
theorem cellsP_at : ∀ {l : List Pr} {i : Nat} {p : Pr}, l[i]? = some p → ∀ tl : List Value, (cellsP l ++ tl)[i * 2]? = some (encStr p.1) ∧ (cellsP l ++ tl)[i * 2 + 1]? = some (encStr p.2)
  | [], i, p, h, tl => by simp at h
  | q :: l, 0, p, h, tl => by
    simp at h
    subst h
    exact ⟨rfl, rfl⟩
  | q :: l, i + 1, p, h, tl => by
    have := cellsP_at (l := l) (i := i) (p := p) (by simpa using h) tl
    have e : cellsP (q :: l) ++ tl = encStr q.1 :: encStr q.2 :: (cellsP l ++ tl) := rfl
    rw [e, show (i + 1) * 2 = i * 2 + 1 + 1 by omega, List.getElem?_cons_succ, List.getElem?_cons_succ, List.getElem?_cons_succ, List.getElem?_cons_succ]
    exact this
theorem flat_cellsP (l : List Pr) (t : Nat) (h : t < l.length * 2) (tl : List Value) : (cellsP l ++ tl)[t]? = some ((prC l.toArray[t / 2]!)[t % 2]!) := by
  have hlt : t / 2 < l.length := by omega
  have hd : l[t / 2]? = some l[t / 2] := List.getElem?_eq_getElem hlt
  have he : l.toArray[t / 2]! = l[t / 2] := by simp [hlt]
  obtain ⟨h1, h2⟩ := cellsP_at hd tl
  rw [he]
  rcases Nat.mod_two_eq_zero_or_one t with g | g
  · rw [g]
    have ht : t = t / 2 * 2 := by omega
    rw [show (cellsP l ++ tl)[t]? = (cellsP l ++ tl)[t / 2 * 2]? by rw [← ht], h1]; rfl
  · rw [g]
    have ht : t = t / 2 * 2 + 1 := by omega
    rw [show (cellsP l ++ tl)[t]? = (cellsP l ++ tl)[t / 2 * 2 + 1]? by rw [← ht], h2]; rfl
theorem holdsK_pr {w : World} {b : Nat} {l : List Pr} {tl : List Value} (h : Holds w b (cellsP l ++ tl) 103) : HoldsK prC 2 w b 0 l.toArray := fun j hj => by
  have hj' : j < l.length * 2 := by simpa using hj
  refine ⟨?_, h.frozen _⟩
  rw [Nat.zero_add, h.at j _ (flat_cellsP l j hj' tl), get_flatK _ _ _ _ (by simpa using hj')]
  rfl
theorem put_blockP {w : World} {b m : Nat} {l l' : List Pr} {tl : List Value} (h : Holds w b (cellsP l ++ tl) 103) (hm : m ≤ b) (hl : l'.length = l.length) (n : Nat) (os : Array Obj) :
    Holds (sortWorldK prC 2 w b 0 n l'.toArray os) b (cellsP l' ++ tl) 103 ∧ Below m w (sortWorldK prC 2 w b 0 n l'.toArray os) := by
  have hb := h.lt
  have hsz : (putRowK prC 2 (Go.Sort.ahead w n) b 0 l'.toArray).heap.size = w.heap.size := by
    simp [putRowK, putRow, mapBlock, Go.Sort.ahead]
  have hh : ∀ k, (putRowK prC 2 (Go.Sort.ahead w n) b 0 l'.toArray).heap[k]? = if b = k then (w.heap[k]?).map (onCells (putCells id 0 (flatK prC 2 l'.toArray))) else w.heap[k]? := by
    intro k
    simp only [putRowK, putRow, mapBlock, Go.Sort.ahead, Array.getElem?_modify]
  have hg : ∀ k, k < w.heap.size → (sortWorldK prC 2 w b 0 n l'.toArray os).heap[k]? = (putRowK prC 2 (Go.Sort.ahead w n) b 0 l'.toArray).heap[k]? := by
    intro k hk
    show (_ ++ os)[k]? = _
    rw [Array.getElem?_append_left (by rw [hsz]; exact hk)]
  refine ⟨?_, rfl, rfl, rfl, ?_, fun k hk => ?_⟩
  · unfold Holds at *
    rw [hg b hb, hh, if_pos rfl, h]
    show some (Obj.cells (putCells id 0 (flatK prC 2 l'.toArray) (cellsP l ++ tl).toArray) 103 (0, 0)) = _
    congr 2
    apply Array.ext_getElem?
    intro i
    simp only [putCells, Array.getElem?_mapIdx, List.getElem?_toArray, size_flatK]
    rcases Nat.lt_or_ge i (l.length * 2) with g | g
    · rw [flat_cellsP l i g tl, flat_cellsP l' i (by omega) tl]
      simp only [Option.map_some]
      rw [if_pos (by simp; omega), get_flatK _ _ _ _ (by simp; omega)]
      rfl
    · rw [List.getElem?_append_right (by rw [cellsP_len]; omega), List.getElem?_append_right (by rw [cellsP_len]; omega), cellsP_len, cellsP_len, hl]
      cases tl[i - l.length * 2]? with
      | none => rfl
      | some v => simp only [Option.map_some]; rw [if_neg (by simp; omega)]
  · show w.heap.size ≤ (_ ++ os).size
    rw [Array.size_append, hsz]; omega
  · rw [hg k (by omega), hh, if_neg (by omega)]
/-- A cask's pairs. -/
def kvL (kv : Fs) : List Pr := kv.map fun p => (p.1, p.2.bytes)
/-- Two lists of pairs that rise by their keys and have the same pairs are one. -/
theorem kv_sorted {kv : Fs} (hk : Rising kv) {l : List Pr} (hp : l.Perm (kvL kv)) (hs : l.Pairwise fun x y => ¬ y.1 < x.1) : l = kvL kv := by
  refine List.Perm.eq_of_pairwise (le := fun x y : Pr => ¬ y.1 < x.1) (fun a b ha hb h1 h2 => ?_) hs (List.pairwise_map.2 (hk.imp fun {p q} hlt => ?_)) hp
  · have e : a.1 = b.1 := List.le_antisymm (List.not_lt.1 h1) (List.not_lt.1 h2)
    have ha' := hp.mem_iff.1 ha
    obtain ⟨p, hp1, rfl⟩ := List.mem_map.1 ha'
    obtain ⟨q, hq1, rfl⟩ := List.mem_map.1 hb
    have : p = q := by
      by_cases hpq : p = q
      · exact hpq
      · exfalso
        rcases List.pairwise_iff_getElem.1 hk with hkk
        obtain ⟨i, hi, ei⟩ := List.getElem_of_mem hp1
        obtain ⟨j, hj, ej⟩ := List.getElem_of_mem hq1
        rcases Nat.lt_trichotomy i j with g | g | g
        · have := hkk i j hi hj g
          rw [ei, ej] at this
          simp only at e
          rw [e] at this
          exact List.lt_irrefl _ this
        · subst g; exact hpq (ei.symm.trans ej)
        · have := hkk j i hj hi g
          rw [ei, ej] at this
          simp only at e
          rw [e] at this
          exact List.lt_irrefl _ this
    rw [this]
  · exact fun h => List.lt_irrefl _ (List.lt_trans hlt h)
theorem all_perm {D : DataW Unit} {kv : Fs} (hk : Rising kv) (hat : ∀ k, D.atKey (.string k) .nil = pk k (get kv k)) (hhas : ∀ k, Maps.has D (.string k) = (get kv k).isSome) {ps : List Pr} (h : AllOf D ps) : ps.Perm (kvL kv) := by
  obtain ⟨h1, h2, h3⟩ := h
  have hn : ps.Nodup := (List.pairwise_map.1 h1).imp fun {a b} h e => h (congrArg Prod.fst e)
  have hv : ∀ p ∈ ps, ∃ f, get kv p.1 = some f ∧ p.2 = f.bytes := fun p hp => by
    have e := h3 p hp
    unfold ValAt at e
    rw [hat] at e
    cases hg : get kv p.1 with
    | none => rw [hg] at e; cases e
    | some f => rw [hg] at e; simp [pk] at e; exact ⟨f, rfl, e.symm⟩
  have hkn : (kvL kv).Nodup := List.pairwise_map.2 (hk.imp fun {p q} hlt e => by
    have : p.1 = q.1 := (Prod.mk.inj e).1
    rw [this] at hlt; exact List.lt_irrefl _ hlt)
  refine (List.perm_ext_iff_of_nodup hn hkn).2 fun p => ⟨fun hp => ?_, fun hp => ?_⟩
  · obtain ⟨f, hf, e⟩ := hv p hp
    exact List.mem_map.2 ⟨_, get_mem hf, by rw [← e]⟩
  · obtain ⟨q, hq, rfl⟩ := List.mem_map.1 hp
    have hg := mem_get hk hq
    have hm : q.1 ∈ ps.map (·.1) := (h2 q.1).2 (by rw [hhas, hg]; rfl)
    obtain ⟨p, hp1, e⟩ := List.mem_map.1 hm
    obtain ⟨f, hf, e2⟩ := hv p hp1
    rw [e, hg] at hf
    cases hf
    have : p = (q.1, q.2.bytes) := Prod.ext e e2
    rw [← this]; exact hp1
end Go.Proofs.YtfmmholkeadejaaGreatDoor

/- Fold's order (63): pairs by their keys. -/
namespace Go.Proofs.YtfmmholkeadejaaGreatDoor
open Go.RowKit Go.Sort

abbrev prV (k v : ByteArray) : Value := .agg #[.string k, .string v]
set_option maxHeartbeats 1000000 in
theorem foldcmp_any (k v k' v' : ByteArray) (w : World) : Calls Tryz.prog 63 #[prV k v, prV k' v'] w fun e w' => e = .returned (.int .i64 (Lib.compareBytes k.data.toList k'.data.toList)) ∧ ∃ q os', w' = grow (w.drewN q) os' := by
  have x0 := ((holds_new w [.string k, .string v] 103).alloc (.cells #[.string k', .string v'] 103)).at 0 _ rfl
  have y0 := (holds_new (w.alloc (.cells #[.string k, .string v] 103)) [.string k', .string v'] 103).at 0 _ rfl
  rw [World.size_alloc] at y0
  have h64 : Hid (∀ W, Calls Tryz.prog 64 #[.string k, .string k'] W fun e w' => e = .returned (.int .i64 (Lib.compareBytes k.data.toList k'.data.toList)) ∧ w' = W) := fun W => Tryz.strings_Compare k k' W
  generalize Lib.compareBytes k.data.toList k'.data.toList = r at *
  go_enter Tryz.func63, Tryz.ntmps63
  go_wp2_with (go_at_call 64; refine (h64.out _).mono ?_; rintro e w1 ⟨rfl, rfl⟩)
  go_ret
  exact ⟨rfl, 0, _, by rw [alloc_eq_grow, alloc_eq_grow, grow_grow]; rfl⟩
end Go.Proofs.YtfmmholkeadejaaGreatDoor

/- slices.SortFunc (114), SortedFunc (61) at a cask's pairs; Fold (23). -/
namespace Go.Proofs.YtfmmholkeadejaaGreatDoor
open Go.RowKit Go.Shelf Go.Sort Go.Lib Go.Maps

theorem cmpLaysP (blk off size : Nat) (w : World) : CmpLays Tryz.prog 63 #[] prC 2 cmpP blk off size w := fun _ _ _ _ x y => foldcmp_any ⟨x.1.toArray⟩ ⟨x.2.toArray⟩ ⟨y.1.toArray⟩ ⟨y.2.toArray⟩ _
theorem sortP_some (b m : Nat) (l : List Pr) (tl : List Value) (cap : Nat) (hm : m ≤ b) (hlen : l.length < 4611686018427387904) (w : World) (hb : Holds w b (cellsP l ++ tl) 103) :
    Calls Tryz.prog 114 #[.slice (some ⟨b, 0, none⟩) l.length cap, .func (.func 63) #[] #[]] w fun e w' =>
      e = .returned (.tuple #[]) ∧ ∃ l', l'.Perm l ∧ l'.Pairwise (fun x y => ¬ y.1 < x.1) ∧ l'.length = l.length ∧ Holds w' b (cellsP l' ++ tl) 103 ∧ Below m w w' := by
  have eg : ∀ args w, (callFunc 63 args).run Tryz.prog w = .ok (.enter 63 args) w := enters_of Tryz.func63 (by kernel_rfl) rfl
  have hp := AnyQ.slices_SortFunc_eq Tryz.sortPr 2 Tryz.isAgg103 Tryz.sizeOf103 prC (fun _ => rfl) (fun x v hv => by simp [prC] at hv; rcases hv with rfl | rfl <;> rfl) cmpP cmpP_swo 63 #[] b 0 cap l.toArray w eg (cmpLaysP b 0 _ w) (holdsK_pr hb) hb.lt (by simpa using hlen)
  change Calls Tryz.prog 114 _ _ _ at hp
  simp only [List.size_toArray] at hp
  refine hp.mono ?_
  rintro e w' ⟨rfl, n, os, rfl⟩
  have hs := pdq_sorts (ltOf cmpP) cmpP_swo l.toArray 0 l.length (Lib.bitLen l.length) true true (Nat.zero_le _) (by simp) (Or.inl rfl)
  obtain ⟨⟨hz, _, hperm⟩, hsort⟩ := hs
  generalize pdq (ltOf cmpP) l.toArray 0 l.length (Lib.bitLen l.length) true true = d' at *
  have hz' : d'.size = l.length := by simpa using hz
  rw [Array.extract_eq_self_of_le (by omega), Array.extract_eq_self_of_le (by simp)] at hperm
  have hlen' : d'.toList.length = l.length := by simpa using hz'
  have hb2 := put_blockP hb hm hlen' n os
  rw [Array.toArray_toList] at hb2
  refine ⟨rfl, d'.toList, by simpa using hperm, ?_, hlen', hb2.1, hb2.2⟩
  rw [List.pairwise_iff_getElem]
  intro i j hi hj hij
  have := hsort i j (Nat.zero_le _) hij (by omega)
  rw [cmpP_lt, decide_eq_false_iff_not] at this
  have ei : d'[i]! = d'.toList[i] := by simp [show i < d'.size by omega]
  have ej : d'[j]! = d'.toList[j] := by simp [show j < d'.size by omega]
  rw [ei, ej] at this
  exact this
set_option maxRecDepth 100000 in
set_option maxHeartbeats 1000000 in
theorem insP_none (cap : Nat) (w : World) : Calls Tryz.prog 183 #[.slice none 0 cap, .int .i64 0, .int .i64 0, .func (.func 63) #[] #[]] w fun e w' => e = .returned (.tuple #[]) ∧ w' = w := by
  go_enter Tryz.func183, Tryz.ntmps183
  go_wp2
  go_loopw [8] (fun p wr => p = .int .i64 1 ∧ wr = w) (fun _ _ => 0)
  case atStart => exact ⟨rfl, rfl⟩
  case round =>
    obtain ⟨rfl, rfl⟩ := hrel
    go_wp2
    go_end0
    exact ⟨rfl, rfl⟩
set_option maxRecDepth 100000 in
set_option maxHeartbeats 1000000 in
theorem pdqP_none (cap : Nat) (lim : Int) (w : World) : Calls Tryz.prog 155 #[.slice none 0 cap, .int .i64 0, .int .i64 0, .int .i64 lim, .func (.func 63) #[] #[]] w fun e w' => e = .returned (.tuple #[]) ∧ w' = w := by
  have hi := insP_none cap w
  go_enter Tryz.func155, Tryz.ntmps155
  go_wp2
  go_loopw [1, 2] (fun p q wr => p = .int .i64 0 ∧ q = .int .i64 0 ∧ wr = w) (fun _ _ _ => 0)
  case atStart => exact ⟨rfl, rfl, rfl⟩
  case round =>
    obtain ⟨rfl, rfl, rfl⟩ := hrel
    go_wp2_with (go_at_call 183; refine hi.mono ?_; rintro e w' ⟨rfl, rfl⟩)
    refine bodyPost_ret (results_none rfl _ _ _) rfl ?_
    exact ⟨rfl, rfl⟩
set_option maxRecDepth 100000 in
theorem sortP_none (cap : Nat) (w : World) :
    Calls Tryz.prog 114 #[.slice none 0 cap, .func (.func 63) #[] #[]] w fun e w' => e = .returned (.tuple #[]) ∧ w' = w := by
  have hp := fun lim => pdqP_none cap lim w
  have hl := Tryz.bits_Len 0 w (by omega) (by omega)
  go_enter Tryz.func114, Tryz.ntmps114
  go_wp2_with (first | (go_at_call 156; refine hl.mono ?_; rintro e w' ⟨rfl, rfl⟩) | (go_at_call 155; refine (hp _).mono ?_; rintro e w' ⟨rfl, rfl⟩))
  go_end0
  exact ⟨rfl, rfl⟩
theorem own_holdsP {W : World} {m n : Nat} {v : Value} {l : List Pr} (h : W.ownsRow m 103 2 v n (cellsP l)) (hn : n = l.length) :
    (v = .slice none 0 0 ∧ l = []) ∨ ∃ g cap tl, v = .slice (some ⟨g, 0, none⟩) l.length cap ∧ m ≤ g ∧ l.length ≤ cap ∧ cap ≤ maxLen ∧ (cellsP l ++ tl).length = cap * 2 ∧ Holds W g (cellsP l ++ tl) 103 := by
  subst hn
  obtain ⟨_, ⟨rfl, h0⟩ | ⟨g, cap, cur, rfl, hm, hh, hc, hc2, hc3, ht⟩⟩ := h
  · exact .inl ⟨rfl, List.eq_nil_of_length_eq_zero h0⟩
  · refine .inr ⟨g, cap, cur.toList.drop (l.length * 2), rfl, hm, hc, hc2, ?_, ?_⟩
    · rw [← ht, List.take_append_drop, Array.length_toList, hc3]
    · unfold Holds
      rw [← ht, List.take_append_drop, Array.toArray_toList]
      exact hh
theorem sortP_kv (m : Nat) (kv : Fs) (hk : Rising kv) (hlen : kv.length ≤ 16777216) (W : World) (a : Option Addr) (n c : Nat) (ps : List Pr) (hp : ps.Perm (kvL kv)) (hn : n = ps.length) (hr : W.ownsRow m 103 2 (.slice a n c) ps.length (cellsP ps)) :
    Calls Tryz.prog 114 #[.slice a n c, .func (.func 63) #[] #[]] W fun e w' => e = .returned (.tuple #[]) ∧ w'.ownsRow m 103 2 (.slice a n c) kv.length (cellsP (kvL kv)) ∧ Below m W w' := by
  subst hn
  have hkl : (kvL kv).length = kv.length := by simp [kvL]
  have hpl : ps.length = kv.length := hp.length_eq.trans hkl
  rcases own_holdsP hr rfl with ⟨e, rfl⟩ | ⟨g, cap, tl, e, hg, hcap, hcm, htl, hH⟩
  · obtain ⟨rfl, rfl⟩ : a = none ∧ c = 0 := by
      injection e with e1 e2 e3
      exact ⟨e1, e3⟩
    refine (sortP_none 0 W).mono ?_
    rintro e w' ⟨rfl, rfl⟩
    have : kvL kv = [] := hp.nil_eq.symm
    rw [this] at hkl ⊢
    rw [← hkl]
    exact ⟨rfl, World.ownsRow_nil _ _ _ _, Below.refl _ _⟩
  · obtain ⟨rfl, -, rfl⟩ : a = some ⟨g, 0, none⟩ ∧ ps.length = ps.length ∧ cap = c := by
      injection e with e1 e2 e3
      exact ⟨e1, e2, e3.symm⟩
    refine (sortP_some g m ps tl cap hg (by omega) W hH).mono ?_
    rintro e w' ⟨rfl, l', hp', hs', hl', hH', hB'⟩
    have e2 : l' = kvL kv := kv_sorted hk (hp'.trans hp) hs'
    subst e2
    refine ⟨rfl, ⟨by rw [cellsP_len, hkl], .inr ⟨g, cap, (cellsP (kvL kv) ++ tl).toArray, by rw [hpl], hg, hH', by omega, hcm, ?_, ?_⟩⟩, hB'⟩
    · rw [List.size_toArray, ← htl, List.length_append, List.length_append, cellsP_len, cellsP_len, hl']
    · rw [← hkl, ← cellsP_len, List.take_left']
      rfl
theorem collect_kv (Bm b nn : Nat) (D0 : DataW Unit) (kv : Fs) (hk : Rising kv) (hat : ∀ k, D0.atKey (.string k) .nil = pk k (get kv k)) (hhas : ∀ k, has D0 (.string k) = (get kv k).isSome) (hmax : Maps.size D0 ≤ 16777216) (w : World) (hBm : Bm < w.heap.size) (hm : w.cell? ⟨Bm, 0, none⟩ = some (.map (some b))) (hown : w.ownsMap Tryz.prog 9 pairElem b nn D0) :
    Calls Tryz.prog 113 #[.func (.func 115) #[] #[.pointer (some ⟨Bm, 0, none⟩)]] w fun e w' => ∃ a n c ps, e = .returned (.slice a n c) ∧ ps.Perm (kvL kv) ∧ n = ps.length ∧ w'.ownsRow w.heap.size 103 2 (.slice a n c) ps.length (cellsP ps) ∧ Below w.heap.size w w' := by
  have hD : Keyd D0 := fun k a c h => by
    rw [hat] at h
    cases hg : get kv k with
    | none => rw [hg] at h; cases h
    | some f => rw [hg] at h; simp [pk] at h; exact h.1.symm
  refine (collect_some Bm b nn D0 hD hmax w hBm hm hown).mono fun e w' ⟨v, ps, he, hA, hr, hB⟩ => ?_
  obtain ⟨a, c, rfl⟩ := row_slice hr
  exact ⟨a, _, c, ps, he, all_perm hk hat hhas hA, rfl, hr, hB⟩
set_option maxRecDepth 100000 in
set_option maxHeartbeats 1000000 in
theorem sortedP_some (Bm b nn : Nat) (D0 : DataW Unit) (kv : Fs) (hk : Rising kv) (hat : ∀ k, D0.atKey (.string k) .nil = pk k (get kv k)) (hhas : ∀ k, has D0 (.string k) = (get kv k).isSome) (hmax : Maps.size D0 ≤ 16777216) (hlen : kv.length ≤ 16777216) (w : World) (hBm : Bm < w.heap.size) (hm : w.cell? ⟨Bm, 0, none⟩ = some (.map (some b))) (hown : w.ownsMap Tryz.prog 9 pairElem b nn D0) :
    Calls Tryz.prog 61 #[.func (.func 115) #[] #[.pointer (some ⟨Bm, 0, none⟩)], .func (.func 63) #[] #[]] w fun e w' => ∃ v, e = .returned v ∧ w'.ownsRow w.heap.size 103 2 v kv.length (cellsP (kvL kv)) ∧ Below w.heap.size w w' := by
  have hc : Hid (Calls Tryz.prog 113 #[.func (.func 115) #[] #[.pointer (some ⟨Bm, 0, none⟩)]] w fun e w' => ∃ a n c, e = .returned (.slice a n c) ∧ Hid ((∃ ps, ps.Perm (kvL kv) ∧ n = ps.length ∧ w'.ownsRow w.heap.size 103 2 (.slice a n c) ps.length (cellsP ps)) ∧ Below w.heap.size w w')) := (collect_kv Bm b nn D0 kv hk hat hhas hmax w hBm hm hown).mono fun e w' ⟨a, n, c, ps, h1, h2, h3, h4, h5⟩ => ⟨a, n, c, h1, ⟨ps, h2, h3, h4⟩, h5⟩
  have hs : Hid (∀ W a n c, Hid ((∃ ps, ps.Perm (kvL kv) ∧ n = ps.length ∧ W.ownsRow w.heap.size 103 2 (.slice a n c) ps.length (cellsP ps)) ∧ Below w.heap.size w W) → Calls Tryz.prog 114 #[.slice a n c, .func (.func 63) #[] #[]] W fun e w' => e = .returned (.tuple #[]) ∧ Hid (w'.ownsRow w.heap.size 103 2 (.slice a n c) kv.length (cellsP (kvL kv)) ∧ Below w.heap.size w w')) := fun W a n c ⟨⟨ps, h2, h3, h4⟩, h5⟩ => (sortP_kv w.heap.size kv hk hlen W a n c ps h2 h3 h4).mono fun e w' ⟨q1, q2, q3⟩ => ⟨q1, q2, h5.trans q3⟩
  clear hown hm hat hhas hmax hBm hk hlen
  go_enter Tryz.func61, Tryz.ntmps61
  go_wp2_with (first | (go_at_call 113; refine hc.out.mono ?_; rintro e w1 ⟨a, n, c, rfl, hr⟩) | (go_at_call 114; refine (hs.out w1 a n c hr).mono ?_; rintro e w2 ⟨rfl, hr2⟩))
  go_ret
  exact ⟨_, rfl, hr2.out.1, hr2.out.2⟩
set_option maxRecDepth 100000 in
set_option maxHeartbeats 1000000 in
theorem fold_some (N : Lo) (c d mb : Nat) (sv : Value) (S : Dk) (K : Ck) (w : World) (h : CaskOpen w N c d mb sv S K) : Calls Tryz.prog 23 #[.pointer (some ⟨c, 0, none⟩)] w fun e w' => ∃ v, e = .returned v ∧ w'.ownsRow w.heap.size 103 2 v K.kv.length (cellsP (kvL K.kv)) ∧ Below w.heap.size w w' := by
  have c1 := h.holds.at 1 _ rfl
  obtain ⟨n, D, hown, hat, hhas⟩ := h.keys
  have hsz := ckeys_size hown h.fine.rise hhas
  have hB0 : Below w.heap.size w (w.alloc (.cells #[.map (some mb)] 25)) := (Below.refl _ w).alloc (Nat.le_refl _) _
  have hown' : (w.alloc (.cells #[.map (some mb)] 25)).ownsMap Tryz.prog 9 pairElem mb n D := by
    have hbl := hown.lt
    obtain ⟨es, clock, hb, Ft, hs, hD⟩ := hown
    exact ⟨es, clock, (hB0.block mb hbl).trans hb, Ft, hs, hD⟩
  have hso := sortedP_some w.heap.size mb n D K.kv h.fine.rise hat hhas (by rw [hsz]; exact h.fine.size) h.fine.size (w.alloc (.cells #[.map (some mb)] 25)) (by simp) ((holds_new w [.map (some mb)] 25).at 0 _ rfl) hown'
  have hv := fun W => callsIn_wide.1 (values_in Fence.wide 3 trivial rfl (some mb) W)
  clear h hown hown' hat hhas hsz
  go_enter Tryz.func23, Tryz.ntmps23
  go_wp2_with (first | (go_at_call 62; refine (hv _).mono ?_; rintro e w1 ⟨rfl, rfl⟩) | (go_at_call 61; refine hso.mono ?_; rintro e w2 ⟨v, rfl, hr, hB⟩))
  go_ret
  refine ⟨v, rfl, ownsRow_base_a hr (by simp), hB0.trans (hB.mono (by simp))⟩
end Go.Proofs.YtfmmholkeadejaaGreatDoor

/- Lists of pairs in memory; the laws' same (32). -/
namespace Go.Proofs.YtfmmholkeadejaaGreatDoor
open Go.RowKit Go.Shelf Go.Sort Go.Lib
theorem prUnd : Tryz.prog.underlying 103 = some (.struct (Tryz.prog.fieldsOf 103)) := by kernel_rfl
theorem prHeld : Tryz.prog.stoodInHeld 103 = false := by kernel_rfl
theorem prGuard : Tryz.prog.eqGuardType Tryz.prog.depth 103 = false := by kernel_rfl
theorem prTypes : (Tryz.prog.fieldsOf 103).toList.map (fun f => (f.type, f.offset, decide (f.name = "_"))) = [(9, 0, false), (9, 1, false)] := by kernel_rfl
theorem eql_pr (x y : Pr) (w : World) : (Op.equalIn 10000 103 (encPr x) (encPr y)).run Tryz.prog w = .ok (decide (x = y)) w := by
  rw [run_equalIn_agg w 9999 103 _ _ prUnd prHeld]
  have h := prTypes
  cases hf : (Tryz.prog.fieldsOf 103).toList with
  | nil => rw [hf] at h; cases h
  | cons f fs =>
    rw [hf] at h
    simp only [List.map_cons, List.cons.injEq, Prod.mk.injEq, decide_eq_false_iff_not] at h
    cases fs with
    | nil => cases h.2
    | cons g fs =>
      simp only [List.map_cons, List.cons.injEq, Prod.mk.injEq, decide_eq_false_iff_not] at h
      obtain ⟨⟨a1, a2, a3⟩, ⟨b1, b2, b3⟩, h3⟩ := h
      obtain rfl : fs = [] := by cases fs with | nil => rfl | cons a b => cases h3
      obtain ⟨x1, x2⟩ := x
      obtain ⟨y1, y2⟩ := y
      by_cases e1 : x1 = y1 <;> by_cases e2 : x2 = y2 <;> simp [Op.eqFields, go_sem, a1, a2, a3, b1, b2, b3, e1, e2, Tryz.underlying9, encStr]
/-- From cell o of block b on lie the pairs l. -/
def RowP (w : World) (b o : Nat) (l : List Pr) : Prop := ∀ i p, l[i]? = some p → w.cell? ⟨b, o + i * 2, none⟩ = some (encStr p.1) ∧ w.cell? ⟨b, o + i * 2 + 1, none⟩ = some (encStr p.2)
/-- A slice of pairs. -/
def PrsAt (w : World) (v : Value) (l : List Pr) : Prop := ∃ a cap, v = .slice a l.length cap ∧ (l ≠ [] → ∃ b o, a = some ⟨b, o, none⟩ ∧ b < w.heap.size ∧ RowP w b o l)
theorem RowP.below {w w' : World} {b o m : Nat} {l : List Pr} (h : RowP w b o l) (hb : Below m w w') (hlt : b < m) : RowP w' b o l := fun i p e =>
  ⟨(hb.cell (p := ⟨b, o + i * 2, none⟩) hlt).trans (h i p e).1, (hb.cell (p := ⟨b, o + i * 2 + 1, none⟩) hlt).trans (h i p e).2⟩
theorem PrsAt.below {w w' : World} {v : Value} {l : List Pr} (h : PrsAt w v l) (hb : Below w.heap.size w w') : PrsAt w' v l := by
  obtain ⟨a, cap, rfl, h⟩ := h
  refine ⟨a, cap, rfl, fun hne => ?_⟩
  obtain ⟨b, o, rfl, hlt, hr⟩ := h hne
  exact ⟨b, o, rfl, Nat.lt_of_lt_of_le hlt hb.size, hr.below hb hlt⟩
set_option maxRecDepth 100000 in
set_option maxHeartbeats 2000000 in
theorem same_any (u v : Value) (l m : List Pr) (hl : l.length < 9223372036854775807) (hm : m.length < 9223372036854775807) (w : World) (hu : PrsAt w u l) (hv : PrsAt w v m) :
    Calls Tryz.prog 32 #[u, v] w fun e w' => e = .returned (.bool (decide (l = m))) ∧ Below w.heap.size w w' := by
  obtain ⟨a, cap, rfl, hu'⟩ := id hu
  obtain ⟨b, cap2, rfl, hv'⟩ := id hv
  by_cases hne : l.length = m.length
  · obtain ⟨n, hn⟩ : ∃ n, l.length = n := ⟨_, rfl⟩
    have hmn : m.length = n := by omega
    rw [hn, hmn]
    rw [hn] at hl
    clear hne hu hv
    go_enter Tryz.func32, Tryz.ntmps32
    go_wp2
    go_loopw [5] (fun c wr => ∃ k : Nat, k ≤ n ∧ c = .int .i64 (k : Int) ∧ l.take k = m.take k ∧ Below w.heap.size w wr) (fun c _ => n - (intOf c).toNat)
    case atStart => exact ⟨0, by omega, rfl, rfl, Below.refl _ _⟩
    case round =>
      obtain ⟨k, hk, rfl, htk, hB⟩ := hrel
      rcases Nat.lt_or_ge k n with hlt | hge
      · have hx : l[k]? = some l[k] := List.getElem?_eq_getElem (by omega)
        have hy : m[k]? = some m[k] := List.getElem?_eq_getElem (by omega)
        obtain ⟨x, hxe⟩ : ∃ x, l[k] = x := ⟨_, rfl⟩
        obtain ⟨y, hye⟩ : ∃ y, m[k] = y := ⟨_, rfl⟩
        rw [hxe] at hx
        rw [hye] at hy
        obtain ⟨b1, o1, rfl, hb1, hr1⟩ := hu' (by intro e; rw [e] at hx; simp at hx)
        obtain ⟨b2, o2, rfl, hb2, hr2⟩ := hv' (by intro e; rw [e] at hy; simp at hy)
        obtain ⟨r1, r2⟩ := (hr1.below hB hb1) k x hx
        obtain ⟨r3, r4⟩ := (hr2.below hB hb2) k y hy
        have hguard := prGuard
        have g1 : (k : Int) < (n : Int) := by omega
        have g2 : (0 : Int) ≤ (k : Int) := by omega
        have hBd := hB.drew
        have hs1 : l.take (k + 1) = l.take k ++ [x] := by rw [List.take_add_one, hx]; rfl
        have hs2 : m.take (k + 1) = m.take k ++ [y] := by rw [List.take_add_one, hy]; rfl
        clear hr1 hr2 hu' hv' hB hxe hye
        by_cases hxy : x = y
        · have he : ∀ w, (Op.equalIn 10000 103 (encPr x) (encPr y)).run Tryz.prog w = .ok true w := fun w => by rw [eql_pr, decide_eq_true hxy]
          have hs : l.take (k + 1) = m.take (k + 1) := by rw [hs1, hs2, htk, hxy]
          clear hxy hs1 hs2 htk hx hy
          go_wp2_with fail
          go_region_held3 (fun w' => w'.cell? ⟨b1, o1 + k * 2, none⟩ = some (encStr x.1) ∧ w'.cell? ⟨b1, o1 + k * 2 + 1, none⟩ = some (encStr x.2) ∧ w'.cell? ⟨b2, o2 + k * 2, none⟩ = some (encStr y.1) ∧ w'.cell? ⟨b2, o2 + k * 2 + 1, none⟩ = some (encStr y.2)) (go_keep) (fail)
          all_goals
            go_wp2
            go_roundw
            case rel => exact ⟨k + 1, by omega, by simp, hs, hBd⟩
            case measure => simp; omega
        · have he : ∀ w, (Op.equalIn 10000 103 (encPr x) (encPr y)).run Tryz.prog w = .ok false w := fun w => by rw [eql_pr, decide_eq_false hxy]
          have hs : ¬ l = m := fun e => hxy (by rw [e, hy] at hx; exact (Option.some.inj hx).symm)
          have hs' : decide (l = m) = false := decide_eq_false hs
          clear hxy hs1 hs2 htk hx hy hs
          go_wp2_with fail
          go_region_held3 (fun w' => w'.cell? ⟨b1, o1 + k * 2, none⟩ = some (encStr x.1) ∧ w'.cell? ⟨b1, o1 + k * 2 + 1, none⟩ = some (encStr x.2) ∧ w'.cell? ⟨b2, o2 + k * 2, none⟩ = some (encStr y.1) ∧ w'.cell? ⟨b2, o2 + k * 2 + 1, none⟩ = some (encStr y.2)) (go_keep) (fail)
          all_goals
            go_wp2
            go_ret
            exact ⟨by rw [hs']; rfl, hBd⟩
      · obtain rfl : k = n := by omega
        have hs : l = m := by rw [List.take_of_length_le (by omega), List.take_of_length_le (by omega)] at htk; exact htk
        go_wp2
        go_ret
        exact ⟨by rw [decide_eq_true hs]; rfl, hB⟩
  · have hne' : ¬ (l.length : Int) = (m.length : Int) := by omega
    rw [decide_eq_false (fun e => hne (by rw [e]))]
    go_enter Tryz.func32, Tryz.ntmps32
    go_wp2
    go_ret
    exact ⟨rfl, Below.refl _ _⟩
end Go.Proofs.YtfmmholkeadejaaGreatDoor
