/- The range over the timers; Next (15). -/
import Derived.Test.YtklkonmdllgeeaaWhMem
import Derived.Laws.IdiomRangeMap
import Derived.Sort.MapsRangeIn
namespace Go.Proofs.Ytklkonmdllgeeaa
open Go.RowKit Go.Maps Go.WideMaps

/-- Which timers have come. -/
structure Came (D : DataW Unit) (l : Ts) (left : Lit → Bool) (cnt : Nat) (ps : Ts) : Prop where
  nodup : (ps.map (·.1)).Nodup
  keys : ∀ x, x ∈ ps.map (·.1) ↔ (has D (.string x) = true ∧ left (.string x) = false)
  mem : ∀ p ∈ ps, p ∈ l
  cnt : ps.length + cnt ≤ Maps.size D
theorem Came.start (D : DataW Unit) (l : Ts) : Came D l (has D) (Maps.size D) [] := ⟨List.nodup_nil, fun x => by cases has D (.string x) <;> simp, by simp, by simp⟩
theorem Came.step {D : DataW Unit} {l : Ts} {left : Lit → Bool} {cnt cnt' : Nat} {ps : Ts} (h : Came D l left cnt ps) {x : Tm} (hx : x ∈ l) (hh : has D (.string x.1) = true) (hlk : left (.string x.1) = true) (hlt : cnt' < cnt) : Came D l (fun z => left z && !z.sameKey (.string x.1)) cnt' (ps ++ [x]) := by
  have hnew : x.1 ∉ ps.map (·.1) := fun q => by have := ((h.keys x.1).1 q).2; rw [hlk] at this; cases this
  refine ⟨?_, fun y => ?_, fun p hp => ?_, ?_⟩
  · rw [List.map_append]
    exact List.nodup_append.2 ⟨h.nodup, by simp, fun a ha b hb => by simp at hb; subst hb; exact fun e => hnew (e ▸ ha)⟩
  · rw [List.map_append, List.mem_append, h.keys y]
    by_cases hy : y = x.1
    · subst hy; simp [hh, Lit.sameKey]
    · simp [hy, Lit.sameKey]
  · rcases List.mem_append.1 hp with hp | hp
    · exact h.mem p hp
    · simp at hp; subst hp; exact hx
  · have := h.cnt
    simp; omega
theorem Came.all {D : DataW Unit} {l : Ts} {left : Lit → Bool} {cnt : Nat} {ps : Ts} (h : Came D l left cnt ps) (hM : MapOf D l) (hl : (l.map (·.1)).Nodup) (h0 : ∀ kl, left kl = false) : ps.Perm l := by
  have hn : ps.Nodup := (List.pairwise_map.1 h.nodup).imp fun {a b} h e => h (congrArg Prod.fst e)
  have hn2 : l.Nodup := (List.pairwise_map.1 hl).imp fun {a b} h e => h (congrArg Prod.fst e)
  refine (List.perm_ext_iff_of_nodup hn hn2).2 fun p => ⟨h.mem p, fun hp => ?_⟩
  have hm : p.1 ∈ ps.map (·.1) := (h.keys p.1).2 ⟨by rw [hM.has_, findT_mem hl hp]; rfl, h0 _⟩
  obtain ⟨q, hq, e⟩ := List.mem_map.1 hm
  rw [← nodup_one hl (h.mem q hq) hp e]; exact hq
/-- The step of a range over the timers. -/
theorem wpList_next_tms {l : Ts} (w : World) {ops : Array Oper} {rest : List Oper} {o : Oper} {a : Act} {Q : Exit → Act → World → Prop} (hg : o.guard = none) (it : Operand) (hop : o.op = Op.next it false)
    (b r n : Nat) (D : DataW Unit) (hM : MapOf D l) (left : Lit → Bool) (cnt : Nat) (ps : Ts) (hC : Came D l left cnt ps) (hit : a.eval it = .pointer (some ⟨r, 0, none⟩)) (h : w.ranges Try.prog 9 tmElem b r n D left cnt)
    (hDone : (∀ kl, left kl = false) → wpList Try.prog ops Q rest (a.put o.dst (.tuple #[.bool false])) w)
    (hMore : ∀ (x : Tm) (w' : World) (left' : Lit → Bool) (cnt' : Nat), x ∈ l → w'.ranges Try.prog 9 tmElem b r n D left' cnt' → Came D l left' cnt' (ps ++ [x]) → cnt' < cnt →
      w.grownBy w' (some r) → w'.heap.size = w.heap.size → (Instr.entry (.pointer (some ⟨r, 0, none⟩))).run Try.prog w' = .ok (.tuple #[.string (strL x.1), .agg (tmV x).toArray]) w' → wpList Try.prog ops Q rest (a.put o.dst (.tuple #[.bool true, .string (strL x.1), .agg (tmV x).toArray])) w') :
    wpList Try.prog ops Q (o :: rest) a w :=
  wpList_next_ranges w hg it hop 9 law9 tmElem encStr (fun x : Tm => Value.agg (tmV x).toArray) (fun key kl hk => by obtain ⟨x, hx, _⟩ := Maps.keyOf_str und9 hk; exact ⟨x, hx⟩) (fun v y hv => by obtain ⟨x, hx, _⟩ := tmElem_inv hv; exact ⟨x, hx⟩) b r n D left cnt hit h (fun _ => hDone) (fun x c kl y w' cnt' hkey hlk hv hat hrg hlt hgr hsz hen => by
    obtain ⟨x', ex, rfl, _⟩ := Maps.keyOf_str und9 hkey
    obtain rfl : x = x' := encStr_inj ex
    have hy : y = (tmD c, []) := Option.some.inj (hv.symm.trans (tmElem_of c))
    have h1 := hat .nil
    rw [hM.at_, hy] at h1
    cases hf : findT l x with
    | none => rw [hf] at h1; cases h1
    | some z =>
      rw [hf] at h1
      obtain rfl : z = c := tmD_inj h1
      obtain ⟨q1, rfl⟩ := findT_some hf
      exact hMore z w' _ cnt' q1 hrg (hC.step q1 (has_true_of_atKey hat) hlk hlt) hlt hgr hsz hen)
theorem next_nil (w : World) : Calls Try.prog 15 #[.pointer none] w fun e w' => e = .returned (.tuple #[.int .i64 0, .bool false]) ∧ w' = w := by
  go_enter Try.func15, Try.ntmps15
  go_wp2
  go_ret2
  exact ⟨rfl, rfl⟩
def leastI (ps : Ts) : Int := minT ps
def someB (ps : Ts) : Bool := !ps.isEmpty
set_option maxHeartbeats 1600000 in
set_option maxRecDepth 100000 in
theorem next_any (N b : Nat) (l : Ts) (t : Nat) (w : World) (h : WheelAt N w b l t) : Calls Try.prog 15 #[.pointer (some ⟨b, 0, none⟩)] w fun e w' => e = .returned (.tuple #[.int .i64 (minT l), .bool (someB l)]) ∧ Below w.heap.size w w' := by
  obtain ⟨h1, h2, h3, mv, hH, ⟨rfl, rfl⟩ | ⟨mb, rfl, hmb, hT⟩⟩ := h
  · have c0 := hH.at 0 _ rfl
    have hrg := run_range_nilMap (P := Try.prog) w 47 9 57 und47
    have hnx : ∀ ty, (Instr.next (.pointer (some ⟨w.heap.size, 0, none⟩)) false ty).run Try.prog (w.alloc (.mapIter none 0 #[] 0)) = _ := fun ty => run_next_nilMap w ty 0 0 #[]
    go_enter Try.func15, Try.ntmps15
    go_wp2_with fail
    go_loopw [4, 5] (fun v f wr => v = .int .i64 0 ∧ f = .bool false ∧ wr = w.alloc (.mapIter none 0 #[] 0)) (fun _ _ _ => 0)
    case atStart => exact ⟨rfl, rfl, rfl⟩
    case round =>
      obtain ⟨rfl, rfl, rfl⟩ := hrel
      go_wp2
      go_ret2
      exact ⟨rfl, (Below.refl _ _).alloc (Nat.le_refl _) _⟩
  · have c0 := hH.at 0 _ rfl
    obtain ⟨n, D, hown, hM⟩ := hT
    obtain ⟨H, hHs⟩ : ∃ H, w.heap.size = H := ⟨_, rfl⟩
    have HH : Hid (w.heap.size = H) := hHs
    rw [hHs]
    have hMM : Hid (MapOf D l) := hM
    have hFF : Hid (Fine l t) := h2
    clear hM h2 hH
    go_enter Try.func15, Try.ntmps15
    go_wp2_with (first
      | (at_range; refine wpList_range_own _ rfl _ 47 rfl 9 57 law9 und47 tmElem mb n D rfl hown ?_; intro w0 hrg0 hg0 hs0; rw [HH.out] at hrg0)
      | go_in)
    go_frame
    rw [hHs]
    go_loopw [4, 5] (fun v f wr => ∃ left cnt ps, v = .int .i64 (leastI ps) ∧ f = .bool (someB ps) ∧ wr.ranges Try.prog 9 tmElem mb H n D left cnt ∧ Hid (Came D l left cnt ps) ∧ Below H w wr) (fun _ _ wr => wr.rangeLeft mb H)
    case atStart => exact ⟨_, _, [], rfl, rfl, hrg0, Came.start D l, ⟨hg0.os, hg0.tape, hg0.output, hg0.size, fun k hk => hg0.block k (by omega) (by simp)⟩⟩
    case round =>
      clear hrg0 hg0 hs0
      obtain ⟨left, cnt, ps, rfl, rfl, hrg, hC, hb⟩ := hrel
      obtain ⟨lp, hlp⟩ : ∃ lp, leastI ps = lp := ⟨_, rfl⟩
      obtain ⟨bp, hbp⟩ : ∃ bp, someB ps = bp := ⟨_, rfl⟩
      have HL : Hid (leastI ps = lp) := hlp
      have HB : Hid (someB ps = bp) := hbp
      rw [hlp, hbp]
      clear hlp hbp
      go_wp2_with (first
        | (at_next; refine wpList_next_tms _ rfl _ rfl mb H n D hMM.out _ _ ps hC.out rfl hrg ?_ ?_)
        | go_in)
      · intro hl0
        go_wp2
        go_ret2
        have hp := hC.out.all hMM.out hFF.out.nodup hl0
        have e1 : minT l = lp := (minT_perm hp).symm.trans HL.out
        have e2 : someB l = bp := by rw [← HB.out]; unfold someB; rw [hp.isEmpty_eq]
        rw [e1, e2]
        exact ⟨rfl, hb⟩
      · intro x1 x2 x3 w1 left1 cnt1 hxl hrg1 hC1 hlt hg1 hs1 hen
        have hCC : Hid (Came D l left1 cnt1 (ps ++ [(x1, x2, x3)])) := hC1
        have hb1 : Below H w w1 := hb.trans ⟨hg1.os, hg1.tape, hg1.output, hg1.size, fun k hk => hg1.block k (by have := hb.size; have := HH.out; omega) (fun e => by cases e; omega)⟩
        have hm1 : (w1.alloc (.cells #[.string (strL x1), .int .i64 x2, .int .u64 (x3 : Int)] 57)).rangeLeft mb H < wr.rangeLeft mb H := by rw [(hrg1.alloc _).left_eq, hrg.left_eq]; exact hlt
        have hr1 := hrg1.alloc (.cells #[.string (strL x1), .int .i64 x2, .int .u64 (x3 : Int)] 57)
        have hb2 : Below H w (w1.alloc (.cells #[.string (strL x1), .int .i64 x2, .int .u64 (x3 : Int)] 57)) := hb1.alloc (by have := hb1.size; have := HH.out; omega) _
        simp only [tmV] at hen
        clear hrg hrg1 hC1 hC hb hb1 hg1 hs1 hlt
        cases bp with
        | false =>
          have ep : ps = [] := by have := HB.out; cases ps with | nil => rfl | cons => simp [someB] at this
          go_wp2
          go_roundw
          case rel => exact ⟨_, cnt1, _, by rw [ep]; rfl, by rw [ep]; rfl, hr1, hCC, hb2⟩
          case measure => exact hm1
        | true =>
          have ep : ps ≠ [] := fun q => by have := HB.out; rw [q] at this; cases this
          have e0 : leastI (ps ++ [(x1, x2, x3)]) = if x2 < lp then x2 else lp := by rw [leastI, minT_snoc, if_neg ep]; rw [show minT ps = lp from HL.out]
          have e1 : someB (ps ++ [(x1, x2, x3)]) = true := by simp [someB]
          have HE : Hid (leastI (ps ++ [(x1, x2, x3)]) = if x2 < lp then x2 else lp) := e0
          clear e0 ep
          by_cases hx : x2 < lp
          · go_wp2
            go_roundw
            case rel => exact ⟨_, cnt1, _, by rw [HE.out, if_pos hx], by rw [e1], hr1, hCC, hb2⟩
            case measure => exact hm1
          · go_wp2
            go_roundw
            case rel => exact ⟨_, cnt1, _, by rw [HE.out, if_neg hx], by rw [e1], hr1, hCC, hb2⟩
            case measure => exact hm1
end Go.Proofs.Ytklkonmdllgeeaa
