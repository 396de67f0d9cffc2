/- Heal (13). -/
import Derived.Test.YtmdoamkockoipaaNtHealP
namespace Go.Proofs.Ytmdoamkockoipaa
open Go.RowKit Go.Maps Go.WideMaps

theorem heal_nil (v : Value) (w : World) : Calls Try.prog 13 #[.pointer none, v] w fun e w' => e = .returned (.int .i64 0) ∧ w' = w := by
  go_enter Try.func13, Try.ntmps13
  go_wp2
  go_ret
  exact ⟨rfl, rfl⟩
def healN (s : Nt) (q : List Int) : Nt := { s with cuts := healL q s.cuts }
theorem Upd.trans' {b R : Nat} {w1 wr w2 : World} (h : Upd b w1 wr) (hg : wr.grownBy w2 (some R)) (hR : w1.heap.size ≤ R) : Upd b w1 w2 :=
  ⟨hg.os.trans h.os, hg.tape.trans h.tape, hg.output.trans h.output, Nat.le_trans h.size hg.size, fun k hk hb => (hg.block k (Nat.lt_of_lt_of_le hk h.size) (fun e => by cases e; omega)).trans (h.block k hk hb)⟩
/-- Where Heal stands. -/
structure HealR (q : List Int) (c : List (Int × Int)) (mb R n : Nat) (w1 : World) (D : DataW Unit) (left : Lit → Bool) (cnt : Nat) (wr : World) : Prop where
  rg : wr.ranges Try.prog 54 unitElem mb R n D left cnt
  set : SetOf D ((hfil q left c).map keyP)
  upd : Upd mb w1 wr
theorem HealR.of_alloc {q : List Int} {c : List (Int × Int)} {mb R n : Nat} {w1 : World} {D : DataW Unit} {left : Lit → Bool} {cnt : Nat} {wr : World} (h : HealR q c mb R n w1 D left cnt wr) {W : World} (hb : Below wr.heap.size wr W) : HealR q c mb R n w1 D left cnt W := by
  refine ⟨h.rg.kept (row := none) ⟨hb.os, hb.tape, hb.output, hb.size, fun i hi _ => hb.block i hi⟩ (by simp) (by simp), h.set, h.upd.trans (Upd.ofBelow hb)⟩
set_option maxHeartbeats 1600000 in
theorem heal_none {G : Nat → Prop} {w : World} {b : Nat} {s : Nt} (v : Value) (q : List Int) (hq : ∀ x ∈ q, okI x) (hql : q.length < 4611686018427387904) (hv : IntsAt w v q) (h : NetAt G w b s) (hm : w.cell? ⟨b, 2, none⟩ = some (.map none)) :
    Calls Try.prog 13 #[.pointer (some ⟨b, 0, none⟩), v] w fun e w' => e = .returned (.int .i64 0) ∧ Below w.heap.size w w' := by
  obtain ⟨N, hN⟩ : ∃ N, w.heap.size = N := ⟨_, rfl⟩
  have hblt : b < N := hN ▸ h.lt
  have hGr : Hid (Calls Try.prog 24 #[v] w.drew fun e w1 => e = .returned (.map (some N)) ∧ w1.cell? ⟨b, 2, none⟩ = some (.map none) ∧ Hid (Below N w w1)) := by
    refine (groupOf_any v q hq hql w.drew hv).mono ?_
    rintro e w1 ⟨rfl, -, q2⟩
    have q3 : Below N w w1 := ⟨q2.os, q2.tape, q2.output, hN ▸ q2.size, fun k hk => q2.block k (by rw [← hN] at hk; exact hk)⟩
    exact ⟨by rw [← hN]; rfl, by rw [World.cell?_of_block (w := w) (q3.block b hblt)]; exact hm, q3⟩
  have hl0 := fun (W : World) ty => len_none (k := 54) (t := 44) und44 (w := W) ty
  have hrg := fun W => run_range_nilMap (P := Try.prog) W 44 54 53 und44
  have hnx : ∀ (W : World) ty, (Instr.next (.pointer (some ⟨W.heap.size, 0, none⟩)) false ty).run Try.prog (W.alloc (.mapIter none 0 #[] 0)) = _ := fun W ty => run_next_nilMap W ty 0 0 #[]
  rw [hN]
  clear h hv hq hql
  go_enter Try.func13, Try.ntmps13
  go_upto_region 3 with fail
  go_region_held3 (fun W => W.cell? ⟨b, 2, none⟩ = some (.map none)) (go_keep) (first | (go_at_call 24; refine hGr.out.mono ?_; rintro e w1 ⟨rfl, q1, q2⟩))
  have q3 := Go.Lib.cell?_alloc_some (.mapIter none 0 #[] 0) q1
  have hNw : Hid (N ≤ w1.heap.size) := hN ▸ q2.out.size
  clear hm hN
  go_wp2
  go_loopw [7] (fun _ wr => wr = w1.alloc (.mapIter none 0 #[] 0)) (fun _ _ => 0)
  case atStart => rfl
  case round =>
    subst hrel
    go_wp2
    go_ret
    exact ⟨rfl, q2.out.alloc hNw.out _⟩
/-- A cut that was healed in its map. -/
theorem heal_end {G : Nat → Prop} {w w1 wr : World} {b mb R n cnt : Nat} {s : Nt} {q : List Int} {D : DataW Unit} {left : Lit → Bool} (h : NetAt G w b s) (hm : w.cell? ⟨b, 2, none⟩ = some (.map (some mb))) (hb : Below w.heap.size w w1) (hR : HealR q s.cuts mb R n w1 D left cnt wr) (hl : ∀ kl, left kl = false) :
    wr.cell? ⟨b, 2, none⟩ = some (.map (some mb)) ∧ (∀ ty, (Builtin.len_ #[44] ty #[.map (some mb)]).run Try.prog wr = .ok (.int .i64 ((healL q s.cuts).length : Int)) wr) ∧ Hid (NetAt G wr b (healN s q) ∧ Keeps G w wr) := by
  have h' := h.below hb
  have hlow := h.low
  obtain ⟨hG, hbG, hr, v, mv, hH, hRo, hg, c1, c2, c3⟩ := h'
  obtain ⟨_, _, _, v0, mv0, hH0, _⟩ := h
  have hm1 : mv = .map (some mb) := by
    have e1 := (hH0.below hb hH0.lt).at 2 _ rfl
    have e2 := hH.at 2 _ rfl
    have e3 := hH0.at 2 _ rfl
    rw [e3] at hm
    rw [e1] at e2
    rw [← Option.some.inj e2]
    exact Option.some.inj hm
  subst hm1
  rcases c3 with ⟨c3, _⟩ | ⟨mb', e, hmG, hT⟩
  · cases c3
  obtain rfl : mb = mb' := by simpa using e
  have hset := hR.set
  rw [hfil_end q hl] at hset
  have hSA : SetAt 54 wr mb ((healL q s.cuts).map keyP) := ⟨n, D, hR.rg.owns, hset⟩
  have hne := map_ne hH hT
  have hHr : Holds wr b [v, .int .i64 (s.last : Int), .map (some mb)] 46 := hH.upd hR.upd hne
  refine ⟨hHr.at 2 _ rfl, fun ty => by have := hSA.len und44 ty; rw [List.length_map] at this; exact this, ⟨fun k hk => Nat.lt_of_lt_of_le (hG k hk) hR.upd.size, hbG, hr, v, .map (some mb), hHr, ?_, hg, fun p hp => c1 p (List.mem_filter.1 hp).1, c2.filter _, .inr ⟨mb, rfl, hmG, hSA⟩⟩, ?_⟩
  · refine owns_same hRo fun g hg' => hR.upd.block g (owns_lt hRo hg') fun e => ?_
    obtain ⟨cur, hcur⟩ := owns_cells hRo hg'
    obtain ⟨es, cl, hes⟩ := hT.isMap
    rw [e, hes] at hcur
    cases hcur
  · exact Keeps.trans ⟨hb.os, hb.tape, hb.output, hb.size, fun k hk => hb.block k (hlow k hk)⟩ (Keeps.ofUpd hR.upd hmG hG)
theorem heal_stay {q : List Int} {c : List (Int × Int)} (hc : ∀ p ∈ c, okP p) {mb R n : Nat} {w1 : World} {D : DataW Unit} {left : Lit → Bool} {cnt : Nat} {wr w2 : World} (h : HealR q c mb R n w1 D left cnt wr) {x y : Int} (hok : okP (x, y)) {cnt' : Nat} (hrg : w2.ranges Try.prog 54 unitElem mb R n D (fun z => left z && !z.sameKey (keyP (x, y))) cnt') (hg : wr.grownBy w2 (some R)) (hR : w1.heap.size ≤ R) (hh : hitB q (x, y) = false) {W : World} (hb : Below w2.heap.size w2 W) :
    HealR q c mb R n w1 D (fun z => left z && !z.sameKey (keyP (x, y))) cnt' W :=
  HealR.of_alloc ⟨hrg, by rw [hfil_stay hc hok hh]; exact h.set, h.upd.trans' hg hR⟩ hb
theorem heal_strike {q : List Int} {c : List (Int × Int)} (hc : ∀ p ∈ c, okP p) {mb R n : Nat} {w1 : World} {D : DataW Unit} {left : Lit → Bool} {cnt : Nat} {wr w2 : World} (h : HealR q c mb R n w1 D left cnt wr) {x y : Int} (hok : okP (x, y)) {cnt' : Nat} (hrg : w2.ranges Try.prog 54 unitElem mb R n D (fun z => left z && !z.sameKey (keyP (x, y))) cnt') (hg : wr.grownBy w2 (some R)) (hR : w1.heap.size ≤ R) (hh : hitB q (x, y) = true) {W : World} (hb : Below w2.heap.size w2 W) :
    ∃ w', (∀ ty, (Builtin.delete_ #[44, 54] ty #[.map (some mb), .agg #[.int .i64 x, .int .i64 y]]).run Try.prog W = .ok (.tuple #[]) w') ∧ ∃ D' left' cnt'', cnt'' ≤ cnt' ∧ HealR q c mb R n w1 D' left' cnt'' w' := by
  have hrW : W.ranges Try.prog 54 unitElem mb R n D (fun z => left z && !z.sameKey (keyP (x, y))) cnt' := hrg.kept (row := none) ⟨hb.os, hb.tape, hb.output, hb.size, fun i hi _ => hb.block i hi⟩ (by simp) (by simp)
  obtain ⟨w', cnt'', hrun, r1, r2, r3⟩ := hrW.drop law54 und44 (key_pair hok) 0
  rw [strike_twice] at r1
  refine ⟨w', fun ty => hrun, D.del (keyP (x, y)), _, cnt'', r2, r1, ?_, ?_⟩
  · rw [hfil_strike hc hok hh]
    exact setOf_del law54 h.rg.owns h.set (keyLit_pair _)
  · exact ((h.upd.trans' hg hR).trans (Upd.ofBelow hb)).trans (upd_of r3)
set_option maxHeartbeats 3200000 in
set_option maxRecDepth 100000 in
theorem heal_some {G : Nat → Prop} {w : World} {b mb : Nat} {s : Nt} (v : Value) (q : List Int) (hq : ∀ x ∈ q, okI x) (hql : q.length < 4611686018427387904) (hv : IntsAt w v q) (h : NetAt G w b s) (hm : w.cell? ⟨b, 2, none⟩ = some (.map (some mb))) (hcl : s.cuts.length < 4611686018427387904) :
    Calls Try.prog 13 #[.pointer (some ⟨b, 0, none⟩), v] w fun e w' => e = .returned (.int .i64 ((s.cuts.length : Int) - ((healL q s.cuts).length : Int))) ∧ Hid (NetAt G w' b (healN s q) ∧ Keeps G w w') := by
  have HN0 : Hid (NetAt G w b s) := h
  have HM : Hid (w.cell? ⟨b, 2, none⟩ = some (.map (some mb))) := hm
  obtain ⟨N, hN⟩ : ∃ N, w.heap.size = N := ⟨_, rfl⟩
  have HN : Hid (w.heap.size = N) := hN
  have hblt : b < N := hN ▸ h.lt
  have hle : (healL q s.cuts).length ≤ s.cuts.length := List.length_filter_le _ _
  obtain ⟨_, _, _, v0, mv0, hH0, _, _, c1, c2, c3⟩ := h
  have hm1 : mv0 = .map (some mb) := by
    have e3 := hH0.at 2 _ rfl
    rw [e3] at hm
    exact Option.some.inj hm
  subst hm1
  have hT : SetAt 54 w mb (s.cuts.map keyP) := by
    rcases c3 with ⟨c3, _⟩ | ⟨mb', e, hmG, hT⟩
    · cases c3
    · obtain rfl : mb = mb' := by simpa using e
      exact hT
  have HC1 : Hid (∀ p ∈ s.cuts, okP p) := c1
  have hTlt : mb < N := hN ▸ hT.lt
  have hbm : b ≠ mb := map_ne hH0 hT
  have hlw : ∀ ty, (Builtin.len_ #[44] ty #[.map (some mb)]).run Try.prog w.drew = .ok (.int .i64 (s.cuts.length : Int)) w.drew := fun ty => by
    have := (hT.same (w' := w.drew) rfl).len und44 ty
    rw [List.length_map] at this
    exact this
  have hGr : Hid (Calls Try.prog 24 #[v] w.drew fun e w1 => e = .returned (.map (some N)) ∧ w1.cell? ⟨b, 2, none⟩ = some (.map (some mb)) ∧ (∀ ty, (Builtin.len_ #[44] ty #[.map (some mb)]).run Try.prog w1 = .ok (.int .i64 (s.cuts.length : Int)) w1) ∧ N < w1.heap.size ∧ Hid (Below N w w1 ∧ SetAt 3 w1 N (grpR q) ∧ SetAt 54 w1 mb (s.cuts.map keyP) ∧ Holds w1 b [v0, .int .i64 (s.last : Int), .map (some mb)] 46)) := by
    refine (groupOf_any v q hq hql w.drew hv).mono ?_
    rintro e w1 ⟨rfl, q1, q2⟩
    have q3 : Below N w w1 := ⟨q2.os, q2.tape, q2.output, hN ▸ q2.size, fun k hk => q2.block k (by rw [← hN] at hk; exact hk)⟩
    have hT1 := hT.same (q3.block mb hTlt)
    have q1' : SetAt 3 w1 N (grpR q) := by rw [← hN]; exact q1
    refine ⟨by rw [← hN]; rfl, by rw [World.cell?_of_block (w := w) (q3.block b hblt)]; exact HM.out, fun ty => ?_, q1'.lt, q3, q1', hT1, hH0.below q3 hblt⟩
    have := hT1.len und44 ty
    rw [List.length_map] at this
    exact this
  generalize hcn : s.cuts.length = cn at *
  clear hq hql hv hH0 c1 c2 c3 hT
  go_enter Try.func13, Try.ntmps13
  go_upto_region 3 with fail
  go_region_held3 (fun W => W.cell? ⟨b, 2, none⟩ = some (.map (some mb)) ∧ ∀ ty, (Builtin.len_ #[44] ty #[.map (some mb)]).run Try.prog W = .ok (.int .i64 (cn : Int)) W) (first | go_keep | (refine ⟨?_, ?_⟩ <;> assumption)) (first | (go_at_call 24; refine hGr.out.mono ?_; rintro e w1 ⟨rfl, q1, q2, hN1, q3⟩))
  clear hm hN hlw hGr
  obtain ⟨R, hRs⟩ : ∃ R, w1.heap.size = R := ⟨_, rfl⟩
  have HR : Hid (w1.heap.size = R) := hRs
  obtain ⟨n, D, hown, hSD⟩ := q3.out.2.2.1
  have HSD : Hid (SetOf D (s.cuts.map keyP)) := hSD
  clear hSD
  go_wp2_with (first
    | (at_range; refine wpList_range_own _ rfl _ 44 rfl 54 53 law54 und44 unitElem mb n D rfl hown ?_; intro w0 hrg0 hg0 hs0; rw [HR.out] at hrg0)
    | go_in)
  go_frame
  rw [hRs]
  have hR0 : Hid (HealR q s.cuts mb R n w1 D (has D) (Maps.size D) w0) := ⟨hrg0, by rw [hfil_start q HSD.out]; exact HSD.out, ⟨hg0.os, hg0.tape, hg0.output, hg0.size, fun k hk _ => hg0.block k hk (by simp)⟩⟩
  clear hrg0 hg0 hs0 hown hRs q1 q2
  go_loopw [7] (fun _ wr => ∃ D left cnt, Hid (HealR q s.cuts mb R n w1 D left cnt wr)) (fun _ wr => wr.rangeLeft mb R)
  case atStart => exact ⟨_, _, _, hR0⟩
  case round =>
    clear hR0 HSD
    obtain ⟨D, left, cnt, hR⟩ := hrel
    have hm0 : Hid (wr.rangeLeft mb R = cnt) := hR.out.rg.left_eq
    go_wp2_with (first
      | (at_next; refine wpList_next_pairs _ rfl _ rfl mb R n D _ _ rfl hR.out.rg ?_ ?_)
      | go_in)
    · intro hl0
      obtain ⟨z1, z2, z3⟩ := heal_end HN0.out HM.out (HN.out ▸ q3.out.1) hR.out hl0
      clear hR hm0 q3
      go_wp2
      go_ret
      exact ⟨rfl, z3⟩
    · intro x y w2 cnt' hok hrg hlt hg2 hs2 hen
      have hRR : w1.heap.size ≤ R := Nat.le_of_eq HR.out
      have hu2 : Upd mb w1 w2 := hR.out.upd.trans' hg2 hRR
      have hS2 : SetAt 3 w2 N (grpR q) := q3.out.2.1.same (hu2.block N hN1 (by omega))
      have hbx : Below w2.heap.size w2 (w2.alloc (.cells #[.int .i64 x, .int .i64 y] 54)) := (Below.refl _ _).alloc (Nat.le_refl _) _
      have hH1 := has_any (hS2.same (hbx.block N hS2.lt)) x hok.1
      rw [ask_eq] at hH1
      have hHc : Hid (∀ W, Below w2.heap.size w2 W → Calls Try.prog 25 #[.map (some N), .int .i64 y] W fun e w' => e = .returned (.bool (askB q y)) ∧ Below W.heap.size W w') := fun W hW => by
        have := has_any (hS2.same (hW.block N hS2.lt)) y hok.2
        rw [ask_eq] at this
        exact this
      have hcell : Hid (∀ W, Below (w2.heap.size + 1) (w2.alloc (.cells #[.int .i64 x, .int .i64 y] 54)) W → W.cell? ⟨b, 2, none⟩ = some (.map (some mb)) ∧ W.cell? ⟨w2.heap.size, 0, none⟩ = some (.int .i64 x) ∧ W.cell? ⟨w2.heap.size, 1, none⟩ = some (.int .i64 y)) := fun W hW => by
        have hb2 : Holds w2 b [v0, .int .i64 (s.last : Int), .map (some mb)] 46 := q3.out.2.2.2.upd hu2 hbm
        have hb3 := (hb2.alloc (.cells #[.int .i64 x, .int .i64 y] 54)).below hW (by have := hb2.lt; omega)
        have hb4 := (holds_new w2 [.int .i64 x, .int .i64 y] 54).below hW (by omega)
        exact ⟨hb3.at 2 _ rfl, hb4.at 0 _ rfl, hb4.at 1 _ rfl⟩
      have hStay : Hid (hitB q (x, y) = false → ∀ W, Below w2.heap.size w2 W → HealR q s.cuts mb R n w1 D (fun z => left z && !z.sameKey (keyP (x, y))) cnt' W) := fun hh W hW => heal_stay HC1.out hR.out hok hrg hg2 hRR hh hW
      have hStr : Hid (hitB q (x, y) = true → ∀ W, Below w2.heap.size w2 W → ∃ w', (∀ ty, (Builtin.delete_ #[44, 54] ty #[.map (some mb), .agg #[.int .i64 x, .int .i64 y]]).run Try.prog W.drew = .ok (.tuple #[]) w') ∧ Hid (∃ D' left' cnt'', cnt'' ≤ cnt' ∧ HealR q s.cuts mb R n w1 D' left' cnt'' w')) := fun hh W hW => heal_strike HC1.out hR.out hok hrg hg2 hRR hh (W := W.drew) hW.drew
      have hcc : Hid (cnt' < cnt) := hlt
      have hhit : hitB q (x, y) = (askB q x || askB q y) := rfl
      rw [hhit] at hStay hStr
      have hbH : Hid (Below w2.heap.size w2 (w2.alloc (.cells #[.int .i64 x, .int .i64 y] 54))) := hbx
      obtain ⟨M, hM⟩ : ∃ M, w2.heap.size = M := ⟨_, rfl⟩
      obtain ⟨k2, k0, k1⟩ := hcell.out _ (Below.refl _ _)
      rw [hM] at hStay hStr hcell hHc hbH k0 k1
      clear hR hrg hg2 hs2 hlt hu2 hS2 hbx hok hhit
      generalize askB q x = ax at *
      generalize askB q y = ay at *
      have hsz1 : (w2.alloc (.cells #[.int .i64 x, .int .i64 y] 54)).heap.size = M + 1 := by simp [hM]
      rw [hsz1] at hH1
      cases ax with
      | true =>
        have hH2 : Hid (Calls Try.prog 25 #[.map (some N), .int .i64 x] (w2.alloc (.cells #[.int .i64 x, .int .i64 y] 54)) fun e w' => e = .returned (.bool true) ∧ Below (M + 1) (w2.alloc (.cells #[.int .i64 x, .int .i64 y] 54)) w') := hH1
        clear hH1 hHc hStay
        go_wp2_with (go_at_call 25; refine hH2.out.mono ?_; rintro e w4 ⟨rfl, hb4⟩; clear hH2 k2 k0 k1; obtain ⟨k2, k0, k1⟩ := hcell.out w4 hb4; obtain ⟨w5, hdel, hE⟩ := hStr.out rfl w4 (hbH.out.trans (hb4.mono (by omega))); clear hcell hStr hb4)
        go_region_law (refine step_delete rfl (.tmp 39) (.tmp 40) 44 54 rfl _ _ (by simp [Act.eval]) (by simp [Act.eval]) w5 hdel ?_)
        all_goals go_wp2
        all_goals (obtain ⟨D', l', c'', hc5, hR5⟩ := hE.out; exact ⟨⟨D', l', c'', hR5⟩, by rw [hR5.rg.left_eq, hm0.out]; have := hcc.out; omega⟩)
      | false =>
        have hH2 : Hid (Calls Try.prog 25 #[.map (some N), .int .i64 x] (w2.alloc (.cells #[.int .i64 x, .int .i64 y] 54)) fun e w' => e = .returned (.bool false) ∧ Below (M + 1) (w2.alloc (.cells #[.int .i64 x, .int .i64 y] 54)) w') := hH1
        clear hH1
        cases ay with
        | true =>
          clear hStay
          go_wp2_with (first
            | (go_at_call 25; refine hH2.out.mono ?_; rintro e w3 ⟨rfl, hb3⟩; clear hH2 k2 k0 k1; obtain ⟨k2, k0, k1⟩ := hcell.out w3 hb3; have hB3 : Hid (Below M w2 w3) := hbH.out.trans (hb3.mono (by omega)); have hB3' : Hid (Below (M + 1) (w2.alloc (.cells #[.int .i64 x, .int .i64 y] 54)) w3) := hb3; have hb3s : M + 1 ≤ w3.heap.size := (by have := hb3.size; omega); have hH3 : Hid (Calls Try.prog 25 #[.map (some N), .int .i64 y] w3 fun e w' => e = .returned (.bool true) ∧ Below w3.heap.size w3 w') := hHc.out w3 hB3.out; clear hHc hb3)
            | (go_at_call 25; refine hH3.out.mono ?_; rintro e w4 ⟨rfl, hb4⟩; clear hH3 k2 k0 k1; obtain ⟨k2, k0, k1⟩ := hcell.out w4 (hB3'.out.trans (hb4.mono hb3s)); obtain ⟨w5, hdel, hE⟩ := hStr.out rfl w4 (hB3.out.trans (hb4.mono (by omega))); clear hcell hStr hb4 hB3 hB3'))
          go_region_law (refine step_delete rfl (.tmp 39) (.tmp 40) 44 54 rfl _ _ (by simp [Act.eval]) (by simp [Act.eval]) w5 hdel ?_)
          all_goals go_wp2
          all_goals (obtain ⟨D', l', c'', hc5, hR5⟩ := hE.out; exact ⟨⟨D', l', c'', hR5⟩, by rw [hR5.rg.left_eq, hm0.out]; have := hcc.out; omega⟩)
        | false =>
          clear hStr
          go_wp2_with (first
            | (go_at_call 25; refine hH2.out.mono ?_; rintro e w3 ⟨rfl, hb3⟩; clear hH2 k2 k0 k1; obtain ⟨k2, k0, k1⟩ := hcell.out w3 hb3; have hB3 : Hid (Below M w2 w3) := hbH.out.trans (hb3.mono (by omega)); have hb3s : M + 1 ≤ w3.heap.size := (by have := hb3.size; omega); have hH3 : Hid (Calls Try.prog 25 #[.map (some N), .int .i64 y] w3 fun e w' => e = .returned (.bool false) ∧ Below w3.heap.size w3 w') := hHc.out w3 hB3.out; clear hHc hb3)
            | (go_at_call 25; refine hH3.out.mono ?_; rintro e w4 ⟨rfl, hb4⟩; clear hH3; have hE : Hid (HealR q s.cuts mb R n w1 D (fun z => left z && !z.sameKey (keyP (x, y))) cnt' w4) := hStay.out rfl w4 (hB3.out.trans (hb4.mono (by omega))); clear hcell hStay hb4 hB3))
          exact ⟨⟨_, _, _, hE⟩, by rw [hE.out.rg.left_eq, hm0.out]; exact hcc.out⟩
end Go.Proofs.Ytmdoamkockoipaa
