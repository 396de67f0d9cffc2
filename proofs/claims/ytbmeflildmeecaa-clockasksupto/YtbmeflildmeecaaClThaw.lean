/- As compact_some, merge_any, norm_any, add_any: what they tell may be written. -/
import Derived.Laws.IdiomCopy
import Derived.Maps.AppendAt
import Derived.Test.YtbmeflildmeecaaClOps
namespace Go.Proofs.Ytbmeflildmeecaa
open Go.RowKit Go.Shelf Go.Sort Go.Lib
attribute [local go_sem] Oper.semAt_some

/-- No cell of block b is frozen. -/
def Thaw (w : World) (b : Nat) : Prop := ∀ j, w.frozen? ⟨b, j, none⟩ = false
/-- The slice's cells may be written. -/
def Soft (w : World) (v : Value) : Prop := ∀ b o n cap, v = .slice (some ⟨b, o, none⟩) n cap → Thaw w b
theorem frozen_put {w : World} {D b j : Nat} {x : Obj} (h : b ≠ D) : (w.putObj D x).frozen? ⟨b, j, none⟩ = w.frozen? ⟨b, j, none⟩ := by
  unfold World.frozen?
  rw [World.putObj_heap_other h]
theorem Soft.below {w w' : World} {v : Value} {n : Nat} (h : Soft w v) (hB : Below n w w') (hv : ∀ b o m cap, v = .slice (some ⟨b, o, none⟩) m cap → b < n) : Soft w' v := fun b o m cap e j => by
  have := h b o m cap e j
  unfold World.frozen? at this ⊢
  rw [hB.block b (hv b o m cap e)]
  exact this
set_option maxRecDepth 100000 in
set_option maxHeartbeats 4000000 in
theorem compact_thaw (b : Nat) (l : List Dt) (tl : List Value) (cap : Nat) (hcap : l.length ≤ cap) (hlen : l.length < 4611686018427387904) (w : World) (hb : Holds w b (cellsD l ++ tl) 33) :
    Calls Try.prog 41 #[.slice (some ⟨b, 0, none⟩) l.length cap, .func (.func 42) #[] #[]] w fun e w' =>
      e = .returned (.slice (some ⟨b, 0, none⟩) (compG none l).length cap) ∧ Row w' b 0 (compG none l) ∧ Upd b w w' ∧ Thaw w' b := by
  obtain ⟨n, hn⟩ : ∃ n, l.length = n := ⟨_, rfl⟩
  rw [hn] at hcap hlen ⊢
  have hone := @ofOne_any
  by_cases h2 : n < 2
  · have h2' : (n : Int) < 2 := by omega
    go_enter Try.func41, Try.ntmps41
    go_wp2
    go_ret
    rw [comp_one l (by omega), hn]
    exact ⟨rfl, hb.row, Upd.refl _ _, fun j => hb.frozen j⟩
  have h2' : ¬ (n : Int) < 2 := by omega
  go_enter Try.func41, Try.ntmps41
  go_wp2
  go_loopw [5] (fun c wr => ∃ q : Nat, q + 1 ≤ n ∧ c = .int .i64 ((q : Int) + 1) ∧ compG none (l.take (q + 1)) = l.take (q + 1) ∧ Below w.heap.size w wr) (fun c _ => n - (intOf c).toNat)
  case atStart => exact ⟨0, by omega, rfl, by rw [comp_one _ (by simp; omega)], Below.refl _ _⟩
  case round =>
    obtain ⟨q, hq, rfl, hcq, hB⟩ := hrel
    rcases Nat.lt_or_ge (q + 1) n with hlt | hge
    · have hd : l[q + 1]? = some l[q + 1] := List.getElem?_eq_getElem (by omega)
      have hp : l[q]? = some l[q] := List.getElem?_eq_getElem (by omega)
      obtain ⟨d, hde⟩ : ∃ d, l[q + 1] = d := ⟨_, rfl⟩
      obtain ⟨p, hpe⟩ : ∃ p, l[q] = p := ⟨_, rfl⟩
      rw [hde] at hd
      rw [hpe] at hp
      have hbr := hb.below hB hb.lt
      have hstep := comp_step (j := q + 1) (by omega) hd hp
      obtain ⟨r1, r2⟩ := hbr.row _ _ hd
      obtain ⟨r3, r4⟩ := hbr.row _ _ hp
      rw [Nat.zero_add] at r1 r2 r3 r4
      have g1 : (q : Int) + 1 < (n : Int) := by omega
      have g2 : IntKind.i64.wrap ((q : Int) + 1 - 1) = (q : Int) := by simp [IntKind.wrap, IntKind.bits, IntKind.signed]; omega
      have g6 : IntKind.i64.wrap (q : Int) = (q : Int) := by simp [IntKind.wrap, IntKind.bits, IntKind.signed]; omega
      have g7 : wrap64 (q : Int) = (q : Int) := by unfold wrap64; omega
      have hbl : b < wr.heap.size := hbr.lt
      have g3 : (0 : Int) ≤ (q : Int) + 1 := by omega
      have g4 : (0 : Int) ≤ (q : Int) := by omega
      have g5 : (q : Int) < (n : Int) := by omega
      by_cases heq : d.1 = p.1
      · rw [if_pos heq, List.append_nil, hcq] at hstep
        have ho1 : ∀ w, Calls Try.prog 42 #[dotV d, dotV p] w fun e w' => e = .returned (.bool true) ∧ Go.RowKit.Below w.heap.size w w' := fun w => by have := hone d p w; rwa [decide_eq_true heq] at this
        clear heq
        go_wp2_with fail
        go_region_held3 (fun w' => w'.cell? ⟨b, (q + 1) * 2, none⟩ = some (.int .u64 (d.1 : Int)) ∧ w'.cell? ⟨b, (q + 1) * 2 + 1, none⟩ = some (.int .u64 (d.2 : Int)) ∧ w'.cell? ⟨b, q * 2, none⟩ = some (.int .u64 (p.1 : Int)) ∧ w'.cell? ⟨b, q * 2 + 1, none⟩ = some (.int .u64 (p.2 : Int))) (go_keep) (first | (go_at_call 42; refine (ho1 _).mono ?_; rintro e w1 ⟨rfl, hB1⟩; have s1 : w1.cell? ⟨b, (q + 1) * 2, none⟩ = _ := (hB1.cell (p := ⟨b, (q + 1) * 2, none⟩) hbl).trans r1; have s2 : w1.cell? ⟨b, (q + 1) * 2 + 1, none⟩ = _ := (hB1.cell (p := ⟨b, (q + 1) * 2 + 1, none⟩) hbl).trans r2; have s3 : w1.cell? ⟨b, q * 2, none⟩ = _ := (hB1.cell (p := ⟨b, q * 2, none⟩) hbl).trans r3; have s4 : w1.cell? ⟨b, q * 2 + 1, none⟩ = _ := (hB1.cell (p := ⟨b, q * 2 + 1, none⟩) hbl).trans r4))
        have hB2 : Below w.heap.size w w1 := hB.trans ((Below.refl _ wr).drew.trans (hB1.mono hB.size))
        clear s1 s2 s3 s4 r1 r2 r3 r4 hB1 hbr
        go_wp2
        go_loopw [5, 7] (fun c5 c7 wr => ∃ (k r : Nat) (D : List Dt), q + 1 + (r + 1) ≤ n ∧ c5 = .int .i64 (k : Int) ∧ c7 = .int .i64 ((r : Int) + 1) ∧ D.length = n ∧ k ≤ q + 1 + r ∧ D.take k = compG none (l.take (q + 1 + r + 1)) ∧ D.drop (q + 1 + r) = l.drop (q + 1 + r) ∧ Holds wr b (cellsD D ++ tl) 33 ∧ Upd b w wr) (fun _ c7 _ => n - (intOf c7).toNat)
        case atStart =>
          exact ⟨q + 1, 0, l, by omega, by simp, by simp, hn, by omega, by rw [show q + 1 + 0 + 1 = q + 1 + 1 by omega, hstep], rfl, hb.below hB2 hb.lt, Upd.ofBelow hB2⟩
        case round =>
          obtain ⟨k, r, D, hr, rfl, rfl, hD, hk, htk, hdr, hH, hU⟩ := hrel
          clear ho1 hstep hcq hd hp hde hpe g1 g2 g3 g4 g5 g6 g7 hB hB2 hbl
          have gl : ((n - (q + 1) : Nat) : Int) = (n : Int) - ((q : Int) + 1) := by omega
          rcases Nat.lt_or_ge (q + 1 + (r + 1)) n with hlt2 | hge2
          · have hat : ∀ i, D[q + 1 + r + i]? = l[q + 1 + r + i]? := fun i => by rw [← List.getElem?_drop, hdr, List.getElem?_drop]
            have hd : l[q + 1 + r + 1]? = some l[q + 1 + r + 1] := List.getElem?_eq_getElem (by omega)
            have hp : l[q + 1 + r]? = some l[q + 1 + r] := List.getElem?_eq_getElem (by omega)
            obtain ⟨d2, hde⟩ : ∃ d, l[q + 1 + r + 1] = d := ⟨_, rfl⟩
            obtain ⟨p2, hpe⟩ : ∃ p, l[q + 1 + r] = p := ⟨_, rfl⟩
            rw [hde] at hd
            rw [hpe] at hp
            have hstep := comp_step (j := q + 1 + r + 1) (by omega) hd hp
            obtain ⟨r1, r2⟩ := hH.row _ _ ((hat 1).trans hd)
            obtain ⟨r3, r4⟩ := hH.row _ _ ((hat 0).trans hp)
            rw [show 0 + (q + 1 + r + 1) * 2 = (q + 1) * 2 + (r + 1) * 2 by omega] at r1 r2
            rw [show 0 + (q + 1 + r + 0) * 2 = (q + 1) * 2 + r * 2 by omega] at r3 r4
            have hbl : b < wr.heap.size := hH.lt
            have g1 : (r : Int) + 1 < (n : Int) - ((q : Int) + 1) := by omega
            have g2 : (0 : Int) ≤ (r : Int) + 1 := by omega
            have g3 : (0 : Int) ≤ (r : Int) := by omega
            have g4 : (r : Int) < (n : Int) - ((q : Int) + 1) := by omega
            have g6 : IntKind.i64.wrap (r : Int) = (r : Int) := by simp [IntKind.wrap, IntKind.bits, IntKind.signed]; omega
            by_cases heq : d2.1 = p2.1
            · rw [if_pos heq, List.append_nil] at hstep
              have ho2 : ∀ w, Calls Try.prog 42 #[dotV d2, dotV p2] w fun e w' => e = .returned (.bool true) ∧ Go.RowKit.Below w.heap.size w w' := fun w => by have := hone d2 p2 w; rwa [decide_eq_true heq] at this
              clear hone heq
              go_wp2_with fail
              go_region_held3 (fun w' => w'.cell? ⟨b, (q + 1) * 2 + (r + 1) * 2, none⟩ = some (.int .u64 (d2.1 : Int)) ∧ w'.cell? ⟨b, (q + 1) * 2 + (r + 1) * 2 + 1, none⟩ = some (.int .u64 (d2.2 : Int)) ∧ w'.cell? ⟨b, (q + 1) * 2 + r * 2, none⟩ = some (.int .u64 (p2.1 : Int)) ∧ w'.cell? ⟨b, (q + 1) * 2 + r * 2 + 1, none⟩ = some (.int .u64 (p2.2 : Int))) (go_keep) (first | (go_at_call 42; refine (ho2 _).mono ?_; rintro e w1 ⟨rfl, hB1⟩; have s1 : w1.cell? ⟨b, (q + 1) * 2 + (r + 1) * 2, none⟩ = _ := (hB1.cell (p := ⟨b, (q + 1) * 2 + (r + 1) * 2, none⟩) hbl).trans r1; have s2 : w1.cell? ⟨b, (q + 1) * 2 + (r + 1) * 2 + 1, none⟩ = _ := (hB1.cell (p := ⟨b, (q + 1) * 2 + (r + 1) * 2 + 1, none⟩) hbl).trans r2; have s3 : w1.cell? ⟨b, (q + 1) * 2 + r * 2, none⟩ = _ := (hB1.cell (p := ⟨b, (q + 1) * 2 + r * 2, none⟩) hbl).trans r3; have s4 : w1.cell? ⟨b, (q + 1) * 2 + r * 2 + 1, none⟩ = _ := (hB1.cell (p := ⟨b, (q + 1) * 2 + r * 2 + 1, none⟩) hbl).trans r4))
              have hH1 : Holds w1 b (cellsD D ++ tl) 33 := hH.below (B := wr.heap.size) ((Below.refl _ wr).drew.trans hB1) hbl
              have hU1 : Upd b w w1 := hU.trans (Upd.ofBelow ((Below.refl _ wr).drew.trans hB1))
              clear s3 s4 r1 r2 r3 r4 hB1
              go_wp2
              go_roundw
              case rel =>
                refine ⟨k, r + 1, D, by omega, by simp, by simp, hD, by omega, by rw [show q + 1 + (r + 1) + 1 = q + 1 + r + 1 + 1 by omega, hstep]; exact htk, ?_, hH1, hU1⟩
                rw [show q + 1 + (r + 1) = (q + 1 + r) + 1 by omega, ← List.drop_drop, hdr, List.drop_drop]
              case measure => simp; omega
            · rw [if_neg heq] at hstep
              have ho2 : ∀ w, Calls Try.prog 42 #[dotV d2, dotV p2] w fun e w' => e = .returned (.bool false) ∧ Go.RowKit.Below w.heap.size w w' := fun w => by have := hone d2 p2 w; rwa [decide_eq_false heq] at this
              clear hone heq
              go_wp2_with fail
              go_region_held3 (fun w' => w'.cell? ⟨b, (q + 1) * 2 + (r + 1) * 2, none⟩ = some (.int .u64 (d2.1 : Int)) ∧ w'.cell? ⟨b, (q + 1) * 2 + (r + 1) * 2 + 1, none⟩ = some (.int .u64 (d2.2 : Int)) ∧ w'.cell? ⟨b, (q + 1) * 2 + r * 2, none⟩ = some (.int .u64 (p2.1 : Int)) ∧ w'.cell? ⟨b, (q + 1) * 2 + r * 2 + 1, none⟩ = some (.int .u64 (p2.2 : Int))) (go_keep) (first | (go_at_call 42; refine (ho2 _).mono ?_; rintro e w1 ⟨rfl, hB1⟩; have s1 : w1.cell? ⟨b, (q + 1) * 2 + (r + 1) * 2, none⟩ = _ := (hB1.cell (p := ⟨b, (q + 1) * 2 + (r + 1) * 2, none⟩) hbl).trans r1; have s2 : w1.cell? ⟨b, (q + 1) * 2 + (r + 1) * 2 + 1, none⟩ = _ := (hB1.cell (p := ⟨b, (q + 1) * 2 + (r + 1) * 2 + 1, none⟩) hbl).trans r2; have s3 : w1.cell? ⟨b, (q + 1) * 2 + r * 2, none⟩ = _ := (hB1.cell (p := ⟨b, (q + 1) * 2 + r * 2, none⟩) hbl).trans r3; have s4 : w1.cell? ⟨b, (q + 1) * 2 + r * 2 + 1, none⟩ = _ := (hB1.cell (p := ⟨b, (q + 1) * 2 + r * 2 + 1, none⟩) hbl).trans r4))
              have hH1 : Holds w1 b (cellsD D ++ tl) 33 := hH.below (B := wr.heap.size) ((Below.refl _ wr).drew.trans hB1) hbl
              have hU1 : Upd b w w1 := hU.trans (Upd.ofBelow ((Below.refl _ wr).drew.trans hB1))
              clear s3 s4 r1 r2 r3 r4 hB1
              have k1 : (0 : Int) ≤ (k : Int) := by omega
              have k2 : (k : Int) < (n : Int) := by omega
              have t0 := hH1.at (k * 2) _ (cellsD_at (i := k) (List.getElem?_eq_getElem (by omega)) tl).1
              have t1 := hH1.at (k * 2 + 1) _ (cellsD_at (i := k) (List.getElem?_eq_getElem (by omega)) tl).2
              have f0 := hH1.frozen (k * 2)
              have f1 := hH1.frozen (k * 2 + 1)
              have hH2 := (hH1.set (k * 2) (.int .u64 (d2.1 : Int))).set (k * 2 + 1) (.int .u64 (d2.2 : Int))
              rw [cellsD_set (by omega)] at hH2
              have hU2 := (hU1.setCell (k * 2) (.int .u64 (d2.1 : Int))).setCell (k * 2 + 1) (.int .u64 (d2.2 : Int))
              have kw : IntKind.i64.wrap ((k : Int) + 1) = (k : Int) + 1 := by simp [IntKind.wrap, IntKind.bits, IntKind.signed]; omega
              go_wp2
              go_roundw
              case rel =>
                refine ⟨k + 1, r + 1, D.set k d2, by omega, by simp, by simp, by simp [hD], by omega, ?_, ?_, hH2, hU2⟩
                · rw [show q + 1 + (r + 1) + 1 = q + 1 + r + 1 + 1 by omega, hstep, ← htk, List.take_add_one, List.getElem?_set_self (by omega), List.take_set_of_le (Nat.le_refl _)]
                  rfl
                · rw [List.drop_set_of_lt (by omega), show q + 1 + (r + 1) = (q + 1 + r) + 1 by omega, ← List.drop_drop, hdr, List.drop_drop]
              case measure => simp; omega
          · have hre : q + 1 + (r + 1) = n := by omega
            rw [show q + 1 + r + 1 = n by omega, List.take_of_length_le (Nat.le_of_eq hn)] at htk
            have hkl : (compG none l).length = k := by rw [← htk]; simp; omega
            have g1 : ¬ (r : Int) + 1 < (n : Int) - ((q : Int) + 1) := by omega
            have k1 : (0 : Int) ≤ (k : Int) := by omega
            have k2 : (k : Int) ≤ (n : Int) := by omega
            have k3 : (k : Int) ≤ (cap : Int) := by omega
            have k4 : (n : Int) ≤ (cap : Int) := by omega
            have hcl := fun ty => run_clear_dots wr ty b (k * 2) (n - k) (cap - k) (by omega) (fun j hj => by
              rw [hH.cell]
              rw [List.getElem?_eq_getElem (by simp [cellsD_len]; omega)]; rfl) (fun j hj => hH.frozen _)
            go_wp2
            go_ret
            refine ⟨rfl, fun i e he => ?_, upd_setCells _ _ _ hU, fun j => (World.frozen?_setCells b _ _ _ _).trans (hH.frozen j)⟩
            have hi : i < k := by rw [← hkl]; exact (List.getElem?_eq_some_iff.1 he).1
            have hDi : D[i]? = some e := by rw [← htk, List.getElem?_take_of_lt hi] at he; exact he
            obtain ⟨q1, q2⟩ := hH.row _ _ hDi
            rw [World.cell?_setCells_out _ _ _ _ _ (fun _ _ => .inl (by show 0 + i * 2 < k * 2; omega)), World.cell?_setCells_out _ _ _ _ _ (fun _ _ => .inl (by show 0 + i * 2 + 1 < k * 2; omega))]
            exact ⟨q1, q2⟩
      · rw [if_neg heq, hcq] at hstep
        have ho1 : ∀ w, Calls Try.prog 42 #[dotV d, dotV p] w fun e w' => e = .returned (.bool false) ∧ Go.RowKit.Below w.heap.size w w' := fun w => by have := hone d p w; rwa [decide_eq_false heq] at this
        clear heq
        go_wp2_with fail
        go_region_held3 (fun w' => w'.cell? ⟨b, (q + 1) * 2, none⟩ = some (.int .u64 (d.1 : Int)) ∧ w'.cell? ⟨b, (q + 1) * 2 + 1, none⟩ = some (.int .u64 (d.2 : Int)) ∧ w'.cell? ⟨b, q * 2, none⟩ = some (.int .u64 (p.1 : Int)) ∧ w'.cell? ⟨b, q * 2 + 1, none⟩ = some (.int .u64 (p.2 : Int))) (go_keep) (first | (go_at_call 42; refine (ho1 _).mono ?_; rintro e w1 ⟨rfl, hB1⟩; have s1 : w1.cell? ⟨b, (q + 1) * 2, none⟩ = _ := (hB1.cell (p := ⟨b, (q + 1) * 2, none⟩) hbl).trans r1; have s2 : w1.cell? ⟨b, (q + 1) * 2 + 1, none⟩ = _ := (hB1.cell (p := ⟨b, (q + 1) * 2 + 1, none⟩) hbl).trans r2; have s3 : w1.cell? ⟨b, q * 2, none⟩ = _ := (hB1.cell (p := ⟨b, q * 2, none⟩) hbl).trans r3; have s4 : w1.cell? ⟨b, q * 2 + 1, none⟩ = _ := (hB1.cell (p := ⟨b, q * 2 + 1, none⟩) hbl).trans r4))
        have hB2 : Below w.heap.size w w1 := hB.trans ((Below.refl _ wr).drew.trans (hB1.mono hB.size))
        clear s1 s2 s3 s4 r1 r2 r3 r4 hB1 hbr
        go_wp2
        go_roundw
        case rel =>
          refine ⟨q + 1, by omega, by simp, ?_, hB2⟩
          rw [hstep, List.take_add_one (i := q + 1), hd]
          rfl
        case measure => simp; omega
    · obtain rfl : n = q + 1 := by omega
      go_wp2
      go_ret
      rw [List.take_of_length_le (by omega)] at hcq
      rw [hcq, hn]
      exact ⟨rfl, (hb.below hB hb.lt).row, Upd.ofBelow hB, fun j => (hb.below hB hb.lt).frozen j⟩
set_option maxRecDepth 100000 in
set_option maxHeartbeats 4000000 in
theorem merge_thaw (v : Value) (ls : List (List Dt)) (hl : ls.length < 9223372036854775807) (hls : ∀ c ∈ ls, c.length < 9223372036854775807) (hall : (allD ls).length ≤ 8796093022208) (w : World) (hv : Clks (Lt w.heap.size) w v ls) :
    Calls Try.prog 17 #[v] w fun e w' => ∃ u, e = .returned u ∧ Clk (From w.heap.size w') w' u (norm ls.flatten) ∧ Below w.heap.size w w' ∧ Soft w' u := by
  obtain ⟨a, cap, rfl, hv'⟩ := id hv
  obtain ⟨i0, hi, hz0, hz1, hz2⟩ := info_parts info33
  refine (callsIn_wide (n := 3)).1 ?_
  refine callsIn_of_wp_marks Try.func17 rfl trivial ?_ rfl
  simp only [Try.ntmps17, List.size_toArray, List.length_cons, List.length_nil, Nat.reduceAdd, Nat.reduceSub, Array.replicate_succ, Array.replicate_zero, List.push_toArray, List.append_toArray, List.nil_append, List.cons_append]
  gi_wp2_with (refine ⟨trivial, ?_⟩; gi_at_call 38; refine (dots_in Fence.wide 2 trivial rfl _ _ _ _).mono ?_; rintro e w' ⟨rfl, rfl⟩)
  obtain ⟨m, hm⟩ : ∃ m, w.heap.size = m := ⟨_, rfl⟩
  rw [hm] at hv ⊢
  have b0 := (holds_new w [.slice none 0 0] 28).alloc (.cells #[.slice a ls.length cap] 59)
  have b1 := holds_new (w.alloc (.cells #[.slice none 0 0] 28)) [.slice a ls.length cap] 59
  simp only [World.size_alloc, hm] at b0 b1
  have hB0 : Below m w ((w.alloc (.cells #[.slice none 0 0] 28)).alloc (.cells #[.slice a ls.length cap] 59)) := ((Below.refl _ w).alloc (by omega) _).alloc (by simp; omega) _
  have hsz : ((w.alloc (.cells #[.slice none 0 0] 28)).alloc (.cells #[.slice a ls.length cap] 59)).heap.size = m + 2 := by simp [hm]
  obtain ⟨W0, hW0⟩ : ∃ W0, (w.alloc (.cells #[.slice none 0 0] 28)).alloc (.cells #[.slice a ls.length cap] 59) = W0 := ⟨_, rfl⟩
  simp only [List.toArray] at b0 b1
  rw [hW0] at b0 b1 hB0 hsz ⊢
  clear hW0
  have hG : ∀ k, k < m → k < W0.heap.size := fun k hk => by omega
  have hbox : Boxed W0 m 28 (.slice none 0 0) := b0
  refine wpIn_rangeFunc_ownH rfl (by omega) (gf := 55) (lb := #[.pointer (some ⟨m + 1, 0, none⟩)]) rfl trivial (enters_of Try.func55 (by kernel_rfl) rfl)
    (dots_stops Fence.wide 2 trivial rfl (by omega) (m + 1) (fun k => k < m) _ ls hl hls W0 (by omega) hG (b1.at 0 _ rfl) (hv.keep (Kp.ofBelow hB0 (fun k hk => hk)))) kp_t (kp_b hG) (Below.refl _ _) (fun _ => rfl)
    (fun pre W => (∃ v, Boxed W m 28 v ∧ W.ownsRow m 33 2 v pre.length (cellsD pre) ∧ True) ∧ Below m w W)
    (fun _ _ _ => False)
    (OwnFrom.and (Own.from (holdsRow_own m m 28 33 2 (fun pre : List Dt => pre.length) (fun pre => cellsD pre) (fun _ _ => True)) _) (ownFrom_below (by omega) (by omega)))
    (fun _ _ _ _ _ hs _ _ => hs)
    ⟨⟨_, hbox, World.ownsRow_nil _ _ _ _, trivial⟩, hB0⟩
    (fun x a' W => ∃ Bx, m < Bx ∧ Holds W Bx [.int .u64 (x.1 : Int), .int .u64 (x.2 : Int)] 33 ∧ a' = { tmps := #[.slice a ls.length cap, undef, .slice none 0 0, .pointer (some ⟨m, 0, none⟩), .pointer (some ⟨Bx, 0, none⟩), .slice a ls.length cap, .func (.func 55) #[] #[.pointer (some ⟨m + 1, 0, none⟩)], dotV x, undef, undef, undef, undef, undef, undef, undef, undef], defers := [] })
    (fun x a' _ X Y row hs hg hr => by obtain ⟨Bx, h1, h2, h3⟩ := hs; exact ⟨Bx, h1, holds_own Bx (fun (_ : Unit) => [.int .u64 (x.1 : Int), .int .u64 (x.2 : Int)]) 33 () X Y row h2 hg (fun r e => (hr r e).2), h3⟩)
    ?assign ?body ?done ?stop
  case assign =>
    rintro l pre x W K ⟨⟨v, h1, hr, _⟩, hB1⟩ hK
    have hle : m ≤ W.heap.size := Nat.le_trans (by omega) hB1.size
    gi_wp2
    exact hK _ _ ((KeepsOthers.alloc _ _).from _) ((Kp.refl _ W).alloc (fun k hk => Nat.lt_of_lt_of_le hk hle) _) ⟨⟨v, h1.alloc _, hr.alloc _, trivial⟩, hB1.alloc hle _⟩ ⟨W.heap.size, h1.lt, holds_new W [_, _] 33, rfl⟩
  case body =>
    rintro l pre x a' W hl ⟨r, hr⟩ ⟨⟨v, hv, hrow, _⟩, hB1⟩ ⟨Bx, hBx, bX, rfl⟩ hlt
    have c0 := hv.cell
    have x0 := bX.at 0 _ rfl
    have x1 := bX.at 1 _ rfl
    have hle : m ≤ W.heap.size := Nat.le_trans (by omega) hB1.size
    have hnew : ∀ j u, [Value.int .u64 (x.1 : Int), .int .u64 (x.2 : Int)][j]? = some u → (W.alloc (.cells #[.int .u64 (x.1 : Int), .int .u64 (x.2 : Int)] 33)).cell? ((⟨W.heap.size, 0, none⟩ : Addr).add j) = some u := fun j u hu => by
      have := (holds_new W [.int .u64 (x.1 : Int), .int .u64 (x.2 : Int)] 33).at j u hu
      have e : (⟨W.heap.size, 0, none⟩ : Addr).add j = ⟨W.heap.size, j, none⟩ := by simp [Addr.add]; exact fun h => h.symm
      rw [e]; exact this
    gi_wp2_with (gi_at_builtin; refine wpListIn_append_own _ rfl _ _ 28 rfl m 33 i0 (.agg #[.int .u64 0, .int .u64 0]) 2 16 Try.underlying28 hi hz0 hz1 hz2 rfl (by decide) _ _ _ rfl (hrow.alloc _) ⟨W.heap.size, 0, none⟩ 1 1 [.int .u64 (x.1 : Int), .int .u64 (x.2 : Int)] rfl rfl hnew (by simp [Value.oneCell']) (by unfold maxLen; omega) (by omega) (by simp; omega) ?_; intro v' w1 hown' hgrow _; obtain ⟨g', cap', rfl⟩ := ownsRow_succ hown'; obtain ⟨hv1, hv2, hr2, hk2, hb2⟩ := hv.appended (by decide) hrow hle (Nat.le_refl _) hown' hgrow; have hc1 := hv1.cell; have hf1 := hv1.frozen)
    have hcd : cellsD (pre ++ [x]) = cellsD pre ++ [.int .u64 (x.1 : Int), .int .u64 (x.2 : Int)] := by rw [cellsD_append]; rfl
    exact ⟨hk2.from _, Kp.ofBelow hb2 (fun k hk => hk), ⟨_, hv2, by rw [hcd, List.length_append]; exact hr2, trivial⟩, hB1.trans hb2⟩
  case done =>
    rintro D zs W hD rfl ⟨⟨v, hv, hrow, _⟩, hB1⟩ hK
    have hle : m ≤ W.heap.size := Nat.le_trans (by omega) hB1.size
    have c0 := hv.cell
    have hDl : D < W.heap.size := (Array.getElem?_eq_some_iff.1 hK).1
    rcases own_holds hrow rfl with ⟨rfl, hnil⟩ | ⟨g, cap', tl, rfl, hg, hcap, hH⟩
    · have h39 := sort_none 0 W
      have h41 := compact_none 0 W
      have hnm : norm ls.flatten = [] := by
        rw [allD_flat] at hnil
        exact (norm_of (c := []) ⟨by simp, by simp⟩ (fun a => by rw [← getN_pos ls.flatten, hnil])).symm
      have hB3 := hB1.trans (belowK_b (w := w) (Nat.le_of_eq hm.symm) W D (.deferred (some [])) (.deferred none) (by omega) hK rfl rfl)
      gi_wp2_with (first | (refine ⟨trivial, ?_⟩; gi_at_call 39; refine (callsIn_wide.2 h39).mono ?_; rintro e w1 ⟨rfl, hw1⟩; have hw1 := hw1.symm; subst hw1) | (refine ⟨trivial, ?_⟩; gi_at_call 41; refine (callsIn_wide.2 h41).mono ?_; rintro e w1 ⟨rfl, hw1⟩; have hw1 := hw1.symm; subst hw1))
      refine ⟨by simp, .inl ⟨_, _, rfl, run_takeDeferred hK, ?_⟩⟩
      refine ⟨_, results_tmp rfl _ _ _, _, rfl, ?_, hm ▸ hB3, fun b o n cap e => by cases e⟩
      rw [hnm]
      exact Clk.nil _ _ _ _
    · have hgD : g ≠ D := fun e => by rw [← e] at hK; unfold Holds at hH; rw [hH] at hK; cases hK
      have hvH : Holds W m [.slice (some ⟨g, 0, none⟩) (allD ls).length cap'] 28 := hv
      have hgm : g ≠ m := fun e => by rw [e] at hH; exact absurd (hH.inj hvH).2 (by decide)
      have h39 := sort_some g (allD ls) tl cap' (by omega) W hH
      have hmm : m ≠ g := fun e => hgm e.symm
      have h41 : ∀ l' w1, l'.length = (allD ls).length → Holds w1 g (cellsD l' ++ tl) 33 → Calls Try.prog 41 #[.slice (some ⟨g, 0, none⟩) (allD ls).length cap', .func (.func 42) #[] #[]] w1 fun e w' => e = .returned (.slice (some ⟨g, 0, none⟩) (compG none l').length cap') ∧ Row w' g 0 (compG none l') ∧ Upd g w1 w' ∧ Thaw w' g := fun l' w1 e h => by
        have := compact_thaw g l' tl cap' (by omega) (by omega) w1 h
        rwa [e] at this
      obtain ⟨LN, hLN⟩ : ∃ LN, (allD ls).length = LN := ⟨_, rfl⟩
      rw [hLN] at h39 h41 hvH c0
      gi_wp2_with (first | (refine ⟨trivial, ?_⟩; gi_at_call 39; refine (callsIn_wide.2 h39).mono ?_; rintro e w1 ⟨rfl, l', hp', hs', hl', hH', hU'⟩; have hv1 := (hvH.upd hU' hmm).at 0 _ rfl) | (refine ⟨trivial, ?_⟩; gi_at_call 41; refine (callsIn_wide.2 (h41 l' w1 hl' hH')).mono ?_; rintro e w2 ⟨rfl, hrow2, hU2, hT2⟩))
      have hUU := hU'.trans hU2
      have hK2 : w2.heap[D]? = some (.deferred (some [])) := by rw [hUU.block D hDl hgD.symm]; exact hK
      have hnm : compG none l' = norm ls.flatten := comp_norm hs' (by rw [← allD_flat]; exact hp')
      have hBB : Below m w w2 := hB1.trans (hUU.below hg hle)
      have hB3 := belowK_b (w := w) (Nat.le_refl _) w2 D (.deferred (some [])) (.deferred none) (by omega) hK2 rfl rfl
      refine ⟨by simp, .inl ⟨_, _, rfl, run_takeDeferred hK2, ?_⟩⟩
      refine ⟨_, results_tmp rfl _ _ _, _, rfl, ?_, hm ▸ hBB.trans (hm ▸ hB3), fun b o n cap e j => by cases e; exact (frozen_put hgD).trans (hT2 j)⟩
      rw [← hnm]
      exact clk_row ⟨hm ▸ hg, Nat.lt_of_lt_of_le (Nat.lt_of_lt_of_le hH.lt hUU.size) hB3.size⟩ (hrow2.putObj hgD _)
  case stop =>
    rintro D c pre W _ _ h _
    exact h.elim

def MakesS (w : World) (c : List Dt) (e : Ending) (w' : World) : Prop := ∃ a cap, e = .returned (.slice a c.length cap) ∧ Clk (From w.heap.size w') w' (.slice a c.length cap) c ∧ Below w.heap.size w w' ∧ Soft w' (.slice a c.length cap)
theorem merge_makesS (v : Value) (ls : List (List Dt)) (hl : ls.length < 9223372036854775807) (hls : ∀ c ∈ ls, c.length < 9223372036854775807) (hall : ls.flatten.length ≤ 8796093022208) (w : World) (hv : Clks (Lt w.heap.size) w v ls) :
    Calls Try.prog 17 #[v] w (MakesS w (norm ls.flatten)) := by
  refine (merge_thaw v ls hl hls ?_ w hv).mono ?_
  · rw [allD_flat]; exact Nat.le_trans (List.length_filter_le _ _) hall
  · rintro e w' ⟨u, rfl, hc, hB, hS⟩
    obtain ⟨a, cap, rfl, hr⟩ := id hc
    exact ⟨a, cap, rfl, hc, hB, hS⟩
theorem MakesS.alloc {w w' : World} {o : Obj} {c : List Dt} {e : Ending} (h : MakesS (w.alloc o) c e w') : MakesS w c e w' := by
  obtain ⟨a, cap, rfl, hc, hB, hS⟩ := h
  exact ⟨a, cap, rfl, hc.mono (fun k hk => ⟨Nat.le_trans (below_alloc w o).size hk.1, hk.2⟩), below_trans (below_alloc w o) hB, hS⟩
set_option maxHeartbeats 1000000 in
theorem norm_soft (v : Value) (c : List Dt) (hl : c.length ≤ 8796093022208) (w : World) (hv : Clk (Lt w.heap.size) w v c) : Calls Try.prog 13 #[v] w (MakesS w (norm c)) := by
  obtain ⟨a, cap, rfl, hv'⟩ := id hv
  have h17 := merge_makesS (.slice (some ⟨w.heap.size, 0, none⟩) 1 1) [c] (by simp) (by simp; omega) (by simpa using hl) (w.alloc (.cells #[.slice a c.length cap] 28)) (clks_one (by simp) ((holds_new w [.slice a c.length cap] 28).at 0 _ rfl) (hv.up (below_alloc _ _)))
  rw [show [c].flatten = c by simp] at h17
  clear hv hv'
  go_enter Try.func13, Try.ntmps13
  go_wp2_with (go_at_call 17; refine h17.mono ?_; intro e w' hm; obtain ⟨a', cap', rfl, hc, hB, hS⟩ := id hm)
  go_ret
  exact hm.alloc
set_option maxHeartbeats 1000000 in
theorem add_soft (u v : Value) (c d : List Dt) (hl : c.length + d.length ≤ 8796093022208) (w : World) (hu : Clk (Lt w.heap.size) w u c) (hv : Clk (Lt w.heap.size) w v d) : Calls Try.prog 14 #[u, v] w (MakesS w (norm (c ++ d))) := by
  obtain ⟨a, cap, rfl, _⟩ := id hu
  obtain ⟨b, cap2, rfl, _⟩ := id hv
  have h17 := merge_makesS (.slice (some ⟨w.heap.size, 0, none⟩) 2 2) [c, d] (by simp) (by simp; omega) (by simpa using hl) (w.alloc (.cells #[.slice a c.length cap, .slice b d.length cap2] 28)) (clks_two (by simp) ((holds_new w [.slice a c.length cap, .slice b d.length cap2] 28).at 0 _ rfl) ((holds_new w [.slice a c.length cap, .slice b d.length cap2] 28).at 1 _ rfl) (hu.up (below_alloc _ _)) (hv.up (below_alloc _ _)))
  rw [show [c, d].flatten = c ++ d by simp] at h17
  clear hu hv
  go_enter Try.func14, Try.ntmps14
  go_wp2_with (go_at_call 17; refine h17.mono ?_; intro e w' hm; obtain ⟨a', cap', rfl, hc, hB, hS⟩ := id hm)
  go_ret
  exact hm.alloc
end Go.Proofs.Ytbmeflildmeecaa
