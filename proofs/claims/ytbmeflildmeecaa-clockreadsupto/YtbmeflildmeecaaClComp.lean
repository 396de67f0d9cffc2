/- slices.CompactFunc (41) at dots and ofOneActor: of neighbours of one actor the first stays. -/
import Derived.Lib.SliceRun
import Derived.Test.YtbmeflildmeecaaClCmp
namespace Go.Proofs.Ytbmeflildmeecaa
open Go.RowKit Go.Shelf Go.Sort Go.Lib

def cellsD (l : List Dt) : List Value := l.flatMap (fun d => [.int .u64 (d.1 : Int), .int .u64 (d.2 : Int)])
@[simp] theorem cellsD_nil : cellsD [] = [] := rfl
theorem cellsD_cons (d : Dt) (l : List Dt) : cellsD (d :: l) = .int .u64 (d.1 : Int) :: .int .u64 (d.2 : Int) :: cellsD l := rfl
theorem cellsD_append (l m : List Dt) : cellsD (l ++ m) = cellsD l ++ cellsD m := by simp [cellsD]
theorem cellsD_len (l : List Dt) : (cellsD l).length = l.length * 2 := by
  induction l with
  | nil => rfl
  | cons d l ih => rw [cellsD_cons]; simp [ih]; omega
theorem cellsD_at {l : List Dt} {i : Nat} {d : Dt} (h : l[i]? = some d) (tl : List Value) : (cellsD l ++ tl)[i * 2]? = some (.int .u64 (d.1 : Int)) ∧ (cellsD l ++ tl)[i * 2 + 1]? = some (.int .u64 (d.2 : Int)) := by
  induction l generalizing i with
  | nil => simp at h
  | cons e l ih =>
    rw [cellsD_cons]
    cases i with
    | zero => simp at h; subst h; exact ⟨rfl, rfl⟩
    | succ i =>
      simp at h
      have := ih h
      rw [show (i + 1) * 2 = i * 2 + 1 + 1 by omega]
      exact this
theorem cellsD_set {l : List Dt} {i : Nat} (h : i < l.length) (d : Dt) (tl : List Value) : ((cellsD l ++ tl).set (i * 2) (.int .u64 (d.1 : Int))).set (i * 2 + 1) (.int .u64 (d.2 : Int)) = cellsD (l.set i d) ++ tl := by
  induction l generalizing i with
  | nil => simp at h
  | cons e l ih =>
    cases i with
    | zero => rfl
    | succ i =>
      simp at h
      rw [show (i + 1) * 2 = i * 2 + 1 + 1 by omega, cellsD_cons, List.set_cons_succ, cellsD_cons]
      have := ih h
      show _ :: _ :: (((cellsD l ++ tl).set (i * 2) _).set (i * 2 + 1) _) = _
      rw [this]; rfl
theorem Holds.row {w : World} {b : Nat} {l : List Dt} {tl : List Value} {t : TypeId} (h : Holds w b (cellsD l ++ tl) t) : Row w b 0 l := fun i d e =>
  ⟨by rw [Nat.zero_add]; exact h.at _ _ (cellsD_at e tl).1, by rw [Nat.zero_add]; exact h.at _ _ (cellsD_at e tl).2⟩
theorem run_clear_dots (w : World) (ty : TypeId) (b o n c : Nat) (hn : 0 < n)
    (hc : ∀ j, j < n * 2 → (w.cell? ⟨b, o + j, none⟩).isSome = true) (hf : ∀ j, j < n * 2 → w.frozen? ⟨b, o + j, none⟩ = false) :
    (Builtin.clear_ #[28] ty #[.slice (some ⟨b, o, none⟩) n c]).run Try.prog w = .ok (.tuple #[]) (w.setCells b o (List.replicate (n * 2) (.int .u64 0))) := by
  have hzc : (Builtin.zeroCells (Value.agg #[.int .u64 0, .int .u64 0]).cells n).toList = List.replicate (n * 2) (.int .u64 0) := by
    have hz : (Value.agg #[.int .u64 0, .int .u64 0]).cells = #[.int .u64 0, .int .u64 0] := by rfl
    rw [hz]
    simp [Builtin.zeroCells]
    apply List.ext_getElem
    · simp
    · intro i h1 h2
      simp
      rcases Nat.mod_two_eq_zero_or_one i with g | g <;> simp [g]
  have hv : ∀ w, (zeroValue 33).run Try.prog w = .ok (.agg #[.int .u64 0, .int .u64 0]) w := fun w => by kernel_rfl
  have hst := run_storeCells_cells (P := Try.prog) b o (List.replicate (n * 2) (.int .u64 0)) 0 w (by simpa using hc) (by simpa using hf) (by intro v hv'; rw [List.eq_of_mem_replicate hv']; rfl)
  simp only [Nat.add_zero] at hst
  obtain ⟨m, rfl⟩ : ∃ m, n = m + 1 := ⟨n - 1, by omega⟩
  simp [Builtin.clear_, run_underlying Try.underlying28, hv, hzc, hst]

theorem lastA_take {l : List Dt} {j : Nat} (hj : 0 < j) (h : j ≤ l.length) : ∃ d, l[j - 1]? = some d ∧ lastA none (l.take j) = some d.1 := by
  have hlt : j - 1 < l.length := by omega
  refine ⟨l[j - 1], List.getElem?_eq_getElem hlt, ?_⟩
  have : l.take j = l.take (j - 1) ++ [l[j - 1]] := by
    have := List.take_add_one (l := l) (i := j - 1)
    rw [show j - 1 + 1 = j by omega, List.getElem?_eq_getElem hlt] at this
    simpa using this
  rw [this, lastA_snoc]
theorem comp_step {l : List Dt} {j : Nat} {d p : Dt} (hj : 0 < j) (hd : l[j]? = some d) (hp : l[j - 1]? = some p) :
    compG none (l.take (j + 1)) = compG none (l.take j) ++ (if d.1 = p.1 then [] else [d]) := by
  have hlt := (List.getElem?_eq_some_iff.1 hd).1
  obtain ⟨q, hq, hl⟩ := lastA_take hj (Nat.le_of_lt hlt)
  rw [hp] at hq
  cases hq
  rw [List.take_add_one, hd]
  show compG none (l.take j ++ [d]) = _
  rw [compG_snoc, hl]
  by_cases g : d.1 = p.1
  · rw [if_pos g, if_pos (by rw [g])]
  · rw [if_neg g, if_neg (fun e => g (Option.some.inj e).symm)]
theorem upd_setCells {b : Nat} {x : World} : ∀ (vs : List Value) (o : Nat) (y : World), Upd b x y → Upd b x (y.setCells b o vs)
  | [], _, _, h => h
  | v :: vs, o, y, h => upd_setCells vs (o + 1) (y.setCell ⟨b, o, none⟩ v) (h.setCell o v)
theorem comp_one (l : List Dt) (h : l.length ≤ 1) : compG none l = l := by
  match l, h with
  | [], _ => rfl
  | [d], _ => rfl

set_option maxRecDepth 100000 in
set_option maxHeartbeats 4000000 in
theorem compact_some (b : Nat) (l : List Dt) (tl : List Value) (cap : Nat) (hcap : l.length ≤ cap) (hlen : l.length < 4611686018427387904) (w : World) (hb : Holds w b (cellsD l ++ tl) 33) :
    Calls Try.prog 41 #[.slice (some ⟨b, 0, none⟩) l.length cap, .func (.func 42) #[] #[]] w fun e w' =>
      e = .returned (.slice (some ⟨b, 0, none⟩) (compG none l).length cap) ∧ Row w' b 0 (compG none l) ∧ Upd b w w' := by
  obtain ⟨n, hn⟩ : ∃ n, l.length = n := ⟨_, rfl⟩
  rw [hn] at hcap hlen ⊢
  have hone := @ofOne_any
  by_cases h2 : n < 2
  · have h2' : (n : Int) < 2 := by omega
    go_enter Try.func41, Try.ntmps41
    go_wp2
    go_ret
    rw [comp_one l (by omega), hn]
    exact ⟨rfl, hb.row, Upd.refl _ _⟩
  have h2' : ¬ (n : Int) < 2 := by omega
  go_enter Try.func41, Try.ntmps41
  go_wp2
  go_loopw [5] (fun c wr => ∃ q : Nat, q + 1 ≤ n ∧ c = .int .i64 ((q : Int) + 1) ∧ compG none (l.take (q + 1)) = l.take (q + 1) ∧ Below w.heap.size w wr) (fun c _ => n - (intOf c).toNat)
  case atStart => exact ⟨0, by omega, rfl, by rw [comp_one _ (by simp; omega)], Below.refl _ _⟩
  case round =>
    obtain ⟨q, hq, rfl, hcq, hB⟩ := hrel
    rcases Nat.lt_or_ge (q + 1) n with hlt | hge
    · have hd : l[q + 1]? = some l[q + 1] := List.getElem?_eq_getElem (by omega)
      have hp : l[q]? = some l[q] := List.getElem?_eq_getElem (by omega)
      obtain ⟨d, hde⟩ : ∃ d, l[q + 1] = d := ⟨_, rfl⟩
      obtain ⟨p, hpe⟩ : ∃ p, l[q] = p := ⟨_, rfl⟩
      rw [hde] at hd
      rw [hpe] at hp
      have hbr := hb.below hB hb.lt
      have hstep := comp_step (j := q + 1) (by omega) hd hp
      obtain ⟨r1, r2⟩ := hbr.row _ _ hd
      obtain ⟨r3, r4⟩ := hbr.row _ _ hp
      rw [Nat.zero_add] at r1 r2 r3 r4
      have g1 : (q : Int) + 1 < (n : Int) := by omega
      have g2 : IntKind.i64.wrap ((q : Int) + 1 - 1) = (q : Int) := by simp [IntKind.wrap, IntKind.bits, IntKind.signed]; omega
      have g6 : IntKind.i64.wrap (q : Int) = (q : Int) := by simp [IntKind.wrap, IntKind.bits, IntKind.signed]; omega
      have g7 : wrap64 (q : Int) = (q : Int) := by unfold wrap64; omega
      have hbl : b < wr.heap.size := hbr.lt
      have g3 : (0 : Int) ≤ (q : Int) + 1 := by omega
      have g4 : (0 : Int) ≤ (q : Int) := by omega
      have g5 : (q : Int) < (n : Int) := by omega
      by_cases heq : d.1 = p.1
      · rw [if_pos heq, List.append_nil, hcq] at hstep
        have ho1 : ∀ w, Calls Try.prog 42 #[dotV d, dotV p] w fun e w' => e = .returned (.bool true) ∧ Go.RowKit.Below w.heap.size w w' := fun w => by have := hone d p w; rwa [decide_eq_true heq] at this
        clear heq
        go_wp2_with fail
        go_region_held3 (fun w' => w'.cell? ⟨b, (q + 1) * 2, none⟩ = some (.int .u64 (d.1 : Int)) ∧ w'.cell? ⟨b, (q + 1) * 2 + 1, none⟩ = some (.int .u64 (d.2 : Int)) ∧ w'.cell? ⟨b, q * 2, none⟩ = some (.int .u64 (p.1 : Int)) ∧ w'.cell? ⟨b, q * 2 + 1, none⟩ = some (.int .u64 (p.2 : Int))) (go_keep) (first | (go_at_call 42; refine (ho1 _).mono ?_; rintro e w1 ⟨rfl, hB1⟩; have s1 : w1.cell? ⟨b, (q + 1) * 2, none⟩ = _ := (hB1.cell (p := ⟨b, (q + 1) * 2, none⟩) hbl).trans r1; have s2 : w1.cell? ⟨b, (q + 1) * 2 + 1, none⟩ = _ := (hB1.cell (p := ⟨b, (q + 1) * 2 + 1, none⟩) hbl).trans r2; have s3 : w1.cell? ⟨b, q * 2, none⟩ = _ := (hB1.cell (p := ⟨b, q * 2, none⟩) hbl).trans r3; have s4 : w1.cell? ⟨b, q * 2 + 1, none⟩ = _ := (hB1.cell (p := ⟨b, q * 2 + 1, none⟩) hbl).trans r4))
        have hB2 : Below w.heap.size w w1 := hB.trans ((Below.refl _ wr).drew.trans (hB1.mono hB.size))
        clear s1 s2 s3 s4 r1 r2 r3 r4 hB1 hbr
        go_wp2
        go_loopw [5, 7] (fun c5 c7 wr => ∃ (k r : Nat) (D : List Dt), q + 1 + (r + 1) ≤ n ∧ c5 = .int .i64 (k : Int) ∧ c7 = .int .i64 ((r : Int) + 1) ∧ D.length = n ∧ k ≤ q + 1 + r ∧ D.take k = compG none (l.take (q + 1 + r + 1)) ∧ D.drop (q + 1 + r) = l.drop (q + 1 + r) ∧ Holds wr b (cellsD D ++ tl) 33 ∧ Upd b w wr) (fun _ c7 _ => n - (intOf c7).toNat)
        case atStart =>
          exact ⟨q + 1, 0, l, by omega, by simp, by simp, hn, by omega, by rw [show q + 1 + 0 + 1 = q + 1 + 1 by omega, hstep], rfl, hb.below hB2 hb.lt, Upd.ofBelow hB2⟩
        case round =>
          obtain ⟨k, r, D, hr, rfl, rfl, hD, hk, htk, hdr, hH, hU⟩ := hrel
          clear ho1 hstep hcq hd hp hde hpe g1 g2 g3 g4 g5 g6 g7 hB hB2 hbl
          have gl : ((n - (q + 1) : Nat) : Int) = (n : Int) - ((q : Int) + 1) := by omega
          rcases Nat.lt_or_ge (q + 1 + (r + 1)) n with hlt2 | hge2
          · have hat : ∀ i, D[q + 1 + r + i]? = l[q + 1 + r + i]? := fun i => by rw [← List.getElem?_drop, hdr, List.getElem?_drop]
            have hd : l[q + 1 + r + 1]? = some l[q + 1 + r + 1] := List.getElem?_eq_getElem (by omega)
            have hp : l[q + 1 + r]? = some l[q + 1 + r] := List.getElem?_eq_getElem (by omega)
            obtain ⟨d2, hde⟩ : ∃ d, l[q + 1 + r + 1] = d := ⟨_, rfl⟩
            obtain ⟨p2, hpe⟩ : ∃ p, l[q + 1 + r] = p := ⟨_, rfl⟩
            rw [hde] at hd
            rw [hpe] at hp
            have hstep := comp_step (j := q + 1 + r + 1) (by omega) hd hp
            obtain ⟨r1, r2⟩ := hH.row _ _ ((hat 1).trans hd)
            obtain ⟨r3, r4⟩ := hH.row _ _ ((hat 0).trans hp)
            rw [show 0 + (q + 1 + r + 1) * 2 = (q + 1) * 2 + (r + 1) * 2 by omega] at r1 r2
            rw [show 0 + (q + 1 + r + 0) * 2 = (q + 1) * 2 + r * 2 by omega] at r3 r4
            have hbl : b < wr.heap.size := hH.lt
            have g1 : (r : Int) + 1 < (n : Int) - ((q : Int) + 1) := by omega
            have g2 : (0 : Int) ≤ (r : Int) + 1 := by omega
            have g3 : (0 : Int) ≤ (r : Int) := by omega
            have g4 : (r : Int) < (n : Int) - ((q : Int) + 1) := by omega
            have g6 : IntKind.i64.wrap (r : Int) = (r : Int) := by simp [IntKind.wrap, IntKind.bits, IntKind.signed]; omega
            by_cases heq : d2.1 = p2.1
            · rw [if_pos heq, List.append_nil] at hstep
              have ho2 : ∀ w, Calls Try.prog 42 #[dotV d2, dotV p2] w fun e w' => e = .returned (.bool true) ∧ Go.RowKit.Below w.heap.size w w' := fun w => by have := hone d2 p2 w; rwa [decide_eq_true heq] at this
              clear hone heq
              go_wp2_with fail
              go_region_held3 (fun w' => w'.cell? ⟨b, (q + 1) * 2 + (r + 1) * 2, none⟩ = some (.int .u64 (d2.1 : Int)) ∧ w'.cell? ⟨b, (q + 1) * 2 + (r + 1) * 2 + 1, none⟩ = some (.int .u64 (d2.2 : Int)) ∧ w'.cell? ⟨b, (q + 1) * 2 + r * 2, none⟩ = some (.int .u64 (p2.1 : Int)) ∧ w'.cell? ⟨b, (q + 1) * 2 + r * 2 + 1, none⟩ = some (.int .u64 (p2.2 : Int))) (go_keep) (first | (go_at_call 42; refine (ho2 _).mono ?_; rintro e w1 ⟨rfl, hB1⟩; have s1 : w1.cell? ⟨b, (q + 1) * 2 + (r + 1) * 2, none⟩ = _ := (hB1.cell (p := ⟨b, (q + 1) * 2 + (r + 1) * 2, none⟩) hbl).trans r1; have s2 : w1.cell? ⟨b, (q + 1) * 2 + (r + 1) * 2 + 1, none⟩ = _ := (hB1.cell (p := ⟨b, (q + 1) * 2 + (r + 1) * 2 + 1, none⟩) hbl).trans r2; have s3 : w1.cell? ⟨b, (q + 1) * 2 + r * 2, none⟩ = _ := (hB1.cell (p := ⟨b, (q + 1) * 2 + r * 2, none⟩) hbl).trans r3; have s4 : w1.cell? ⟨b, (q + 1) * 2 + r * 2 + 1, none⟩ = _ := (hB1.cell (p := ⟨b, (q + 1) * 2 + r * 2 + 1, none⟩) hbl).trans r4))
              have hH1 : Holds w1 b (cellsD D ++ tl) 33 := hH.below (B := wr.heap.size) ((Below.refl _ wr).drew.trans hB1) hbl
              have hU1 : Upd b w w1 := hU.trans (Upd.ofBelow ((Below.refl _ wr).drew.trans hB1))
              clear s3 s4 r1 r2 r3 r4 hB1
              go_wp2
              go_roundw
              case rel =>
                refine ⟨k, r + 1, D, by omega, by simp, by simp, hD, by omega, by rw [show q + 1 + (r + 1) + 1 = q + 1 + r + 1 + 1 by omega, hstep]; exact htk, ?_, hH1, hU1⟩
                rw [show q + 1 + (r + 1) = (q + 1 + r) + 1 by omega, ← List.drop_drop, hdr, List.drop_drop]
              case measure => simp; omega
            · rw [if_neg heq] at hstep
              have ho2 : ∀ w, Calls Try.prog 42 #[dotV d2, dotV p2] w fun e w' => e = .returned (.bool false) ∧ Go.RowKit.Below w.heap.size w w' := fun w => by have := hone d2 p2 w; rwa [decide_eq_false heq] at this
              clear hone heq
              go_wp2_with fail
              go_region_held3 (fun w' => w'.cell? ⟨b, (q + 1) * 2 + (r + 1) * 2, none⟩ = some (.int .u64 (d2.1 : Int)) ∧ w'.cell? ⟨b, (q + 1) * 2 + (r + 1) * 2 + 1, none⟩ = some (.int .u64 (d2.2 : Int)) ∧ w'.cell? ⟨b, (q + 1) * 2 + r * 2, none⟩ = some (.int .u64 (p2.1 : Int)) ∧ w'.cell? ⟨b, (q + 1) * 2 + r * 2 + 1, none⟩ = some (.int .u64 (p2.2 : Int))) (go_keep) (first | (go_at_call 42; refine (ho2 _).mono ?_; rintro e w1 ⟨rfl, hB1⟩; have s1 : w1.cell? ⟨b, (q + 1) * 2 + (r + 1) * 2, none⟩ = _ := (hB1.cell (p := ⟨b, (q + 1) * 2 + (r + 1) * 2, none⟩) hbl).trans r1; have s2 : w1.cell? ⟨b, (q + 1) * 2 + (r + 1) * 2 + 1, none⟩ = _ := (hB1.cell (p := ⟨b, (q + 1) * 2 + (r + 1) * 2 + 1, none⟩) hbl).trans r2; have s3 : w1.cell? ⟨b, (q + 1) * 2 + r * 2, none⟩ = _ := (hB1.cell (p := ⟨b, (q + 1) * 2 + r * 2, none⟩) hbl).trans r3; have s4 : w1.cell? ⟨b, (q + 1) * 2 + r * 2 + 1, none⟩ = _ := (hB1.cell (p := ⟨b, (q + 1) * 2 + r * 2 + 1, none⟩) hbl).trans r4))
              have hH1 : Holds w1 b (cellsD D ++ tl) 33 := hH.below (B := wr.heap.size) ((Below.refl _ wr).drew.trans hB1) hbl
              have hU1 : Upd b w w1 := hU.trans (Upd.ofBelow ((Below.refl _ wr).drew.trans hB1))
              clear s3 s4 r1 r2 r3 r4 hB1
              have k1 : (0 : Int) ≤ (k : Int) := by omega
              have k2 : (k : Int) < (n : Int) := by omega
              have t0 := hH1.at (k * 2) _ (cellsD_at (i := k) (List.getElem?_eq_getElem (by omega)) tl).1
              have t1 := hH1.at (k * 2 + 1) _ (cellsD_at (i := k) (List.getElem?_eq_getElem (by omega)) tl).2
              have f0 := hH1.frozen (k * 2)
              have f1 := hH1.frozen (k * 2 + 1)
              have hH2 := (hH1.set (k * 2) (.int .u64 (d2.1 : Int))).set (k * 2 + 1) (.int .u64 (d2.2 : Int))
              rw [cellsD_set (by omega)] at hH2
              have hU2 := (hU1.setCell (k * 2) (.int .u64 (d2.1 : Int))).setCell (k * 2 + 1) (.int .u64 (d2.2 : Int))
              have kw : IntKind.i64.wrap ((k : Int) + 1) = (k : Int) + 1 := by simp [IntKind.wrap, IntKind.bits, IntKind.signed]; omega
              go_wp2
              go_roundw
              case rel =>
                refine ⟨k + 1, r + 1, D.set k d2, by omega, by simp, by simp, by simp [hD], by omega, ?_, ?_, hH2, hU2⟩
                · rw [show q + 1 + (r + 1) + 1 = q + 1 + r + 1 + 1 by omega, hstep, ← htk, List.take_add_one, List.getElem?_set_self (by omega), List.take_set_of_le (Nat.le_refl _)]
                  rfl
                · rw [List.drop_set_of_lt (by omega), show q + 1 + (r + 1) = (q + 1 + r) + 1 by omega, ← List.drop_drop, hdr, List.drop_drop]
              case measure => simp; omega
          · have hre : q + 1 + (r + 1) = n := by omega
            rw [show q + 1 + r + 1 = n by omega, List.take_of_length_le (Nat.le_of_eq hn)] at htk
            have hkl : (compG none l).length = k := by rw [← htk]; simp; omega
            have g1 : ¬ (r : Int) + 1 < (n : Int) - ((q : Int) + 1) := by omega
            have k1 : (0 : Int) ≤ (k : Int) := by omega
            have k2 : (k : Int) ≤ (n : Int) := by omega
            have k3 : (k : Int) ≤ (cap : Int) := by omega
            have k4 : (n : Int) ≤ (cap : Int) := by omega
            have hcl := fun ty => run_clear_dots wr ty b (k * 2) (n - k) (cap - k) (by omega) (fun j hj => by
              rw [hH.cell]
              rw [List.getElem?_eq_getElem (by simp [cellsD_len]; omega)]; rfl) (fun j hj => hH.frozen _)
            go_wp2
            go_ret
            refine ⟨rfl, fun i e he => ?_, upd_setCells _ _ _ hU⟩
            have hi : i < k := by rw [← hkl]; exact (List.getElem?_eq_some_iff.1 he).1
            have hDi : D[i]? = some e := by rw [← htk, List.getElem?_take_of_lt hi] at he; exact he
            obtain ⟨q1, q2⟩ := hH.row _ _ hDi
            rw [World.cell?_setCells_out _ _ _ _ _ (fun _ _ => .inl (by show 0 + i * 2 < k * 2; omega)), World.cell?_setCells_out _ _ _ _ _ (fun _ _ => .inl (by show 0 + i * 2 + 1 < k * 2; omega))]
            exact ⟨q1, q2⟩
      · rw [if_neg heq, hcq] at hstep
        have ho1 : ∀ w, Calls Try.prog 42 #[dotV d, dotV p] w fun e w' => e = .returned (.bool false) ∧ Go.RowKit.Below w.heap.size w w' := fun w => by have := hone d p w; rwa [decide_eq_false heq] at this
        clear heq
        go_wp2_with fail
        go_region_held3 (fun w' => w'.cell? ⟨b, (q + 1) * 2, none⟩ = some (.int .u64 (d.1 : Int)) ∧ w'.cell? ⟨b, (q + 1) * 2 + 1, none⟩ = some (.int .u64 (d.2 : Int)) ∧ w'.cell? ⟨b, q * 2, none⟩ = some (.int .u64 (p.1 : Int)) ∧ w'.cell? ⟨b, q * 2 + 1, none⟩ = some (.int .u64 (p.2 : Int))) (go_keep) (first | (go_at_call 42; refine (ho1 _).mono ?_; rintro e w1 ⟨rfl, hB1⟩; have s1 : w1.cell? ⟨b, (q + 1) * 2, none⟩ = _ := (hB1.cell (p := ⟨b, (q + 1) * 2, none⟩) hbl).trans r1; have s2 : w1.cell? ⟨b, (q + 1) * 2 + 1, none⟩ = _ := (hB1.cell (p := ⟨b, (q + 1) * 2 + 1, none⟩) hbl).trans r2; have s3 : w1.cell? ⟨b, q * 2, none⟩ = _ := (hB1.cell (p := ⟨b, q * 2, none⟩) hbl).trans r3; have s4 : w1.cell? ⟨b, q * 2 + 1, none⟩ = _ := (hB1.cell (p := ⟨b, q * 2 + 1, none⟩) hbl).trans r4))
        have hB2 : Below w.heap.size w w1 := hB.trans ((Below.refl _ wr).drew.trans (hB1.mono hB.size))
        clear s1 s2 s3 s4 r1 r2 r3 r4 hB1 hbr
        go_wp2
        go_roundw
        case rel =>
          refine ⟨q + 1, by omega, by simp, ?_, hB2⟩
          rw [hstep, List.take_add_one (i := q + 1), hd]
          rfl
        case measure => simp; omega
    · obtain rfl : n = q + 1 := by omega
      go_wp2
      go_ret
      rw [List.take_of_length_le (by omega)] at hcq
      rw [hcq, hn]
      exact ⟨rfl, (hb.below hB hb.lt).row, Upd.ofBelow hB⟩
end Go.Proofs.Ytbmeflildmeecaa
