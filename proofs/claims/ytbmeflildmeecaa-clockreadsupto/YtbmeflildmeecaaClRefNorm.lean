/- ref06.Norm (19). -/
import Derived.Test.YtbmeflildmeecaaClRef
import Derived.Test.YtbmeflildmeecaaClRefPure
import Derived.Test.YtbmeflildmeecaaClApp
namespace Go.Proofs.Ytbmeflildmeecaa
open Go.RowKit Go.Shelf Go.Sort Go.Lib Pk

theorem own_clk {W : World} {m : Nat} {v : Value} {l : List Dt} (h : W.ownsRow m 33 2 v l.length (cellsD l)) : Clk (From m W) W v l := by
  rcases own_holds h rfl with ⟨rfl, e⟩ | ⟨g, cap, tl, rfl, hg, _, hH⟩
  · rw [e]; exact Clk.nil _ _ _ _
  · exact clk_row ⟨hg, hH.lt⟩ hH.row

theorem cells_one {l : List Dt} {u : Value} (h : u ∈ cellsD l) : u.oneCell' = true := by
  unfold cellsD at h
  obtain ⟨d, _, hd⟩ := List.mem_flatMap.1 h
  simp at hd
  rcases hd with rfl | rfl <;> rfl
theorem row_news {w : World} {b o : Nat} {l : List Dt} (h : Row w b o l) : ∀ (j : Nat) (u : Value), (cellsD l)[j]? = some u → w.cell? ((⟨b, o, none⟩ : Addr).add j) = some u := fun j u hu => by
  have hj : j < l.length * 2 := by have := (List.getElem?_eq_some_iff.1 hu).1; rwa [cellsD_len] at this
  have hd : l[j / 2]? = some l[j / 2] := List.getElem?_eq_getElem (by omega)
  obtain ⟨h1, h2⟩ := h _ _ hd
  obtain ⟨e1, e2⟩ := cellsD_at hd []
  rw [List.append_nil] at e1 e2
  have ea : (⟨b, o, none⟩ : Addr).add j = ⟨b, o + j, none⟩ := by simp [Addr.add]
  rw [ea]
  rcases Nat.mod_two_eq_zero_or_one j with g | g
  · have ej : j / 2 * 2 = j := by omega
    rw [ej] at h1 e1
    rw [h1, ← hu, e1]
  · have ej : j / 2 * 2 + 1 = j := by omega
    rw [ej] at e2
    rw [show o + j / 2 * 2 + 1 = o + j by omega] at h2
    rw [h2, ← hu, e2]
theorem Row.take {w : World} {b o k : Nat} {l : List Dt} (h : Row w b o l) : Row w b o (l.take k) := fun i d e => h i d (by
  have hlt : i < k := by have := (List.getElem?_eq_some_iff.1 e).1; simp at this; omega
  rwa [List.getElem?_take_of_lt hlt] at e)
theorem Row.drop {w : World} {b o : Nat} {l : List Dt} (k : Nat) (h : Row w b o l) : Row w b (o + k * 2) (l.drop k) := fun i d e => by
  rw [List.getElem?_drop] at e
  have := h (k + i) d e
  rw [show o + (k + i) * 2 = o + k * 2 + i * 2 by omega] at this
  exact this
theorem Row.grown {w w' : World} {b o : Nat} {l : List Dt} {row : Option Nat} (h : Row w b o l) (hg : w.grownBy w' row) (hb : b < w.heap.size) (hne : some b ≠ row) : Row w' b o l := fun i d e =>
  ⟨(World.cell?_of_block (a := ⟨b, o + i * 2, none⟩) (hg.block b hb hne)).trans (h i d e).1, (World.cell?_of_block (a := ⟨b, o + i * 2 + 1, none⟩) (hg.block b hb hne)).trans (h i d e).2⟩

set_option maxRecDepth 100000 in
set_option maxHeartbeats 8000000 in
theorem refNorm_any (v : Value) (c : List Dt) (hl : c.length ≤ 1099511627776) (w : World) (hv : Clk (Lt w.heap.size) w v c) :
    Calls Try.prog 19 #[v] w (Makes w (norm c)) := by
  obtain ⟨a, cap, rfl, hv'⟩ := id hv
  obtain ⟨i0, hi, hz0, hz1, hz2⟩ := info_parts info33
  have F33 : Hid (Try.prog.info? 33 = some i0) := hi
  clear hi
  obtain ⟨n, hn⟩ : ∃ n, c.length = n := ⟨_, rfl⟩
  obtain ⟨m, hm⟩ : ∃ m, w.heap.size = m := ⟨_, rfl⟩
  have h21 : ∀ W x, Below m w W → Calls Try.prog 21 #[.slice a n cap, .int .u64 ((x : Nat) : Int)] W fun e w' => e = .returned (.int .u64 (getN c x : Int)) ∧ w' = W := fun W x hB => by
    have := refGet_any (.slice a c.length cap) c x (by omega) W (hv.up (hm ▸ hB))
    rwa [hn] at this
  rw [hn]
  go_enter Try.func19, Try.ntmps19
  go_wp2
  go_loopw [3, 4] (fun o x wr => ∃ i : Nat, i ≤ n ∧ x = .int .i64 (i : Int) ∧ wr.ownsRow m 33 2 o (norm (full c i)).length (cellsD (norm (full c i))) ∧ Below m w wr) (fun _ x _ => n - (intOf x).toNat)
  case atStart => exact ⟨0, by omega, rfl, World.ownsRow_nil _ _ _ _, Below.refl _ _⟩
  case round =>
    obtain ⟨i, hi, rfl, hown, hB⟩ := hrel
    rcases Nat.lt_or_ge i n with hlt | hge
    · have hx : c[i]? = some c[i] := List.getElem?_eq_getElem (by omega)
      obtain ⟨x, hxe⟩ : ∃ x, c[i] = x := ⟨_, rfl⟩
      rw [hxe] at hx
      obtain ⟨b, o, rfl, hb, hr⟩ := hv' (by intro e; rw [e] at hx; simp at hx)
      obtain ⟨r1, _⟩ := (hr.keep (Kp.ofBelow (G := Lt m) hB (fun k hk => hk)) (hm ▸ hb)) i x hx
      have g1 : (0 : Int) ≤ (i : Int) := by omega
      have g2 : (i : Int) < (n : Int) := by omega
      have hst := full_step hx
      have h21' := h21 wr x.1 hB
      go_wp2_with (go_at_call 21; refine h21'.mono ?_; rintro e w' ⟨rfl, hw'⟩; have hw' := hw'.symm; subst hw')
      have hkO := own_clk hown
      have hcl : (norm (full c i)).length ≤ 1099511627776 := by
        have h1 := norm_len (full c i)
        have h2 : (full c i).length ≤ c.length := by unfold full; simp; omega
        omega
      have hnone := @full_none c i x.1
      have hthere := @full_there c i
      have hnew := @full_new c i
      rw [← hst] at hnone
      obtain ⟨aO, cO, rfl, hrO⟩ := id hkO
      obtain ⟨LO, hLO⟩ : ∃ LO, (norm (full c i)).length = LO := ⟨_, rfl⟩
      rw [hLO]
      have hownL := hown
      rw [hLO] at hownL
      obtain ⟨G, hG⟩ : ∃ G, getN c x.1 = G := ⟨_, rfl⟩
      rw [hG]
      go_loop [7] (fun c7 => ∃ k : Nat, k ≤ LO ∧ c7 = .int .i64 (k : Int) ∧ ∀ d ∈ (norm (full c i)).take k, d.1 < x.1) (fun c7 => LO - (intOf c7).toNat)
      case atStart => exact ⟨0, by omega, rfl, by simp⟩
      case round =>
        obtain ⟨k, hk, rfl, hbel⟩ := hrel
        have q1 : (0 : Int) ≤ (k : Int) := by omega
        rcases Nat.lt_or_ge k LO with klt | kge
        · have q2 : (k : Int) < (LO : Int) := by omega
          have hy : (norm (full c i))[k]? = some (norm (full c i))[k] := List.getElem?_eq_getElem (by omega)
          obtain ⟨y, hye⟩ : ∃ y, (norm (full c i))[k] = y := ⟨_, rfl⟩
          rw [hye] at hy
          obtain ⟨bO, oO, rfl, hbO, hrw⟩ := hrO (by intro e; rw [e] at hy; simp at hy)
          obtain ⟨y1, y2⟩ := hrw k y hy
          by_cases hlt2 : y.1 < x.1
          · have hlt2' : (y.1 : Int) < (x.1 : Int) := by omega
            go_wp2
            go_round
            case rel =>
              refine ⟨k + 1, by omega, by simp, fun d hd => ?_⟩
              rw [List.take_add_one, hy] at hd
              rcases List.mem_append.1 hd with q | q
              · exact hbel d q
              · simp at q; rw [q]; exact hlt2
            case measure => simp; omega
          · have hlt2' : ¬ (y.1 : Int) < (x.1 : Int) := by omega
            rcases Nat.eq_zero_or_pos G with g0 | g0
            · have heq := hnone (by omega)
              subst g0
              go_wp2
              go_roundw
              case rel => exact ⟨i + 1, by omega, by simp, by rw [heq, hLO]; exact hownL, hB⟩
              case measure => simp; omega
            · have g0' : ¬ (G : Int) = 0 := by omega
              have g0b : ((G : Int) == 0) = false := beq_eq_false_iff_ne.2 g0'
              by_cases hyx : y.1 = x.1
              · have heq : norm (full c (i + 1)) = norm (full c i) := by rw [hst, ← hyx]; exact hthere hy
                have hyb : ((y.1 : Int) == (x.1 : Int)) = true := by simp [hyx]
                clear hyx
                go_wp2
                go_roundw
                case rel => exact ⟨i + 1, by omega, by simp, by rw [heq, hLO]; exact hownL, hB⟩
                case measure => simp; omega
              · have hyb : ((y.1 : Int) == (x.1 : Int)) = false := beq_eq_false_iff_ne.2 (fun e => hyx (by omega))
                have hxy : ∀ d ∈ (norm (full c i)).drop k, x.1 < d.1 := fun d hd => by
                  have hp := (norm_right (full c i)).1
                  rw [List.drop_eq_getElem_cons (by omega)] at hd
                  rw [← List.take_append_drop k (norm (full c i)), List.drop_eq_getElem_cons (by omega), List.pairwise_append] at hp
                  rcases List.mem_cons.1 hd with q | q
                  · rw [q, hye]; omega
                  · have := (List.pairwise_cons.1 hp.2.1).1 d q
                    rw [hye] at this
                    omega
                have hfin := hnew (k := k) (a := x.1) (by omega) hbel hxy
                rw [← hst, hG] at hfin
                have hTk : ((norm (full c i)).take k).length = k := by simp; omega
                have hDk : ((norm (full c i)).drop k).length = LO - k := by simp; omega
                have hbW : bO < wr.heap.size := hbO.2
                have hle : m ≤ wr.heap.size := by have := hB.size; omega
                have q3 : (k : Int) ≤ (LO : Int) := by omega
                have HN : Hid (∀ W : World, ∀ (j : Nat) (u : Value), [Value.int .u64 (x.1 : Int), .int .u64 (G : Int)][j]? = some u → (W.alloc (.cells #[.int .u64 (x.1 : Int), .int .u64 (G : Int)] 33)).cell? ((⟨W.heap.size, 0, none⟩ : Addr).add j) = some u) := fun W => World.news_of_block (heap_alloc_new W _)
                have hc1 : (LO : Int) ≤ (cO : Int) := by
                  rcases hownL.2 with ⟨e, _⟩ | ⟨_, _, _, e, _, _, hh, _⟩
                  · simp at e
                  · simp only [Value.slice.injEq] at e; omega
                clear hthere hnone hkO hrO h21 h21' hv hv' r1 hr hown hownL y2 hnew hst hy hye hbel hxy
                generalize hOe : norm (full c i) = O at *
                go_wp2_with (first
                  | (at_builtin; refine wpList_append_src rfl (.tmp 66) (.tmp 69) 28 rfl m 33 i0 (.agg #[.int .u64 0, .int .u64 0]) 2 16 Try.underlying28 F33.out hz0 hz1 hz2 rfl (by omega) _ _ _ own2 rfl (cellsD (O.drop k)) _ _ _ rfl (by rw [cellsD_len, hDk]) (fun _ => ⟨_, rfl, row_news (rw2.drop k)⟩) (by intro u hu; exact cells_one hu) (by unfold maxLen; omega) (by omega) le2 ?_; intro v3 w3 own3 gr3 at3; have B3 := B2.grown gr3 le2 (fun j e => own_base own2 j e); clear B2)
                  | (at_builtin; refine wpList_append_src rfl (.tmp 60) (.tmp 64) 28 rfl m 33 i0 (.agg #[.int .u64 0, .int .u64 0]) 2 16 Try.underlying28 F33.out hz0 hz1 hz2 rfl (by omega) _ _ _ (own1.alloc _) rfl [.int .u64 (x.1 : Int), .int .u64 (G : Int)] _ _ _ rfl rfl (fun _ => ⟨_, rfl, HN.out w1⟩) (by intro u hu; simp at hu; rcases hu with rfl | rfl <;> rfl) (by unfold maxLen; omega) (by omega) (by rw [World.size_alloc]; omega) ?_; intro v2 w2 own2 gr2 at2; have le2 : m ≤ w2.heap.size := Nat.le_trans le1 (Nat.le_trans (below_alloc w1 (.cells #[.int .u64 (x.1 : Int), .int .u64 (G : Int)] 33)).size gr2.size); have B2 := (B1.alloc le1 (.cells #[.int .u64 (x.1 : Int), .int .u64 (G : Int)] 33)).grown gr2 (by rw [World.size_alloc]; omega) (fun j e => own_base own1 j e); have rw2 := (rw1.keep (Kp.ofBelow (G := Lt w1.heap.size) (below_alloc w1 (.cells #[.int .u64 (x.1 : Int), .int .u64 (G : Int)] 33)) (fun _ h => h)) (Nat.lt_of_lt_of_le hbW gr1.size)).grown gr2 (by rw [World.size_alloc]; have := gr1.size; omega) (by rcases at1 with e | e <;> rw [e] <;> simp [Value.ownBlock] <;> omega); clear rw1; clear B1)
                  | (at_builtin; refine wpList_append_src rfl (.tmp 55) (.tmp 58) 28 rfl m 33 i0 (.agg #[.int .u64 0, .int .u64 0]) 2 16 Try.underlying28 F33.out hz0 hz1 hz2 rfl (by omega) _ _ _ (World.ownsRow_nil _ _ _ _) rfl (cellsD (O.take k)) _ _ _ rfl (by rw [cellsD_len, hTk]) (fun _ => ⟨_, rfl, row_news hrw.take⟩) (by intro u hu; exact cells_one hu) (by unfold maxLen; omega) (by omega) (by omega) ?_; intro v1 w1 own1 gr1 at1; have le1 : m ≤ w1.heap.size := Nat.le_trans hle gr1.size; have B1 := hB.grown gr1 hle (fun j e => by cases e); have rw1 := hrw.grown gr1 hbW (by simp [Value.ownBlock]); clear hB hrw))
                go_roundw
                case rel =>
                  refine ⟨i + 1, by omega, by simp, ?_, B3⟩
                  have e1 : cellsD (O.take k ++ ((x.1, G) :: O.drop k)) = [] ++ cellsD (O.take k) ++ [.int .u64 (x.1 : Int), .int .u64 (G : Int)] ++ cellsD (O.drop k) := by rw [cellsD_append, cellsD_cons]; simp
                  have e2 : (O.take k ++ ((x.1, G) :: O.drop k)).length = 0 + k + 1 + (LO - k) := by rw [List.length_append, List.length_cons, hTk, hDk]; omega
                  rw [hfin, e1, e2]
                  exact own3
                case measure => simp; omega
        · obtain rfl : k = LO := by omega
          rcases Nat.eq_zero_or_pos G with g0 | g0
          · have heq := hnone (by omega)
            subst g0
            go_wp2
            go_roundw
            case rel => exact ⟨i + 1, by omega, by simp, by rw [heq, hLO]; exact hownL, hB⟩
            case measure => simp; omega
          · have g0' : ¬ (G : Int) = 0 := by omega
            have g0b : ((G : Int) == 0) = false := beq_eq_false_iff_ne.2 g0'
            have hfin := hnew (k := k) (a := x.1) (by omega) hbel (fun d hd => by rw [List.drop_of_length_le (by omega)] at hd; cases hd)
            rw [← hst, hG, List.take_of_length_le (by omega), List.drop_of_length_le (by omega)] at hfin
            have hle : m ≤ wr.heap.size := by have := hB.size; omega
            have HN : Hid (∀ W : World, ∀ (j : Nat) (u : Value), [Value.int .u64 (x.1 : Int), .int .u64 (G : Int)][j]? = some u → (W.alloc (.cells #[.int .u64 (x.1 : Int), .int .u64 (G : Int)] 33)).cell? ((⟨W.heap.size, 0, none⟩ : Addr).add j) = some u) := fun W => World.news_of_block (heap_alloc_new W _)
            rcases id hownL.2 with ⟨e, h0⟩ | ⟨bO, cO', cur, e, hmb, hbk, hc0, _⟩
            · simp only [Value.slice.injEq] at e
              obtain ⟨rfl, _, rfl⟩ := e
              subst h0
              have hO0 : norm (full c i) = [] := List.eq_nil_of_length_eq_zero hLO
              clear hthere hnone hkO hrO h21 h21' hv hv' r1 hr hown hownL hnew hst hbel
              generalize hOe : norm (full c i) = O at *
              go_wp2_with (first
                | (at_builtin; refine wpList_append_src rfl (.tmp 66) (.tmp 69) 28 rfl m 33 i0 (.agg #[.int .u64 0, .int .u64 0]) 2 16 Try.underlying28 F33.out hz0 hz1 hz2 rfl (by omega) _ _ _ own2 rfl [] _ _ _ rfl rfl (fun h => absurd h (by omega)) (by intro u hu; cases hu) (by unfold maxLen; omega) (by omega) le2 ?_; intro v3 w3 own3 gr3 at3; have B3 := B2.grown gr3 le2 (fun j e => own_base own2 j e); clear B2)
                | (at_builtin; refine wpList_append_src rfl (.tmp 60) (.tmp 64) 28 rfl m 33 i0 (.agg #[.int .u64 0, .int .u64 0]) 2 16 Try.underlying28 F33.out hz0 hz1 hz2 rfl (by omega) _ _ _ (own1.alloc _) rfl [.int .u64 (x.1 : Int), .int .u64 (G : Int)] _ _ _ rfl rfl (fun _ => ⟨_, rfl, HN.out w1⟩) (by intro u hu; simp at hu; rcases hu with rfl | rfl <;> rfl) (by unfold maxLen; omega) (by omega) (by rw [World.size_alloc]; omega) ?_; intro v2 w2 own2 gr2 at2; have le2 : m ≤ w2.heap.size := Nat.le_trans le1 (Nat.le_trans (below_alloc w1 (.cells #[.int .u64 (x.1 : Int), .int .u64 (G : Int)] 33)).size gr2.size); have B2 := (B1.alloc le1 (.cells #[.int .u64 (x.1 : Int), .int .u64 (G : Int)] 33)).grown gr2 (by rw [World.size_alloc]; omega) (fun j e => own_base own1 j e); clear B1)
                | (at_builtin; refine wpList_append_src rfl (.tmp 55) (.tmp 58) 28 rfl m 33 i0 (.agg #[.int .u64 0, .int .u64 0]) 2 16 Try.underlying28 F33.out hz0 hz1 hz2 rfl (by omega) _ _ _ (World.ownsRow_nil _ _ _ _) rfl [] _ _ _ rfl rfl (fun h => absurd h (by omega)) (by intro u hu; cases hu) (by unfold maxLen; omega) (by omega) (by omega) ?_; intro v1 w1 own1 gr1 at1; have le1 : m ≤ w1.heap.size := Nat.le_trans hle gr1.size; have B1 := hB.grown gr1 hle (fun j e => by cases e); clear hB))
              go_roundw
              case rel =>
                refine ⟨i + 1, by omega, by simp, ?_, B3⟩
                have e1 : cellsD (O ++ [(x.1, G)]) = [] ++ [] ++ [.int .u64 (x.1 : Int), .int .u64 (G : Int)] ++ [] := by rw [hO0]; simp [cellsD_cons]
                have e2 : (O ++ [(x.1, G)]).length = 0 + 0 + 1 + 0 := by rw [hO0]; simp
                rw [hfin, e1, e2]
                exact own3
              case measure => simp; omega
            · simp only [Value.slice.injEq, true_and] at e
              obtain ⟨rfl, rfl⟩ := e
              have hrw : Row wr bO 0 (norm (full c i)) := by
                rcases own_holds hown rfl with ⟨q, _⟩ | ⟨g, cap', tl, q, _, _, hH⟩
                · simp at q
                · simp only [Value.slice.injEq, Option.some.injEq, Addr.mk.injEq] at q
                  obtain ⟨⟨rfl, _⟩, _⟩ := q
                  exact hH.row
              have hbW : bO < wr.heap.size := (Array.getElem?_eq_some_iff.1 hbk).1
              have hTk : ((norm (full c i)).take k).length = k := by simp; omega
              have htO : (norm (full c i)).take k = norm (full c i) := List.take_of_length_le (by omega)
              clear hthere hnone hkO hrO h21 h21' hv hv' r1 hr hown hownL hnew hst hbel hbk
              generalize hOe : norm (full c i) = O at *
              rcases Nat.lt_or_ge k cO with hkc | hkc
              · have hc1 : (k : Int) < (cO : Int) := by omega
                have hc2 : (k : Int) ≤ (cO : Int) := by omega
                go_wp2_with (first
                  | (at_builtin; refine wpList_append_src rfl (.tmp 66) (.tmp 69) 28 rfl m 33 i0 (.agg #[.int .u64 0, .int .u64 0]) 2 16 Try.underlying28 F33.out hz0 hz1 hz2 rfl (by omega) _ _ _ own2 rfl [] _ _ _ rfl rfl (fun h => absurd h (by omega)) (by intro u hu; cases hu) (by unfold maxLen; omega) (by omega) le2 ?_; intro v3 w3 own3 gr3 at3; have B3 := B2.grown gr3 le2 (fun j e => own_base own2 j e); clear B2)
                  | (at_builtin; refine wpList_append_src rfl (.tmp 60) (.tmp 64) 28 rfl m 33 i0 (.agg #[.int .u64 0, .int .u64 0]) 2 16 Try.underlying28 F33.out hz0 hz1 hz2 rfl (by omega) _ _ _ (own1.alloc _) rfl [.int .u64 (x.1 : Int), .int .u64 (G : Int)] _ _ _ rfl rfl (fun _ => ⟨_, rfl, HN.out w1⟩) (by intro u hu; simp at hu; rcases hu with rfl | rfl <;> rfl) (by unfold maxLen; omega) (by omega) (by rw [World.size_alloc]; omega) ?_; intro v2 w2 own2 gr2 at2; have le2 : m ≤ w2.heap.size := Nat.le_trans le1 (Nat.le_trans (below_alloc w1 (.cells #[.int .u64 (x.1 : Int), .int .u64 (G : Int)] 33)).size gr2.size); have B2 := (B1.alloc le1 (.cells #[.int .u64 (x.1 : Int), .int .u64 (G : Int)] 33)).grown gr2 (by rw [World.size_alloc]; omega) (fun j e => own_base own1 j e); clear B1)
                  | (at_builtin; refine wpList_append_src rfl (.tmp 55) (.tmp 58) 28 rfl m 33 i0 (.agg #[.int .u64 0, .int .u64 0]) 2 16 Try.underlying28 F33.out hz0 hz1 hz2 rfl (by omega) _ _ _ (World.ownsRow_nil _ _ _ _) rfl (cellsD (O.take k)) _ _ _ rfl (by rw [cellsD_len, hTk]) (fun _ => ⟨_, rfl, row_news hrw.take⟩) (by intro u hu; exact cells_one hu) (by unfold maxLen; omega) (by omega) (by omega) ?_; intro v1 w1 own1 gr1 at1; have le1 : m ≤ w1.heap.size := Nat.le_trans hle gr1.size; have B1 := hB.grown gr1 hle (fun j e => by cases e); have rw1 := hrw.grown gr1 hbW (by simp [Value.ownBlock]); clear hB hrw))
                go_roundw
                case rel =>
                  refine ⟨i + 1, by omega, by simp, ?_, B3⟩
                  have e1 : cellsD (O ++ [(x.1, G)]) = [] ++ cellsD (O.take k) ++ [.int .u64 (x.1 : Int), .int .u64 (G : Int)] ++ [] := by rw [cellsD_append, htO]; simp [cellsD_cons]
                  have e2 : (O ++ [(x.1, G)]).length = 0 + k + 1 + 0 := by simp [hLO]
                  rw [hfin, e1, e2]
                  exact own3
                case measure => simp; omega
              · obtain rfl : k = cO := by omega
                go_wp2_with (first
                  | (at_builtin; refine wpList_append_src rfl (.tmp 66) (.tmp 69) 28 rfl m 33 i0 (.agg #[.int .u64 0, .int .u64 0]) 2 16 Try.underlying28 F33.out hz0 hz1 hz2 rfl (by omega) _ _ _ own2 rfl [] _ _ _ rfl rfl (fun h => absurd h (by omega)) (by intro u hu; cases hu) (by unfold maxLen; omega) (by omega) le2 ?_; intro v3 w3 own3 gr3 at3; have B3 := B2.grown gr3 le2 (fun j e => own_base own2 j e); clear B2)
                  | (at_builtin; refine wpList_append_src rfl (.tmp 60) (.tmp 64) 28 rfl m 33 i0 (.agg #[.int .u64 0, .int .u64 0]) 2 16 Try.underlying28 F33.out hz0 hz1 hz2 rfl (by omega) _ _ _ (own1.alloc _) rfl [.int .u64 (x.1 : Int), .int .u64 (G : Int)] _ _ _ rfl rfl (fun _ => ⟨_, rfl, HN.out w1⟩) (by intro u hu; simp at hu; rcases hu with rfl | rfl <;> rfl) (by unfold maxLen; omega) (by omega) (by rw [World.size_alloc]; omega) ?_; intro v2 w2 own2 gr2 at2; have le2 : m ≤ w2.heap.size := Nat.le_trans le1 (Nat.le_trans (below_alloc w1 (.cells #[.int .u64 (x.1 : Int), .int .u64 (G : Int)] 33)).size gr2.size); have B2 := (B1.alloc le1 (.cells #[.int .u64 (x.1 : Int), .int .u64 (G : Int)] 33)).grown gr2 (by rw [World.size_alloc]; omega) (fun j e => own_base own1 j e); clear B1)
                  | (at_builtin; refine wpList_append_src rfl (.tmp 55) (.tmp 58) 28 rfl m 33 i0 (.agg #[.int .u64 0, .int .u64 0]) 2 16 Try.underlying28 F33.out hz0 hz1 hz2 rfl (by omega) _ _ _ (World.ownsRow_nil _ _ _ _) rfl (cellsD (O.take k)) _ _ _ rfl (by rw [cellsD_len, hTk]) (fun _ => ⟨_, rfl, row_news hrw.take⟩) (by intro u hu; exact cells_one hu) (by unfold maxLen; omega) (by omega) (by omega) ?_; intro v1 w1 own1 gr1 at1; have le1 : m ≤ w1.heap.size := Nat.le_trans hle gr1.size; have B1 := hB.grown gr1 hle (fun j e => by cases e); have rw1 := hrw.grown gr1 hbW (by simp [Value.ownBlock]); clear hB hrw))
                go_roundw
                case rel =>
                  refine ⟨i + 1, by omega, by simp, ?_, B3⟩
                  have e1 : cellsD (O ++ [(x.1, G)]) = [] ++ cellsD (O.take k) ++ [.int .u64 (x.1 : Int), .int .u64 (G : Int)] ++ [] := by rw [cellsD_append, htO]; simp [cellsD_cons]
                  have e2 : (O ++ [(x.1, G)]).length = 0 + k + 1 + 0 := by simp [hLO]
                  rw [hfin, e1, e2]
                  exact own3
                case measure => simp; omega
    · obtain rfl : i = n := by omega
      have hfa : norm (full c i) = norm c := by rw [← hn]; exact full_all c
      rw [hfa] at hown
      have hk := own_clk hown
      obtain ⟨a4, c4, rfl, _⟩ := id hk
      have hR : Makes w (norm c) (.returned (.slice a4 (norm c).length c4)) wr := ⟨a4, c4, rfl, hm ▸ hk, hm ▸ hB⟩
      clear hown hk hv hv' h21
      generalize norm c = NC at *
      go_wp2
      go_ret
      exact hR
end Go.Proofs.Ytbmeflildmeecaa
