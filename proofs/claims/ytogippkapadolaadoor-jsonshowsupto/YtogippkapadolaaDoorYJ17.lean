/- JsDeep, JsOpen. -/
import Derived.Test.YtogippkapadolaaDoorRows
import Derived.Lib.LaidTab
import Derived.ProofKit
import Derived.LaidMore
import Derived.OpenShut
import Derived.Stop.Joined
import Derived.Stop.LaidErr
import Derived.Deep.Grids
import Derived.Test.YtogippkapadolaaDoorYJ16
/- JsonDeep, walked (by gen_jsdeep.py). -/
namespace Go.Proofs.YtogippkapadolaaDoor
open Go.RowKit

theorem und22 : Tryd.prog.underlying 22 = some (.slice 4) := by kernel_rfl
theorem size4 : ∀ w, (Go.sizeOf 4).run Tryd.prog w = .ok 1 w := run_sizeOf (by kernel_rfl)
theorem strL_app (a b : List UInt8) : strL a ++ strL b = strL (a ++ b) := by
  apply ByteArray.ext
  show (strL a ++ strL b).data = _
  rw [ByteArray.data_append]
  simp [strL]
/-- The flags of the levels. -/
def flagsOf (os : List Bool) (k : Nat) : List Bool := (List.range k).map fun i => os.getD i false
theorem flags_len (os : List Bool) (k : Nat) : (flagsOf os k).length = k := by simp [flagsOf]
theorem flags_at {os : List Bool} {k i : Nat} (h : i < k) : (flagsOf os k)[i]? = some (os.getD i false) := by
  simp [flagsOf, h]
theorem take_next {l : List Bool} {i : Nat} {x : Bool} (h : l[i]? = some x) : l.take (i + 1) = l.take i ++ [x] := by
  rw [List.take_add_one, h]; rfl
def opens (l : List Bool) : List UInt8 := l.flatMap openT
def closes (l : List Bool) : List UInt8 := l.reverse.flatMap closeT
theorem opens_next (l : List Bool) (x : Bool) : opens (l ++ [x]) = opens l ++ openT x := by simp [opens]
theorem closes_next (l : List Bool) (x : Bool) : closes (l ++ [x]) = closeT x ++ closes l := by simp [closes]
theorem open_le : ∀ (l : List Bool), (opens l).length ≤ 5 * l.length
  | [] => by simp [opens]
  | x :: r => by
    have := open_le r
    unfold opens at this ⊢
    rw [List.flatMap_cons, List.length_append, List.length_cons]
    have : (openT x).length ≤ 5 := by cases x <;> decide
    omega
theorem close_le : ∀ (l : List Bool), (l.flatMap closeT).length ≤ l.length
  | [] => by simp
  | x :: r => by
    have := close_le r
    rw [List.flatMap_cons, List.length_append, List.length_cons]
    have : (closeT x).length ≤ 1 := by cases x <;> decide
    omega
def LoopD (k : Nat) (fs : List Bool) (i : Nat) (S E : ByteArray) (at_ : Int) : Prop := i ≤ k ∧ S = strL (opens (fs.take i)) ∧ E = strL (closes (fs.take i)) ∧ at_ = (if 16 < i then (((opens (fs.take 16)).length : Nat) : Int) else 0)
theorem loopD_next {k i : Nat} {fs : List Bool} {S E : ByteArray} {at_ : Int} {o : Bool} (h : LoopD k fs i S E at_) (hi : i < k) (ho : fs[i]? = some o) :
    LoopD k fs (i + 1) (S ++ strL (openT o)) (strL (closeT o) ++ E) (if i = 16 then ((S.size : Nat) : Int) else at_) := by
  obtain ⟨_, rfl, rfl, rfl⟩ := h
  refine ⟨hi, ?_, ?_, ?_⟩
  · rw [take_next ho, opens_next, strL_app]
  · rw [take_next ho, closes_next, strL_app]
  · by_cases h16 : i = 16
    · subst h16
      rw [if_pos rfl, if_pos (by omega)]
      rfl
    · rw [if_neg h16]
      by_cases h : 16 < i
      · rw [if_pos h, if_pos (by omega)]
      · rw [if_neg h, if_neg (by omega)]
theorem loopD_s {k i : Nat} {fs : List Bool} {S E : ByteArray} {at_ : Int} (h : LoopD k fs i S E at_) (hk : k ≤ 40) : S.size ≤ 200 := by
  obtain ⟨h1, rfl, _, _⟩ := h
  show (opens (fs.take i)).length ≤ 200
  have := open_le (fs.take i)
  have : (fs.take i).length ≤ i := by simp; omega
  omega
theorem loopD_e {k i : Nat} {fs : List Bool} {S E : ByteArray} {at_ : Int} (h : LoopD k fs i S E at_) (hk : k ≤ 40) : E.size ≤ 40 := by
  obtain ⟨h1, _, rfl, _⟩ := h
  show (closes (fs.take i)).length ≤ 40
  have := close_le (fs.take i).reverse
  have : (fs.take i).reverse.length ≤ i := by simp; omega
  unfold closes
  omega
theorem loopD_text {k : Nat} {fs : List Bool} {S E : ByteArray} {at_ : Int} (h : LoopD k fs k S E at_) (hk : fs.length = k) : (S ++ ⟨#[55]⟩ ++ E).data.toList = nestT fs := by
  obtain ⟨_, rfl, rfl, _⟩ := h
  rw [List.take_of_length_le (by omega), nest_text, show (⟨#[55]⟩ : ByteArray) = strL [55] from rfl, strL_app, strL_app]
  show opens fs ++ [55] ++ closes fs = _
  unfold opens closes
  simp
set_option maxHeartbeats 8000000 in
set_option maxRecDepth 100000 in
theorem deep_law {w : World} (hB : Base w) {S0 : Nat → Prop} {n : Int} {os : List Bool} {oa : Option Addr} {oc : Nat} (ho : Lies w S0 oa (os.map Value.bool)) (hol : os.length ≤ maxLen) :
    Calls Tryd.prog 3 #[.int .i64 n, .slice oa os.length oc] w fun e w' => e = .returned (.bool true) ∧ Gr w w' := by
  have haw := awake_any hB
  have hm1 : -41 < n.tmod 41 := by have := Int.tmod_lt_of_pos n (show (0 : Int) < 41 by decide); have := Int.neg_tmod n 41; have := Int.tmod_lt_of_pos (-n) (show (0 : Int) < 41 by decide); omega
  have hm2 : n.tmod 41 < 41 := Int.tmod_lt_of_pos n (by decide)
  obtain ⟨k, hkneg, hkpos, hk40⟩ : ∃ k : Nat, (n.tmod 41 < 0 → -n.tmod 41 = (k : Int)) ∧ (0 ≤ n.tmod 41 → n.tmod 41 = (k : Int)) ∧ k ≤ 40 := ⟨(n.tmod 41).natAbs, (fun _ => by omega), (fun _ => by omega), by omega⟩
  obtain ⟨on, hon⟩ : ∃ on, os.length = on := ⟨_, rfl⟩
  have hon64 : (on : Int) ≤ 9223372036854775807 := by unfold maxLen at hol; omega
  rw [hon]
  go_enter Tryd.func3, Tryd.ntmps3
  go_wp2_with (go_at_call 8; refine haw.mono ?_; rintro e w1 ⟨rfl, hg1⟩; clear haw)
  · first
      | rw [hkneg (by omega)]
      | rw [hkpos (by omega)]
      | skip
    clear hm1 hm2 hkneg hkpos
    go_loopw [7, 8, 9, 10] (fun v7 v8 v9 v10 wr => ∃ (i : Nat) (S E : ByteArray) (at_ : Int), v7 = .string S ∧ v8 = .string E ∧ v9 = .int .i64 at_ ∧ v10 = .int .i64 (i : Int) ∧ LoopD k (flagsOf os k) i S E at_ ∧ Gr w wr) (fun _ _ _ c _ => k - (intOf c).toNat)
    case atStart => exact ⟨0, ⟨#[]⟩, ⟨#[]⟩, 0, rfl, rfl, rfl, rfl, ⟨Nat.zero_le _, rfl, rfl, rfl⟩, hg1⟩
    case round =>
      obtain ⟨i, S, E, at_, rfl, rfl, rfl, rfl, hL, hg⟩ := hrel
      rcases Nat.lt_or_ge i k with hlt | hge
      · have g1 : (i : Int) < (k : Int) := by omega
        have hwr : IntKind.i64.wrap ((i : Int) + 1) = ((i + 1 : Nat) : Int) := by rw [wrap_in (by omega) (by omega)]; omega
        have hnx := loopD_next hL hlt (flags_at (os := os) hlt)
        have hSz : S.size ≤ 200 := loopD_s hL hk40
        have hEz : E.size ≤ 40 := loopD_e hL hk40
        clear hL
        rcases Nat.lt_or_ge i on with hio | hio
        · obtain ⟨g, o, rfl, _, hgl, hrg⟩ := ho.resolve_left (by intro e; have e2 : os = [] := (by simpa using e); rw [e2] at hon; simp at hon; omega)
          have hos : os[i]? = some (os[i]'(by omega)) := List.getElem?_eq_getElem (by omega)
          have hcell : wr.cell? ⟨g, o + i, none⟩ = some (.bool (os[i]'(by omega))) := cell_below hg hgl (hrg i _ (by simp [hos]))
          have hix : ∀ w, (Instr.indexAt 22 (.slice (some ⟨g, o, none⟩) on oc) (.int .i64 (i : Int))).run Tryd.prog w = .ok (.pointer (some ⟨g, o + i, none⟩)) w := ix_slice und22 size4 hio (by omega)
          have gio : (i : Int) < (on : Int) := by omega
          rw [show os.getD i false = os[i]'(by omega) by simp [List.getD, hos]] at hnx
          clear hos
          generalize os[i]'(by omega) = ob at *
          cases ob with
          | true =>
            by_cases h16 : i = 16
            · have g16 : ((i : Int) == 16) = true := by simp; omega
              rw [if_pos h16] at hnx
              clear h16 hlt hol hon hk40
              go_wp2
              exact ⟨⟨i + 1, _, _, _, rfl, rfl, rfl, rfl, hnx, hg⟩, by simp; omega⟩
            · have g16 : ((i : Int) == 16) = false := by simp; omega
              rw [if_neg h16] at hnx
              clear h16 hlt hol hon hk40
              go_wp2
              exact ⟨⟨i + 1, _, _, _, rfl, rfl, rfl, rfl, hnx, hg⟩, by simp; omega⟩
          | false =>
            by_cases h16 : i = 16
            · have g16 : ((i : Int) == 16) = true := by simp; omega
              rw [if_pos h16] at hnx
              clear h16 hlt hol hon hk40
              go_wp2
              exact ⟨⟨i + 1, _, _, _, rfl, rfl, rfl, rfl, hnx, hg⟩, by simp; omega⟩
            · have g16 : ((i : Int) == 16) = false := by simp; omega
              rw [if_neg h16] at hnx
              clear h16 hlt hol hon hk40
              go_wp2
              exact ⟨⟨i + 1, _, _, _, rfl, rfl, rfl, rfl, hnx, hg⟩, by simp; omega⟩
        · have gio : ¬ (i : Int) < (on : Int) := by omega
          rw [show os.getD i false = false by simp [List.getD, List.getElem?_eq_none (show os.length ≤ i by omega)]] at hnx
          by_cases h16 : i = 16
          · have g16 : ((i : Int) == 16) = true := by simp; omega
            rw [if_pos h16] at hnx
            clear h16 hlt hol hon hk40
            go_wp2
            exact ⟨⟨i + 1, _, _, _, rfl, rfl, rfl, rfl, hnx, hg⟩, by simp; omega⟩
          · have g16 : ((i : Int) == 16) = false := by simp; omega
            rw [if_neg h16] at hnx
            clear h16 hlt hol hon hk40
            go_wp2
            exact ⟨⟨i + 1, _, _, _, rfl, rfl, rfl, rfl, hnx, hg⟩, by simp; omega⟩
      · have hin : i = k := by have := hL.1; omega
        subst hin
        have htx := loopD_text hL (flags_len os i)
        have hat : at_ = (if 16 < i then (((opens ((flagsOf os i).take 16)).length : Nat) : Int) else 0) := hL.2.2.2
        have hBr := hB.gr hg
        have hfl := flags_len os i
        have hSz : S.size ≤ 200 := loopD_s hL hk40
        have hEz : E.size ≤ 40 := loopD_e hL hk40
        have hsz : (S ++ ⟨#[55]⟩ ++ E).size ≤ 1099511627775 := by simp only [ByteArray.size_append]; show S.size + 1 + E.size ≤ _; omega
        clear hL
        generalize flagsOf os i = fs at *
        have g1 : ¬ (i : Int) < (i : Int) := by omega
        by_cases h16 : 16 < i
        · rw [if_pos h16] at hat
          have hp := parse_bad hBr hsz ((congrArg wholeP htx).trans (whole_deep (fs := fs) (by omega)))
          rw [show ((((fs.take 16).flatMap openT).length : Nat) : Int) = at_ from hat.symm] at hp
          have g16 : (i : Int) > 16 := by omega
          clear hat h16 hk40 hol hon hfl ho
          go_wp2_with (first
            | (go_at_call 9; refine hp.mono ?_; rintro e w2 ⟨rfl, hg2⟩; clear hp)
            | (refine wpList_store_all rfl 27 (.tmp 11) (.tmp 55) rfl w2.heap.size rfl zeroJ rfl 27 zeroJ (holds_new w2 zeroJ 27) (by kernel_rfl) rfl one_zero ?_; intro w3 hT3; have hg3 := hg2.trans (gr_new hT3); have q3 : w3.cell? ⟨w2.heap.size, 0, none⟩ = some (.int .i64 0) := Holds.at hT3.holds 0 _ rfl))
          go_ret
          exact ⟨rfl, hg.trans hg3⟩
        · obtain ⟨pp, hpp⟩ := whole_nest (fs := fs) (by omega)
          have hp := parse_ok hBr hsz ((congrArg wholeP htx).trans hpp)
          have g16 : ¬ (i : Int) > 16 := by omega
          clear hat h16 hol hon ho hpp
          go_wp2_with (first
            | (go_at_call 9; refine hp.mono ?_; rintro e w2 ⟨c2, rfl, c26, c21, hJ2, hg2⟩; clear hp)
            | (refine wpList_store_all rfl 27 (.tmp 11) (.tmp 55) rfl w2.heap.size rfl c2 rfl 27 zeroJ (holds_new w2 zeroJ 27) (by rw [c26]; kernel_rfl) c26.symm c21 ?_; intro w3 hT3; have hg3 := hg2.trans (gr_new hT3); have v3 := Var.new hJ2 c26 hT3))
          go_loopw [14] (fun c wx => ∃ (m : Nat) (cs : List Value), c = .int .i64 (m : Int) ∧ m ≤ i ∧ Var wx w2.heap.size cs (nestJ (fs.drop m)) ∧ Gr w wx) (fun c _ => i - (intOf c).toNat)
          case atStart => exact ⟨0, c2, rfl, Nat.zero_le _, by rw [List.drop_zero]; exact v3, hg.trans hg3⟩
          case round =>
            obtain ⟨m, cs, rfl, hm, hv, hgx⟩ := hrel
            rcases Nat.lt_or_ge m i with hlt2 | hge2
            · have hd : fs.drop m = fs[m]'(by omega) :: fs.drop (m + 1) := List.drop_eq_getElem_cons (by omega)
              rw [hd] at hv
              generalize fs[m]'(by omega) = ob at *
              rw [nestJ] at hv
              obtain ⟨la, na, lc, nc, es, rfl, hes, h6, hl, hlies, _⟩ := jat_at hv.says
              obtain ⟨d, rfl⟩ : ∃ d, es = [d] := by
                match es, hes with
                | [d], _ => exact ⟨d, rfl⟩
              obtain ⟨g, off, rfl, hgS, hrng⟩ := hlies.elemG (Gr.refl _) h6 (i := 0) (c := d) rfl
              have d6 := h6 d (by simp)
              have hJd := hl 0 _ d rfl rfl
              obtain ⟨dd, e, _, d1⟩ := jat_cells hJd
              have : d = dd := by simpa using e
              subst this
              obtain ⟨_, _, _, _, y4, _⟩ := hv.cells
              have y4 : wr.cell? ⟨w2.heap.size, 4, none⟩ = some (.slice (some ⟨g, off, none⟩) 1 lc) := y4
              have hixe : ∀ w, (Instr.indexAt 24 (.slice (some ⟨g, off, none⟩) 1 lc) (.int .i64 0)).run Tryd.prog w = .ok (.pointer (some ⟨g, off + 0 * 6, none⟩)) w := ix_slice (i := 0) und24 size27 (by omega) rfl
              have g2 : (m : Int) < (i : Int) := by omega
              have hh := hv.holds
              have hgw2 : w2.heap.size < wr.heap.size := hh.lt
              clear hd e hl hlies h6 hfl hk40 htx hsz
              go_wp2_with (first
                | (refine wpList_load_part rfl 27 (.tmp 86) rfl g (off + 0 * 6) rfl d _ hrng Tryd.underlying27 rfl (by rw [d6]; kernel_rfl) ?_)
                | (refine wpList_store_all rfl 27 (.tmp 11) (.tmp 87) rfl w2.heap.size rfl d rfl 27 _ hh (by rw [d6]; kernel_rfl) (by rw [d6]; rfl) d1 ?_; intro w4 hT4))
              exact ⟨⟨m + 1, d, rfl, by omega, ⟨hT4.holds, d6, hJd.mono fun k h1 h2 => ⟨by rw [hT4.size]; exact h1, hT4.others k h1.2⟩⟩, gr_turned hgx hT4 (hg.trans hg2).size⟩, by simp; omega⟩
            · have hin : m = i := by omega
              subst hin
              have g2 : ¬ (m : Int) < (m : Int) := by omega
              rw [List.drop_of_length_le (by omega), nestJ] at hv
              obtain ⟨la, na, lc, nc, es, rfl, _⟩ := jat_at hv.says
              obtain ⟨y0, _, y2, _⟩ := hv.cells
              clear hfl htx hsz
              go_wp2
              go_ret
              exact ⟨rfl, hgx⟩
  · first
      | rw [hkneg (by omega)]
      | rw [hkpos (by omega)]
      | skip
    clear hm1 hm2 hkneg hkpos
    go_loopw [7, 8, 9, 10] (fun v7 v8 v9 v10 wr => ∃ (i : Nat) (S E : ByteArray) (at_ : Int), v7 = .string S ∧ v8 = .string E ∧ v9 = .int .i64 at_ ∧ v10 = .int .i64 (i : Int) ∧ LoopD k (flagsOf os k) i S E at_ ∧ Gr w wr) (fun _ _ _ c _ => k - (intOf c).toNat)
    case atStart => exact ⟨0, ⟨#[]⟩, ⟨#[]⟩, 0, rfl, rfl, rfl, rfl, ⟨Nat.zero_le _, rfl, rfl, rfl⟩, hg1⟩
    case round =>
      obtain ⟨i, S, E, at_, rfl, rfl, rfl, rfl, hL, hg⟩ := hrel
      rcases Nat.lt_or_ge i k with hlt | hge
      · have g1 : (i : Int) < (k : Int) := by omega
        have hwr : IntKind.i64.wrap ((i : Int) + 1) = ((i + 1 : Nat) : Int) := by rw [wrap_in (by omega) (by omega)]; omega
        have hnx := loopD_next hL hlt (flags_at (os := os) hlt)
        have hSz : S.size ≤ 200 := loopD_s hL hk40
        have hEz : E.size ≤ 40 := loopD_e hL hk40
        clear hL
        rcases Nat.lt_or_ge i on with hio | hio
        · obtain ⟨g, o, rfl, _, hgl, hrg⟩ := ho.resolve_left (by intro e; have e2 : os = [] := (by simpa using e); rw [e2] at hon; simp at hon; omega)
          have hos : os[i]? = some (os[i]'(by omega)) := List.getElem?_eq_getElem (by omega)
          have hcell : wr.cell? ⟨g, o + i, none⟩ = some (.bool (os[i]'(by omega))) := cell_below hg hgl (hrg i _ (by simp [hos]))
          have hix : ∀ w, (Instr.indexAt 22 (.slice (some ⟨g, o, none⟩) on oc) (.int .i64 (i : Int))).run Tryd.prog w = .ok (.pointer (some ⟨g, o + i, none⟩)) w := ix_slice und22 size4 hio (by omega)
          have gio : (i : Int) < (on : Int) := by omega
          rw [show os.getD i false = os[i]'(by omega) by simp [List.getD, hos]] at hnx
          clear hos
          generalize os[i]'(by omega) = ob at *
          cases ob with
          | true =>
            by_cases h16 : i = 16
            · have g16 : ((i : Int) == 16) = true := by simp; omega
              rw [if_pos h16] at hnx
              clear h16 hlt hol hon hk40
              go_wp2
              exact ⟨⟨i + 1, _, _, _, rfl, rfl, rfl, rfl, hnx, hg⟩, by simp; omega⟩
            · have g16 : ((i : Int) == 16) = false := by simp; omega
              rw [if_neg h16] at hnx
              clear h16 hlt hol hon hk40
              go_wp2
              exact ⟨⟨i + 1, _, _, _, rfl, rfl, rfl, rfl, hnx, hg⟩, by simp; omega⟩
          | false =>
            by_cases h16 : i = 16
            · have g16 : ((i : Int) == 16) = true := by simp; omega
              rw [if_pos h16] at hnx
              clear h16 hlt hol hon hk40
              go_wp2
              exact ⟨⟨i + 1, _, _, _, rfl, rfl, rfl, rfl, hnx, hg⟩, by simp; omega⟩
            · have g16 : ((i : Int) == 16) = false := by simp; omega
              rw [if_neg h16] at hnx
              clear h16 hlt hol hon hk40
              go_wp2
              exact ⟨⟨i + 1, _, _, _, rfl, rfl, rfl, rfl, hnx, hg⟩, by simp; omega⟩
        · have gio : ¬ (i : Int) < (on : Int) := by omega
          rw [show os.getD i false = false by simp [List.getD, List.getElem?_eq_none (show os.length ≤ i by omega)]] at hnx
          by_cases h16 : i = 16
          · have g16 : ((i : Int) == 16) = true := by simp; omega
            rw [if_pos h16] at hnx
            clear h16 hlt hol hon hk40
            go_wp2
            exact ⟨⟨i + 1, _, _, _, rfl, rfl, rfl, rfl, hnx, hg⟩, by simp; omega⟩
          · have g16 : ((i : Int) == 16) = false := by simp; omega
            rw [if_neg h16] at hnx
            clear h16 hlt hol hon hk40
            go_wp2
            exact ⟨⟨i + 1, _, _, _, rfl, rfl, rfl, rfl, hnx, hg⟩, by simp; omega⟩
      · have hin : i = k := by have := hL.1; omega
        subst hin
        have htx := loopD_text hL (flags_len os i)
        have hat : at_ = (if 16 < i then (((opens ((flagsOf os i).take 16)).length : Nat) : Int) else 0) := hL.2.2.2
        have hBr := hB.gr hg
        have hfl := flags_len os i
        have hSz : S.size ≤ 200 := loopD_s hL hk40
        have hEz : E.size ≤ 40 := loopD_e hL hk40
        have hsz : (S ++ ⟨#[55]⟩ ++ E).size ≤ 1099511627775 := by simp only [ByteArray.size_append]; show S.size + 1 + E.size ≤ _; omega
        clear hL
        generalize flagsOf os i = fs at *
        have g1 : ¬ (i : Int) < (i : Int) := by omega
        by_cases h16 : 16 < i
        · rw [if_pos h16] at hat
          have hp := parse_bad hBr hsz ((congrArg wholeP htx).trans (whole_deep (fs := fs) (by omega)))
          rw [show ((((fs.take 16).flatMap openT).length : Nat) : Int) = at_ from hat.symm] at hp
          have g16 : (i : Int) > 16 := by omega
          clear hat h16 hk40 hol hon hfl ho
          go_wp2_with (first
            | (go_at_call 9; refine hp.mono ?_; rintro e w2 ⟨rfl, hg2⟩; clear hp)
            | (refine wpList_store_all rfl 27 (.tmp 11) (.tmp 55) rfl w2.heap.size rfl zeroJ rfl 27 zeroJ (holds_new w2 zeroJ 27) (by kernel_rfl) rfl one_zero ?_; intro w3 hT3; have hg3 := hg2.trans (gr_new hT3); have q3 : w3.cell? ⟨w2.heap.size, 0, none⟩ = some (.int .i64 0) := Holds.at hT3.holds 0 _ rfl))
          go_ret
          exact ⟨rfl, hg.trans hg3⟩
        · obtain ⟨pp, hpp⟩ := whole_nest (fs := fs) (by omega)
          have hp := parse_ok hBr hsz ((congrArg wholeP htx).trans hpp)
          have g16 : ¬ (i : Int) > 16 := by omega
          clear hat h16 hol hon ho hpp
          go_wp2_with (first
            | (go_at_call 9; refine hp.mono ?_; rintro e w2 ⟨c2, rfl, c26, c21, hJ2, hg2⟩; clear hp)
            | (refine wpList_store_all rfl 27 (.tmp 11) (.tmp 55) rfl w2.heap.size rfl c2 rfl 27 zeroJ (holds_new w2 zeroJ 27) (by rw [c26]; kernel_rfl) c26.symm c21 ?_; intro w3 hT3; have hg3 := hg2.trans (gr_new hT3); have v3 := Var.new hJ2 c26 hT3))
          go_loopw [14] (fun c wx => ∃ (m : Nat) (cs : List Value), c = .int .i64 (m : Int) ∧ m ≤ i ∧ Var wx w2.heap.size cs (nestJ (fs.drop m)) ∧ Gr w wx) (fun c _ => i - (intOf c).toNat)
          case atStart => exact ⟨0, c2, rfl, Nat.zero_le _, by rw [List.drop_zero]; exact v3, hg.trans hg3⟩
          case round =>
            obtain ⟨m, cs, rfl, hm, hv, hgx⟩ := hrel
            rcases Nat.lt_or_ge m i with hlt2 | hge2
            · have hd : fs.drop m = fs[m]'(by omega) :: fs.drop (m + 1) := List.drop_eq_getElem_cons (by omega)
              rw [hd] at hv
              generalize fs[m]'(by omega) = ob at *
              rw [nestJ] at hv
              obtain ⟨la, na, lc, nc, es, rfl, hes, h6, hl, hlies, _⟩ := jat_at hv.says
              obtain ⟨d, rfl⟩ : ∃ d, es = [d] := by
                match es, hes with
                | [d], _ => exact ⟨d, rfl⟩
              obtain ⟨g, off, rfl, hgS, hrng⟩ := hlies.elemG (Gr.refl _) h6 (i := 0) (c := d) rfl
              have d6 := h6 d (by simp)
              have hJd := hl 0 _ d rfl rfl
              obtain ⟨dd, e, _, d1⟩ := jat_cells hJd
              have : d = dd := by simpa using e
              subst this
              obtain ⟨_, _, _, _, y4, _⟩ := hv.cells
              have y4 : wr.cell? ⟨w2.heap.size, 4, none⟩ = some (.slice (some ⟨g, off, none⟩) 1 lc) := y4
              have hixe : ∀ w, (Instr.indexAt 24 (.slice (some ⟨g, off, none⟩) 1 lc) (.int .i64 0)).run Tryd.prog w = .ok (.pointer (some ⟨g, off + 0 * 6, none⟩)) w := ix_slice (i := 0) und24 size27 (by omega) rfl
              have g2 : (m : Int) < (i : Int) := by omega
              have hh := hv.holds
              have hgw2 : w2.heap.size < wr.heap.size := hh.lt
              clear hd e hl hlies h6 hfl hk40 htx hsz
              go_wp2_with (first
                | (refine wpList_load_part rfl 27 (.tmp 86) rfl g (off + 0 * 6) rfl d _ hrng Tryd.underlying27 rfl (by rw [d6]; kernel_rfl) ?_)
                | (refine wpList_store_all rfl 27 (.tmp 11) (.tmp 87) rfl w2.heap.size rfl d rfl 27 _ hh (by rw [d6]; kernel_rfl) (by rw [d6]; rfl) d1 ?_; intro w4 hT4))
              exact ⟨⟨m + 1, d, rfl, by omega, ⟨hT4.holds, d6, hJd.mono fun k h1 h2 => ⟨by rw [hT4.size]; exact h1, hT4.others k h1.2⟩⟩, gr_turned hgx hT4 (hg.trans hg2).size⟩, by simp; omega⟩
            · have hin : m = i := by omega
              subst hin
              have g2 : ¬ (m : Int) < (m : Int) := by omega
              rw [List.drop_of_length_le (by omega), nestJ] at hv
              obtain ⟨la, na, lc, nc, es, rfl, _⟩ := jat_at hv.says
              obtain ⟨y0, _, y2, _⟩ := hv.cells
              clear hfl htx hsz
              go_wp2
              go_ret
              exact ⟨rfl, hgx⟩
end Go.Proofs.YtogippkapadolaaDoor

/- From the rows' premise on what the library's variables hold to what the walks ask of the world; and a start that meets it. -/
namespace Go.Proofs.YtogippkapadolaaDoor
open Go.ChangeShapes Go.WideShapes Go.ChangeAt Go.WideMaps Go.WideElems Go.RowKit

theorem own : ownKnob Tryd.prog.godebug = none := by kernel_rfl
abbrev laid5 {H : Type} : List (String × DataW H) := [("math/bits.deBruijn32tab", Rows.laid_math_bits_deBruijn32tab), ("math/bits.deBruijn64tab", Rows.laid_math_bits_deBruijn64tab), ("internal/strconv.uint64pow10", Rows.laid_internal_strconv_uint64pow10), ("strconv.ErrRange", Rows.laid_strconv_ErrRange), ("strconv.ErrSyntax", Rows.laid_strconv_ErrSyntax)]
theorem pow_eq {H : Type} : (Rows.laid_internal_strconv_uint64pow10 : DataW H) = Lib.tabData .u64 Lib.pow10Tab := by kernel_rfl
theorem pow_ty : ∀ g, Tryd.prog.globalNamed "internal/strconv.uint64pow10" = some g → (Tryd.prog.globals[g]?).map (·.type) = some 109 := fun g h => by
  obtain rfl := Option.some.inj ((show Tryd.prog.globalNamed "internal/strconv.uint64pow10" = some 0 by kernel_rfl).symm.trans h)
  kernel_rfl
theorem und109 : Tryd.prog.underlying 109 = some (.array 20 90) := by kernel_rfl
theorem und90 : Tryd.prog.underlying 90 = some (.int .u64) := by kernel_rfl
theorem row127 : ∀ u, Tryd.prog.typeName? 3 u = some "*errors.errorString" → u = 127 := typeName_ptr_named (nm := "errors.errorString") (by kernel_rfl) (by kernel_rfl) (by decide)
theorem cell_of_var {W : World} {n : String} {g : Nat} {v : Value} (hg : Tryd.prog.globalNamed n = some g) (h : W.var? Tryd.prog n = some #[v]) : W.cell? ⟨g, 0, none⟩ = some v := by
  have := World.var?_cell hg h 0
  simpa using this
theorem of_laid {W : World} (h : laidMetH Tryd.prog laid5 W) : Base W := by
  rw [MakeChecks.laidMetH_plain _ _ _ (by kernel_rfl)] at h
  have h2 := h.tail.tail
  obtain ⟨a1, s1, v1, _⟩ := laid_sentinel h2.tail (g := 2) (by kernel_rfl) (ti := 94) (by kernel_rfl) Tryd.underlying94 row127 Tryd.underlying127 Tryd.underlying129 rfl rfl Tryd.underlying9 (by kernel_rfl) (by kernel_rfl)
  obtain ⟨a2, s2, v2, _⟩ := laid_sentinel h2.tail.tail (g := 1) (by kernel_rfl) (ti := 94) (by kernel_rfl) Tryd.underlying94 row127 Tryd.underlying127 Tryd.underlying129 rfl rfl Tryd.underlying9 (by kernel_rfl) (by kernel_rfl)
  have c1 := cell_of_var (g := 2) (by kernel_rfl) v1
  have c2 := cell_of_var (g := 1) (by kernel_rfl) v2
  refine ⟨⟨⟨_, c2, .inr ⟨_, _, rfl⟩⟩, ⟨_, c1, .inr ⟨_, _, rfl⟩⟩⟩, cell_lt c1, ?_⟩
  obtain ⟨ps, ⟨g2, t2, cs2, f2, p2, q2, hg2, ht2, hv2, hd2, _, _⟩, _⟩ := h2
  obtain rfl := Option.some.inj ((pow_ty g2 hg2).symm.trans ht2)
  rw [pow_eq] at hd2
  have := Lib.cells_of_tab und109 und90 (by kernel_rfl) (by kernel_rfl) hd2
  refine Lib.tabBelow_of_tabIs ?_
  unfold Lib.TabIs
  rw [hv2, ← this]
/-- A start that meets it: the heap that the program's own initialisers leave. -/
theorem door_met (os : Os) (args : Array Value) : laidMetH Tryd.prog laid5 ((World.doorLaid Tryd.prog 400 os).forCall (fun _ _ => 0) ⟨#[], args, []⟩).memory :=
  laidMetH_of_parts3 (fuel := 8) (laidMet_of_run' 8 (by kernel_rfl) (by kernel_rfl)) (by kernel_rfl) (by kernel_rfl)
end Go.Proofs.YtogippkapadolaaDoor
