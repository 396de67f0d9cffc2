/- Get of the document (by gen_jsrget.py). -/
import Derived.Test.YtogippkapadolaaDoorYJ21
import Derived.Test.YtogippkapadolaaDoorYJ16
namespace Go.Proofs.YtogippkapadolaaDoor
open Go.RowKit

theorem eql9 (s t : ByteArray) (w : World) : (binOp .eql 9 (.string s) (.string t)).run Tryd.prog w = .ok (.bool (s.toList == t.toList)) w := by kernel_rfl
theorem guard9e (s t : ByteArray) (u v : Operand) (w : World) : (eqGuard .eql 9 u v (.string s) (.string t)).run Tryd.prog w = .ok () w := by kernel_rfl
def q14_8 : Array Oper := #[{ dst := some 33, op := Op.fieldAddr 27 (Operand.tmp 2) 5, type := 0, pos := "ref.go:356", after := #[], guard := none }, { dst := some 34, op := Op.load 25 (Operand.tmp 33), type := 25, pos := "ref.go:356", after := #[{ on := 0, ground := Ground.data }], guard := none }, { dst := some 35, op := Op.move (Operand.tmp 8), type := 3, pos := "ref.go:356", after := #[], guard := none }, { dst := some 36, op := Op.indexAddr 25 (Operand.tmp 34) (Operand.tmp 35), type := 0, pos := "ref.go:356", after := #[{ on := 1, ground := Ground.data }, { on := 2, ground := Ground.data }], guard := none }, { dst := some 37, op := Op.load 9 (Operand.tmp 36), type := 9, pos := "ref.go:356", after := #[{ on := 3, ground := Ground.data }], guard := none }, { dst := some 38, op := Op.move (Operand.tmp 1), type := 25, pos := "ref.go:356", after := #[], guard := none }, { dst := some 39, op := Op.move (Operand.tmp 6), type := 3, pos := "ref.go:356", after := #[], guard := none }, { dst := some 40, op := Op.indexAddr 25 (Operand.tmp 38) (Operand.tmp 39), type := 0, pos := "ref.go:356", after := #[{ on := 5, ground := Ground.data }, { on := 6, ground := Ground.data }], guard := none }, { dst := some 41, op := Op.load 9 (Operand.tmp 40), type := 9, pos := "ref.go:356", after := #[{ on := 7, ground := Ground.data }], guard := none }, { dst := some 42, op := Op.binOp BinOp.eql 9 (Operand.tmp 37) (Operand.tmp 41) 9, type := 4, pos := "ref.go:356", after := #[{ on := 4, ground := Ground.data }, { on := 8, ground := Ground.data }], guard := none }]
set_option maxRecDepth 100000 in
theorem r14_8 {Q : Exit → Act → World → Prop} {a0 : Act} {w : World} (hz : a0.tmps.size = 58) {N2 i k g off g' off' n lc n' lc' : Nat} {m1 m2 : List UInt8} (h34 : ∀ y, Gr w y → y.cell? ⟨N2, 5, none⟩ = some (.slice (some ⟨g, off, none⟩) n lc))
    (hk : k < n) (hi : i < n') (h37 : ∀ y, Gr w y → y.cell? ⟨g, off + k, none⟩ = some (.string (strL m1))) (h41 : ∀ y, Gr w y → y.cell? ⟨g', off' + i, none⟩ = some (.string (strL m2))) (e2 : a0.eval (.tmp 2) = .pointer (some ⟨N2, 0, none⟩)) (e8 : a0.eval (.tmp 8) = .int .i64 (k : Int)) (e1 : a0.eval (.tmp 1) = .slice (some ⟨g', off', none⟩) n' lc') (e6 : a0.eval (.tmp 6) = .int .i64 (i : Int)) (hend : ∀ ac wz, After [33, 34, 35, 36, 37, 38, 39, 40, 41, 42] a0 ac → ac.eval (.tmp 42) = .bool ((strL m1).toList == (strL m2).toList) → Gr w wz → Q .normal ac wz) : (Code.region 8 q14_8 true).wp Tryd.prog Q a0 w := by
  refine drawn_by (by kernel_rfl) (by kernel_rfl) (by kernel_rfl) [33, 34, 35, 36, 37, 38, 39, 40, 41, 42] (fun | 33 => .val (.pointer (some ⟨N2, 5, none⟩)) | 34 => .val (.slice (some ⟨g, off, none⟩) n lc) | 35 => .val (.int .i64 (k : Int)) | 36 => .val (.pointer (some ⟨g, off + k, none⟩)) | 37 => .val (.string (strL m1)) | 38 => .val (.slice (some ⟨g', off', none⟩) n' lc') | 39 => .val (.int .i64 (i : Int)) | 40 => .val (.pointer (some ⟨g', off' + i, none⟩)) | 41 => .val (.string (strL m2)) | 42 => .val (.bool ((strL m1).toList == (strL m2).toList)) | _ => .any) (by kernel_rfl) (List.forall_mem_cons.2 ⟨?s0, List.forall_mem_cons.2 ⟨?s1, List.forall_mem_cons.2 ⟨?s2, List.forall_mem_cons.2 ⟨?s3, List.forall_mem_cons.2 ⟨?s4, List.forall_mem_cons.2 ⟨?s5, List.forall_mem_cons.2 ⟨?s6, List.forall_mem_cons.2 ⟨?s7, List.forall_mem_cons.2 ⟨?s8, List.forall_mem_cons.2 ⟨?s9, fun o ho => nomatch ho⟩⟩⟩⟩⟩⟩⟩⟩⟩⟩) ?e
  case s0 => exact sa_fa 27 (.tmp 2) 5 33 (.pointer (some ⟨N2, 0, none⟩)) (.pointer (some ⟨N2, 5, none⟩)) rfl rfl rfl (.old 2 _ (by decide) e2) (by intro w; kernel_rfl) rfl
  case s1 => exact sa_loadc 25 (.tmp 33) 34 (N2) (5) (.slice (some ⟨g, off, none⟩) n lc) rfl rfl rfl (by intro w; kernel_rfl) (.new 33 (by kernel_rfl) (by rw [hz]; decide)) h34 rfl
  case s2 => exact sa_move (.tmp 8) 35 (.val (.int .i64 (k : Int))) (.inl rfl) rfl rfl (.old 8 _ (by decide) e8) rfl
  case s3 => exact sa_ixa 25 (.tmp 34) (.tmp 35) 36 (.slice (some ⟨g, off, none⟩) n lc) (.int .i64 (k : Int)) (.pointer (some ⟨g, off + k, none⟩)) rfl rfl rfl (.new 34 (by kernel_rfl) (by rw [hz]; decide)) (.new 35 (by kernel_rfl) (by rw [hz]; decide)) (ix_slice und25 size25 hk (by omega)) rfl
  case s4 => exact sa_loadc 9 (.tmp 36) 37 (g) (off + k) (.string (strL m1)) rfl rfl rfl (by intro w; kernel_rfl) (.new 36 (by kernel_rfl) (by rw [hz]; decide)) h37 rfl
  case s5 => exact sa_move (.tmp 1) 38 (.val (.slice (some ⟨g', off', none⟩) n' lc')) (.inl rfl) rfl rfl (.old 1 _ (by decide) e1) rfl
  case s6 => exact sa_move (.tmp 6) 39 (.val (.int .i64 (i : Int))) (.inl rfl) rfl rfl (.old 6 _ (by decide) e6) rfl
  case s7 => exact sa_ixa 25 (.tmp 38) (.tmp 39) 40 (.slice (some ⟨g', off', none⟩) n' lc') (.int .i64 (i : Int)) (.pointer (some ⟨g', off' + i, none⟩)) rfl rfl rfl (.new 38 (by kernel_rfl) (by rw [hz]; decide)) (.new 39 (by kernel_rfl) (by rw [hz]; decide)) (ix_slice und25 size25 hi (by omega)) rfl
  case s8 => exact sa_loadc 9 (.tmp 40) 41 (g') (off' + i) (.string (strL m2)) rfl rfl rfl (by intro w; kernel_rfl) (.new 40 (by kernel_rfl) (by rw [hz]; decide)) h41 rfl
  case s9 => exact sa_bin .eql 9 (.tmp 37) (.tmp 41) 9 42 (.string (strL m1)) (.string (strL m2)) (.bool ((strL m1).toList == (strL m2).toList)) rfl rfl rfl (.new 37 (by kernel_rfl) (by rw [hz]; decide)) (.new 41 (by kernel_rfl) (by rw [hz]; decide)) (fun w => guard9e _ _ _ _ w) (fun w => eql9 _ _ w) rfl
  case e =>
  intro ac wz hA hgr hv
  exact hend ac wz hA (hv 42 (by kernel_rfl) (by rw [hz]; decide)) hgr
theorem posN_next {names : List (List UInt8)} {nm : List UInt8} {k : Nat} (hk : k < names.length) (h : posN names nm = (posN (names.drop k) nm).map (· + k)) : (names[k] = nm → posN names nm = some k) ∧ (¬ names[k] = nm → posN names nm = (posN (names.drop (k + 1)) nm).map (· + (k + 1))) := by
  rw [List.drop_eq_getElem_cons hk, posN] at h
  constructor
  · intro e
    rw [if_pos e] at h
    simpa using h
  · intro e
    rw [if_neg e] at h
    rw [h, Option.map_map]
    congr 1
    funext x
    simp; omega
theorem posN_ge {names : List (List UInt8)} {nm : List UInt8} {k : Nat} (h : posN names nm = (posN (names.drop k) nm).map (· + k)) : ∀ q, posN names nm = some q → k ≤ q := by
  intro q hq
  rw [hq] at h
  cases e : posN (names.drop k) nm with
  | none => rw [e] at h; cases h
  | some x => rw [e] at h; simp at h; omega
/-- What the document's Get comes to: what is found lies where it lay. -/
def GotR (w : World) (r : Option J) : Ending → World → Prop := fun e w' => Gr w w' ∧ match r with
  | some x => ∃ u, e = .returned (.tuple #[u, .bool true]) ∧ JAt w' (fun _ => True) x u
  | none => e = .returned (.tuple #[.agg zeroJ.toArray, .bool false])
set_option maxHeartbeats 8000000 in
set_option maxRecDepth 100000 in
theorem rget_any {w0 : World} {S S' : Nat → Prop} {j : J} {v : Value} (hJ : JAt w0 S j v) (hF : Fits j) {w : World} (hw : Gr w0 w) {path : List (List UInt8)} {pa : Option Addr} {pc : Nat} (hp : Lies w0 S' pa (path.map strV1)) (hpl : path.length < maxLen) :
    Calls Tryd.prog 14 #[v, .slice pa path.length pc] w (GotR w (getP j path)) := by
  obtain ⟨cs, rfl, h6, h1⟩ := jat_cells hJ
  obtain ⟨n, hn⟩ : ∃ n, path.length = n := ⟨_, rfl⟩
  obtain ⟨RR, hRR⟩ : ∃ R, getP j path = R := ⟨_, rfl⟩
  obtain ⟨W, hW⟩ : ∃ W, (w.alloc (.cells cs.toArray 27)).alloc (.cells zeroJ.toArray 27) = W := ⟨_, rfl⟩
  have hgW : Gr w W := hW ▸ (Gr.alloc _ _).trans (Gr.alloc _ _)
  have hsz : W.heap.size = w.heap.size + 2 := by rw [← hW]; simp
  have hbx : Holds W w.heap.size cs 27 := by rw [← hW]; exact (holds_new w _ 27).alloc _
  have hz0 : Holds W (w.heap.size + 1) zeroJ 27 := by
    have := holds_new (w.alloc (.cells cs.toArray 27)) zeroJ 27
    rw [hW] at this
    simpa using this
  have hn64 : (n : Int) ≤ 9223372036854775806 := by unfold maxLen at hpl; omega
  rw [hRR, hn]
  subst hW
  go_enter Tryd.func14, Tryd.ntmps14
  go_wp2_with fail
  go_loopw [6] (fun c wr => ∃ (i : Nat) (j' : J) (ds : List Value), c = .int .i64 (i : Int) ∧ i ≤ n ∧ JAt w0 S j' (.agg ds.toArray) ∧ Fits j' ∧ Holds wr w.heap.size ds 27 ∧ Holds wr (w.heap.size + 1) zeroJ 27 ∧ Gr w wr ∧ getP j' (path.drop i) = RR) (fun c _ => n - (intOf c).toNat)
  case atStart => exact ⟨0, j, cs, rfl, by omega, hJ, hF, hbx, hz0, hgW, by rw [List.drop_zero]; exact hRR⟩
  case round =>
    obtain ⟨i, j', ds, rfl, hi, hJr, hFr, hbr, hzr, hgw, hR⟩ := hrel
    obtain ⟨w1, hw1e⟩ : ∃ w1, w1 = wr := ⟨_, rfl⟩
    subst hw1e
    clear hJ hF hbx hz0 hRR h6 h1
    rcases Nat.lt_or_ge i n with hlt | hge
    · have hce : path[i]? = some path[i] := List.getElem?_eq_getElem (by omega)
      rw [List.drop_eq_getElem_cons (show i < path.length by omega)] at hR
      obtain ⟨g, o, rfl, _, _⟩ := lies_str hp (hw.trans hgw) (i := i) (by omega)
      have hnm : ∀ y, Gr w1 y → y.cell? ⟨g, o + i, none⟩ = some (.string (strL (path[i]'(by omega)))) := fun y hy => by
        obtain ⟨g', o', e, _, e3⟩ := lies_str hp (hw.trans (hgw.trans hy)) (i := i) (by omega)
        cases e; exact e3
      have g1 : (i : Int) < (n : Int) := by omega
      have hw1 : IntKind.i64.wrap ((i : Int) + 1) = ((i + 1 : Nat) : Int) := by rw [wrap_in (by omega) (by omega)]; omega
      generalize path[i] = nm at *
      generalize hrest : path.drop (i + 1) = rest at *
      generalize hdd : ds.toArray = dA at hJr
      cases hJr with
      | mk k b m s l names la na lc nc es hes h6 hl hlies hnames =>
      have hds : ds = jsonV k b m s la na l.length lc names.length nc := by simpa using congrArg Array.toList hdd
      subst hds
      obtain ⟨hll, hnl, hsl, hfx⟩ := hFr
      have hll2 : l.length ≤ 9223372036854775806 := by unfold maxLen at hll; omega
      have hnl2 : names.length ≤ 9223372036854775806 := by unfold maxLen at hnl; omega
      obtain ⟨ll, hle⟩ : ∃ q, l.length = q := ⟨_, rfl⟩
      obtain ⟨nn, hne⟩ : ∃ q, names.length = q := ⟨_, rfl⟩
      rw [hle] at hll2 hbr
      rw [hne] at hnl2 hbr
      rw [getP] at hR
      have hzl := hzr.lt
      clear hpl hdd hce hll hnl hsl hp
      go_wp2_with fail
      go_loopw [7, 8] (fun a c wx => ∃ (t : Nat) (at_ : Int), a = .int .i64 at_ ∧ c = .int .i64 (t : Int) ∧ t ≤ nn ∧ t ≤ ll ∧ Gr w1 wx ∧ ((at_ = -1 ∧ posN names nm = (posN (names.drop t) nm).map (· + t)) ∨ ∃ q : Nat, at_ = (q : Int) ∧ posN names nm = some q ∧ q < ll)) (fun _ c _ => nn - (intOf c).toNat)
      case atStart => exact ⟨0, -1, rfl, rfl, by omega, by omega, Gr.refl _, .inl ⟨rfl, by simp⟩⟩
      case round =>
        obtain ⟨wx, hwxe⟩ : ∃ wx, wx = wr := ⟨_, rfl⟩
        subst hwxe
        obtain ⟨t, at_, rfl, rfl, ht1, ht2, hgx, hat⟩ := hrel
        have hbx := hbr.gr hgx
        have hzx := hzr.gr hgx
        have k0 : wx.cell? ⟨w.heap.size, 0, none⟩ = some (.int .i64 k) := hbx.at 0 _ rfl
        have k4 : wx.cell? ⟨w.heap.size, 4, none⟩ = some (.slice la ll lc) := hbx.at 4 _ rfl
        have k5 : wx.cell? ⟨w.heap.size, 5, none⟩ = some (.slice na nn nc) := hbx.at 5 _ rfl
        have hw2 : t < nn → IntKind.i64.wrap ((t : Int) + 1) = ((t + 1 : Nat) : Int) := fun h => by rw [wrap_in (by omega) (by omega)]; omega
        rcases hat with ⟨rfl, hpo⟩ | ⟨q, rfl, hpos, hq⟩
        · rcases Nat.lt_or_ge t nn with hn1 | hn1
          · have gn : (t : Int) < (nn : Int) := by omega
            rcases Nat.lt_or_ge t ll with hl1 | hl1
            · have gl : (t : Int) < (ll : Int) := by omega
              obtain ⟨px1, px2⟩ := posN_next (by omega) hpo
              obtain ⟨g2, o2, rfl, _, _⟩ := lies_str hnames (hw.trans (hgw.trans hgx)) (i := t) (by omega)
              have f1 : ∀ y, Gr wx y → y.cell? ⟨g2, o2 + t, none⟩ = some (.string (strL (names[t]'(by omega)))) := fun y hy => by
                obtain ⟨g', o', e, _, e3⟩ := lies_str hnames (hw.trans (hgw.trans (hgx.trans hy))) (i := t) (by omega)
                cases e; exact e3
              have hw2 := hw2 hn1
              by_cases hx : names[t]'(by omega) = nm
              · have px := px1 hx
                have gz : ((strL (names[t]'(by omega))).toList == (strL nm).toList) = true := by rw [hx]; simp
                generalize names[t]'(by omega) = m1 at *
                clear hes h6 hl hlies hfx hnames hpo px1 px2 hx hR
                go_upto_region 8 with fail
                refine r14_8 rfl (fun y hy => (hbx.gr hy).at 5 _ rfl) hn1 hlt f1 (fun y hy => hnm y (hgx.trans hy)) rfl rfl rfl rfl fun ac wz hA h42 hgz => ?_
                rw [gz] at h42
                rename_i hK
                refine hK _ _ ?_
                have e : ac = ⟨(ac.eval (.tmp 0) :: ac.eval (.tmp 1) :: ac.eval (.tmp 2) :: ac.eval (.tmp 3) :: ac.eval (.tmp 4) :: ac.eval (.tmp 5) :: ac.eval (.tmp 6) :: ac.eval (.tmp 7) :: ac.eval (.tmp 8) :: ac.eval (.tmp 9) :: ac.eval (.tmp 10) :: ac.eval (.tmp 11) :: ac.eval (.tmp 12) :: ac.eval (.tmp 13) :: ac.eval (.tmp 14) :: ac.eval (.tmp 15) :: ac.eval (.tmp 16) :: ac.eval (.tmp 17) :: ac.eval (.tmp 18) :: ac.eval (.tmp 19) :: ac.eval (.tmp 20) :: ac.eval (.tmp 21) :: ac.eval (.tmp 22) :: ac.eval (.tmp 23) :: ac.eval (.tmp 24) :: ac.eval (.tmp 25) :: ac.eval (.tmp 26) :: ac.eval (.tmp 27) :: ac.eval (.tmp 28) :: ac.eval (.tmp 29) :: ac.eval (.tmp 30) :: ac.eval (.tmp 31) :: ac.eval (.tmp 32) :: ac.eval (.tmp 33) :: ac.eval (.tmp 34) :: ac.eval (.tmp 35) :: ac.eval (.tmp 36) :: ac.eval (.tmp 37) :: ac.eval (.tmp 38) :: ac.eval (.tmp 39) :: ac.eval (.tmp 40) :: ac.eval (.tmp 41) :: ac.eval (.tmp 42) :: ac.eval (.tmp 43) :: ac.eval (.tmp 44) :: ac.eval (.tmp 45) :: ac.eval (.tmp 46) :: ac.eval (.tmp 47) :: ac.eval (.tmp 48) :: ac.eval (.tmp 49) :: ac.eval (.tmp 50) :: ac.eval (.tmp 51) :: ac.eval (.tmp 52) :: ac.eval (.tmp 53) :: ac.eval (.tmp 54) :: ac.eval (.tmp 55) :: ac.eval (.tmp 56) :: ac.eval (.tmp 57) :: ([] : List Value)).toArray, ac.defers⟩ := (act_lit2 (hA.size.trans rfl)).trans rfl
                rw [hA.defers, (hA.old 0 (by decide)).trans rfl, (hA.old 1 (by decide)).trans rfl, (hA.old 2 (by decide)).trans rfl, (hA.old 3 (by decide)).trans rfl, (hA.old 4 (by decide)).trans rfl, (hA.old 5 (by decide)).trans rfl, (hA.old 6 (by decide)).trans rfl, (hA.old 7 (by decide)).trans rfl, (hA.old 8 (by decide)).trans rfl, (hA.old 9 (by decide)).trans rfl, (hA.old 10 (by decide)).trans rfl, (hA.old 11 (by decide)).trans rfl, (hA.old 12 (by decide)).trans rfl, (hA.old 13 (by decide)).trans rfl, (hA.old 14 (by decide)).trans rfl, (hA.old 15 (by decide)).trans rfl, (hA.old 16 (by decide)).trans rfl, (hA.old 17 (by decide)).trans rfl, (hA.old 18 (by decide)).trans rfl, (hA.old 19 (by decide)).trans rfl, (hA.old 20 (by decide)).trans rfl, (hA.old 21 (by decide)).trans rfl, (hA.old 22 (by decide)).trans rfl, (hA.old 23 (by decide)).trans rfl, (hA.old 24 (by decide)).trans rfl, (hA.old 25 (by decide)).trans rfl, (hA.old 26 (by decide)).trans rfl, (hA.old 27 (by decide)).trans rfl, (hA.old 28 (by decide)).trans rfl, (hA.old 29 (by decide)).trans rfl, (hA.old 30 (by decide)).trans rfl, (hA.old 31 (by decide)).trans rfl, (hA.old 32 (by decide)).trans rfl, (hA.old 43 (by decide)).trans rfl, (hA.old 44 (by decide)).trans rfl, (hA.old 45 (by decide)).trans rfl, (hA.old 46 (by decide)).trans rfl, (hA.old 47 (by decide)).trans rfl, (hA.old 48 (by decide)).trans rfl, (hA.old 49 (by decide)).trans rfl, (hA.old 50 (by decide)).trans rfl, (hA.old 51 (by decide)).trans rfl, (hA.old 52 (by decide)).trans rfl, (hA.old 53 (by decide)).trans rfl, (hA.old 54 (by decide)).trans rfl, (hA.old 55 (by decide)).trans rfl, (hA.old 56 (by decide)).trans rfl, (hA.old 57 (by decide)).trans rfl, h42] at e
                generalize ac.eval (.tmp 33) = x33 at e
                generalize ac.eval (.tmp 34) = x34 at e
                generalize ac.eval (.tmp 35) = x35 at e
                generalize ac.eval (.tmp 36) = x36 at e
                generalize ac.eval (.tmp 37) = x37 at e
                generalize ac.eval (.tmp 38) = x38 at e
                generalize ac.eval (.tmp 39) = x39 at e
                generalize ac.eval (.tmp 40) = x40 at e
                generalize ac.eval (.tmp 41) = x41 at e
                subst e
                go_wp2
                exact ⟨⟨t + 1, (t : Int), rfl, rfl, by omega, by omega, hgx.trans hgz, .inr ⟨t, rfl, px, by omega⟩⟩, by simp; omega⟩
              · have px := px2 hx
                have gz : ((strL (names[t]'(by omega))).toList == (strL nm).toList) = false := by simp [toList_ne hx]
                generalize names[t]'(by omega) = m1 at *
                clear hes h6 hl hlies hfx hnames hpo px1 px2 hx hR
                go_upto_region 8 with fail
                refine r14_8 rfl (fun y hy => (hbx.gr hy).at 5 _ rfl) hn1 hlt f1 (fun y hy => hnm y (hgx.trans hy)) rfl rfl rfl rfl fun ac wz hA h42 hgz => ?_
                rw [gz] at h42
                rename_i hK
                refine hK _ _ ?_
                have e : ac = ⟨(ac.eval (.tmp 0) :: ac.eval (.tmp 1) :: ac.eval (.tmp 2) :: ac.eval (.tmp 3) :: ac.eval (.tmp 4) :: ac.eval (.tmp 5) :: ac.eval (.tmp 6) :: ac.eval (.tmp 7) :: ac.eval (.tmp 8) :: ac.eval (.tmp 9) :: ac.eval (.tmp 10) :: ac.eval (.tmp 11) :: ac.eval (.tmp 12) :: ac.eval (.tmp 13) :: ac.eval (.tmp 14) :: ac.eval (.tmp 15) :: ac.eval (.tmp 16) :: ac.eval (.tmp 17) :: ac.eval (.tmp 18) :: ac.eval (.tmp 19) :: ac.eval (.tmp 20) :: ac.eval (.tmp 21) :: ac.eval (.tmp 22) :: ac.eval (.tmp 23) :: ac.eval (.tmp 24) :: ac.eval (.tmp 25) :: ac.eval (.tmp 26) :: ac.eval (.tmp 27) :: ac.eval (.tmp 28) :: ac.eval (.tmp 29) :: ac.eval (.tmp 30) :: ac.eval (.tmp 31) :: ac.eval (.tmp 32) :: ac.eval (.tmp 33) :: ac.eval (.tmp 34) :: ac.eval (.tmp 35) :: ac.eval (.tmp 36) :: ac.eval (.tmp 37) :: ac.eval (.tmp 38) :: ac.eval (.tmp 39) :: ac.eval (.tmp 40) :: ac.eval (.tmp 41) :: ac.eval (.tmp 42) :: ac.eval (.tmp 43) :: ac.eval (.tmp 44) :: ac.eval (.tmp 45) :: ac.eval (.tmp 46) :: ac.eval (.tmp 47) :: ac.eval (.tmp 48) :: ac.eval (.tmp 49) :: ac.eval (.tmp 50) :: ac.eval (.tmp 51) :: ac.eval (.tmp 52) :: ac.eval (.tmp 53) :: ac.eval (.tmp 54) :: ac.eval (.tmp 55) :: ac.eval (.tmp 56) :: ac.eval (.tmp 57) :: ([] : List Value)).toArray, ac.defers⟩ := (act_lit2 (hA.size.trans rfl)).trans rfl
                rw [hA.defers, (hA.old 0 (by decide)).trans rfl, (hA.old 1 (by decide)).trans rfl, (hA.old 2 (by decide)).trans rfl, (hA.old 3 (by decide)).trans rfl, (hA.old 4 (by decide)).trans rfl, (hA.old 5 (by decide)).trans rfl, (hA.old 6 (by decide)).trans rfl, (hA.old 7 (by decide)).trans rfl, (hA.old 8 (by decide)).trans rfl, (hA.old 9 (by decide)).trans rfl, (hA.old 10 (by decide)).trans rfl, (hA.old 11 (by decide)).trans rfl, (hA.old 12 (by decide)).trans rfl, (hA.old 13 (by decide)).trans rfl, (hA.old 14 (by decide)).trans rfl, (hA.old 15 (by decide)).trans rfl, (hA.old 16 (by decide)).trans rfl, (hA.old 17 (by decide)).trans rfl, (hA.old 18 (by decide)).trans rfl, (hA.old 19 (by decide)).trans rfl, (hA.old 20 (by decide)).trans rfl, (hA.old 21 (by decide)).trans rfl, (hA.old 22 (by decide)).trans rfl, (hA.old 23 (by decide)).trans rfl, (hA.old 24 (by decide)).trans rfl, (hA.old 25 (by decide)).trans rfl, (hA.old 26 (by decide)).trans rfl, (hA.old 27 (by decide)).trans rfl, (hA.old 28 (by decide)).trans rfl, (hA.old 29 (by decide)).trans rfl, (hA.old 30 (by decide)).trans rfl, (hA.old 31 (by decide)).trans rfl, (hA.old 32 (by decide)).trans rfl, (hA.old 43 (by decide)).trans rfl, (hA.old 44 (by decide)).trans rfl, (hA.old 45 (by decide)).trans rfl, (hA.old 46 (by decide)).trans rfl, (hA.old 47 (by decide)).trans rfl, (hA.old 48 (by decide)).trans rfl, (hA.old 49 (by decide)).trans rfl, (hA.old 50 (by decide)).trans rfl, (hA.old 51 (by decide)).trans rfl, (hA.old 52 (by decide)).trans rfl, (hA.old 53 (by decide)).trans rfl, (hA.old 54 (by decide)).trans rfl, (hA.old 55 (by decide)).trans rfl, (hA.old 56 (by decide)).trans rfl, (hA.old 57 (by decide)).trans rfl, h42] at e
                generalize ac.eval (.tmp 33) = x33 at e
                generalize ac.eval (.tmp 34) = x34 at e
                generalize ac.eval (.tmp 35) = x35 at e
                generalize ac.eval (.tmp 36) = x36 at e
                generalize ac.eval (.tmp 37) = x37 at e
                generalize ac.eval (.tmp 38) = x38 at e
                generalize ac.eval (.tmp 39) = x39 at e
                generalize ac.eval (.tmp 40) = x40 at e
                generalize ac.eval (.tmp 41) = x41 at e
                subst e
                go_wp2
                exact ⟨⟨t + 1, -1, rfl, rfl, by omega, by omega, hgx.trans hgz, .inl ⟨rfl, px⟩⟩, by simp; omega⟩
            · have gl : ¬ (t : Int) < (ll : Int) := by omega
              have hN : RR = none := by
                rw [← hR]
                split
                · cases hpo2 : posN names nm with
                  | none => rfl
                  | some q => simp only [List.getElem?_eq_none (show l.length ≤ q by have := posN_ge hpo q hpo2; omega)]
                · rfl
              subst hN
              clear hes h6 hl hlies hfx hnames hpo hR
              go_wp2_with (refine wpList_store_all rfl 27 (.tmp 4) (.tmp 51) rfl (w.heap.size + 1) rfl zeroJ rfl 27 zeroJ hzx (by kernel_rfl) rfl one_zero ?_; intro w5 hT5)
              refine bodyPost_ret (results_row1 (p := 4) (t := 5) (by kernel_rfl) _ w5 (w.heap.size + 1) zeroJ _ _ rfl rfl hT5.holds Tryd.underlying27 rfl (by kernel_rfl)) rfl ?_
              exact ⟨gr_turned (hgw.trans hgx) hT5 (by omega), rfl⟩
          · have gn : ¬ (t : Int) < (nn : Int) := by omega
            have hN : RR = none := by
              rw [← hR]
              split
              · rw [hpo, List.drop_of_length_le (by omega)]
                rfl
              · rfl
            subst hN
            clear hes h6 hl hlies hfx hnames hpo hR
            go_wp2_with (refine wpList_store_all rfl 27 (.tmp 4) (.tmp 51) rfl (w.heap.size + 1) rfl zeroJ rfl 27 zeroJ hzx (by kernel_rfl) rfl one_zero ?_; intro w5 hT5)
            refine bodyPost_ret (results_row1 (p := 4) (t := 5) (by kernel_rfl) _ w5 (w.heap.size + 1) zeroJ _ _ rfl rfl hT5.holds Tryd.underlying27 rfl (by kernel_rfl)) rfl ?_
            exact ⟨gr_turned (hgw.trans hgx) hT5 (by omega), rfl⟩
        · have gq : ¬ (q : Int) < 0 := by omega
          rcases Nat.lt_or_ge t nn with hn1 | hn1
          · rcases Nat.lt_or_ge t ll with hl1 | hl1
            · have gn : (t : Int) < (nn : Int) := by omega
              have gl : (t : Int) < (ll : Int) := by omega
              clear hnames
              clear hw2
              by_cases hk5 : k = 5
              case neg =>
                have gk : (k != 5) = true := by simp [hk5]
                have gk2 : (k == 5) = false := by simp [hk5]
                rw [if_neg hk5] at hR
                subst hR
                clear hk5 hes h6 hl hlies hfx hpos hq
                go_wp2_with (refine wpList_store_all rfl 27 (.tmp 4) (.tmp 51) rfl (w.heap.size + 1) rfl zeroJ rfl 27 zeroJ hzx (by kernel_rfl) rfl one_zero ?_; intro w5 hT5)
                refine bodyPost_ret (results_row1 (p := 4) (t := 5) (by kernel_rfl) _ w5 (w.heap.size + 1) zeroJ _ _ rfl rfl hT5.holds Tryd.underlying27 rfl (by kernel_rfl)) rfl ?_
                exact ⟨gr_turned (hgw.trans hgx) hT5 (by omega), rfl⟩
              subst hk5
              rw [if_pos rfl, hpos] at hR
              simp only [List.getElem?_eq_getElem (show q < l.length by omega)] at hR
              have hx : l[q]? = some l[q] := List.getElem?_eq_getElem (by omega)
              have hce : es[q]? = some (es[q]'(by omega)) := List.getElem?_eq_getElem (by omega)
              have d6 := h6 _ (List.mem_of_getElem? hce)
              have d1 := es_one hes hl _ (List.mem_of_getElem? hce)
              have hJx := hl q _ _ hx hce
              have hFx := hfx _ (List.mem_of_getElem? hx)
              obtain ⟨g', off, rfl, hgS, hrng⟩ := hlies.elemG (hw.trans (hgw.trans hgx)) h6 hce
              have hixe : ∀ w, (Instr.indexAt 24 (.slice (some ⟨g', off, none⟩) ll lc) (.int .i64 (q : Int))).run Tryd.prog w = .ok (.pointer (some ⟨g', off + q * 6, none⟩)) w := ix_slice und24 size27 hq rfl
              generalize l[q] = x at *
              generalize es[q]'(by omega) = d at *
              clear hes h6 hl hlies hfx hx hce hpos
              go_wp2_with (first
                | (refine wpList_load_part rfl 27 (.tmp 55) rfl g' (off + q * 6) rfl d _ hrng Tryd.underlying27 rfl (by rw [d6]; kernel_rfl) ?_)
                | (refine wpList_store_all rfl 27 (.tmp 2) (.tmp 56) rfl w.heap.size rfl d rfl 27 (jsonV 5 b m s (some ⟨g', off, none⟩) na ll lc nn nc) hbx (by rw [d6]; kernel_rfl) (by rw [d6]; rfl) d1 ?_; intro w5 hT5))
              exact ⟨⟨i + 1, x, d, rfl, by omega, hJx, hFx, hT5.holds, (hT5.others _ (by omega)).trans hzx, gr_turned (hgw.trans hgx) hT5 (Nat.le_refl _), hrest ▸ hR⟩, by simp; omega⟩
            · have gn : (t : Int) < (nn : Int) := by omega
              have gl : ¬ (t : Int) < (ll : Int) := by omega
              clear hnames
              clear hw2
              by_cases hk5 : k = 5
              case neg =>
                have gk : (k != 5) = true := by simp [hk5]
                have gk2 : (k == 5) = false := by simp [hk5]
                rw [if_neg hk5] at hR
                subst hR
                clear hk5 hes h6 hl hlies hfx hpos hq
                go_wp2_with (refine wpList_store_all rfl 27 (.tmp 4) (.tmp 51) rfl (w.heap.size + 1) rfl zeroJ rfl 27 zeroJ hzx (by kernel_rfl) rfl one_zero ?_; intro w5 hT5)
                refine bodyPost_ret (results_row1 (p := 4) (t := 5) (by kernel_rfl) _ w5 (w.heap.size + 1) zeroJ _ _ rfl rfl hT5.holds Tryd.underlying27 rfl (by kernel_rfl)) rfl ?_
                exact ⟨gr_turned (hgw.trans hgx) hT5 (by omega), rfl⟩
              subst hk5
              rw [if_pos rfl, hpos] at hR
              simp only [List.getElem?_eq_getElem (show q < l.length by omega)] at hR
              have hx : l[q]? = some l[q] := List.getElem?_eq_getElem (by omega)
              have hce : es[q]? = some (es[q]'(by omega)) := List.getElem?_eq_getElem (by omega)
              have d6 := h6 _ (List.mem_of_getElem? hce)
              have d1 := es_one hes hl _ (List.mem_of_getElem? hce)
              have hJx := hl q _ _ hx hce
              have hFx := hfx _ (List.mem_of_getElem? hx)
              obtain ⟨g', off, rfl, hgS, hrng⟩ := hlies.elemG (hw.trans (hgw.trans hgx)) h6 hce
              have hixe : ∀ w, (Instr.indexAt 24 (.slice (some ⟨g', off, none⟩) ll lc) (.int .i64 (q : Int))).run Tryd.prog w = .ok (.pointer (some ⟨g', off + q * 6, none⟩)) w := ix_slice und24 size27 hq rfl
              generalize l[q] = x at *
              generalize es[q]'(by omega) = d at *
              clear hes h6 hl hlies hfx hx hce hpos
              go_wp2_with (first
                | (refine wpList_load_part rfl 27 (.tmp 55) rfl g' (off + q * 6) rfl d _ hrng Tryd.underlying27 rfl (by rw [d6]; kernel_rfl) ?_)
                | (refine wpList_store_all rfl 27 (.tmp 2) (.tmp 56) rfl w.heap.size rfl d rfl 27 (jsonV 5 b m s (some ⟨g', off, none⟩) na ll lc nn nc) hbx (by rw [d6]; kernel_rfl) (by rw [d6]; rfl) d1 ?_; intro w5 hT5))
              exact ⟨⟨i + 1, x, d, rfl, by omega, hJx, hFx, hT5.holds, (hT5.others _ (by omega)).trans hzx, gr_turned (hgw.trans hgx) hT5 (Nat.le_refl _), hrest ▸ hR⟩, by simp; omega⟩
          · have gn : ¬ (t : Int) < (nn : Int) := by omega
            clear hnames
            clear hw2
            by_cases hk5 : k = 5
            case neg =>
              have gk : (k != 5) = true := by simp [hk5]
              have gk2 : (k == 5) = false := by simp [hk5]
              rw [if_neg hk5] at hR
              subst hR
              clear hk5 hes h6 hl hlies hfx hpos hq
              go_wp2_with (refine wpList_store_all rfl 27 (.tmp 4) (.tmp 51) rfl (w.heap.size + 1) rfl zeroJ rfl 27 zeroJ hzx (by kernel_rfl) rfl one_zero ?_; intro w5 hT5)
              refine bodyPost_ret (results_row1 (p := 4) (t := 5) (by kernel_rfl) _ w5 (w.heap.size + 1) zeroJ _ _ rfl rfl hT5.holds Tryd.underlying27 rfl (by kernel_rfl)) rfl ?_
              exact ⟨gr_turned (hgw.trans hgx) hT5 (by omega), rfl⟩
            subst hk5
            rw [if_pos rfl, hpos] at hR
            simp only [List.getElem?_eq_getElem (show q < l.length by omega)] at hR
            have hx : l[q]? = some l[q] := List.getElem?_eq_getElem (by omega)
            have hce : es[q]? = some (es[q]'(by omega)) := List.getElem?_eq_getElem (by omega)
            have d6 := h6 _ (List.mem_of_getElem? hce)
            have d1 := es_one hes hl _ (List.mem_of_getElem? hce)
            have hJx := hl q _ _ hx hce
            have hFx := hfx _ (List.mem_of_getElem? hx)
            obtain ⟨g', off, rfl, hgS, hrng⟩ := hlies.elemG (hw.trans (hgw.trans hgx)) h6 hce
            have hixe : ∀ w, (Instr.indexAt 24 (.slice (some ⟨g', off, none⟩) ll lc) (.int .i64 (q : Int))).run Tryd.prog w = .ok (.pointer (some ⟨g', off + q * 6, none⟩)) w := ix_slice und24 size27 hq rfl
            generalize l[q] = x at *
            generalize es[q]'(by omega) = d at *
            clear hes h6 hl hlies hfx hx hce hpos
            go_wp2_with (first
              | (refine wpList_load_part rfl 27 (.tmp 55) rfl g' (off + q * 6) rfl d _ hrng Tryd.underlying27 rfl (by rw [d6]; kernel_rfl) ?_)
              | (refine wpList_store_all rfl 27 (.tmp 2) (.tmp 56) rfl w.heap.size rfl d rfl 27 (jsonV 5 b m s (some ⟨g', off, none⟩) na ll lc nn nc) hbx (by rw [d6]; kernel_rfl) (by rw [d6]; rfl) d1 ?_; intro w5 hT5))
            exact ⟨⟨i + 1, x, d, rfl, by omega, hJx, hFx, hT5.holds, (hT5.others _ (by omega)).trans hzx, gr_turned (hgw.trans hgx) hT5 (Nat.le_refl _), hrest ▸ hR⟩, by simp; omega⟩
    · have g1 : ¬ (i : Int) < (n : Int) := by omega
      rw [List.drop_of_length_le (by omega)] at hR
      have hR : some j' = RR := by
        cases j'; exact hR
      subst hR
      obtain ⟨cs', e, h6, h1⟩ := jat_cells hJr
      have : ds = cs' := by simpa using e
      subst this
      go_wp2_with (first
        | (refine wpList_load_part rfl 27 (.tmp 2) rfl w.heap.size 0 rfl ds _ (range_of hbr) Tryd.underlying27 rfl (by rw [h6]; kernel_rfl) ?_)
        | (refine wpList_store_all rfl 27 (.tmp 4) (.tmp 57) rfl (w.heap.size + 1) rfl ds rfl 27 zeroJ hzr (by rw [h6]; kernel_rfl) (by rw [h6]; rfl) h1 ?_; intro w5 hT5))
      refine bodyPost_ret (results_row1 (p := 4) (t := 5) (by kernel_rfl) _ w5 (w.heap.size + 1) ds _ _ rfl rfl hT5.holds Tryd.underlying27 rfl (by rw [h6]; kernel_rfl)) rfl ?_
      have := hzr.lt
      have hg5 := gr_turned hgw hT5 (by omega)
      exact ⟨hg5, _, rfl, (hJr.gr (hw.trans hg5)).mono fun k _ _ => ⟨trivial, rfl⟩⟩
end Go.Proofs.YtogippkapadolaaDoor
