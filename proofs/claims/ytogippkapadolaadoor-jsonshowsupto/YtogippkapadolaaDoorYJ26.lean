/- Whether a value is right, by the document (by gen_jsrright.py). -/
import Derived.Test.YtogippkapadolaaDoorYJ25
namespace Go.Proofs.YtogippkapadolaaDoor
open Go.RowKit

def q29_11 : Array Oper := #[{ dst := some 101, op := Op.fieldAddr 27 (Operand.tmp 2) 5, type := 0, pos := "ref.go:22", after := #[], guard := none }, { dst := some 102, op := Op.load 25 (Operand.tmp 101), type := 25, pos := "ref.go:22", after := #[{ on := 0, ground := Ground.data }], guard := none }, { dst := some 103, op := Op.move (Operand.tmp 5), type := 3, pos := "ref.go:22", after := #[], guard := none }, { dst := some 104, op := Op.indexAddr 25 (Operand.tmp 102) (Operand.tmp 103), type := 0, pos := "ref.go:22", after := #[{ on := 1, ground := Ground.data }, { on := 2, ground := Ground.data }], guard := none }, { dst := some 105, op := Op.load 9 (Operand.tmp 104), type := 9, pos := "ref.go:22", after := #[{ on := 3, ground := Ground.data }], guard := none }, { dst := some 106, op := Op.fieldAddr 27 (Operand.tmp 2) 5, type := 0, pos := "ref.go:22", after := #[], guard := none }, { dst := some 107, op := Op.load 25 (Operand.tmp 106), type := 25, pos := "ref.go:22", after := #[{ on := 5, ground := Ground.data }], guard := none }, { dst := some 108, op := Op.move (Operand.tmp 6), type := 3, pos := "ref.go:22", after := #[], guard := none }, { dst := some 109, op := Op.indexAddr 25 (Operand.tmp 107) (Operand.tmp 108), type := 0, pos := "ref.go:22", after := #[{ on := 6, ground := Ground.data }, { on := 7, ground := Ground.data }], guard := none }, { dst := some 110, op := Op.load 9 (Operand.tmp 109), type := 9, pos := "ref.go:22", after := #[{ on := 8, ground := Ground.data }], guard := none }, { dst := some 111, op := Op.binOp BinOp.eql 9 (Operand.tmp 105) (Operand.tmp 110) 9, type := 4, pos := "ref.go:22", after := #[{ on := 4, ground := Ground.data }, { on := 9, ground := Ground.data }], guard := none }]
set_option maxRecDepth 100000 in
theorem r29_11 {Q : Exit → Act → World → Prop} {a0 : Act} {w : World} (hz : a0.tmps.size = 129) {N2 i k g off n lc : Nat} {m1 m2 : List UInt8} (h102 : ∀ y, Gr w y → y.cell? ⟨N2, 5, none⟩ = some (.slice (some ⟨g, off, none⟩) n lc)) (hi : i < n) (hk : k < n) (h105 : ∀ y, Gr w y → y.cell? ⟨g, off + i, none⟩ = some (.string (strL m1))) (h110 : ∀ y, Gr w y → y.cell? ⟨g, off + k, none⟩ = some (.string (strL m2))) (e2 : a0.eval (.tmp 2) = .pointer (some ⟨N2, 0, none⟩)) (e5 : a0.eval (.tmp 5) = .int .i64 (i : Int)) (e6 : a0.eval (.tmp 6) = .int .i64 (k : Int)) (hend : ∀ ac wz, After [101, 102, 103, 104, 105, 106, 107, 108, 109, 110, 111] a0 ac → ac.eval (.tmp 111) = .bool ((strL m1).toList == (strL m2).toList) → Gr w wz → Q .normal ac wz) : (Code.region 11 q29_11 true).wp Tryd.prog Q a0 w := by
  refine drawn_by (by kernel_rfl) (by kernel_rfl) (by kernel_rfl) [101, 102, 103, 104, 105, 106, 107, 108, 109, 110, 111] (fun | 101 => .val (.pointer (some ⟨N2, 5, none⟩)) | 102 => .val (.slice (some ⟨g, off, none⟩) n lc) | 103 => .val (.int .i64 (i : Int)) | 104 => .val (.pointer (some ⟨g, off + i, none⟩)) | 105 => .val (.string (strL m1)) | 106 => .val (.pointer (some ⟨N2, 5, none⟩)) | 107 => .val (.slice (some ⟨g, off, none⟩) n lc) | 108 => .val (.int .i64 (k : Int)) | 109 => .val (.pointer (some ⟨g, off + k, none⟩)) | 110 => .val (.string (strL m2)) | 111 => .val (.bool ((strL m1).toList == (strL m2).toList)) | _ => .any) (by kernel_rfl) (List.forall_mem_cons.2 ⟨?s0, List.forall_mem_cons.2 ⟨?s1, List.forall_mem_cons.2 ⟨?s2, List.forall_mem_cons.2 ⟨?s3, List.forall_mem_cons.2 ⟨?s4, List.forall_mem_cons.2 ⟨?s5, List.forall_mem_cons.2 ⟨?s6, List.forall_mem_cons.2 ⟨?s7, List.forall_mem_cons.2 ⟨?s8, List.forall_mem_cons.2 ⟨?s9, List.forall_mem_cons.2 ⟨?s10, fun o ho => nomatch ho⟩⟩⟩⟩⟩⟩⟩⟩⟩⟩⟩) ?e
  case s0 => exact sa_fa 27 (.tmp 2) 5 101 (.pointer (some ⟨N2, 0, none⟩)) (.pointer (some ⟨N2, 5, none⟩)) rfl rfl rfl (.old 2 _ (by decide) e2) (by intro w; kernel_rfl) rfl
  case s1 => exact sa_loadc 25 (.tmp 101) 102 (N2) (5) (.slice (some ⟨g, off, none⟩) n lc) rfl rfl rfl (by intro w; kernel_rfl) (.new 101 (by kernel_rfl) (by rw [hz]; decide)) h102 rfl
  case s2 => exact sa_move (.tmp 5) 103 (.val (.int .i64 (i : Int))) (.inl rfl) rfl rfl (.old 5 _ (by decide) e5) rfl
  case s3 => exact sa_ixa 25 (.tmp 102) (.tmp 103) 104 (.slice (some ⟨g, off, none⟩) n lc) (.int .i64 (i : Int)) (.pointer (some ⟨g, off + i, none⟩)) rfl rfl rfl (.new 102 (by kernel_rfl) (by rw [hz]; decide)) (.new 103 (by kernel_rfl) (by rw [hz]; decide)) (ix_slice und25 size25 hi (by omega)) rfl
  case s4 => exact sa_loadc 9 (.tmp 104) 105 (g) (off + i) (.string (strL m1)) rfl rfl rfl (by intro w; kernel_rfl) (.new 104 (by kernel_rfl) (by rw [hz]; decide)) h105 rfl
  case s5 => exact sa_fa 27 (.tmp 2) 5 106 (.pointer (some ⟨N2, 0, none⟩)) (.pointer (some ⟨N2, 5, none⟩)) rfl rfl rfl (.old 2 _ (by decide) e2) (by intro w; kernel_rfl) rfl
  case s6 => exact sa_loadc 25 (.tmp 106) 107 (N2) (5) (.slice (some ⟨g, off, none⟩) n lc) rfl rfl rfl (by intro w; kernel_rfl) (.new 106 (by kernel_rfl) (by rw [hz]; decide)) h102 rfl
  case s7 => exact sa_move (.tmp 6) 108 (.val (.int .i64 (k : Int))) (.inl rfl) rfl rfl (.old 6 _ (by decide) e6) rfl
  case s8 => exact sa_ixa 25 (.tmp 107) (.tmp 108) 109 (.slice (some ⟨g, off, none⟩) n lc) (.int .i64 (k : Int)) (.pointer (some ⟨g, off + k, none⟩)) rfl rfl rfl (.new 107 (by kernel_rfl) (by rw [hz]; decide)) (.new 108 (by kernel_rfl) (by rw [hz]; decide)) (ix_slice und25 size25 hk (by omega)) rfl
  case s9 => exact sa_loadc 9 (.tmp 109) 110 (g) (off + k) (.string (strL m2)) rfl rfl rfl (by intro w; kernel_rfl) (.new 109 (by kernel_rfl) (by rw [hz]; decide)) h110 rfl
  case s10 => exact sa_bin .eql 9 (.tmp 105) (.tmp 110) 9 111 (.string (strL m1)) (.string (strL m2)) (.bool ((strL m1).toList == (strL m2).toList)) rfl rfl rfl (.new 105 (by kernel_rfl) (by rw [hz]; decide)) (.new 110 (by kernel_rfl) (by rw [hz]; decide)) (fun w => guard9e _ _ _ _ w) (fun w => eql9 _ _ w) rfl
  case e =>
  intro ac wz hA hgr hv
  exact hend ac wz hA (hv 111 (by kernel_rfl) (by rw [hz]; decide)) hgr
def RightR (w0 : World) (j : J) (v : Value) : Prop := ∀ (w : World) (h : Nat), Gr w0 w → h ≤ 16 → Calls Tryd.prog 29 #[v, .int .i64 (h : Int)] w fun e w' => e = .returned (.bool (rightP (16 - h) j)) ∧ Gr w w'
set_option maxHeartbeats 8000000 in
set_option maxRecDepth 100000 in
theorem rright_lo {w0 : World} {S : Nat → Prop} {k : Int} {b : Bool} {n : Int} {s : List UInt8} {l : List J} {names : List (List UInt8)} {la na : Option Addr} {lc nc : Nat} {es : List (List Value)} (hk : k < 0) (hes : es.length = l.length) (h6' : ∀ c ∈ es, c.length = 6) (hlies : Lies w0 S la es.flatten) (hnames : Lies w0 S na (names.map strV1))
    (hl : l.length ≤ 9223372036854775806) (hnn : names.length ≤ 9223372036854775806) (ih : ∀ (i : Nat) (x : J) (c : List Value), l[i]? = some x → es[i]? = some c → RightR w0 x (.agg c.toArray)) (w : World) (hw : Gr w0 w) (h : Nat) (hh : h ≤ 16) :
    Calls Tryd.prog 29 #[.agg #[.int .i64 k, .bool b, .int .i64 n, .string (strL s), .slice la l.length lc, .slice na names.length nc], .int .i64 (h : Int)] w fun e w' => e = .returned (.bool (!badB k b n s l.length names.length (16 - h) && decide names.Nodup && rightsP (16 - h + 1) l)) ∧ Gr w w' := by
  have use_ := And.intro hes (And.intro h6' (And.intro hlies (And.intro hnames (And.intro hl (And.intro hnn (And.intro ih (And.intro hw hh)))))))
  clear use_
  obtain ⟨ll, hll0⟩ : ∃ q, l.length = q := ⟨_, rfl⟩
  obtain ⟨nl, hnl0⟩ : ∃ q, names.length = q := ⟨_, rfl⟩
  rw [hll0, hnl0]
  rw [hll0] at hl
  rw [hnl0] at hnn
  have gk : k < 0 := hk
  rw [show badB k b n s ll nl (16 - h) = true by simp [badB, hk]]
  clear ih hes h6' hlies hnames hll0 hnl0
  go_enter Tryd.func29, Tryd.ntmps29
  go_wp2
  go_ret
  exact ⟨rfl, Gr.alloc _ _⟩
set_option maxHeartbeats 8000000 in
set_option maxRecDepth 100000 in
theorem rright_hi {w0 : World} {S : Nat → Prop} {k : Int} {b : Bool} {n : Int} {s : List UInt8} {l : List J} {names : List (List UInt8)} {la na : Option Addr} {lc nc : Nat} {es : List (List Value)} (hk : k > 5) (hes : es.length = l.length) (h6' : ∀ c ∈ es, c.length = 6) (hlies : Lies w0 S la es.flatten) (hnames : Lies w0 S na (names.map strV1))
    (hl : l.length ≤ 9223372036854775806) (hnn : names.length ≤ 9223372036854775806) (ih : ∀ (i : Nat) (x : J) (c : List Value), l[i]? = some x → es[i]? = some c → RightR w0 x (.agg c.toArray)) (w : World) (hw : Gr w0 w) (h : Nat) (hh : h ≤ 16) :
    Calls Tryd.prog 29 #[.agg #[.int .i64 k, .bool b, .int .i64 n, .string (strL s), .slice la l.length lc, .slice na names.length nc], .int .i64 (h : Int)] w fun e w' => e = .returned (.bool (!badB k b n s l.length names.length (16 - h) && decide names.Nodup && rightsP (16 - h + 1) l)) ∧ Gr w w' := by
  have use_ := And.intro hes (And.intro h6' (And.intro hlies (And.intro hnames (And.intro hl (And.intro hnn (And.intro ih (And.intro hw hh)))))))
  clear use_
  obtain ⟨ll, hll0⟩ : ∃ q, l.length = q := ⟨_, rfl⟩
  obtain ⟨nl, hnl0⟩ : ∃ q, names.length = q := ⟨_, rfl⟩
  rw [hll0, hnl0]
  rw [hll0] at hl
  rw [hnl0] at hnn
  have gk : ¬ k < 0 := by omega
  have gk2 : k > 5 := hk
  rw [show badB k b n s ll nl (16 - h) = true by simp [badB, hk]]
  clear ih hes h6' hlies hnames hll0 hnl0
  go_enter Tryd.func29, Tryd.ntmps29
  go_wp2
  go_ret
  exact ⟨rfl, Gr.alloc _ _⟩
set_option maxHeartbeats 8000000 in
set_option maxRecDepth 100000 in
theorem rright_0 {w0 : World} {S : Nat → Prop} {b : Bool} {n : Int} {s : List UInt8} {l : List J} {names : List (List UInt8)} {la na : Option Addr} {lc nc : Nat} {es : List (List Value)}  (hes : es.length = l.length) (h6' : ∀ c ∈ es, c.length = 6) (hlies : Lies w0 S la es.flatten) (hnames : Lies w0 S na (names.map strV1))
    (hl : l.length ≤ 9223372036854775806) (hnn : names.length ≤ 9223372036854775806) (ih : ∀ (i : Nat) (x : J) (c : List Value), l[i]? = some x → es[i]? = some c → RightR w0 x (.agg c.toArray)) (w : World) (hw : Gr w0 w) (h : Nat) (hh : h ≤ 16) :
    Calls Tryd.prog 29 #[.agg #[.int .i64 0, .bool b, .int .i64 n, .string (strL s), .slice la l.length lc, .slice na names.length nc], .int .i64 (h : Int)] w fun e w' => e = .returned (.bool (!badB 0 b n s l.length names.length (16 - h) && decide names.Nodup && rightsP (16 - h + 1) l)) ∧ Gr w w' := by
  have use_ := And.intro hes (And.intro h6' (And.intro hlies (And.intro hnames (And.intro hl (And.intro hnn (And.intro ih (And.intro hw hh)))))))
  clear use_
  obtain ⟨ll, hll0⟩ : ∃ q, l.length = q := ⟨_, rfl⟩
  obtain ⟨nl, hnl0⟩ : ∃ q, names.length = q := ⟨_, rfl⟩
  rw [hll0, hnl0]
  rw [hll0] at hl
  rw [hnl0] at hnn
  cases b with
  | true =>
    rw [show badB 0 true n s ll nl (16 - h) = true by simp [badB]]
    clear ih hes h6' hlies hnames hll0 hnl0
    go_enter Tryd.func29, Tryd.ntmps29
    go_wp2
    go_ret
    exact ⟨rfl, Gr.alloc _ _⟩
  | false =>
    by_cases hn : n = 0
    · subst hn
      by_cases hs : s = []
      · subst hs
        have es0 : strL [] = ⟨#[]⟩ := rfl
        rw [es0]
        by_cases hll : 0 < ll
        · have gl : (ll : Int) > 0 := by omega
          rw [show badB 0 false 0 [] ll nl (16 - h) = true by simp [badB, hll]]
          clear ih hes h6' hlies hnames hll0 hnl0
          go_enter Tryd.func29, Tryd.ntmps29
          go_wp2
          go_ret
          exact ⟨rfl, Gr.alloc _ _⟩
        · have gl : ¬ (ll : Int) > 0 := by omega
          by_cases hnl : 0 < nl
          · have gnl : (nl : Int) > 0 := by omega
            rw [show badB 0 false 0 [] ll nl (16 - h) = true by simp [badB, hll, hnl]]
            clear ih hes h6' hlies hnames hll0 hnl0
            go_enter Tryd.func29, Tryd.ntmps29
            go_wp2
            go_ret
            exact ⟨rfl, Gr.alloc _ _⟩
          · have gnl : ¬ (nl : Int) > 0 := by omega
            have hbf : badB 0 false 0 [] ll nl (16 - h) = false := by simp [badB, hll, hnl]
            obtain ⟨X, hX⟩ : ∃ X, (decide names.Nodup && rightsP (16 - h + 1) l) = X := ⟨_, rfl⟩
            rw [hbf, Bool.not_false, Bool.true_and, hX]
            clear hbf
            have hg0 := Gr.alloc w (.cells #[.int .i64 0, .bool false, .int .i64 0, .string ⟨#[]⟩, .slice la ll lc, .slice na nl nc] 27)
            have h4 : ∀ y, Gr (w.alloc (.cells #[.int .i64 0, .bool false, .int .i64 0, .string ⟨#[]⟩, .slice la ll lc, .slice na nl nc] 27)) y → _ := cell_new27 w #[.int .i64 0, .bool false, .int .i64 0, .string ⟨#[]⟩, .slice la ll lc, .slice na nl nc] 4 _ rfl
            have h5 : ∀ y, Gr (w.alloc (.cells #[.int .i64 0, .bool false, .int .i64 0, .string ⟨#[]⟩, .slice la ll lc, .slice na nl nc] 27)) y → _ := cell_new27 w #[.int .i64 0, .bool false, .int .i64 0, .string ⟨#[]⟩, .slice la ll lc, .slice na nl nc] 5 _ rfl
            obtain rfl : nl = 0 := by omega
            obtain rfl : ll = 0 := by omega
            have e1 : names = [] := List.eq_nil_of_length_eq_zero hnl0
            have e2 : l = [] := List.eq_nil_of_length_eq_zero hll0
            subst e1 e2
            have hX : true = X := hX
            subst hX
            clear ih hes h6' hlies hnames hll0 hnl0
            go_enter Tryd.func29, Tryd.ntmps29
            go_wp2_with fail
            go_loopw [5] (fun c wr => c = .int .i64 0 ∧ Gr (w.alloc (.cells #[.int .i64 0, .bool false, .int .i64 0, .string ⟨#[]⟩, .slice la 0 lc, .slice na 0 nc] 27)) wr) (fun c _ => 0)
            case atStart => exact ⟨rfl, Gr.refl _⟩
            case round =>
              obtain ⟨rfl, hg⟩ := hrel
              have c5 := h5 wr hg
              obtain ⟨w1, hw1e⟩ : ∃ w1, w1 = wr := ⟨_, rfl⟩
              subst hw1e
              go_wp2_with fail
              go_loopw [7] (fun c wr => c = .int .i64 0 ∧ Gr (w.alloc (.cells #[.int .i64 0, .bool false, .int .i64 0, .string ⟨#[]⟩, .slice la 0 lc, .slice na 0 nc] 27)) wr) (fun c _ => 0)
              case atStart => exact ⟨rfl, hg⟩
              case round =>
                obtain ⟨rfl, hg2⟩ := hrel
                have c4 := h4 wr hg2
                go_wp2
                go_ret
                exact ⟨rfl, hg0.trans hg2⟩
      · have gs := str_ne hs
        have gs2 := str_em hs
        rw [show badB 0 false 0 s ll nl (16 - h) = true by simp [badB, hs]]
        clear ih hes h6' hlies hnames hll0 hnl0
        go_enter Tryd.func29, Tryd.ntmps29
        go_wp2
        go_ret
        exact ⟨rfl, Gr.alloc _ _⟩
    · have gn : (n != 0) = true := by simp [hn]
      rw [show badB 0 false n s ll nl (16 - h) = true by simp [badB, hn]]
      clear ih hes h6' hlies hnames hll0 hnl0
      go_enter Tryd.func29, Tryd.ntmps29
      go_wp2
      go_ret
      exact ⟨rfl, Gr.alloc _ _⟩
set_option maxHeartbeats 8000000 in
set_option maxRecDepth 100000 in
theorem rright_1 {w0 : World} {S : Nat → Prop} {b : Bool} {n : Int} {s : List UInt8} {l : List J} {names : List (List UInt8)} {la na : Option Addr} {lc nc : Nat} {es : List (List Value)}  (hes : es.length = l.length) (h6' : ∀ c ∈ es, c.length = 6) (hlies : Lies w0 S la es.flatten) (hnames : Lies w0 S na (names.map strV1))
    (hl : l.length ≤ 9223372036854775806) (hnn : names.length ≤ 9223372036854775806) (ih : ∀ (i : Nat) (x : J) (c : List Value), l[i]? = some x → es[i]? = some c → RightR w0 x (.agg c.toArray)) (w : World) (hw : Gr w0 w) (h : Nat) (hh : h ≤ 16) :
    Calls Tryd.prog 29 #[.agg #[.int .i64 1, .bool b, .int .i64 n, .string (strL s), .slice la l.length lc, .slice na names.length nc], .int .i64 (h : Int)] w fun e w' => e = .returned (.bool (!badB 1 b n s l.length names.length (16 - h) && decide names.Nodup && rightsP (16 - h + 1) l)) ∧ Gr w w' := by
  have use_ := And.intro hes (And.intro h6' (And.intro hlies (And.intro hnames (And.intro hl (And.intro hnn (And.intro ih (And.intro hw hh)))))))
  clear use_
  obtain ⟨ll, hll0⟩ : ∃ q, l.length = q := ⟨_, rfl⟩
  obtain ⟨nl, hnl0⟩ : ∃ q, names.length = q := ⟨_, rfl⟩
  rw [hll0, hnl0]
  rw [hll0] at hl
  rw [hnl0] at hnn
  cases b with
  | true =>
    by_cases hn : n = 0
    · subst hn
      by_cases hs : s = []
      · subst hs
        have es0 : strL [] = ⟨#[]⟩ := rfl
        rw [es0]
        by_cases hll : 0 < ll
        · have gl : (ll : Int) > 0 := by omega
          rw [show badB 1 true 0 [] ll nl (16 - h) = true by simp [badB, hll]]
          clear ih hes h6' hlies hnames hll0 hnl0
          go_enter Tryd.func29, Tryd.ntmps29
          go_wp2
          go_ret
          exact ⟨rfl, Gr.alloc _ _⟩
        · have gl : ¬ (ll : Int) > 0 := by omega
          by_cases hnl : 0 < nl
          · have gnl : (nl : Int) > 0 := by omega
            rw [show badB 1 true 0 [] ll nl (16 - h) = true by simp [badB, hll, hnl]]
            clear ih hes h6' hlies hnames hll0 hnl0
            go_enter Tryd.func29, Tryd.ntmps29
            go_wp2
            go_ret
            exact ⟨rfl, Gr.alloc _ _⟩
          · have gnl : ¬ (nl : Int) > 0 := by omega
            have hbf : badB 1 true 0 [] ll nl (16 - h) = false := by simp [badB, hll, hnl]
            obtain ⟨X, hX⟩ : ∃ X, (decide names.Nodup && rightsP (16 - h + 1) l) = X := ⟨_, rfl⟩
            rw [hbf, Bool.not_false, Bool.true_and, hX]
            clear hbf
            have hg0 := Gr.alloc w (.cells #[.int .i64 1, .bool true, .int .i64 0, .string ⟨#[]⟩, .slice la ll lc, .slice na nl nc] 27)
            have h4 : ∀ y, Gr (w.alloc (.cells #[.int .i64 1, .bool true, .int .i64 0, .string ⟨#[]⟩, .slice la ll lc, .slice na nl nc] 27)) y → _ := cell_new27 w #[.int .i64 1, .bool true, .int .i64 0, .string ⟨#[]⟩, .slice la ll lc, .slice na nl nc] 4 _ rfl
            have h5 : ∀ y, Gr (w.alloc (.cells #[.int .i64 1, .bool true, .int .i64 0, .string ⟨#[]⟩, .slice la ll lc, .slice na nl nc] 27)) y → _ := cell_new27 w #[.int .i64 1, .bool true, .int .i64 0, .string ⟨#[]⟩, .slice la ll lc, .slice na nl nc] 5 _ rfl
            obtain rfl : nl = 0 := by omega
            obtain rfl : ll = 0 := by omega
            have e1 : names = [] := List.eq_nil_of_length_eq_zero hnl0
            have e2 : l = [] := List.eq_nil_of_length_eq_zero hll0
            subst e1 e2
            have hX : true = X := hX
            subst hX
            clear ih hes h6' hlies hnames hll0 hnl0
            go_enter Tryd.func29, Tryd.ntmps29
            go_wp2_with fail
            go_loopw [5] (fun c wr => c = .int .i64 0 ∧ Gr (w.alloc (.cells #[.int .i64 1, .bool true, .int .i64 0, .string ⟨#[]⟩, .slice la 0 lc, .slice na 0 nc] 27)) wr) (fun c _ => 0)
            case atStart => exact ⟨rfl, Gr.refl _⟩
            case round =>
              obtain ⟨rfl, hg⟩ := hrel
              have c5 := h5 wr hg
              obtain ⟨w1, hw1e⟩ : ∃ w1, w1 = wr := ⟨_, rfl⟩
              subst hw1e
              go_wp2_with fail
              go_loopw [7] (fun c wr => c = .int .i64 0 ∧ Gr (w.alloc (.cells #[.int .i64 1, .bool true, .int .i64 0, .string ⟨#[]⟩, .slice la 0 lc, .slice na 0 nc] 27)) wr) (fun c _ => 0)
              case atStart => exact ⟨rfl, hg⟩
              case round =>
                obtain ⟨rfl, hg2⟩ := hrel
                have c4 := h4 wr hg2
                go_wp2
                go_ret
                exact ⟨rfl, hg0.trans hg2⟩
      · have gs := str_ne hs
        have gs2 := str_em hs
        rw [show badB 1 true 0 s ll nl (16 - h) = true by simp [badB, hs]]
        clear ih hes h6' hlies hnames hll0 hnl0
        go_enter Tryd.func29, Tryd.ntmps29
        go_wp2
        go_ret
        exact ⟨rfl, Gr.alloc _ _⟩
    · have gn : (n != 0) = true := by simp [hn]
      rw [show badB 1 true n s ll nl (16 - h) = true by simp [badB, hn]]
      clear ih hes h6' hlies hnames hll0 hnl0
      go_enter Tryd.func29, Tryd.ntmps29
      go_wp2
      go_ret
      exact ⟨rfl, Gr.alloc _ _⟩
  | false =>
    by_cases hn : n = 0
    · subst hn
      by_cases hs : s = []
      · subst hs
        have es0 : strL [] = ⟨#[]⟩ := rfl
        rw [es0]
        by_cases hll : 0 < ll
        · have gl : (ll : Int) > 0 := by omega
          rw [show badB 1 false 0 [] ll nl (16 - h) = true by simp [badB, hll]]
          clear ih hes h6' hlies hnames hll0 hnl0
          go_enter Tryd.func29, Tryd.ntmps29
          go_wp2
          go_ret
          exact ⟨rfl, Gr.alloc _ _⟩
        · have gl : ¬ (ll : Int) > 0 := by omega
          by_cases hnl : 0 < nl
          · have gnl : (nl : Int) > 0 := by omega
            rw [show badB 1 false 0 [] ll nl (16 - h) = true by simp [badB, hll, hnl]]
            clear ih hes h6' hlies hnames hll0 hnl0
            go_enter Tryd.func29, Tryd.ntmps29
            go_wp2
            go_ret
            exact ⟨rfl, Gr.alloc _ _⟩
          · have gnl : ¬ (nl : Int) > 0 := by omega
            have hbf : badB 1 false 0 [] ll nl (16 - h) = false := by simp [badB, hll, hnl]
            obtain ⟨X, hX⟩ : ∃ X, (decide names.Nodup && rightsP (16 - h + 1) l) = X := ⟨_, rfl⟩
            rw [hbf, Bool.not_false, Bool.true_and, hX]
            clear hbf
            have hg0 := Gr.alloc w (.cells #[.int .i64 1, .bool false, .int .i64 0, .string ⟨#[]⟩, .slice la ll lc, .slice na nl nc] 27)
            have h4 : ∀ y, Gr (w.alloc (.cells #[.int .i64 1, .bool false, .int .i64 0, .string ⟨#[]⟩, .slice la ll lc, .slice na nl nc] 27)) y → _ := cell_new27 w #[.int .i64 1, .bool false, .int .i64 0, .string ⟨#[]⟩, .slice la ll lc, .slice na nl nc] 4 _ rfl
            have h5 : ∀ y, Gr (w.alloc (.cells #[.int .i64 1, .bool false, .int .i64 0, .string ⟨#[]⟩, .slice la ll lc, .slice na nl nc] 27)) y → _ := cell_new27 w #[.int .i64 1, .bool false, .int .i64 0, .string ⟨#[]⟩, .slice la ll lc, .slice na nl nc] 5 _ rfl
            obtain rfl : nl = 0 := by omega
            obtain rfl : ll = 0 := by omega
            have e1 : names = [] := List.eq_nil_of_length_eq_zero hnl0
            have e2 : l = [] := List.eq_nil_of_length_eq_zero hll0
            subst e1 e2
            have hX : true = X := hX
            subst hX
            clear ih hes h6' hlies hnames hll0 hnl0
            go_enter Tryd.func29, Tryd.ntmps29
            go_wp2_with fail
            go_loopw [5] (fun c wr => c = .int .i64 0 ∧ Gr (w.alloc (.cells #[.int .i64 1, .bool false, .int .i64 0, .string ⟨#[]⟩, .slice la 0 lc, .slice na 0 nc] 27)) wr) (fun c _ => 0)
            case atStart => exact ⟨rfl, Gr.refl _⟩
            case round =>
              obtain ⟨rfl, hg⟩ := hrel
              have c5 := h5 wr hg
              obtain ⟨w1, hw1e⟩ : ∃ w1, w1 = wr := ⟨_, rfl⟩
              subst hw1e
              go_wp2_with fail
              go_loopw [7] (fun c wr => c = .int .i64 0 ∧ Gr (w.alloc (.cells #[.int .i64 1, .bool false, .int .i64 0, .string ⟨#[]⟩, .slice la 0 lc, .slice na 0 nc] 27)) wr) (fun c _ => 0)
              case atStart => exact ⟨rfl, hg⟩
              case round =>
                obtain ⟨rfl, hg2⟩ := hrel
                have c4 := h4 wr hg2
                go_wp2
                go_ret
                exact ⟨rfl, hg0.trans hg2⟩
      · have gs := str_ne hs
        have gs2 := str_em hs
        rw [show badB 1 false 0 s ll nl (16 - h) = true by simp [badB, hs]]
        clear ih hes h6' hlies hnames hll0 hnl0
        go_enter Tryd.func29, Tryd.ntmps29
        go_wp2
        go_ret
        exact ⟨rfl, Gr.alloc _ _⟩
    · have gn : (n != 0) = true := by simp [hn]
      rw [show badB 1 false n s ll nl (16 - h) = true by simp [badB, hn]]
      clear ih hes h6' hlies hnames hll0 hnl0
      go_enter Tryd.func29, Tryd.ntmps29
      go_wp2
      go_ret
      exact ⟨rfl, Gr.alloc _ _⟩
set_option maxHeartbeats 8000000 in
set_option maxRecDepth 100000 in
theorem rright_2 {w0 : World} {S : Nat → Prop} {b : Bool} {n : Int} {s : List UInt8} {l : List J} {names : List (List UInt8)} {la na : Option Addr} {lc nc : Nat} {es : List (List Value)}  (hes : es.length = l.length) (h6' : ∀ c ∈ es, c.length = 6) (hlies : Lies w0 S la es.flatten) (hnames : Lies w0 S na (names.map strV1))
    (hl : l.length ≤ 9223372036854775806) (hnn : names.length ≤ 9223372036854775806) (ih : ∀ (i : Nat) (x : J) (c : List Value), l[i]? = some x → es[i]? = some c → RightR w0 x (.agg c.toArray)) (w : World) (hw : Gr w0 w) (h : Nat) (hh : h ≤ 16) :
    Calls Tryd.prog 29 #[.agg #[.int .i64 2, .bool b, .int .i64 n, .string (strL s), .slice la l.length lc, .slice na names.length nc], .int .i64 (h : Int)] w fun e w' => e = .returned (.bool (!badB 2 b n s l.length names.length (16 - h) && decide names.Nodup && rightsP (16 - h + 1) l)) ∧ Gr w w' := by
  have use_ := And.intro hes (And.intro h6' (And.intro hlies (And.intro hnames (And.intro hl (And.intro hnn (And.intro ih (And.intro hw hh)))))))
  clear use_
  obtain ⟨ll, hll0⟩ : ∃ q, l.length = q := ⟨_, rfl⟩
  obtain ⟨nl, hnl0⟩ : ∃ q, names.length = q := ⟨_, rfl⟩
  rw [hll0, hnl0]
  rw [hll0] at hl
  rw [hnl0] at hnn
  cases b with
  | true =>
    rw [show badB 2 true n s ll nl (16 - h) = true by simp [badB]]
    clear ih hes h6' hlies hnames hll0 hnl0
    go_enter Tryd.func29, Tryd.ntmps29
    go_wp2
    go_ret
    exact ⟨rfl, Gr.alloc _ _⟩
  | false =>
    by_cases hn : n = 0
    · subst hn
      by_cases hs : s = []
      · subst hs
        have es0 : strL [] = ⟨#[]⟩ := rfl
        rw [es0]
        by_cases hll : 0 < ll
        · have gl : (ll : Int) > 0 := by omega
          rw [show badB 2 false 0 [] ll nl (16 - h) = true by simp [badB, hll]]
          clear ih hes h6' hlies hnames hll0 hnl0
          go_enter Tryd.func29, Tryd.ntmps29
          go_wp2
          go_ret
          exact ⟨rfl, Gr.alloc _ _⟩
        · have gl : ¬ (ll : Int) > 0 := by omega
          by_cases hnl : 0 < nl
          · have gnl : (nl : Int) > 0 := by omega
            rw [show badB 2 false 0 [] ll nl (16 - h) = true by simp [badB, hll, hnl]]
            clear ih hes h6' hlies hnames hll0 hnl0
            go_enter Tryd.func29, Tryd.ntmps29
            go_wp2
            go_ret
            exact ⟨rfl, Gr.alloc _ _⟩
          · have gnl : ¬ (nl : Int) > 0 := by omega
            have hbf : badB 2 false 0 [] ll nl (16 - h) = false := by simp [badB, hll, hnl]
            obtain ⟨X, hX⟩ : ∃ X, (decide names.Nodup && rightsP (16 - h + 1) l) = X := ⟨_, rfl⟩
            rw [hbf, Bool.not_false, Bool.true_and, hX]
            clear hbf
            have hg0 := Gr.alloc w (.cells #[.int .i64 2, .bool false, .int .i64 0, .string ⟨#[]⟩, .slice la ll lc, .slice na nl nc] 27)
            have h4 : ∀ y, Gr (w.alloc (.cells #[.int .i64 2, .bool false, .int .i64 0, .string ⟨#[]⟩, .slice la ll lc, .slice na nl nc] 27)) y → _ := cell_new27 w #[.int .i64 2, .bool false, .int .i64 0, .string ⟨#[]⟩, .slice la ll lc, .slice na nl nc] 4 _ rfl
            have h5 : ∀ y, Gr (w.alloc (.cells #[.int .i64 2, .bool false, .int .i64 0, .string ⟨#[]⟩, .slice la ll lc, .slice na nl nc] 27)) y → _ := cell_new27 w #[.int .i64 2, .bool false, .int .i64 0, .string ⟨#[]⟩, .slice la ll lc, .slice na nl nc] 5 _ rfl
            obtain rfl : nl = 0 := by omega
            obtain rfl : ll = 0 := by omega
            have e1 : names = [] := List.eq_nil_of_length_eq_zero hnl0
            have e2 : l = [] := List.eq_nil_of_length_eq_zero hll0
            subst e1 e2
            have hX : true = X := hX
            subst hX
            clear ih hes h6' hlies hnames hll0 hnl0
            go_enter Tryd.func29, Tryd.ntmps29
            go_wp2_with fail
            go_loopw [5] (fun c wr => c = .int .i64 0 ∧ Gr (w.alloc (.cells #[.int .i64 2, .bool false, .int .i64 0, .string ⟨#[]⟩, .slice la 0 lc, .slice na 0 nc] 27)) wr) (fun c _ => 0)
            case atStart => exact ⟨rfl, Gr.refl _⟩
            case round =>
              obtain ⟨rfl, hg⟩ := hrel
              have c5 := h5 wr hg
              obtain ⟨w1, hw1e⟩ : ∃ w1, w1 = wr := ⟨_, rfl⟩
              subst hw1e
              go_wp2_with fail
              go_loopw [7] (fun c wr => c = .int .i64 0 ∧ Gr (w.alloc (.cells #[.int .i64 2, .bool false, .int .i64 0, .string ⟨#[]⟩, .slice la 0 lc, .slice na 0 nc] 27)) wr) (fun c _ => 0)
              case atStart => exact ⟨rfl, hg⟩
              case round =>
                obtain ⟨rfl, hg2⟩ := hrel
                have c4 := h4 wr hg2
                go_wp2
                go_ret
                exact ⟨rfl, hg0.trans hg2⟩
      · have gs := str_ne hs
        have gs2 := str_em hs
        rw [show badB 2 false 0 s ll nl (16 - h) = true by simp [badB, hs]]
        clear ih hes h6' hlies hnames hll0 hnl0
        go_enter Tryd.func29, Tryd.ntmps29
        go_wp2
        go_ret
        exact ⟨rfl, Gr.alloc _ _⟩
    · have gn : (n != 0) = true := by simp [hn]
      by_cases hs : s = []
      · subst hs
        have es0 : strL [] = ⟨#[]⟩ := rfl
        rw [es0]
        by_cases hll : 0 < ll
        · have gl : (ll : Int) > 0 := by omega
          rw [show badB 2 false n [] ll nl (16 - h) = true by simp [badB, hn, hll]]
          clear ih hes h6' hlies hnames hll0 hnl0
          go_enter Tryd.func29, Tryd.ntmps29
          go_wp2
          go_ret
          exact ⟨rfl, Gr.alloc _ _⟩
        · have gl : ¬ (ll : Int) > 0 := by omega
          by_cases hnl : 0 < nl
          · have gnl : (nl : Int) > 0 := by omega
            rw [show badB 2 false n [] ll nl (16 - h) = true by simp [badB, hn, hll, hnl]]
            clear ih hes h6' hlies hnames hll0 hnl0
            go_enter Tryd.func29, Tryd.ntmps29
            go_wp2
            go_ret
            exact ⟨rfl, Gr.alloc _ _⟩
          · have gnl : ¬ (nl : Int) > 0 := by omega
            have hbf : badB 2 false n [] ll nl (16 - h) = false := by simp [badB, hn, hll, hnl]
            obtain ⟨X, hX⟩ : ∃ X, (decide names.Nodup && rightsP (16 - h + 1) l) = X := ⟨_, rfl⟩
            rw [hbf, Bool.not_false, Bool.true_and, hX]
            clear hbf
            have hg0 := Gr.alloc w (.cells #[.int .i64 2, .bool false, .int .i64 n, .string ⟨#[]⟩, .slice la ll lc, .slice na nl nc] 27)
            have h4 : ∀ y, Gr (w.alloc (.cells #[.int .i64 2, .bool false, .int .i64 n, .string ⟨#[]⟩, .slice la ll lc, .slice na nl nc] 27)) y → _ := cell_new27 w #[.int .i64 2, .bool false, .int .i64 n, .string ⟨#[]⟩, .slice la ll lc, .slice na nl nc] 4 _ rfl
            have h5 : ∀ y, Gr (w.alloc (.cells #[.int .i64 2, .bool false, .int .i64 n, .string ⟨#[]⟩, .slice la ll lc, .slice na nl nc] 27)) y → _ := cell_new27 w #[.int .i64 2, .bool false, .int .i64 n, .string ⟨#[]⟩, .slice la ll lc, .slice na nl nc] 5 _ rfl
            obtain rfl : nl = 0 := by omega
            obtain rfl : ll = 0 := by omega
            have e1 : names = [] := List.eq_nil_of_length_eq_zero hnl0
            have e2 : l = [] := List.eq_nil_of_length_eq_zero hll0
            subst e1 e2
            have hX : true = X := hX
            subst hX
            clear ih hes h6' hlies hnames hll0 hnl0
            go_enter Tryd.func29, Tryd.ntmps29
            go_wp2_with fail
            go_loopw [5] (fun c wr => c = .int .i64 0 ∧ Gr (w.alloc (.cells #[.int .i64 2, .bool false, .int .i64 n, .string ⟨#[]⟩, .slice la 0 lc, .slice na 0 nc] 27)) wr) (fun c _ => 0)
            case atStart => exact ⟨rfl, Gr.refl _⟩
            case round =>
              obtain ⟨rfl, hg⟩ := hrel
              have c5 := h5 wr hg
              obtain ⟨w1, hw1e⟩ : ∃ w1, w1 = wr := ⟨_, rfl⟩
              subst hw1e
              go_wp2_with fail
              go_loopw [7] (fun c wr => c = .int .i64 0 ∧ Gr (w.alloc (.cells #[.int .i64 2, .bool false, .int .i64 n, .string ⟨#[]⟩, .slice la 0 lc, .slice na 0 nc] 27)) wr) (fun c _ => 0)
              case atStart => exact ⟨rfl, hg⟩
              case round =>
                obtain ⟨rfl, hg2⟩ := hrel
                have c4 := h4 wr hg2
                go_wp2
                go_ret
                exact ⟨rfl, hg0.trans hg2⟩
      · have gs := str_ne hs
        have gs2 := str_em hs
        rw [show badB 2 false n s ll nl (16 - h) = true by simp [badB, hn, hs]]
        clear ih hes h6' hlies hnames hll0 hnl0
        go_enter Tryd.func29, Tryd.ntmps29
        go_wp2
        go_ret
        exact ⟨rfl, Gr.alloc _ _⟩
set_option maxHeartbeats 8000000 in
set_option maxRecDepth 100000 in
theorem rright_3 {w0 : World} {S : Nat → Prop} {b : Bool} {n : Int} {s : List UInt8} {l : List J} {names : List (List UInt8)} {la na : Option Addr} {lc nc : Nat} {es : List (List Value)}  (hes : es.length = l.length) (h6' : ∀ c ∈ es, c.length = 6) (hlies : Lies w0 S la es.flatten) (hnames : Lies w0 S na (names.map strV1))
    (hl : l.length ≤ 9223372036854775806) (hnn : names.length ≤ 9223372036854775806) (ih : ∀ (i : Nat) (x : J) (c : List Value), l[i]? = some x → es[i]? = some c → RightR w0 x (.agg c.toArray)) (w : World) (hw : Gr w0 w) (h : Nat) (hh : h ≤ 16) :
    Calls Tryd.prog 29 #[.agg #[.int .i64 3, .bool b, .int .i64 n, .string (strL s), .slice la l.length lc, .slice na names.length nc], .int .i64 (h : Int)] w fun e w' => e = .returned (.bool (!badB 3 b n s l.length names.length (16 - h) && decide names.Nodup && rightsP (16 - h + 1) l)) ∧ Gr w w' := by
  have use_ := And.intro hes (And.intro h6' (And.intro hlies (And.intro hnames (And.intro hl (And.intro hnn (And.intro ih (And.intro hw hh)))))))
  clear use_
  obtain ⟨ll, hll0⟩ : ∃ q, l.length = q := ⟨_, rfl⟩
  obtain ⟨nl, hnl0⟩ : ∃ q, names.length = q := ⟨_, rfl⟩
  rw [hll0, hnl0]
  rw [hll0] at hl
  rw [hnl0] at hnn
  cases b with
  | true =>
    rw [show badB 3 true n s ll nl (16 - h) = true by simp [badB]]
    clear ih hes h6' hlies hnames hll0 hnl0
    go_enter Tryd.func29, Tryd.ntmps29
    go_wp2
    go_ret
    exact ⟨rfl, Gr.alloc _ _⟩
  | false =>
    by_cases hn : n = 0
    · subst hn
      by_cases hs : s = []
      · subst hs
        have es0 : strL [] = ⟨#[]⟩ := rfl
        rw [es0]
        by_cases hll : 0 < ll
        · have gl : (ll : Int) > 0 := by omega
          rw [show badB 3 false 0 [] ll nl (16 - h) = true by simp [badB, hll]]
          clear ih hes h6' hlies hnames hll0 hnl0
          go_enter Tryd.func29, Tryd.ntmps29
          go_wp2
          go_ret
          exact ⟨rfl, Gr.alloc _ _⟩
        · have gl : ¬ (ll : Int) > 0 := by omega
          by_cases hnl : 0 < nl
          · have gnl : (nl : Int) > 0 := by omega
            rw [show badB 3 false 0 [] ll nl (16 - h) = true by simp [badB, hll, hnl]]
            clear ih hes h6' hlies hnames hll0 hnl0
            go_enter Tryd.func29, Tryd.ntmps29
            go_wp2
            go_ret
            exact ⟨rfl, Gr.alloc _ _⟩
          · have gnl : ¬ (nl : Int) > 0 := by omega
            have hbf : badB 3 false 0 [] ll nl (16 - h) = false := by simp [badB, hll, hnl]
            obtain ⟨X, hX⟩ : ∃ X, (decide names.Nodup && rightsP (16 - h + 1) l) = X := ⟨_, rfl⟩
            rw [hbf, Bool.not_false, Bool.true_and, hX]
            clear hbf
            have hg0 := Gr.alloc w (.cells #[.int .i64 3, .bool false, .int .i64 0, .string ⟨#[]⟩, .slice la ll lc, .slice na nl nc] 27)
            have h4 : ∀ y, Gr (w.alloc (.cells #[.int .i64 3, .bool false, .int .i64 0, .string ⟨#[]⟩, .slice la ll lc, .slice na nl nc] 27)) y → _ := cell_new27 w #[.int .i64 3, .bool false, .int .i64 0, .string ⟨#[]⟩, .slice la ll lc, .slice na nl nc] 4 _ rfl
            have h5 : ∀ y, Gr (w.alloc (.cells #[.int .i64 3, .bool false, .int .i64 0, .string ⟨#[]⟩, .slice la ll lc, .slice na nl nc] 27)) y → _ := cell_new27 w #[.int .i64 3, .bool false, .int .i64 0, .string ⟨#[]⟩, .slice la ll lc, .slice na nl nc] 5 _ rfl
            obtain rfl : nl = 0 := by omega
            obtain rfl : ll = 0 := by omega
            have e1 : names = [] := List.eq_nil_of_length_eq_zero hnl0
            have e2 : l = [] := List.eq_nil_of_length_eq_zero hll0
            subst e1 e2
            have hX : true = X := hX
            subst hX
            clear ih hes h6' hlies hnames hll0 hnl0
            go_enter Tryd.func29, Tryd.ntmps29
            go_wp2_with fail
            go_loopw [5] (fun c wr => c = .int .i64 0 ∧ Gr (w.alloc (.cells #[.int .i64 3, .bool false, .int .i64 0, .string ⟨#[]⟩, .slice la 0 lc, .slice na 0 nc] 27)) wr) (fun c _ => 0)
            case atStart => exact ⟨rfl, Gr.refl _⟩
            case round =>
              obtain ⟨rfl, hg⟩ := hrel
              have c5 := h5 wr hg
              obtain ⟨w1, hw1e⟩ : ∃ w1, w1 = wr := ⟨_, rfl⟩
              subst hw1e
              go_wp2_with fail
              go_loopw [7] (fun c wr => c = .int .i64 0 ∧ Gr (w.alloc (.cells #[.int .i64 3, .bool false, .int .i64 0, .string ⟨#[]⟩, .slice la 0 lc, .slice na 0 nc] 27)) wr) (fun c _ => 0)
              case atStart => exact ⟨rfl, hg⟩
              case round =>
                obtain ⟨rfl, hg2⟩ := hrel
                have c4 := h4 wr hg2
                go_wp2
                go_ret
                exact ⟨rfl, hg0.trans hg2⟩
      · have gs := str_ne hs
        have gs2 := str_em hs
        by_cases hll : 0 < ll
        · have gl : (ll : Int) > 0 := by omega
          rw [show badB 3 false 0 s ll nl (16 - h) = true by simp [badB, hs, hll]]
          clear ih hes h6' hlies hnames hll0 hnl0
          go_enter Tryd.func29, Tryd.ntmps29
          go_wp2
          go_ret
          exact ⟨rfl, Gr.alloc _ _⟩
        · have gl : ¬ (ll : Int) > 0 := by omega
          by_cases hnl : 0 < nl
          · have gnl : (nl : Int) > 0 := by omega
            rw [show badB 3 false 0 s ll nl (16 - h) = true by simp [badB, hs, hll, hnl]]
            clear ih hes h6' hlies hnames hll0 hnl0
            go_enter Tryd.func29, Tryd.ntmps29
            go_wp2
            go_ret
            exact ⟨rfl, Gr.alloc _ _⟩
          · have gnl : ¬ (nl : Int) > 0 := by omega
            have hbf : badB 3 false 0 s ll nl (16 - h) = false := by simp [badB, hs, hll, hnl]
            obtain ⟨X, hX⟩ : ∃ X, (decide names.Nodup && rightsP (16 - h + 1) l) = X := ⟨_, rfl⟩
            rw [hbf, Bool.not_false, Bool.true_and, hX]
            clear hbf
            have hg0 := Gr.alloc w (.cells #[.int .i64 3, .bool false, .int .i64 0, .string (strL s), .slice la ll lc, .slice na nl nc] 27)
            have h4 : ∀ y, Gr (w.alloc (.cells #[.int .i64 3, .bool false, .int .i64 0, .string (strL s), .slice la ll lc, .slice na nl nc] 27)) y → _ := cell_new27 w #[.int .i64 3, .bool false, .int .i64 0, .string (strL s), .slice la ll lc, .slice na nl nc] 4 _ rfl
            have h5 : ∀ y, Gr (w.alloc (.cells #[.int .i64 3, .bool false, .int .i64 0, .string (strL s), .slice la ll lc, .slice na nl nc] 27)) y → _ := cell_new27 w #[.int .i64 3, .bool false, .int .i64 0, .string (strL s), .slice la ll lc, .slice na nl nc] 5 _ rfl
            obtain rfl : nl = 0 := by omega
            obtain rfl : ll = 0 := by omega
            have e1 : names = [] := List.eq_nil_of_length_eq_zero hnl0
            have e2 : l = [] := List.eq_nil_of_length_eq_zero hll0
            subst e1 e2
            have hX : true = X := hX
            subst hX
            clear ih hes h6' hlies hnames hll0 hnl0
            go_enter Tryd.func29, Tryd.ntmps29
            go_wp2_with fail
            go_loopw [5] (fun c wr => c = .int .i64 0 ∧ Gr (w.alloc (.cells #[.int .i64 3, .bool false, .int .i64 0, .string (strL s), .slice la 0 lc, .slice na 0 nc] 27)) wr) (fun c _ => 0)
            case atStart => exact ⟨rfl, Gr.refl _⟩
            case round =>
              obtain ⟨rfl, hg⟩ := hrel
              have c5 := h5 wr hg
              obtain ⟨w1, hw1e⟩ : ∃ w1, w1 = wr := ⟨_, rfl⟩
              subst hw1e
              go_wp2_with fail
              go_loopw [7] (fun c wr => c = .int .i64 0 ∧ Gr (w.alloc (.cells #[.int .i64 3, .bool false, .int .i64 0, .string (strL s), .slice la 0 lc, .slice na 0 nc] 27)) wr) (fun c _ => 0)
              case atStart => exact ⟨rfl, hg⟩
              case round =>
                obtain ⟨rfl, hg2⟩ := hrel
                have c4 := h4 wr hg2
                go_wp2
                go_ret
                exact ⟨rfl, hg0.trans hg2⟩
    · have gn : (n != 0) = true := by simp [hn]
      rw [show badB 3 false n s ll nl (16 - h) = true by simp [badB, hn]]
      clear ih hes h6' hlies hnames hll0 hnl0
      go_enter Tryd.func29, Tryd.ntmps29
      go_wp2
      go_ret
      exact ⟨rfl, Gr.alloc _ _⟩
set_option maxHeartbeats 8000000 in
set_option maxRecDepth 100000 in
theorem rright_4 {w0 : World} {S : Nat → Prop} {b : Bool} {n : Int} {s : List UInt8} {l : List J} {names : List (List UInt8)} {la na : Option Addr} {lc nc : Nat} {es : List (List Value)}  (hes : es.length = l.length) (h6' : ∀ c ∈ es, c.length = 6) (hlies : Lies w0 S la es.flatten) (hnames : Lies w0 S na (names.map strV1))
    (hl : l.length ≤ 9223372036854775806) (hnn : names.length ≤ 9223372036854775806) (ih : ∀ (i : Nat) (x : J) (c : List Value), l[i]? = some x → es[i]? = some c → RightR w0 x (.agg c.toArray)) (w : World) (hw : Gr w0 w) (h : Nat) (hh : h ≤ 16) :
    Calls Tryd.prog 29 #[.agg #[.int .i64 4, .bool b, .int .i64 n, .string (strL s), .slice la l.length lc, .slice na names.length nc], .int .i64 (h : Int)] w fun e w' => e = .returned (.bool (!badB 4 b n s l.length names.length (16 - h) && decide names.Nodup && rightsP (16 - h + 1) l)) ∧ Gr w w' := by
  obtain ⟨ll, hll0⟩ : ∃ q, l.length = q := ⟨_, rfl⟩
  obtain ⟨nl, hnl0⟩ : ∃ q, names.length = q := ⟨_, rfl⟩
  rw [hll0, hnl0]
  rw [hll0] at hl
  rw [hnl0] at hnn
  cases b with
  | true =>
    rw [show badB 4 true n s ll nl (16 - h) = true by simp [badB]]
    clear ih hes h6' hlies hnames hll0 hnl0
    go_enter Tryd.func29, Tryd.ntmps29
    go_wp2
    go_ret
    exact ⟨rfl, Gr.alloc _ _⟩
  | false =>
    by_cases hn : n = 0
    · subst hn
      by_cases hs : s = []
      · subst hs
        have es0 : strL [] = ⟨#[]⟩ := rfl
        rw [es0]
        by_cases hll : 0 < ll
        · have gl : (ll : Int) > 0 := by omega
          by_cases hnl : 0 < nl
          · have gnl : (nl : Int) > 0 := by omega
            rw [show badB 4 false 0 [] ll nl (16 - h) = true by simp [badB, hll, hnl]]
            clear ih hes h6' hlies hnames hll0 hnl0
            go_enter Tryd.func29, Tryd.ntmps29
            go_wp2
            go_ret
            exact ⟨rfl, Gr.alloc _ _⟩
          · have gnl : ¬ (nl : Int) > 0 := by omega
            by_cases hp : h = 0
            · have gp : ((h : Int) == 0) = true := by simp [hp]
              rw [show badB 4 false 0 [] ll nl (16 - h) = true by simp [badB, hll, hnl, hp]]
              clear ih hes h6' hlies hnames hll0 hnl0
              go_enter Tryd.func29, Tryd.ntmps29
              go_wp2
              go_ret
              exact ⟨rfl, Gr.alloc _ _⟩
            · have gp : ((h : Int) == 0) = false := by simp [hp]
              have hp2 : ¬ 16 ≤ 16 - h := by omega
              have hbf : badB 4 false 0 [] ll nl (16 - h) = false := by simp [badB, hll, hnl, hp2]
              obtain ⟨X, hX⟩ : ∃ X, (decide names.Nodup && rightsP (16 - h + 1) l) = X := ⟨_, rfl⟩
              rw [hbf, Bool.not_false, Bool.true_and, hX]
              clear hbf
              have hg0 := Gr.alloc w (.cells #[.int .i64 4, .bool false, .int .i64 0, .string ⟨#[]⟩, .slice la ll lc, .slice na nl nc] 27)
              have h4 : ∀ y, Gr (w.alloc (.cells #[.int .i64 4, .bool false, .int .i64 0, .string ⟨#[]⟩, .slice la ll lc, .slice na nl nc] 27)) y → _ := cell_new27 w #[.int .i64 4, .bool false, .int .i64 0, .string ⟨#[]⟩, .slice la ll lc, .slice na nl nc] 4 _ rfl
              have h5 : ∀ y, Gr (w.alloc (.cells #[.int .i64 4, .bool false, .int .i64 0, .string ⟨#[]⟩, .slice la ll lc, .slice na nl nc] 27)) y → _ := cell_new27 w #[.int .i64 4, .bool false, .int .i64 0, .string ⟨#[]⟩, .slice la ll lc, .slice na nl nc] 5 _ rfl
              obtain rfl : nl = 0 := by omega
              have e1 : names = [] := List.eq_nil_of_length_eq_zero hnl0
              subst e1
              have hX : rightsP (16 - h + 1) l = X := hX
              clear hnames hnl0
              go_enter Tryd.func29, Tryd.ntmps29
              go_wp2_with fail
              clear gl gnl hll hnl
              go_loopw [5] (fun c wr => c = .int .i64 0 ∧ Gr (w.alloc (.cells #[.int .i64 4, .bool false, .int .i64 0, .string ⟨#[]⟩, .slice la ll lc, .slice na 0 nc] 27)) wr) (fun c _ => 0)
              case atStart => exact ⟨rfl, Gr.refl _⟩
              case round =>
                obtain ⟨rfl, hg⟩ := hrel
                have c5 := h5 wr hg
                obtain ⟨w1, hw1e⟩ : ∃ w1, w1 = wr := ⟨_, rfl⟩
                subst hw1e
                go_wp2_with fail
                go_loopw [7] (fun c wx => ∃ t : Nat, c = .int .i64 (t : Int) ∧ t ≤ ll ∧ rightsP (16 - h + 1) (l.drop t) = X ∧ Gr w1 wx) (fun c _ => ll - (intOf c).toNat)
                case atStart => exact ⟨0, rfl, by omega, by rw [List.drop_zero]; exact hX, Gr.refl _⟩
                case round =>
                  obtain ⟨wx, hwxe⟩ : ∃ wx, wx = wr := ⟨_, rfl⟩
                  subst hwxe
                  obtain ⟨t, rfl, ht, hE, hgx⟩ := hrel
                  have hgw := hg0.trans (hg.trans hgx)
                  have c4 := h4 wx (hg.trans hgx)
                  rcases Nat.lt_or_ge t ll with hlt | hge2
                  · have hx : l[t]? = some l[t] := List.getElem?_eq_getElem (by omega)
                    have hce : es[t]? = some (es[t]'(by omega)) := List.getElem?_eq_getElem (by omega)
                    have h6 := h6' _ (List.mem_of_getElem? hce)
                    have ihx := ih t _ _ hx hce wx (h - 1) (hw.trans hgw) (by omega)
                    obtain ⟨g, off, rfl, hgS, hrng⟩ := hlies.elemG (hw.trans hgw) h6' hce
                    have hixa : ∀ w, (Instr.indexAt 24 (.slice (some ⟨g, off, none⟩) ll lc) (.int .i64 (t : Int))).run Tryd.prog w = .ok (.pointer (some ⟨g, off + t * 6, none⟩)) w := ix_slice und24 size27 hlt rfl
                    rw [rights_drop (by omega)] at hE
                    rw [show 16 - (h - 1) = 16 - h + 1 by omega] at ihx
                    have g2 : (t : Int) < (ll : Int) := by omega
                    have hw2 : IntKind.i64.wrap ((t : Int) + 1) = ((t + 1 : Nat) : Int) := by rw [wrap_in (by omega) (by omega)]; omega
                    have hw3 : IntKind.i64.wrap ((h : Int) - 1) = ((h - 1 : Nat) : Int) := by rw [wrap_in (by omega) (by omega)]; omega
                    generalize l[t] = x at *
                    generalize es[t]'(by omega) = c at *
                    generalize ((h - 1 : Nat) : Int) = hm1 at *
                    clear ih hlies
                    clear hp hp2 gp
                    cases hr : rightP (16 - h + 1) x with
                    | false =>
                      rw [hr] at hE ihx
                      have hE : X = false := by simpa using hE.symm
                      subst hE
                      go_wp2_with (first
                        | (refine wpList_load_part rfl 27 (.tmp 122) rfl g (off + t * 6) rfl c _ hrng Tryd.underlying27 rfl (by rw [h6]; kernel_rfl) ?_)
                        | (go_at_call 29; refine ihx.mono ?_; rintro e w3 ⟨rfl, hg3⟩))
                      go_ret
                      exact ⟨rfl, hgw.trans hg3⟩
                    | true =>
                      rw [hr] at hE ihx
                      rw [Bool.true_and] at hE
                      go_wp2_with (first
                        | (refine wpList_load_part rfl 27 (.tmp 122) rfl g (off + t * 6) rfl c _ hrng Tryd.underlying27 rfl (by rw [h6]; kernel_rfl) ?_)
                        | (go_at_call 29; refine ihx.mono ?_; rintro e w3 ⟨rfl, hg3⟩))
                      exact ⟨⟨t + 1, rfl, by omega, hE, hgx.trans hg3⟩, by simp; omega⟩
                  · have g2 : ¬ (t : Int) < (ll : Int) := by omega
                    rw [List.drop_of_length_le (by omega), rightsP] at hE
                    subst hE
                    go_wp2
                    go_ret
                    exact ⟨rfl, hgw⟩
        · have gl : ¬ (ll : Int) > 0 := by omega
          by_cases hnl : 0 < nl
          · have gnl : (nl : Int) > 0 := by omega
            rw [show badB 4 false 0 [] ll nl (16 - h) = true by simp [badB, hll, hnl]]
            clear ih hes h6' hlies hnames hll0 hnl0
            go_enter Tryd.func29, Tryd.ntmps29
            go_wp2
            go_ret
            exact ⟨rfl, Gr.alloc _ _⟩
          · have gnl : ¬ (nl : Int) > 0 := by omega
            by_cases hp : h = 0
            · have gp : ((h : Int) == 0) = true := by simp [hp]
              rw [show badB 4 false 0 [] ll nl (16 - h) = true by simp [badB, hll, hnl, hp]]
              clear ih hes h6' hlies hnames hll0 hnl0
              go_enter Tryd.func29, Tryd.ntmps29
              go_wp2
              go_ret
              exact ⟨rfl, Gr.alloc _ _⟩
            · have gp : ((h : Int) == 0) = false := by simp [hp]
              have hp2 : ¬ 16 ≤ 16 - h := by omega
              have hbf : badB 4 false 0 [] ll nl (16 - h) = false := by simp [badB, hll, hnl, hp2]
              obtain ⟨X, hX⟩ : ∃ X, (decide names.Nodup && rightsP (16 - h + 1) l) = X := ⟨_, rfl⟩
              rw [hbf, Bool.not_false, Bool.true_and, hX]
              clear hbf
              have hg0 := Gr.alloc w (.cells #[.int .i64 4, .bool false, .int .i64 0, .string ⟨#[]⟩, .slice la ll lc, .slice na nl nc] 27)
              have h4 : ∀ y, Gr (w.alloc (.cells #[.int .i64 4, .bool false, .int .i64 0, .string ⟨#[]⟩, .slice la ll lc, .slice na nl nc] 27)) y → _ := cell_new27 w #[.int .i64 4, .bool false, .int .i64 0, .string ⟨#[]⟩, .slice la ll lc, .slice na nl nc] 4 _ rfl
              have h5 : ∀ y, Gr (w.alloc (.cells #[.int .i64 4, .bool false, .int .i64 0, .string ⟨#[]⟩, .slice la ll lc, .slice na nl nc] 27)) y → _ := cell_new27 w #[.int .i64 4, .bool false, .int .i64 0, .string ⟨#[]⟩, .slice la ll lc, .slice na nl nc] 5 _ rfl
              obtain rfl : nl = 0 := by omega
              have e1 : names = [] := List.eq_nil_of_length_eq_zero hnl0
              subst e1
              have hX : rightsP (16 - h + 1) l = X := hX
              clear hnames hnl0
              go_enter Tryd.func29, Tryd.ntmps29
              go_wp2_with fail
              clear gl gnl hll hnl
              go_loopw [5] (fun c wr => c = .int .i64 0 ∧ Gr (w.alloc (.cells #[.int .i64 4, .bool false, .int .i64 0, .string ⟨#[]⟩, .slice la ll lc, .slice na 0 nc] 27)) wr) (fun c _ => 0)
              case atStart => exact ⟨rfl, Gr.refl _⟩
              case round =>
                obtain ⟨rfl, hg⟩ := hrel
                have c5 := h5 wr hg
                obtain ⟨w1, hw1e⟩ : ∃ w1, w1 = wr := ⟨_, rfl⟩
                subst hw1e
                go_wp2_with fail
                go_loopw [7] (fun c wx => ∃ t : Nat, c = .int .i64 (t : Int) ∧ t ≤ ll ∧ rightsP (16 - h + 1) (l.drop t) = X ∧ Gr w1 wx) (fun c _ => ll - (intOf c).toNat)
                case atStart => exact ⟨0, rfl, by omega, by rw [List.drop_zero]; exact hX, Gr.refl _⟩
                case round =>
                  obtain ⟨wx, hwxe⟩ : ∃ wx, wx = wr := ⟨_, rfl⟩
                  subst hwxe
                  obtain ⟨t, rfl, ht, hE, hgx⟩ := hrel
                  have hgw := hg0.trans (hg.trans hgx)
                  have c4 := h4 wx (hg.trans hgx)
                  rcases Nat.lt_or_ge t ll with hlt | hge2
                  · have hx : l[t]? = some l[t] := List.getElem?_eq_getElem (by omega)
                    have hce : es[t]? = some (es[t]'(by omega)) := List.getElem?_eq_getElem (by omega)
                    have h6 := h6' _ (List.mem_of_getElem? hce)
                    have ihx := ih t _ _ hx hce wx (h - 1) (hw.trans hgw) (by omega)
                    obtain ⟨g, off, rfl, hgS, hrng⟩ := hlies.elemG (hw.trans hgw) h6' hce
                    have hixa : ∀ w, (Instr.indexAt 24 (.slice (some ⟨g, off, none⟩) ll lc) (.int .i64 (t : Int))).run Tryd.prog w = .ok (.pointer (some ⟨g, off + t * 6, none⟩)) w := ix_slice und24 size27 hlt rfl
                    rw [rights_drop (by omega)] at hE
                    rw [show 16 - (h - 1) = 16 - h + 1 by omega] at ihx
                    have g2 : (t : Int) < (ll : Int) := by omega
                    have hw2 : IntKind.i64.wrap ((t : Int) + 1) = ((t + 1 : Nat) : Int) := by rw [wrap_in (by omega) (by omega)]; omega
                    have hw3 : IntKind.i64.wrap ((h : Int) - 1) = ((h - 1 : Nat) : Int) := by rw [wrap_in (by omega) (by omega)]; omega
                    generalize l[t] = x at *
                    generalize es[t]'(by omega) = c at *
                    generalize ((h - 1 : Nat) : Int) = hm1 at *
                    clear ih hlies
                    clear hp hp2 gp
                    cases hr : rightP (16 - h + 1) x with
                    | false =>
                      rw [hr] at hE ihx
                      have hE : X = false := by simpa using hE.symm
                      subst hE
                      go_wp2_with (first
                        | (refine wpList_load_part rfl 27 (.tmp 122) rfl g (off + t * 6) rfl c _ hrng Tryd.underlying27 rfl (by rw [h6]; kernel_rfl) ?_)
                        | (go_at_call 29; refine ihx.mono ?_; rintro e w3 ⟨rfl, hg3⟩))
                      go_ret
                      exact ⟨rfl, hgw.trans hg3⟩
                    | true =>
                      rw [hr] at hE ihx
                      rw [Bool.true_and] at hE
                      go_wp2_with (first
                        | (refine wpList_load_part rfl 27 (.tmp 122) rfl g (off + t * 6) rfl c _ hrng Tryd.underlying27 rfl (by rw [h6]; kernel_rfl) ?_)
                        | (go_at_call 29; refine ihx.mono ?_; rintro e w3 ⟨rfl, hg3⟩))
                      exact ⟨⟨t + 1, rfl, by omega, hE, hgx.trans hg3⟩, by simp; omega⟩
                  · have g2 : ¬ (t : Int) < (ll : Int) := by omega
                    rw [List.drop_of_length_le (by omega), rightsP] at hE
                    subst hE
                    go_wp2
                    go_ret
                    exact ⟨rfl, hgw⟩
      · have gs := str_ne hs
        have gs2 := str_em hs
        rw [show badB 4 false 0 s ll nl (16 - h) = true by simp [badB, hs]]
        clear ih hes h6' hlies hnames hll0 hnl0
        go_enter Tryd.func29, Tryd.ntmps29
        go_wp2
        go_ret
        exact ⟨rfl, Gr.alloc _ _⟩
    · have gn : (n != 0) = true := by simp [hn]
      rw [show badB 4 false n s ll nl (16 - h) = true by simp [badB, hn]]
      clear ih hes h6' hlies hnames hll0 hnl0
      go_enter Tryd.func29, Tryd.ntmps29
      go_wp2
      go_ret
      exact ⟨rfl, Gr.alloc _ _⟩
set_option maxHeartbeats 8000000 in
set_option maxRecDepth 100000 in
theorem rright_5 {w0 : World} {S : Nat → Prop} {b : Bool} {n : Int} {s : List UInt8} {l : List J} {names : List (List UInt8)} {la na : Option Addr} {lc nc : Nat} {es : List (List Value)}  (hes : es.length = l.length) (h6' : ∀ c ∈ es, c.length = 6) (hlies : Lies w0 S la es.flatten) (hnames : Lies w0 S na (names.map strV1))
    (hl : l.length ≤ 9223372036854775806) (hnn : names.length ≤ 9223372036854775806) (ih : ∀ (i : Nat) (x : J) (c : List Value), l[i]? = some x → es[i]? = some c → RightR w0 x (.agg c.toArray)) (w : World) (hw : Gr w0 w) (h : Nat) (hh : h ≤ 16) :
    Calls Tryd.prog 29 #[.agg #[.int .i64 5, .bool b, .int .i64 n, .string (strL s), .slice la l.length lc, .slice na names.length nc], .int .i64 (h : Int)] w fun e w' => e = .returned (.bool (!badB 5 b n s l.length names.length (16 - h) && decide names.Nodup && rightsP (16 - h + 1) l)) ∧ Gr w w' := by
  obtain ⟨ll, hll0⟩ : ∃ q, l.length = q := ⟨_, rfl⟩
  obtain ⟨nl, hnl0⟩ : ∃ q, names.length = q := ⟨_, rfl⟩
  rw [hll0, hnl0]
  rw [hll0] at hl
  rw [hnl0] at hnn
  cases b with
  | true =>
    rw [show badB 5 true n s ll nl (16 - h) = true by simp [badB]]
    clear ih hes h6' hlies hnames hll0 hnl0
    go_enter Tryd.func29, Tryd.ntmps29
    go_wp2
    go_ret
    exact ⟨rfl, Gr.alloc _ _⟩
  | false =>
    by_cases hn : n = 0
    · subst hn
      by_cases hs : s = []
      · subst hs
        have es0 : strL [] = ⟨#[]⟩ := rfl
        rw [es0]
        by_cases hll : 0 < ll
        · have gl : (ll : Int) > 0 := by omega
          by_cases hnl : 0 < nl
          · have gnl : (nl : Int) > 0 := by omega
            by_cases hne : nl = ll
            · have gne : ((nl : Int) != (ll : Int)) = false := by simp [hne]
              by_cases hp : h = 0
              · have gp : ((h : Int) == 0) = true := by simp [hp]
                rw [show badB 5 false 0 [] ll nl (16 - h) = true by simp [badB, hll, hne, hp]]
                clear ih hes h6' hlies hnames hll0 hnl0 hne
                go_enter Tryd.func29, Tryd.ntmps29
                go_wp2
                go_ret
                exact ⟨rfl, Gr.alloc _ _⟩
              · have gp : ((h : Int) == 0) = false := by simp [hp]
                have hp2 : ¬ 16 ≤ 16 - h := by omega
                have hbf : badB 5 false 0 [] ll nl (16 - h) = false := by simp [badB, hll, hne, hp2]
                have hne9 : ll = nl := by omega
                subst hne9
                obtain ⟨X, hX⟩ : ∃ X, (decide names.Nodup && rightsP (16 - h + 1) l) = X := ⟨_, rfl⟩
                rw [hbf, Bool.not_false, Bool.true_and, hX]
                clear hbf
                have hg0 := Gr.alloc w (.cells #[.int .i64 5, .bool false, .int .i64 0, .string ⟨#[]⟩, .slice la ll lc, .slice na ll nc] 27)
                have h4 : ∀ y, Gr (w.alloc (.cells #[.int .i64 5, .bool false, .int .i64 0, .string ⟨#[]⟩, .slice la ll lc, .slice na ll nc] 27)) y → _ := cell_new27 w #[.int .i64 5, .bool false, .int .i64 0, .string ⟨#[]⟩, .slice la ll lc, .slice na ll nc] 4 _ rfl
                have h5 : ∀ y, Gr (w.alloc (.cells #[.int .i64 5, .bool false, .int .i64 0, .string ⟨#[]⟩, .slice la ll lc, .slice na ll nc] 27)) y → _ := cell_new27 w #[.int .i64 5, .bool false, .int .i64 0, .string ⟨#[]⟩, .slice la ll lc, .slice na ll nc] 5 _ rfl
                go_enter Tryd.func29, Tryd.ntmps29
                go_wp2_with fail
                clear gl gnl gne hne hll hnl
                go_loopw [5] (fun c wr => ∃ i : Nat, c = .int .i64 (i : Int) ∧ i ≤ ll ∧ (names.take i).Nodup ∧ Gr (w.alloc (.cells #[.int .i64 5, .bool false, .int .i64 0, .string ⟨#[]⟩, .slice la ll lc, .slice na ll nc] 27)) wr) (fun c _ => ll - (intOf c).toNat)
                case atStart => exact ⟨0, rfl, by omega, by simp, Gr.refl _⟩
                case round =>
                  obtain ⟨i, rfl, hi, hnd, hg⟩ := hrel
                  obtain ⟨w1, hw1e⟩ : ∃ w1, w1 = wr := ⟨_, rfl⟩
                  subst hw1e
                  have c5 := h5 w1 hg
                  rcases Nat.lt_or_ge i ll with hlt | hge
                  · have g1 : (i : Int) < (ll : Int) := by omega
                    have hw1 : IntKind.i64.wrap ((i : Int) + 1) = ((i + 1 : Nat) : Int) := by rw [wrap_in (by omega) (by omega)]; omega
                    obtain ⟨g1', o1, rfl, _, _⟩ := lies_str hnames (hw.trans (hg0.trans hg)) (i := i) (by omega)
                    have f1 : ∀ y, Gr w1 y → y.cell? ⟨g1', o1 + i, none⟩ = some (.string (strL (names[i]'(by omega)))) := fun y hy => by
                      obtain ⟨g', o', e, _, e3⟩ := lies_str hnames (hw.trans (hg0.trans (hg.trans hy))) (i := i) (by omega)
                      cases e; exact e3
                    have htk : names.take (i + 1) = names.take i ++ [names[i]'(by omega)] := List.take_succ_eq_append_getElem (by omega)
                    clear ih hlies h6' hes
                    go_wp2_with fail
                    go_loopw [6] (fun c wx => ∃ t : Nat, c = .int .i64 (t : Int) ∧ t ≤ i ∧ names[i]'(by omega) ∉ names.take t ∧ Gr w1 wx) (fun c _ => i - (intOf c).toNat)
                    case atStart => exact ⟨0, rfl, by omega, by simp, Gr.refl _⟩
                    case round =>
                      obtain ⟨wx, hwxe⟩ : ∃ wx, wx = wr := ⟨_, rfl⟩
                      subst hwxe
                      obtain ⟨t, rfl, ht, hni, hgx⟩ := hrel
                      rcases Nat.lt_or_ge t i with hlt2 | hge2
                      · have g2 : (t : Int) < (i : Int) := by omega
                        have hw2 : IntKind.i64.wrap ((t : Int) + 1) = ((t + 1 : Nat) : Int) := by rw [wrap_in (by omega) (by omega)]; omega
                        have f2 : ∀ y, Gr wx y → y.cell? ⟨g1', o1 + t, none⟩ = some (.string (strL (names[t]'(by omega)))) := fun y hy => by
                          obtain ⟨g', o', e, _, e3⟩ := lies_str hnames (hw.trans (hg0.trans (hg.trans (hgx.trans hy)))) (i := t) (by omega)
                          cases e; exact e3
                        have htk2 : names.take (t + 1) = names.take t ++ [names[t]'(by omega)] := List.take_succ_eq_append_getElem (by omega)
                        by_cases hx : names[i]'(by omega) = names[t]'(by omega)
                        · have gz : ((strL (names[i]'(by omega))).toList == (strL (names[t]'(by omega))).toList) = true := by rw [hx]; simp
                          have hfalse : ¬ names.Nodup := fun hN => by
                            have := (List.getElem_inj hN).1 hx
                            omega
                          rw [decide_eq_false hfalse, Bool.false_and] at hX
                          subst hX
                          generalize names[i]'(by omega) = m1 at *
                          generalize names[t]'(by omega) = m2 at *
                          clear hnames hni htk htk2 hfalse hx hnd
                          go_upto_region 11 with fail
                          refine r29_11 rfl (fun y hy => h5 y (hg.trans (hgx.trans hy))) hlt (by omega) (fun y hy => f1 y (hgx.trans hy)) f2 rfl rfl rfl fun ac wz hA h111 hgz => ?_
                          rw [gz] at h111
                          rename_i hK
                          refine hK _ _ ?_
                          have e : ac = ⟨(ac.eval (.tmp 0) :: ac.eval (.tmp 1) :: ac.eval (.tmp 2) :: ac.eval (.tmp 3) :: ac.eval (.tmp 4) :: ac.eval (.tmp 5) :: ac.eval (.tmp 6) :: ac.eval (.tmp 7) :: ac.eval (.tmp 8) :: ac.eval (.tmp 9) :: ac.eval (.tmp 10) :: ac.eval (.tmp 11) :: ac.eval (.tmp 12) :: ac.eval (.tmp 13) :: ac.eval (.tmp 14) :: ac.eval (.tmp 15) :: ac.eval (.tmp 16) :: ac.eval (.tmp 17) :: ac.eval (.tmp 18) :: ac.eval (.tmp 19) :: ac.eval (.tmp 20) :: ac.eval (.tmp 21) :: ac.eval (.tmp 22) :: ac.eval (.tmp 23) :: ac.eval (.tmp 24) :: ac.eval (.tmp 25) :: ac.eval (.tmp 26) :: ac.eval (.tmp 27) :: ac.eval (.tmp 28) :: ac.eval (.tmp 29) :: ac.eval (.tmp 30) :: ac.eval (.tmp 31) :: ac.eval (.tmp 32) :: ac.eval (.tmp 33) :: ac.eval (.tmp 34) :: ac.eval (.tmp 35) :: ac.eval (.tmp 36) :: ac.eval (.tmp 37) :: ac.eval (.tmp 38) :: ac.eval (.tmp 39) :: ac.eval (.tmp 40) :: ac.eval (.tmp 41) :: ac.eval (.tmp 42) :: ac.eval (.tmp 43) :: ac.eval (.tmp 44) :: ac.eval (.tmp 45) :: ac.eval (.tmp 46) :: ac.eval (.tmp 47) :: ac.eval (.tmp 48) :: ac.eval (.tmp 49) :: ac.eval (.tmp 50) :: ac.eval (.tmp 51) :: ac.eval (.tmp 52) :: ac.eval (.tmp 53) :: ac.eval (.tmp 54) :: ac.eval (.tmp 55) :: ac.eval (.tmp 56) :: ac.eval (.tmp 57) :: ac.eval (.tmp 58) :: ac.eval (.tmp 59) :: ac.eval (.tmp 60) :: ac.eval (.tmp 61) :: ac.eval (.tmp 62) :: ac.eval (.tmp 63) :: ac.eval (.tmp 64) :: ac.eval (.tmp 65) :: ac.eval (.tmp 66) :: ac.eval (.tmp 67) :: ac.eval (.tmp 68) :: ac.eval (.tmp 69) :: ac.eval (.tmp 70) :: ac.eval (.tmp 71) :: ac.eval (.tmp 72) :: ac.eval (.tmp 73) :: ac.eval (.tmp 74) :: ac.eval (.tmp 75) :: ac.eval (.tmp 76) :: ac.eval (.tmp 77) :: ac.eval (.tmp 78) :: ac.eval (.tmp 79) :: ac.eval (.tmp 80) :: ac.eval (.tmp 81) :: ac.eval (.tmp 82) :: ac.eval (.tmp 83) :: ac.eval (.tmp 84) :: ac.eval (.tmp 85) :: ac.eval (.tmp 86) :: ac.eval (.tmp 87) :: ac.eval (.tmp 88) :: ac.eval (.tmp 89) :: ac.eval (.tmp 90) :: ac.eval (.tmp 91) :: ac.eval (.tmp 92) :: ac.eval (.tmp 93) :: ac.eval (.tmp 94) :: ac.eval (.tmp 95) :: ac.eval (.tmp 96) :: ac.eval (.tmp 97) :: ac.eval (.tmp 98) :: ac.eval (.tmp 99) :: ac.eval (.tmp 100) :: ac.eval (.tmp 101) :: ac.eval (.tmp 102) :: ac.eval (.tmp 103) :: ac.eval (.tmp 104) :: ac.eval (.tmp 105) :: ac.eval (.tmp 106) :: ac.eval (.tmp 107) :: ac.eval (.tmp 108) :: ac.eval (.tmp 109) :: ac.eval (.tmp 110) :: ac.eval (.tmp 111) :: ac.eval (.tmp 112) :: ac.eval (.tmp 113) :: ac.eval (.tmp 114) :: ac.eval (.tmp 115) :: ac.eval (.tmp 116) :: ac.eval (.tmp 117) :: ac.eval (.tmp 118) :: ac.eval (.tmp 119) :: ac.eval (.tmp 120) :: ac.eval (.tmp 121) :: ac.eval (.tmp 122) :: ac.eval (.tmp 123) :: ac.eval (.tmp 124) :: ac.eval (.tmp 125) :: ac.eval (.tmp 126) :: ac.eval (.tmp 127) :: ac.eval (.tmp 128) :: ([] : List Value)).toArray, ac.defers⟩ := (act_lit2 (hA.size.trans rfl)).trans rfl
                          rw [hA.defers, (hA.old 0 (by decide)).trans rfl, (hA.old 1 (by decide)).trans rfl, (hA.old 2 (by decide)).trans rfl, (hA.old 3 (by decide)).trans rfl, (hA.old 4 (by decide)).trans rfl, (hA.old 5 (by decide)).trans rfl, (hA.old 6 (by decide)).trans rfl, (hA.old 7 (by decide)).trans rfl, (hA.old 8 (by decide)).trans rfl, (hA.old 9 (by decide)).trans rfl, (hA.old 10 (by decide)).trans rfl, (hA.old 11 (by decide)).trans rfl, (hA.old 12 (by decide)).trans rfl, (hA.old 13 (by decide)).trans rfl, (hA.old 14 (by decide)).trans rfl, (hA.old 15 (by decide)).trans rfl, (hA.old 16 (by decide)).trans rfl, (hA.old 17 (by decide)).trans rfl, (hA.old 18 (by decide)).trans rfl, (hA.old 19 (by decide)).trans rfl, (hA.old 20 (by decide)).trans rfl, (hA.old 21 (by decide)).trans rfl, (hA.old 22 (by decide)).trans rfl, (hA.old 23 (by decide)).trans rfl, (hA.old 24 (by decide)).trans rfl, (hA.old 25 (by decide)).trans rfl, (hA.old 26 (by decide)).trans rfl, (hA.old 27 (by decide)).trans rfl, (hA.old 28 (by decide)).trans rfl, (hA.old 29 (by decide)).trans rfl, (hA.old 30 (by decide)).trans rfl, (hA.old 31 (by decide)).trans rfl, (hA.old 32 (by decide)).trans rfl, (hA.old 33 (by decide)).trans rfl, (hA.old 34 (by decide)).trans rfl, (hA.old 35 (by decide)).trans rfl, (hA.old 36 (by decide)).trans rfl, (hA.old 37 (by decide)).trans rfl, (hA.old 38 (by decide)).trans rfl, (hA.old 39 (by decide)).trans rfl, (hA.old 40 (by decide)).trans rfl, (hA.old 41 (by decide)).trans rfl, (hA.old 42 (by decide)).trans rfl, (hA.old 43 (by decide)).trans rfl, (hA.old 44 (by decide)).trans rfl, (hA.old 45 (by decide)).trans rfl, (hA.old 46 (by decide)).trans rfl, (hA.old 47 (by decide)).trans rfl, (hA.old 48 (by decide)).trans rfl, (hA.old 49 (by decide)).trans rfl, (hA.old 50 (by decide)).trans rfl, (hA.old 51 (by decide)).trans rfl, (hA.old 52 (by decide)).trans rfl, (hA.old 53 (by decide)).trans rfl, (hA.old 54 (by decide)).trans rfl, (hA.old 55 (by decide)).trans rfl, (hA.old 56 (by decide)).trans rfl, (hA.old 57 (by decide)).trans rfl, (hA.old 58 (by decide)).trans rfl, (hA.old 59 (by decide)).trans rfl, (hA.old 60 (by decide)).trans rfl, (hA.old 61 (by decide)).trans rfl, (hA.old 62 (by decide)).trans rfl, (hA.old 63 (by decide)).trans rfl, (hA.old 64 (by decide)).trans rfl, (hA.old 65 (by decide)).trans rfl, (hA.old 66 (by decide)).trans rfl, (hA.old 67 (by decide)).trans rfl, (hA.old 68 (by decide)).trans rfl, (hA.old 69 (by decide)).trans rfl, (hA.old 70 (by decide)).trans rfl, (hA.old 71 (by decide)).trans rfl, (hA.old 72 (by decide)).trans rfl, (hA.old 73 (by decide)).trans rfl, (hA.old 74 (by decide)).trans rfl, (hA.old 75 (by decide)).trans rfl, (hA.old 76 (by decide)).trans rfl, (hA.old 77 (by decide)).trans rfl, (hA.old 78 (by decide)).trans rfl, (hA.old 79 (by decide)).trans rfl, (hA.old 80 (by decide)).trans rfl, (hA.old 81 (by decide)).trans rfl, (hA.old 82 (by decide)).trans rfl, (hA.old 83 (by decide)).trans rfl, (hA.old 84 (by decide)).trans rfl, (hA.old 85 (by decide)).trans rfl, (hA.old 86 (by decide)).trans rfl, (hA.old 87 (by decide)).trans rfl, (hA.old 88 (by decide)).trans rfl, (hA.old 89 (by decide)).trans rfl, (hA.old 90 (by decide)).trans rfl, (hA.old 91 (by decide)).trans rfl, (hA.old 92 (by decide)).trans rfl, (hA.old 93 (by decide)).trans rfl, (hA.old 94 (by decide)).trans rfl, (hA.old 95 (by decide)).trans rfl, (hA.old 96 (by decide)).trans rfl, (hA.old 97 (by decide)).trans rfl, (hA.old 98 (by decide)).trans rfl, (hA.old 99 (by decide)).trans rfl, (hA.old 100 (by decide)).trans rfl, (hA.old 112 (by decide)).trans rfl, (hA.old 113 (by decide)).trans rfl, (hA.old 114 (by decide)).trans rfl, (hA.old 115 (by decide)).trans rfl, (hA.old 116 (by decide)).trans rfl, (hA.old 117 (by decide)).trans rfl, (hA.old 118 (by decide)).trans rfl, (hA.old 119 (by decide)).trans rfl, (hA.old 120 (by decide)).trans rfl, (hA.old 121 (by decide)).trans rfl, (hA.old 122 (by decide)).trans rfl, (hA.old 123 (by decide)).trans rfl, (hA.old 124 (by decide)).trans rfl, (hA.old 125 (by decide)).trans rfl, (hA.old 126 (by decide)).trans rfl, (hA.old 127 (by decide)).trans rfl, (hA.old 128 (by decide)).trans rfl, h111] at e
                          generalize ac.eval (.tmp 101) = x101 at e
                          generalize ac.eval (.tmp 102) = x102 at e
                          generalize ac.eval (.tmp 103) = x103 at e
                          generalize ac.eval (.tmp 104) = x104 at e
                          generalize ac.eval (.tmp 105) = x105 at e
                          generalize ac.eval (.tmp 106) = x106 at e
                          generalize ac.eval (.tmp 107) = x107 at e
                          generalize ac.eval (.tmp 108) = x108 at e
                          generalize ac.eval (.tmp 109) = x109 at e
                          generalize ac.eval (.tmp 110) = x110 at e
                          subst e
                          go_wp2
                          go_ret
                          exact ⟨rfl, hg0.trans (hg.trans (hgx.trans hgz))⟩
                        · have gz : ((strL (names[i]'(by omega))).toList == (strL (names[t]'(by omega))).toList) = false := by simp [toList_ne hx]
                          have hni2 : names[i]'(by omega) ∉ names.take (t + 1) := by
                            intro hm
                            rw [htk2] at hm
                            rcases List.mem_append.1 hm with q | q
                            · exact hni q
                            · exact hx (List.mem_singleton.1 q)
                          generalize names[i]'(by omega) = m1 at *
                          generalize names[t]'(by omega) = m2 at *
                          clear hnames hni htk htk2 hx hnd hX
                          go_upto_region 11 with fail
                          refine r29_11 rfl (fun y hy => h5 y (hg.trans (hgx.trans hy))) hlt (by omega) (fun y hy => f1 y (hgx.trans hy)) f2 rfl rfl rfl fun ac wz hA h111 hgz => ?_
                          rw [gz] at h111
                          rename_i hK
                          refine hK _ _ ?_
                          have e : ac = ⟨(ac.eval (.tmp 0) :: ac.eval (.tmp 1) :: ac.eval (.tmp 2) :: ac.eval (.tmp 3) :: ac.eval (.tmp 4) :: ac.eval (.tmp 5) :: ac.eval (.tmp 6) :: ac.eval (.tmp 7) :: ac.eval (.tmp 8) :: ac.eval (.tmp 9) :: ac.eval (.tmp 10) :: ac.eval (.tmp 11) :: ac.eval (.tmp 12) :: ac.eval (.tmp 13) :: ac.eval (.tmp 14) :: ac.eval (.tmp 15) :: ac.eval (.tmp 16) :: ac.eval (.tmp 17) :: ac.eval (.tmp 18) :: ac.eval (.tmp 19) :: ac.eval (.tmp 20) :: ac.eval (.tmp 21) :: ac.eval (.tmp 22) :: ac.eval (.tmp 23) :: ac.eval (.tmp 24) :: ac.eval (.tmp 25) :: ac.eval (.tmp 26) :: ac.eval (.tmp 27) :: ac.eval (.tmp 28) :: ac.eval (.tmp 29) :: ac.eval (.tmp 30) :: ac.eval (.tmp 31) :: ac.eval (.tmp 32) :: ac.eval (.tmp 33) :: ac.eval (.tmp 34) :: ac.eval (.tmp 35) :: ac.eval (.tmp 36) :: ac.eval (.tmp 37) :: ac.eval (.tmp 38) :: ac.eval (.tmp 39) :: ac.eval (.tmp 40) :: ac.eval (.tmp 41) :: ac.eval (.tmp 42) :: ac.eval (.tmp 43) :: ac.eval (.tmp 44) :: ac.eval (.tmp 45) :: ac.eval (.tmp 46) :: ac.eval (.tmp 47) :: ac.eval (.tmp 48) :: ac.eval (.tmp 49) :: ac.eval (.tmp 50) :: ac.eval (.tmp 51) :: ac.eval (.tmp 52) :: ac.eval (.tmp 53) :: ac.eval (.tmp 54) :: ac.eval (.tmp 55) :: ac.eval (.tmp 56) :: ac.eval (.tmp 57) :: ac.eval (.tmp 58) :: ac.eval (.tmp 59) :: ac.eval (.tmp 60) :: ac.eval (.tmp 61) :: ac.eval (.tmp 62) :: ac.eval (.tmp 63) :: ac.eval (.tmp 64) :: ac.eval (.tmp 65) :: ac.eval (.tmp 66) :: ac.eval (.tmp 67) :: ac.eval (.tmp 68) :: ac.eval (.tmp 69) :: ac.eval (.tmp 70) :: ac.eval (.tmp 71) :: ac.eval (.tmp 72) :: ac.eval (.tmp 73) :: ac.eval (.tmp 74) :: ac.eval (.tmp 75) :: ac.eval (.tmp 76) :: ac.eval (.tmp 77) :: ac.eval (.tmp 78) :: ac.eval (.tmp 79) :: ac.eval (.tmp 80) :: ac.eval (.tmp 81) :: ac.eval (.tmp 82) :: ac.eval (.tmp 83) :: ac.eval (.tmp 84) :: ac.eval (.tmp 85) :: ac.eval (.tmp 86) :: ac.eval (.tmp 87) :: ac.eval (.tmp 88) :: ac.eval (.tmp 89) :: ac.eval (.tmp 90) :: ac.eval (.tmp 91) :: ac.eval (.tmp 92) :: ac.eval (.tmp 93) :: ac.eval (.tmp 94) :: ac.eval (.tmp 95) :: ac.eval (.tmp 96) :: ac.eval (.tmp 97) :: ac.eval (.tmp 98) :: ac.eval (.tmp 99) :: ac.eval (.tmp 100) :: ac.eval (.tmp 101) :: ac.eval (.tmp 102) :: ac.eval (.tmp 103) :: ac.eval (.tmp 104) :: ac.eval (.tmp 105) :: ac.eval (.tmp 106) :: ac.eval (.tmp 107) :: ac.eval (.tmp 108) :: ac.eval (.tmp 109) :: ac.eval (.tmp 110) :: ac.eval (.tmp 111) :: ac.eval (.tmp 112) :: ac.eval (.tmp 113) :: ac.eval (.tmp 114) :: ac.eval (.tmp 115) :: ac.eval (.tmp 116) :: ac.eval (.tmp 117) :: ac.eval (.tmp 118) :: ac.eval (.tmp 119) :: ac.eval (.tmp 120) :: ac.eval (.tmp 121) :: ac.eval (.tmp 122) :: ac.eval (.tmp 123) :: ac.eval (.tmp 124) :: ac.eval (.tmp 125) :: ac.eval (.tmp 126) :: ac.eval (.tmp 127) :: ac.eval (.tmp 128) :: ([] : List Value)).toArray, ac.defers⟩ := (act_lit2 (hA.size.trans rfl)).trans rfl
                          rw [hA.defers, (hA.old 0 (by decide)).trans rfl, (hA.old 1 (by decide)).trans rfl, (hA.old 2 (by decide)).trans rfl, (hA.old 3 (by decide)).trans rfl, (hA.old 4 (by decide)).trans rfl, (hA.old 5 (by decide)).trans rfl, (hA.old 6 (by decide)).trans rfl, (hA.old 7 (by decide)).trans rfl, (hA.old 8 (by decide)).trans rfl, (hA.old 9 (by decide)).trans rfl, (hA.old 10 (by decide)).trans rfl, (hA.old 11 (by decide)).trans rfl, (hA.old 12 (by decide)).trans rfl, (hA.old 13 (by decide)).trans rfl, (hA.old 14 (by decide)).trans rfl, (hA.old 15 (by decide)).trans rfl, (hA.old 16 (by decide)).trans rfl, (hA.old 17 (by decide)).trans rfl, (hA.old 18 (by decide)).trans rfl, (hA.old 19 (by decide)).trans rfl, (hA.old 20 (by decide)).trans rfl, (hA.old 21 (by decide)).trans rfl, (hA.old 22 (by decide)).trans rfl, (hA.old 23 (by decide)).trans rfl, (hA.old 24 (by decide)).trans rfl, (hA.old 25 (by decide)).trans rfl, (hA.old 26 (by decide)).trans rfl, (hA.old 27 (by decide)).trans rfl, (hA.old 28 (by decide)).trans rfl, (hA.old 29 (by decide)).trans rfl, (hA.old 30 (by decide)).trans rfl, (hA.old 31 (by decide)).trans rfl, (hA.old 32 (by decide)).trans rfl, (hA.old 33 (by decide)).trans rfl, (hA.old 34 (by decide)).trans rfl, (hA.old 35 (by decide)).trans rfl, (hA.old 36 (by decide)).trans rfl, (hA.old 37 (by decide)).trans rfl, (hA.old 38 (by decide)).trans rfl, (hA.old 39 (by decide)).trans rfl, (hA.old 40 (by decide)).trans rfl, (hA.old 41 (by decide)).trans rfl, (hA.old 42 (by decide)).trans rfl, (hA.old 43 (by decide)).trans rfl, (hA.old 44 (by decide)).trans rfl, (hA.old 45 (by decide)).trans rfl, (hA.old 46 (by decide)).trans rfl, (hA.old 47 (by decide)).trans rfl, (hA.old 48 (by decide)).trans rfl, (hA.old 49 (by decide)).trans rfl, (hA.old 50 (by decide)).trans rfl, (hA.old 51 (by decide)).trans rfl, (hA.old 52 (by decide)).trans rfl, (hA.old 53 (by decide)).trans rfl, (hA.old 54 (by decide)).trans rfl, (hA.old 55 (by decide)).trans rfl, (hA.old 56 (by decide)).trans rfl, (hA.old 57 (by decide)).trans rfl, (hA.old 58 (by decide)).trans rfl, (hA.old 59 (by decide)).trans rfl, (hA.old 60 (by decide)).trans rfl, (hA.old 61 (by decide)).trans rfl, (hA.old 62 (by decide)).trans rfl, (hA.old 63 (by decide)).trans rfl, (hA.old 64 (by decide)).trans rfl, (hA.old 65 (by decide)).trans rfl, (hA.old 66 (by decide)).trans rfl, (hA.old 67 (by decide)).trans rfl, (hA.old 68 (by decide)).trans rfl, (hA.old 69 (by decide)).trans rfl, (hA.old 70 (by decide)).trans rfl, (hA.old 71 (by decide)).trans rfl, (hA.old 72 (by decide)).trans rfl, (hA.old 73 (by decide)).trans rfl, (hA.old 74 (by decide)).trans rfl, (hA.old 75 (by decide)).trans rfl, (hA.old 76 (by decide)).trans rfl, (hA.old 77 (by decide)).trans rfl, (hA.old 78 (by decide)).trans rfl, (hA.old 79 (by decide)).trans rfl, (hA.old 80 (by decide)).trans rfl, (hA.old 81 (by decide)).trans rfl, (hA.old 82 (by decide)).trans rfl, (hA.old 83 (by decide)).trans rfl, (hA.old 84 (by decide)).trans rfl, (hA.old 85 (by decide)).trans rfl, (hA.old 86 (by decide)).trans rfl, (hA.old 87 (by decide)).trans rfl, (hA.old 88 (by decide)).trans rfl, (hA.old 89 (by decide)).trans rfl, (hA.old 90 (by decide)).trans rfl, (hA.old 91 (by decide)).trans rfl, (hA.old 92 (by decide)).trans rfl, (hA.old 93 (by decide)).trans rfl, (hA.old 94 (by decide)).trans rfl, (hA.old 95 (by decide)).trans rfl, (hA.old 96 (by decide)).trans rfl, (hA.old 97 (by decide)).trans rfl, (hA.old 98 (by decide)).trans rfl, (hA.old 99 (by decide)).trans rfl, (hA.old 100 (by decide)).trans rfl, (hA.old 112 (by decide)).trans rfl, (hA.old 113 (by decide)).trans rfl, (hA.old 114 (by decide)).trans rfl, (hA.old 115 (by decide)).trans rfl, (hA.old 116 (by decide)).trans rfl, (hA.old 117 (by decide)).trans rfl, (hA.old 118 (by decide)).trans rfl, (hA.old 119 (by decide)).trans rfl, (hA.old 120 (by decide)).trans rfl, (hA.old 121 (by decide)).trans rfl, (hA.old 122 (by decide)).trans rfl, (hA.old 123 (by decide)).trans rfl, (hA.old 124 (by decide)).trans rfl, (hA.old 125 (by decide)).trans rfl, (hA.old 126 (by decide)).trans rfl, (hA.old 127 (by decide)).trans rfl, (hA.old 128 (by decide)).trans rfl, h111] at e
                          generalize ac.eval (.tmp 101) = x101 at e
                          generalize ac.eval (.tmp 102) = x102 at e
                          generalize ac.eval (.tmp 103) = x103 at e
                          generalize ac.eval (.tmp 104) = x104 at e
                          generalize ac.eval (.tmp 105) = x105 at e
                          generalize ac.eval (.tmp 106) = x106 at e
                          generalize ac.eval (.tmp 107) = x107 at e
                          generalize ac.eval (.tmp 108) = x108 at e
                          generalize ac.eval (.tmp 109) = x109 at e
                          generalize ac.eval (.tmp 110) = x110 at e
                          subst e
                          go_wp2
                          exact ⟨⟨t + 1, rfl, by omega, hni2, hgx.trans hgz⟩, by simp; omega⟩
                      · have g2 : ¬ (t : Int) < (i : Int) := by omega
                        have htt : t = i := by omega
                        have hnd2 : (names.take (i + 1)).Nodup := by
                          rw [htk, List.nodup_append]
                          refine ⟨hnd, by simp, ?_⟩
                          intro a ha c hc
                          rw [List.mem_singleton] at hc
                          subst hc
                          rintro rfl
                          rw [htt] at hni
                          exact hni ha
                        clear hnames hni htk hnd hX f1
                        go_wp2
                        exact ⟨⟨i + 1, rfl, by omega, hnd2, hg.trans hgx⟩, by simp; omega⟩
                  · have g1 : ¬ (i : Int) < (ll : Int) := by omega
                    have hnd2 : names.Nodup := by rwa [List.take_of_length_le (by omega)] at hnd
                    rw [decide_eq_true hnd2, Bool.true_and] at hX
                    clear hnames hnd hnd2
                    go_wp2_with fail
                    go_loopw [7] (fun c wx => ∃ t : Nat, c = .int .i64 (t : Int) ∧ t ≤ ll ∧ rightsP (16 - h + 1) (l.drop t) = X ∧ Gr w1 wx) (fun c _ => ll - (intOf c).toNat)
                    case atStart => exact ⟨0, rfl, by omega, by rw [List.drop_zero]; exact hX, Gr.refl _⟩
                    case round =>
                      obtain ⟨wx, hwxe⟩ : ∃ wx, wx = wr := ⟨_, rfl⟩
                      subst hwxe
                      obtain ⟨t, rfl, ht, hE, hgx⟩ := hrel
                      have hgw := hg0.trans (hg.trans hgx)
                      have c4 := h4 wx (hg.trans hgx)
                      rcases Nat.lt_or_ge t ll with hlt | hge2
                      · have hx : l[t]? = some l[t] := List.getElem?_eq_getElem (by omega)
                        have hce : es[t]? = some (es[t]'(by omega)) := List.getElem?_eq_getElem (by omega)
                        have h6 := h6' _ (List.mem_of_getElem? hce)
                        have ihx := ih t _ _ hx hce wx (h - 1) (hw.trans hgw) (by omega)
                        obtain ⟨g, off, rfl, hgS, hrng⟩ := hlies.elemG (hw.trans hgw) h6' hce
                        have hixa : ∀ w, (Instr.indexAt 24 (.slice (some ⟨g, off, none⟩) ll lc) (.int .i64 (t : Int))).run Tryd.prog w = .ok (.pointer (some ⟨g, off + t * 6, none⟩)) w := ix_slice und24 size27 hlt rfl
                        rw [rights_drop (by omega)] at hE
                        rw [show 16 - (h - 1) = 16 - h + 1 by omega] at ihx
                        have g2 : (t : Int) < (ll : Int) := by omega
                        have hw2 : IntKind.i64.wrap ((t : Int) + 1) = ((t + 1 : Nat) : Int) := by rw [wrap_in (by omega) (by omega)]; omega
                        have hw3 : IntKind.i64.wrap ((h : Int) - 1) = ((h - 1 : Nat) : Int) := by rw [wrap_in (by omega) (by omega)]; omega
                        generalize l[t] = x at *
                        generalize es[t]'(by omega) = c at *
                        generalize ((h - 1 : Nat) : Int) = hm1 at *
                        clear ih hlies
                        clear hp hp2 gp
                        cases hr : rightP (16 - h + 1) x with
                        | false =>
                          rw [hr] at hE ihx
                          have hE : X = false := by simpa using hE.symm
                          subst hE
                          go_wp2_with (first
                            | (refine wpList_load_part rfl 27 (.tmp 122) rfl g (off + t * 6) rfl c _ hrng Tryd.underlying27 rfl (by rw [h6]; kernel_rfl) ?_)
                            | (go_at_call 29; refine ihx.mono ?_; rintro e w3 ⟨rfl, hg3⟩))
                          go_ret
                          exact ⟨rfl, hgw.trans hg3⟩
                        | true =>
                          rw [hr] at hE ihx
                          rw [Bool.true_and] at hE
                          go_wp2_with (first
                            | (refine wpList_load_part rfl 27 (.tmp 122) rfl g (off + t * 6) rfl c _ hrng Tryd.underlying27 rfl (by rw [h6]; kernel_rfl) ?_)
                            | (go_at_call 29; refine ihx.mono ?_; rintro e w3 ⟨rfl, hg3⟩))
                          exact ⟨⟨t + 1, rfl, by omega, hE, hgx.trans hg3⟩, by simp; omega⟩
                      · have g2 : ¬ (t : Int) < (ll : Int) := by omega
                        rw [List.drop_of_length_le (by omega), rightsP] at hE
                        subst hE
                        go_wp2
                        go_ret
                        exact ⟨rfl, hgw⟩
            · have gne : ((nl : Int) != (ll : Int)) = true := by simp; omega
              rw [show badB 5 false 0 [] ll nl (16 - h) = true by simp [badB, hll, hnl, hne]]
              clear ih hes h6' hlies hnames hll0 hnl0 hne
              go_enter Tryd.func29, Tryd.ntmps29
              go_wp2
              go_ret
              exact ⟨rfl, Gr.alloc _ _⟩
          · have gnl : ¬ (nl : Int) > 0 := by omega
            have hne : ¬ nl = ll := by omega
            have gne : ((nl : Int) != (ll : Int)) = true := by simp; omega
            rw [show badB 5 false 0 [] ll nl (16 - h) = true by simp [badB, hll, hnl, hne]]
            clear ih hes h6' hlies hnames hll0 hnl0 hne
            go_enter Tryd.func29, Tryd.ntmps29
            go_wp2
            go_ret
            exact ⟨rfl, Gr.alloc _ _⟩
        · have gl : ¬ (ll : Int) > 0 := by omega
          by_cases hnl : 0 < nl
          · have gnl : (nl : Int) > 0 := by omega
            have hne : ¬ nl = ll := by omega
            have gne : ((nl : Int) != (ll : Int)) = true := by simp; omega
            rw [show badB 5 false 0 [] ll nl (16 - h) = true by simp [badB, hll, hnl, hne]]
            clear ih hes h6' hlies hnames hll0 hnl0 hne
            go_enter Tryd.func29, Tryd.ntmps29
            go_wp2
            go_ret
            exact ⟨rfl, Gr.alloc _ _⟩
          · have gnl : ¬ (nl : Int) > 0 := by omega
            have hne : nl = ll := by omega
            have gne : ((nl : Int) != (ll : Int)) = false := by simp [hne]
            by_cases hp : h = 0
            · have gp : ((h : Int) == 0) = true := by simp [hp]
              rw [show badB 5 false 0 [] ll nl (16 - h) = true by simp [badB, hll, hne, hp]]
              clear ih hes h6' hlies hnames hll0 hnl0 hne
              go_enter Tryd.func29, Tryd.ntmps29
              go_wp2
              go_ret
              exact ⟨rfl, Gr.alloc _ _⟩
            · have gp : ((h : Int) == 0) = false := by simp [hp]
              have hp2 : ¬ 16 ≤ 16 - h := by omega
              have hbf : badB 5 false 0 [] ll nl (16 - h) = false := by simp [badB, hll, hne, hp2]
              have hne9 : ll = nl := by omega
              subst hne9
              obtain ⟨X, hX⟩ : ∃ X, (decide names.Nodup && rightsP (16 - h + 1) l) = X := ⟨_, rfl⟩
              rw [hbf, Bool.not_false, Bool.true_and, hX]
              clear hbf
              have hg0 := Gr.alloc w (.cells #[.int .i64 5, .bool false, .int .i64 0, .string ⟨#[]⟩, .slice la ll lc, .slice na ll nc] 27)
              have h4 : ∀ y, Gr (w.alloc (.cells #[.int .i64 5, .bool false, .int .i64 0, .string ⟨#[]⟩, .slice la ll lc, .slice na ll nc] 27)) y → _ := cell_new27 w #[.int .i64 5, .bool false, .int .i64 0, .string ⟨#[]⟩, .slice la ll lc, .slice na ll nc] 4 _ rfl
              have h5 : ∀ y, Gr (w.alloc (.cells #[.int .i64 5, .bool false, .int .i64 0, .string ⟨#[]⟩, .slice la ll lc, .slice na ll nc] 27)) y → _ := cell_new27 w #[.int .i64 5, .bool false, .int .i64 0, .string ⟨#[]⟩, .slice la ll lc, .slice na ll nc] 5 _ rfl
              go_enter Tryd.func29, Tryd.ntmps29
              go_wp2_with fail
              clear gl gnl gne hne hll hnl
              go_loopw [5] (fun c wr => ∃ i : Nat, c = .int .i64 (i : Int) ∧ i ≤ ll ∧ (names.take i).Nodup ∧ Gr (w.alloc (.cells #[.int .i64 5, .bool false, .int .i64 0, .string ⟨#[]⟩, .slice la ll lc, .slice na ll nc] 27)) wr) (fun c _ => ll - (intOf c).toNat)
              case atStart => exact ⟨0, rfl, by omega, by simp, Gr.refl _⟩
              case round =>
                obtain ⟨i, rfl, hi, hnd, hg⟩ := hrel
                obtain ⟨w1, hw1e⟩ : ∃ w1, w1 = wr := ⟨_, rfl⟩
                subst hw1e
                have c5 := h5 w1 hg
                rcases Nat.lt_or_ge i ll with hlt | hge
                · have g1 : (i : Int) < (ll : Int) := by omega
                  have hw1 : IntKind.i64.wrap ((i : Int) + 1) = ((i + 1 : Nat) : Int) := by rw [wrap_in (by omega) (by omega)]; omega
                  obtain ⟨g1', o1, rfl, _, _⟩ := lies_str hnames (hw.trans (hg0.trans hg)) (i := i) (by omega)
                  have f1 : ∀ y, Gr w1 y → y.cell? ⟨g1', o1 + i, none⟩ = some (.string (strL (names[i]'(by omega)))) := fun y hy => by
                    obtain ⟨g', o', e, _, e3⟩ := lies_str hnames (hw.trans (hg0.trans (hg.trans hy))) (i := i) (by omega)
                    cases e; exact e3
                  have htk : names.take (i + 1) = names.take i ++ [names[i]'(by omega)] := List.take_succ_eq_append_getElem (by omega)
                  clear ih hlies h6' hes
                  go_wp2_with fail
                  go_loopw [6] (fun c wx => ∃ t : Nat, c = .int .i64 (t : Int) ∧ t ≤ i ∧ names[i]'(by omega) ∉ names.take t ∧ Gr w1 wx) (fun c _ => i - (intOf c).toNat)
                  case atStart => exact ⟨0, rfl, by omega, by simp, Gr.refl _⟩
                  case round =>
                    obtain ⟨wx, hwxe⟩ : ∃ wx, wx = wr := ⟨_, rfl⟩
                    subst hwxe
                    obtain ⟨t, rfl, ht, hni, hgx⟩ := hrel
                    rcases Nat.lt_or_ge t i with hlt2 | hge2
                    · have g2 : (t : Int) < (i : Int) := by omega
                      have hw2 : IntKind.i64.wrap ((t : Int) + 1) = ((t + 1 : Nat) : Int) := by rw [wrap_in (by omega) (by omega)]; omega
                      have f2 : ∀ y, Gr wx y → y.cell? ⟨g1', o1 + t, none⟩ = some (.string (strL (names[t]'(by omega)))) := fun y hy => by
                        obtain ⟨g', o', e, _, e3⟩ := lies_str hnames (hw.trans (hg0.trans (hg.trans (hgx.trans hy)))) (i := t) (by omega)
                        cases e; exact e3
                      have htk2 : names.take (t + 1) = names.take t ++ [names[t]'(by omega)] := List.take_succ_eq_append_getElem (by omega)
                      by_cases hx : names[i]'(by omega) = names[t]'(by omega)
                      · have gz : ((strL (names[i]'(by omega))).toList == (strL (names[t]'(by omega))).toList) = true := by rw [hx]; simp
                        have hfalse : ¬ names.Nodup := fun hN => by
                          have := (List.getElem_inj hN).1 hx
                          omega
                        rw [decide_eq_false hfalse, Bool.false_and] at hX
                        subst hX
                        generalize names[i]'(by omega) = m1 at *
                        generalize names[t]'(by omega) = m2 at *
                        clear hnames hni htk htk2 hfalse hx hnd
                        go_upto_region 11 with fail
                        refine r29_11 rfl (fun y hy => h5 y (hg.trans (hgx.trans hy))) hlt (by omega) (fun y hy => f1 y (hgx.trans hy)) f2 rfl rfl rfl fun ac wz hA h111 hgz => ?_
                        rw [gz] at h111
                        rename_i hK
                        refine hK _ _ ?_
                        have e : ac = ⟨(ac.eval (.tmp 0) :: ac.eval (.tmp 1) :: ac.eval (.tmp 2) :: ac.eval (.tmp 3) :: ac.eval (.tmp 4) :: ac.eval (.tmp 5) :: ac.eval (.tmp 6) :: ac.eval (.tmp 7) :: ac.eval (.tmp 8) :: ac.eval (.tmp 9) :: ac.eval (.tmp 10) :: ac.eval (.tmp 11) :: ac.eval (.tmp 12) :: ac.eval (.tmp 13) :: ac.eval (.tmp 14) :: ac.eval (.tmp 15) :: ac.eval (.tmp 16) :: ac.eval (.tmp 17) :: ac.eval (.tmp 18) :: ac.eval (.tmp 19) :: ac.eval (.tmp 20) :: ac.eval (.tmp 21) :: ac.eval (.tmp 22) :: ac.eval (.tmp 23) :: ac.eval (.tmp 24) :: ac.eval (.tmp 25) :: ac.eval (.tmp 26) :: ac.eval (.tmp 27) :: ac.eval (.tmp 28) :: ac.eval (.tmp 29) :: ac.eval (.tmp 30) :: ac.eval (.tmp 31) :: ac.eval (.tmp 32) :: ac.eval (.tmp 33) :: ac.eval (.tmp 34) :: ac.eval (.tmp 35) :: ac.eval (.tmp 36) :: ac.eval (.tmp 37) :: ac.eval (.tmp 38) :: ac.eval (.tmp 39) :: ac.eval (.tmp 40) :: ac.eval (.tmp 41) :: ac.eval (.tmp 42) :: ac.eval (.tmp 43) :: ac.eval (.tmp 44) :: ac.eval (.tmp 45) :: ac.eval (.tmp 46) :: ac.eval (.tmp 47) :: ac.eval (.tmp 48) :: ac.eval (.tmp 49) :: ac.eval (.tmp 50) :: ac.eval (.tmp 51) :: ac.eval (.tmp 52) :: ac.eval (.tmp 53) :: ac.eval (.tmp 54) :: ac.eval (.tmp 55) :: ac.eval (.tmp 56) :: ac.eval (.tmp 57) :: ac.eval (.tmp 58) :: ac.eval (.tmp 59) :: ac.eval (.tmp 60) :: ac.eval (.tmp 61) :: ac.eval (.tmp 62) :: ac.eval (.tmp 63) :: ac.eval (.tmp 64) :: ac.eval (.tmp 65) :: ac.eval (.tmp 66) :: ac.eval (.tmp 67) :: ac.eval (.tmp 68) :: ac.eval (.tmp 69) :: ac.eval (.tmp 70) :: ac.eval (.tmp 71) :: ac.eval (.tmp 72) :: ac.eval (.tmp 73) :: ac.eval (.tmp 74) :: ac.eval (.tmp 75) :: ac.eval (.tmp 76) :: ac.eval (.tmp 77) :: ac.eval (.tmp 78) :: ac.eval (.tmp 79) :: ac.eval (.tmp 80) :: ac.eval (.tmp 81) :: ac.eval (.tmp 82) :: ac.eval (.tmp 83) :: ac.eval (.tmp 84) :: ac.eval (.tmp 85) :: ac.eval (.tmp 86) :: ac.eval (.tmp 87) :: ac.eval (.tmp 88) :: ac.eval (.tmp 89) :: ac.eval (.tmp 90) :: ac.eval (.tmp 91) :: ac.eval (.tmp 92) :: ac.eval (.tmp 93) :: ac.eval (.tmp 94) :: ac.eval (.tmp 95) :: ac.eval (.tmp 96) :: ac.eval (.tmp 97) :: ac.eval (.tmp 98) :: ac.eval (.tmp 99) :: ac.eval (.tmp 100) :: ac.eval (.tmp 101) :: ac.eval (.tmp 102) :: ac.eval (.tmp 103) :: ac.eval (.tmp 104) :: ac.eval (.tmp 105) :: ac.eval (.tmp 106) :: ac.eval (.tmp 107) :: ac.eval (.tmp 108) :: ac.eval (.tmp 109) :: ac.eval (.tmp 110) :: ac.eval (.tmp 111) :: ac.eval (.tmp 112) :: ac.eval (.tmp 113) :: ac.eval (.tmp 114) :: ac.eval (.tmp 115) :: ac.eval (.tmp 116) :: ac.eval (.tmp 117) :: ac.eval (.tmp 118) :: ac.eval (.tmp 119) :: ac.eval (.tmp 120) :: ac.eval (.tmp 121) :: ac.eval (.tmp 122) :: ac.eval (.tmp 123) :: ac.eval (.tmp 124) :: ac.eval (.tmp 125) :: ac.eval (.tmp 126) :: ac.eval (.tmp 127) :: ac.eval (.tmp 128) :: ([] : List Value)).toArray, ac.defers⟩ := (act_lit2 (hA.size.trans rfl)).trans rfl
                        rw [hA.defers, (hA.old 0 (by decide)).trans rfl, (hA.old 1 (by decide)).trans rfl, (hA.old 2 (by decide)).trans rfl, (hA.old 3 (by decide)).trans rfl, (hA.old 4 (by decide)).trans rfl, (hA.old 5 (by decide)).trans rfl, (hA.old 6 (by decide)).trans rfl, (hA.old 7 (by decide)).trans rfl, (hA.old 8 (by decide)).trans rfl, (hA.old 9 (by decide)).trans rfl, (hA.old 10 (by decide)).trans rfl, (hA.old 11 (by decide)).trans rfl, (hA.old 12 (by decide)).trans rfl, (hA.old 13 (by decide)).trans rfl, (hA.old 14 (by decide)).trans rfl, (hA.old 15 (by decide)).trans rfl, (hA.old 16 (by decide)).trans rfl, (hA.old 17 (by decide)).trans rfl, (hA.old 18 (by decide)).trans rfl, (hA.old 19 (by decide)).trans rfl, (hA.old 20 (by decide)).trans rfl, (hA.old 21 (by decide)).trans rfl, (hA.old 22 (by decide)).trans rfl, (hA.old 23 (by decide)).trans rfl, (hA.old 24 (by decide)).trans rfl, (hA.old 25 (by decide)).trans rfl, (hA.old 26 (by decide)).trans rfl, (hA.old 27 (by decide)).trans rfl, (hA.old 28 (by decide)).trans rfl, (hA.old 29 (by decide)).trans rfl, (hA.old 30 (by decide)).trans rfl, (hA.old 31 (by decide)).trans rfl, (hA.old 32 (by decide)).trans rfl, (hA.old 33 (by decide)).trans rfl, (hA.old 34 (by decide)).trans rfl, (hA.old 35 (by decide)).trans rfl, (hA.old 36 (by decide)).trans rfl, (hA.old 37 (by decide)).trans rfl, (hA.old 38 (by decide)).trans rfl, (hA.old 39 (by decide)).trans rfl, (hA.old 40 (by decide)).trans rfl, (hA.old 41 (by decide)).trans rfl, (hA.old 42 (by decide)).trans rfl, (hA.old 43 (by decide)).trans rfl, (hA.old 44 (by decide)).trans rfl, (hA.old 45 (by decide)).trans rfl, (hA.old 46 (by decide)).trans rfl, (hA.old 47 (by decide)).trans rfl, (hA.old 48 (by decide)).trans rfl, (hA.old 49 (by decide)).trans rfl, (hA.old 50 (by decide)).trans rfl, (hA.old 51 (by decide)).trans rfl, (hA.old 52 (by decide)).trans rfl, (hA.old 53 (by decide)).trans rfl, (hA.old 54 (by decide)).trans rfl, (hA.old 55 (by decide)).trans rfl, (hA.old 56 (by decide)).trans rfl, (hA.old 57 (by decide)).trans rfl, (hA.old 58 (by decide)).trans rfl, (hA.old 59 (by decide)).trans rfl, (hA.old 60 (by decide)).trans rfl, (hA.old 61 (by decide)).trans rfl, (hA.old 62 (by decide)).trans rfl, (hA.old 63 (by decide)).trans rfl, (hA.old 64 (by decide)).trans rfl, (hA.old 65 (by decide)).trans rfl, (hA.old 66 (by decide)).trans rfl, (hA.old 67 (by decide)).trans rfl, (hA.old 68 (by decide)).trans rfl, (hA.old 69 (by decide)).trans rfl, (hA.old 70 (by decide)).trans rfl, (hA.old 71 (by decide)).trans rfl, (hA.old 72 (by decide)).trans rfl, (hA.old 73 (by decide)).trans rfl, (hA.old 74 (by decide)).trans rfl, (hA.old 75 (by decide)).trans rfl, (hA.old 76 (by decide)).trans rfl, (hA.old 77 (by decide)).trans rfl, (hA.old 78 (by decide)).trans rfl, (hA.old 79 (by decide)).trans rfl, (hA.old 80 (by decide)).trans rfl, (hA.old 81 (by decide)).trans rfl, (hA.old 82 (by decide)).trans rfl, (hA.old 83 (by decide)).trans rfl, (hA.old 84 (by decide)).trans rfl, (hA.old 85 (by decide)).trans rfl, (hA.old 86 (by decide)).trans rfl, (hA.old 87 (by decide)).trans rfl, (hA.old 88 (by decide)).trans rfl, (hA.old 89 (by decide)).trans rfl, (hA.old 90 (by decide)).trans rfl, (hA.old 91 (by decide)).trans rfl, (hA.old 92 (by decide)).trans rfl, (hA.old 93 (by decide)).trans rfl, (hA.old 94 (by decide)).trans rfl, (hA.old 95 (by decide)).trans rfl, (hA.old 96 (by decide)).trans rfl, (hA.old 97 (by decide)).trans rfl, (hA.old 98 (by decide)).trans rfl, (hA.old 99 (by decide)).trans rfl, (hA.old 100 (by decide)).trans rfl, (hA.old 112 (by decide)).trans rfl, (hA.old 113 (by decide)).trans rfl, (hA.old 114 (by decide)).trans rfl, (hA.old 115 (by decide)).trans rfl, (hA.old 116 (by decide)).trans rfl, (hA.old 117 (by decide)).trans rfl, (hA.old 118 (by decide)).trans rfl, (hA.old 119 (by decide)).trans rfl, (hA.old 120 (by decide)).trans rfl, (hA.old 121 (by decide)).trans rfl, (hA.old 122 (by decide)).trans rfl, (hA.old 123 (by decide)).trans rfl, (hA.old 124 (by decide)).trans rfl, (hA.old 125 (by decide)).trans rfl, (hA.old 126 (by decide)).trans rfl, (hA.old 127 (by decide)).trans rfl, (hA.old 128 (by decide)).trans rfl, h111] at e
                        generalize ac.eval (.tmp 101) = x101 at e
                        generalize ac.eval (.tmp 102) = x102 at e
                        generalize ac.eval (.tmp 103) = x103 at e
                        generalize ac.eval (.tmp 104) = x104 at e
                        generalize ac.eval (.tmp 105) = x105 at e
                        generalize ac.eval (.tmp 106) = x106 at e
                        generalize ac.eval (.tmp 107) = x107 at e
                        generalize ac.eval (.tmp 108) = x108 at e
                        generalize ac.eval (.tmp 109) = x109 at e
                        generalize ac.eval (.tmp 110) = x110 at e
                        subst e
                        go_wp2
                        go_ret
                        exact ⟨rfl, hg0.trans (hg.trans (hgx.trans hgz))⟩
                      · have gz : ((strL (names[i]'(by omega))).toList == (strL (names[t]'(by omega))).toList) = false := by simp [toList_ne hx]
                        have hni2 : names[i]'(by omega) ∉ names.take (t + 1) := by
                          intro hm
                          rw [htk2] at hm
                          rcases List.mem_append.1 hm with q | q
                          · exact hni q
                          · exact hx (List.mem_singleton.1 q)
                        generalize names[i]'(by omega) = m1 at *
                        generalize names[t]'(by omega) = m2 at *
                        clear hnames hni htk htk2 hx hnd hX
                        go_upto_region 11 with fail
                        refine r29_11 rfl (fun y hy => h5 y (hg.trans (hgx.trans hy))) hlt (by omega) (fun y hy => f1 y (hgx.trans hy)) f2 rfl rfl rfl fun ac wz hA h111 hgz => ?_
                        rw [gz] at h111
                        rename_i hK
                        refine hK _ _ ?_
                        have e : ac = ⟨(ac.eval (.tmp 0) :: ac.eval (.tmp 1) :: ac.eval (.tmp 2) :: ac.eval (.tmp 3) :: ac.eval (.tmp 4) :: ac.eval (.tmp 5) :: ac.eval (.tmp 6) :: ac.eval (.tmp 7) :: ac.eval (.tmp 8) :: ac.eval (.tmp 9) :: ac.eval (.tmp 10) :: ac.eval (.tmp 11) :: ac.eval (.tmp 12) :: ac.eval (.tmp 13) :: ac.eval (.tmp 14) :: ac.eval (.tmp 15) :: ac.eval (.tmp 16) :: ac.eval (.tmp 17) :: ac.eval (.tmp 18) :: ac.eval (.tmp 19) :: ac.eval (.tmp 20) :: ac.eval (.tmp 21) :: ac.eval (.tmp 22) :: ac.eval (.tmp 23) :: ac.eval (.tmp 24) :: ac.eval (.tmp 25) :: ac.eval (.tmp 26) :: ac.eval (.tmp 27) :: ac.eval (.tmp 28) :: ac.eval (.tmp 29) :: ac.eval (.tmp 30) :: ac.eval (.tmp 31) :: ac.eval (.tmp 32) :: ac.eval (.tmp 33) :: ac.eval (.tmp 34) :: ac.eval (.tmp 35) :: ac.eval (.tmp 36) :: ac.eval (.tmp 37) :: ac.eval (.tmp 38) :: ac.eval (.tmp 39) :: ac.eval (.tmp 40) :: ac.eval (.tmp 41) :: ac.eval (.tmp 42) :: ac.eval (.tmp 43) :: ac.eval (.tmp 44) :: ac.eval (.tmp 45) :: ac.eval (.tmp 46) :: ac.eval (.tmp 47) :: ac.eval (.tmp 48) :: ac.eval (.tmp 49) :: ac.eval (.tmp 50) :: ac.eval (.tmp 51) :: ac.eval (.tmp 52) :: ac.eval (.tmp 53) :: ac.eval (.tmp 54) :: ac.eval (.tmp 55) :: ac.eval (.tmp 56) :: ac.eval (.tmp 57) :: ac.eval (.tmp 58) :: ac.eval (.tmp 59) :: ac.eval (.tmp 60) :: ac.eval (.tmp 61) :: ac.eval (.tmp 62) :: ac.eval (.tmp 63) :: ac.eval (.tmp 64) :: ac.eval (.tmp 65) :: ac.eval (.tmp 66) :: ac.eval (.tmp 67) :: ac.eval (.tmp 68) :: ac.eval (.tmp 69) :: ac.eval (.tmp 70) :: ac.eval (.tmp 71) :: ac.eval (.tmp 72) :: ac.eval (.tmp 73) :: ac.eval (.tmp 74) :: ac.eval (.tmp 75) :: ac.eval (.tmp 76) :: ac.eval (.tmp 77) :: ac.eval (.tmp 78) :: ac.eval (.tmp 79) :: ac.eval (.tmp 80) :: ac.eval (.tmp 81) :: ac.eval (.tmp 82) :: ac.eval (.tmp 83) :: ac.eval (.tmp 84) :: ac.eval (.tmp 85) :: ac.eval (.tmp 86) :: ac.eval (.tmp 87) :: ac.eval (.tmp 88) :: ac.eval (.tmp 89) :: ac.eval (.tmp 90) :: ac.eval (.tmp 91) :: ac.eval (.tmp 92) :: ac.eval (.tmp 93) :: ac.eval (.tmp 94) :: ac.eval (.tmp 95) :: ac.eval (.tmp 96) :: ac.eval (.tmp 97) :: ac.eval (.tmp 98) :: ac.eval (.tmp 99) :: ac.eval (.tmp 100) :: ac.eval (.tmp 101) :: ac.eval (.tmp 102) :: ac.eval (.tmp 103) :: ac.eval (.tmp 104) :: ac.eval (.tmp 105) :: ac.eval (.tmp 106) :: ac.eval (.tmp 107) :: ac.eval (.tmp 108) :: ac.eval (.tmp 109) :: ac.eval (.tmp 110) :: ac.eval (.tmp 111) :: ac.eval (.tmp 112) :: ac.eval (.tmp 113) :: ac.eval (.tmp 114) :: ac.eval (.tmp 115) :: ac.eval (.tmp 116) :: ac.eval (.tmp 117) :: ac.eval (.tmp 118) :: ac.eval (.tmp 119) :: ac.eval (.tmp 120) :: ac.eval (.tmp 121) :: ac.eval (.tmp 122) :: ac.eval (.tmp 123) :: ac.eval (.tmp 124) :: ac.eval (.tmp 125) :: ac.eval (.tmp 126) :: ac.eval (.tmp 127) :: ac.eval (.tmp 128) :: ([] : List Value)).toArray, ac.defers⟩ := (act_lit2 (hA.size.trans rfl)).trans rfl
                        rw [hA.defers, (hA.old 0 (by decide)).trans rfl, (hA.old 1 (by decide)).trans rfl, (hA.old 2 (by decide)).trans rfl, (hA.old 3 (by decide)).trans rfl, (hA.old 4 (by decide)).trans rfl, (hA.old 5 (by decide)).trans rfl, (hA.old 6 (by decide)).trans rfl, (hA.old 7 (by decide)).trans rfl, (hA.old 8 (by decide)).trans rfl, (hA.old 9 (by decide)).trans rfl, (hA.old 10 (by decide)).trans rfl, (hA.old 11 (by decide)).trans rfl, (hA.old 12 (by decide)).trans rfl, (hA.old 13 (by decide)).trans rfl, (hA.old 14 (by decide)).trans rfl, (hA.old 15 (by decide)).trans rfl, (hA.old 16 (by decide)).trans rfl, (hA.old 17 (by decide)).trans rfl, (hA.old 18 (by decide)).trans rfl, (hA.old 19 (by decide)).trans rfl, (hA.old 20 (by decide)).trans rfl, (hA.old 21 (by decide)).trans rfl, (hA.old 22 (by decide)).trans rfl, (hA.old 23 (by decide)).trans rfl, (hA.old 24 (by decide)).trans rfl, (hA.old 25 (by decide)).trans rfl, (hA.old 26 (by decide)).trans rfl, (hA.old 27 (by decide)).trans rfl, (hA.old 28 (by decide)).trans rfl, (hA.old 29 (by decide)).trans rfl, (hA.old 30 (by decide)).trans rfl, (hA.old 31 (by decide)).trans rfl, (hA.old 32 (by decide)).trans rfl, (hA.old 33 (by decide)).trans rfl, (hA.old 34 (by decide)).trans rfl, (hA.old 35 (by decide)).trans rfl, (hA.old 36 (by decide)).trans rfl, (hA.old 37 (by decide)).trans rfl, (hA.old 38 (by decide)).trans rfl, (hA.old 39 (by decide)).trans rfl, (hA.old 40 (by decide)).trans rfl, (hA.old 41 (by decide)).trans rfl, (hA.old 42 (by decide)).trans rfl, (hA.old 43 (by decide)).trans rfl, (hA.old 44 (by decide)).trans rfl, (hA.old 45 (by decide)).trans rfl, (hA.old 46 (by decide)).trans rfl, (hA.old 47 (by decide)).trans rfl, (hA.old 48 (by decide)).trans rfl, (hA.old 49 (by decide)).trans rfl, (hA.old 50 (by decide)).trans rfl, (hA.old 51 (by decide)).trans rfl, (hA.old 52 (by decide)).trans rfl, (hA.old 53 (by decide)).trans rfl, (hA.old 54 (by decide)).trans rfl, (hA.old 55 (by decide)).trans rfl, (hA.old 56 (by decide)).trans rfl, (hA.old 57 (by decide)).trans rfl, (hA.old 58 (by decide)).trans rfl, (hA.old 59 (by decide)).trans rfl, (hA.old 60 (by decide)).trans rfl, (hA.old 61 (by decide)).trans rfl, (hA.old 62 (by decide)).trans rfl, (hA.old 63 (by decide)).trans rfl, (hA.old 64 (by decide)).trans rfl, (hA.old 65 (by decide)).trans rfl, (hA.old 66 (by decide)).trans rfl, (hA.old 67 (by decide)).trans rfl, (hA.old 68 (by decide)).trans rfl, (hA.old 69 (by decide)).trans rfl, (hA.old 70 (by decide)).trans rfl, (hA.old 71 (by decide)).trans rfl, (hA.old 72 (by decide)).trans rfl, (hA.old 73 (by decide)).trans rfl, (hA.old 74 (by decide)).trans rfl, (hA.old 75 (by decide)).trans rfl, (hA.old 76 (by decide)).trans rfl, (hA.old 77 (by decide)).trans rfl, (hA.old 78 (by decide)).trans rfl, (hA.old 79 (by decide)).trans rfl, (hA.old 80 (by decide)).trans rfl, (hA.old 81 (by decide)).trans rfl, (hA.old 82 (by decide)).trans rfl, (hA.old 83 (by decide)).trans rfl, (hA.old 84 (by decide)).trans rfl, (hA.old 85 (by decide)).trans rfl, (hA.old 86 (by decide)).trans rfl, (hA.old 87 (by decide)).trans rfl, (hA.old 88 (by decide)).trans rfl, (hA.old 89 (by decide)).trans rfl, (hA.old 90 (by decide)).trans rfl, (hA.old 91 (by decide)).trans rfl, (hA.old 92 (by decide)).trans rfl, (hA.old 93 (by decide)).trans rfl, (hA.old 94 (by decide)).trans rfl, (hA.old 95 (by decide)).trans rfl, (hA.old 96 (by decide)).trans rfl, (hA.old 97 (by decide)).trans rfl, (hA.old 98 (by decide)).trans rfl, (hA.old 99 (by decide)).trans rfl, (hA.old 100 (by decide)).trans rfl, (hA.old 112 (by decide)).trans rfl, (hA.old 113 (by decide)).trans rfl, (hA.old 114 (by decide)).trans rfl, (hA.old 115 (by decide)).trans rfl, (hA.old 116 (by decide)).trans rfl, (hA.old 117 (by decide)).trans rfl, (hA.old 118 (by decide)).trans rfl, (hA.old 119 (by decide)).trans rfl, (hA.old 120 (by decide)).trans rfl, (hA.old 121 (by decide)).trans rfl, (hA.old 122 (by decide)).trans rfl, (hA.old 123 (by decide)).trans rfl, (hA.old 124 (by decide)).trans rfl, (hA.old 125 (by decide)).trans rfl, (hA.old 126 (by decide)).trans rfl, (hA.old 127 (by decide)).trans rfl, (hA.old 128 (by decide)).trans rfl, h111] at e
                        generalize ac.eval (.tmp 101) = x101 at e
                        generalize ac.eval (.tmp 102) = x102 at e
                        generalize ac.eval (.tmp 103) = x103 at e
                        generalize ac.eval (.tmp 104) = x104 at e
                        generalize ac.eval (.tmp 105) = x105 at e
                        generalize ac.eval (.tmp 106) = x106 at e
                        generalize ac.eval (.tmp 107) = x107 at e
                        generalize ac.eval (.tmp 108) = x108 at e
                        generalize ac.eval (.tmp 109) = x109 at e
                        generalize ac.eval (.tmp 110) = x110 at e
                        subst e
                        go_wp2
                        exact ⟨⟨t + 1, rfl, by omega, hni2, hgx.trans hgz⟩, by simp; omega⟩
                    · have g2 : ¬ (t : Int) < (i : Int) := by omega
                      have htt : t = i := by omega
                      have hnd2 : (names.take (i + 1)).Nodup := by
                        rw [htk, List.nodup_append]
                        refine ⟨hnd, by simp, ?_⟩
                        intro a ha c hc
                        rw [List.mem_singleton] at hc
                        subst hc
                        rintro rfl
                        rw [htt] at hni
                        exact hni ha
                      clear hnames hni htk hnd hX f1
                      go_wp2
                      exact ⟨⟨i + 1, rfl, by omega, hnd2, hg.trans hgx⟩, by simp; omega⟩
                · have g1 : ¬ (i : Int) < (ll : Int) := by omega
                  have hnd2 : names.Nodup := by rwa [List.take_of_length_le (by omega)] at hnd
                  rw [decide_eq_true hnd2, Bool.true_and] at hX
                  clear hnames hnd hnd2
                  go_wp2_with fail
                  go_loopw [7] (fun c wx => ∃ t : Nat, c = .int .i64 (t : Int) ∧ t ≤ ll ∧ rightsP (16 - h + 1) (l.drop t) = X ∧ Gr w1 wx) (fun c _ => ll - (intOf c).toNat)
                  case atStart => exact ⟨0, rfl, by omega, by rw [List.drop_zero]; exact hX, Gr.refl _⟩
                  case round =>
                    obtain ⟨wx, hwxe⟩ : ∃ wx, wx = wr := ⟨_, rfl⟩
                    subst hwxe
                    obtain ⟨t, rfl, ht, hE, hgx⟩ := hrel
                    have hgw := hg0.trans (hg.trans hgx)
                    have c4 := h4 wx (hg.trans hgx)
                    rcases Nat.lt_or_ge t ll with hlt | hge2
                    · have hx : l[t]? = some l[t] := List.getElem?_eq_getElem (by omega)
                      have hce : es[t]? = some (es[t]'(by omega)) := List.getElem?_eq_getElem (by omega)
                      have h6 := h6' _ (List.mem_of_getElem? hce)
                      have ihx := ih t _ _ hx hce wx (h - 1) (hw.trans hgw) (by omega)
                      obtain ⟨g, off, rfl, hgS, hrng⟩ := hlies.elemG (hw.trans hgw) h6' hce
                      have hixa : ∀ w, (Instr.indexAt 24 (.slice (some ⟨g, off, none⟩) ll lc) (.int .i64 (t : Int))).run Tryd.prog w = .ok (.pointer (some ⟨g, off + t * 6, none⟩)) w := ix_slice und24 size27 hlt rfl
                      rw [rights_drop (by omega)] at hE
                      rw [show 16 - (h - 1) = 16 - h + 1 by omega] at ihx
                      have g2 : (t : Int) < (ll : Int) := by omega
                      have hw2 : IntKind.i64.wrap ((t : Int) + 1) = ((t + 1 : Nat) : Int) := by rw [wrap_in (by omega) (by omega)]; omega
                      have hw3 : IntKind.i64.wrap ((h : Int) - 1) = ((h - 1 : Nat) : Int) := by rw [wrap_in (by omega) (by omega)]; omega
                      generalize l[t] = x at *
                      generalize es[t]'(by omega) = c at *
                      generalize ((h - 1 : Nat) : Int) = hm1 at *
                      clear ih hlies
                      clear hp hp2 gp
                      cases hr : rightP (16 - h + 1) x with
                      | false =>
                        rw [hr] at hE ihx
                        have hE : X = false := by simpa using hE.symm
                        subst hE
                        go_wp2_with (first
                          | (refine wpList_load_part rfl 27 (.tmp 122) rfl g (off + t * 6) rfl c _ hrng Tryd.underlying27 rfl (by rw [h6]; kernel_rfl) ?_)
                          | (go_at_call 29; refine ihx.mono ?_; rintro e w3 ⟨rfl, hg3⟩))
                        go_ret
                        exact ⟨rfl, hgw.trans hg3⟩
                      | true =>
                        rw [hr] at hE ihx
                        rw [Bool.true_and] at hE
                        go_wp2_with (first
                          | (refine wpList_load_part rfl 27 (.tmp 122) rfl g (off + t * 6) rfl c _ hrng Tryd.underlying27 rfl (by rw [h6]; kernel_rfl) ?_)
                          | (go_at_call 29; refine ihx.mono ?_; rintro e w3 ⟨rfl, hg3⟩))
                        exact ⟨⟨t + 1, rfl, by omega, hE, hgx.trans hg3⟩, by simp; omega⟩
                    · have g2 : ¬ (t : Int) < (ll : Int) := by omega
                      rw [List.drop_of_length_le (by omega), rightsP] at hE
                      subst hE
                      go_wp2
                      go_ret
                      exact ⟨rfl, hgw⟩
      · have gs := str_ne hs
        have gs2 := str_em hs
        rw [show badB 5 false 0 s ll nl (16 - h) = true by simp [badB, hs]]
        clear ih hes h6' hlies hnames hll0 hnl0
        go_enter Tryd.func29, Tryd.ntmps29
        go_wp2
        go_ret
        exact ⟨rfl, Gr.alloc _ _⟩
    · have gn : (n != 0) = true := by simp [hn]
      rw [show badB 5 false n s ll nl (16 - h) = true by simp [badB, hn]]
      clear ih hes h6' hlies hnames hll0 hnl0
      go_enter Tryd.func29, Tryd.ntmps29
      go_wp2
      go_ret
      exact ⟨rfl, Gr.alloc _ _⟩
theorem rright_ok {w0 : World} {S : Nat → Prop} : ∀ {j : J} {v : Value}, JAt w0 S j v → Fits j → RightR w0 j v := by
  intro j v hJ
  induction hJ with
  | mk k b n s l names la na lc nc es hes h6 hl hlies hnames ih =>
    intro hF w h hw hh
    obtain ⟨hll, hnl, hsl, hfx⟩ := hF
    have b1 : l.length ≤ 9223372036854775806 := by unfold maxLen at hll; omega
    have b2 : names.length ≤ 9223372036854775806 := by unfold maxLen at hnl; omega
    have ih' : ∀ (i : Nat) (x : J) (c : List Value), l[i]? = some x → es[i]? = some c → RightR w0 x (.agg c.toArray) := fun i x c h1 h2 => ih i x c h1 h2 (hfx x (List.mem_of_getElem? h1))
    rw [rightP]
    by_cases q : k < 0
    · exact rright_lo q hes h6 hlies hnames b1 b2 ih' w hw h hh
    by_cases q2 : k > 5
    · exact rright_hi q2 hes h6 hlies hnames b1 b2 ih' w hw h hh
    have hk : k = 0 ∨ k = 1 ∨ k = 2 ∨ k = 3 ∨ k = 4 ∨ k = 5 := by omega
    rcases hk with rfl | rfl | rfl | rfl | rfl | rfl
    · exact rright_0 hes h6 hlies hnames b1 b2 ih' w hw h hh
    · exact rright_1 hes h6 hlies hnames b1 b2 ih' w hw h hh
    · exact rright_2 hes h6 hlies hnames b1 b2 ih' w hw h hh
    · exact rright_3 hes h6 hlies hnames b1 b2 ih' w hw h hh
    · exact rright_4 hes h6 hlies hnames b1 b2 ih' w hw h hh
    · exact rright_5 hes h6 hlies hnames b1 b2 ih' w hw h hh
end Go.Proofs.YtogippkapadolaaDoor
