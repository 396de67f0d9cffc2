/- The law's two loops: no V is the greatest one, or the law ends there. -/
import Derived.Test.YthmnjebmnocoiaaZGsTail
namespace Go.Proofs.Ythmnjebmnocoiaa
open Go.RowKit
attribute [local go_sem ↓] rule28
def lawLoop1 (K : Code) : Code := ((Code.region 11 #[{ dst := some 13, op := Op.assign (Operand.const (Value.int IntKind.i64 0)), type := 3, pos := "law.go:74", after := #[], guard := none }] false).seq (Code.block 0 (((Code.region 12 #[{ dst := some 84, op := Op.move (Operand.tmp 13), type := 3, pos := "law.go:74", after := #[], guard := none }, { dst := some 85, op := Op.fieldAddr 28 (Operand.tmp 6) 0, type := 0, pos := "law.go:74", after := #[], guard := none }, { dst := some 86, op := Op.load 22 (Operand.tmp 85), type := 22, pos := "law.go:74", after := #[{ on := 1, ground := Ground.data }], guard := none }, { dst := some 87, op := Op.call { callee := Callee.builtin Builtin.len, args := #[Operand.tmp 86], argTypes := #[22] }, type := 3, pos := "law.go:74", after := #[{ on := 2, ground := Ground.data }], guard := none }, { dst := some 88, op := Op.binOp BinOp.lss 3 (Operand.tmp 84) (Operand.tmp 87) 3, type := 4, pos := "law.go:74", after := #[{ on := 0, ground := Ground.data }, { on := 3, ground := Ground.data }], guard := none }] false).seq (Code.cond (Operand.tmp 88) Code.skip (Code.exit 0))).seq ((Code.block 1 ((Code.region 14 #[{ dst := some 91, op := Op.fieldAddr 28 (Operand.tmp 6) 0, type := 0, pos := "law.go:75", after := #[], guard := none }, { dst := some 92, op := Op.load 22 (Operand.tmp 91), type := 22, pos := "law.go:75", after := #[{ on := 0, ground := Ground.data }], guard := none }, { dst := some 93, op := Op.move (Operand.tmp 13), type := 3, pos := "law.go:75", after := #[], guard := none }, { dst := some 94, op := Op.indexAddr 22 (Operand.tmp 92) (Operand.tmp 93), type := 0, pos := "law.go:75", after := #[{ on := 1, ground := Ground.data }, { on := 2, ground := Ground.data }], guard := none }, { dst := some 95, op := Op.fieldAddr 35 (Operand.tmp 94) 2, type := 0, pos := "law.go:75", after := #[{ on := 3, ground := Ground.data }], guard := none }, { dst := some 96, op := Op.load 23 (Operand.tmp 95), type := 23, pos := "law.go:75", after := #[{ on := 4, ground := Ground.data }], guard := none }, { dst := some 97, op := Op.binOp BinOp.add 23 (Operand.tmp 96) (Operand.const (Value.int IntKind.u64 1)) 23, type := 23, pos := "law.go:75", after := #[{ on := 5, ground := Ground.data }], guard := none }, { dst := some 98, op := Op.binOp BinOp.eql 23 (Operand.tmp 97) (Operand.const (Value.int IntKind.u64 0)) 23, type := 4, pos := "law.go:75", after := #[{ on := 6, ground := Ground.data }], guard := none }] false).seq (Code.cond (Operand.tmp 98) ((Code.region 15 #[{ dst := some 99, op := Op.move (Operand.tmp 5), type := 4, pos := "law.go:76", after := #[], guard := none }, { dst := some 4, op := Op.assign (Operand.tmp 99), type := 4, pos := "law.go:76", after := #[{ on := 0, ground := Ground.data }, { on := 0, ground := Ground.phase }], guard := none }] false).seq Code.ret) Code.skip))).seq (Code.region 13 #[{ dst := some 89, op := Op.move (Operand.tmp 13), type := 3, pos := "law.go:74", after := #[], guard := none }, { dst := some 90, op := Op.binOp BinOp.add 3 (Operand.tmp 89) (Operand.const (Value.int IntKind.i64 1)) 3, type := 3, pos := "law.go:74", after := #[{ on := 0, ground := Ground.data }], guard := none }, { dst := some 13, op := Op.assign (Operand.tmp 90), type := 3, pos := "law.go:74", after := #[{ on := 1, ground := Ground.data }, { on := 0, ground := Ground.phase }, { on := 1, ground := Ground.phase }], guard := none }] false))).loop)).seq K
set_option maxRecDepth 100000 in
set_option maxHeartbeats 4000000 in
theorem lawLoop1_wp (K : Code) (ra : Rg) (hF : RFit ra) (g6 : Nat) (w0 w : World) (hG : Gr w0 w) (hB : BoxIn w g6 ra) (v0 v1 v2 v3 v4 v7 v8 v9 v10 v11 v12 v13 v14 v15 v16 v17 v18 v19 v20 v21 v22 v23 v24 v25 v26 v27 v28 v29 v30 v31 v32 v33 v34 v35 v36 v37 v38 v39 v40 v41 v42 v43 v44 v45 v46 v47 v48 v49 v50 v51 v52 v53 v54 v55 v56 v57 v58 v59 v60 v61 v62 v63 v64 v65 v66 v67 v68 v69 v70 v71 v72 v73 v74 v75 v76 v77 v78 v79 v80 v81 v82 v83 v84 v85 v86 v87 v88 v89 v90 v91 v92 v93 v94 v95 v96 v97 v98 v99 v100 v101 v102 v103 v104 v105 v106 v107 v108 v109 v110 v111 v112 v113 v114 v115 v116 v117 v118 v119 v120 v121 v122 v123 v124 v125 v126 v127 v128 v129 v130 v131 v132 v133 v134 v135 v136 v137 v138 v139 v140 v141 v142 v143 v144 v145 v146 v147 v148 v149 : Value) (hK : ∀ (x4 x13 x84 x85 x86 x87 x88 x89 x90 x91 x92 x93 x94 x95 x96 x97 x98 x99 : Value), (∀ m ∈ ra.1, m.2.2 + 1 < 18446744073709551616) → K.wp Try.prog (bodyPost Try.prog Try.f3 fun e z => e = .returned (.bool true) ∧ Gr w0 z) ⟨#[v0, v1, v2, v3, x4, (.bool true), (.pointer (some ⟨g6, 0, none⟩)), v7, v8, v9, v10, v11, v12, x13, v14, v15, v16, v17, v18, v19, v20, v21, v22, v23, v24, v25, v26, v27, v28, v29, v30, v31, v32, v33, v34, v35, v36, v37, v38, v39, v40, v41, v42, v43, v44, v45, v46, v47, v48, v49, v50, v51, v52, v53, v54, v55, v56, v57, v58, v59, v60, v61, v62, v63, v64, v65, v66, v67, v68, v69, v70, v71, v72, v73, v74, v75, v76, v77, v78, v79, v80, v81, v82, v83, x84, x85, x86, x87, x88, x89, x90, x91, x92, x93, x94, x95, x96, x97, x98, x99, v100, v101, v102, v103, v104, v105, v106, v107, v108, v109, v110, v111, v112, v113, v114, v115, v116, v117, v118, v119, v120, v121, v122, v123, v124, v125, v126, v127, v128, v129, v130, v131, v132, v133, v134, v135, v136, v137, v138, v139, v140, v141, v142, v143, v144, v145, v146, v147, v148, v149], []⟩ w) : (lawLoop1 K).wp Try.prog (bodyPost Try.prog Try.f3 fun e z => e = .returned (.bool true) ∧ Gr w0 z) ⟨#[v0, v1, v2, v3, v4, (.bool true), (.pointer (some ⟨g6, 0, none⟩)), v7, v8, v9, v10, v11, v12, v13, v14, v15, v16, v17, v18, v19, v20, v21, v22, v23, v24, v25, v26, v27, v28, v29, v30, v31, v32, v33, v34, v35, v36, v37, v38, v39, v40, v41, v42, v43, v44, v45, v46, v47, v48, v49, v50, v51, v52, v53, v54, v55, v56, v57, v58, v59, v60, v61, v62, v63, v64, v65, v66, v67, v68, v69, v70, v71, v72, v73, v74, v75, v76, v77, v78, v79, v80, v81, v82, v83, v84, v85, v86, v87, v88, v89, v90, v91, v92, v93, v94, v95, v96, v97, v98, v99, v100, v101, v102, v103, v104, v105, v106, v107, v108, v109, v110, v111, v112, v113, v114, v115, v116, v117, v118, v119, v120, v121, v122, v123, v124, v125, v126, v127, v128, v129, v130, v131, v132, v133, v134, v135, v136, v137, v138, v139, v140, v141, v142, v143, v144, v145, v146, v147, v148, v149], []⟩ w := by
  obtain ⟨u6, H6, R6⟩ := hB
  obtain ⟨a, cap, rfl⟩ := R6.mem.len
  have HV : Hid (Mems w.heap.size w (.slice a ra.1.length cap) ra.1) := R6.mem
  have hmx := R6.mem.le
  have hc0 : w.cell? ⟨g6, 0, none⟩ = some (.slice a ra.1.length cap) := H6.at 0 _ rfl
  obtain ⟨ln, hln⟩ : ∃ ln, ra.1.length = ln := ⟨_, rfl⟩
  rw [hln] at HV hc0 hmx
  have HL : Hid (ra.1.length = ln) := hln
  have HG : Hid (Gr w0 w) := hG
  have HFt : Hid (RFit ra) := hF
  have hl63 : (ln : Int) ≤ 9223372036854775807 := by unfold maxLen at hmx; omega
  clear hln hG hF H6 R6
  unfold lawLoop1
  go_wp2
  go_loopw [13] (fun c wr => ∃ i : Nat, i ≤ ln ∧ c = .int .i64 (i : Int) ∧ Hid (∀ m ∈ ra.1.take i, m.2.2 + 1 < 18446744073709551616) ∧ wr = w) (fun c _ => ln - (intOf c).toNat)
  case atStart => exact ⟨0, Nat.zero_le _, rfl, (by intro m hm; simp at hm), rfl⟩
  case round =>
  obtain ⟨i, hi, rfl, HI, rfl⟩ := hrel
  by_cases hlt : i < ln
  · have hlt' : (i : Int) < (ln : Int) := by omega
    have hi0 : (0 : Int) ≤ (i : Int) := by omega
    obtain ⟨⟨m1, m2, m3⟩, hm⟩ : ∃ m, ra.1[i]? = some m := ⟨_, List.getElem?_eq_getElem (by rw [HL.out]; exact hlt)⟩
    have HM : Hid (ra.1[i]? = some (m1, m2, m3)) := hm
    have hf : m3 < 18446744073709551616 := HFt.out.mem _ (List.mem_of_getElem? hm)
    obtain ⟨g, o, rfl, hgB, c0, c1, c2⟩ := HV.out.cell i _ hm
    clear hm
    by_cases hv : m3 + 1 < 18446744073709551616
    · have HI2 : Hid (∀ m ∈ ra.1.take (i + 1), m.2.2 + 1 < 18446744073709551616) := by
        intro m hmm
        rw [List.take_add_one, HM.out] at hmm
        rcases List.mem_append.1 hmm with q | q
        · exact HI.out m q
        · simp at q; subst q; exact hv
      have hne : ¬ (m3 : Int) + 1 = 0 := by omega
      have hnb : ((m3 : Int) + 1 == 0) = false := by simpa using hne
      have hv1 : (m3 : Int) + 1 < 18446744073709551616 := by omega
      clear HI
      go_wp2
      go_roundw
      case rel => exact ⟨i + 1, by omega, by go_num, HI2, (by first | rfl | trivial)⟩
      case measure => simp [intOf]; omega
    · have hnv : ¬ (m3 : Int) + 1 < 18446744073709551616 := by omega
      have hwr : IntKind.u64.wrap ((m3 : Int) + 1) = 0 := by
        have e : (m3 : Int) + 1 = 18446744073709551616 := by omega
        rw [e]; decide
      go_wp2
      go_ret
      exact ⟨rfl, HG.out⟩
  · obtain rfl : i = ln := by omega
    have hnl : ¬ (i : Int) < (i : Int) := by omega
    have HA : Hid (∀ m ∈ ra.1, m.2.2 + 1 < 18446744073709551616) := by
      intro m hmm
      exact HI.out m (by rw [List.take_of_length_le (Nat.le_of_eq HL.out)]; exact hmm)
    go_wp2
    exact hK _ _ _ _ _ _ _ _ _ _ _ _ _ _ _ _ _ _ HA.out
def lawLoop2 (K : Code) : Code := ((Code.region 16 #[{ dst := some 14, op := Op.assign (Operand.const (Value.int IntKind.i64 0)), type := 3, pos := "law.go:79", after := #[], guard := none }] false).seq (Code.block 2 (((Code.region 17 #[{ dst := some 100, op := Op.move (Operand.tmp 14), type := 3, pos := "law.go:79", after := #[], guard := none }, { dst := some 101, op := Op.binOp BinOp.lss 3 (Operand.tmp 100) (Operand.const (Value.int IntKind.i64 8)) 3, type := 4, pos := "law.go:79", after := #[{ on := 0, ground := Ground.data }], guard := none }] false).seq (Code.cond (Operand.tmp 101) Code.skip (Code.exit 2))).seq ((Code.block 3 ((Code.region 19 #[{ dst := some 104, op := Op.move (Operand.tmp 14), type := 3, pos := "law.go:80", after := #[], guard := none }, { dst := some 105, op := Op.fieldAddr 28 (Operand.tmp 6) 1, type := 0, pos := "law.go:80", after := #[], guard := none }, { dst := some 106, op := Op.indexAddr 26 (Operand.tmp 105) (Operand.tmp 104), type := 0, pos := "law.go:80", after := #[{ on := 1, ground := Ground.data }, { on := 0, ground := Ground.data }], guard := none }, { dst := some 107, op := Op.fieldAddr 25 (Operand.tmp 106) 1, type := 0, pos := "law.go:80", after := #[{ on := 2, ground := Ground.data }], guard := none }, { dst := some 108, op := Op.load 23 (Operand.tmp 107), type := 23, pos := "law.go:80", after := #[{ on := 3, ground := Ground.data }], guard := none }, { dst := some 109, op := Op.binOp BinOp.add 23 (Operand.tmp 108) (Operand.const (Value.int IntKind.u64 1)) 23, type := 23, pos := "law.go:80", after := #[{ on := 4, ground := Ground.data }], guard := none }, { dst := some 110, op := Op.binOp BinOp.eql 23 (Operand.tmp 109) (Operand.const (Value.int IntKind.u64 0)) 23, type := 4, pos := "law.go:80", after := #[{ on := 5, ground := Ground.data }], guard := none }] false).seq (Code.cond (Operand.tmp 110) ((Code.region 20 #[{ dst := some 111, op := Op.move (Operand.tmp 5), type := 4, pos := "law.go:81", after := #[], guard := none }, { dst := some 4, op := Op.assign (Operand.tmp 111), type := 4, pos := "law.go:81", after := #[{ on := 0, ground := Ground.data }, { on := 0, ground := Ground.phase }], guard := none }] false).seq Code.ret) Code.skip))).seq (Code.region 18 #[{ dst := some 102, op := Op.move (Operand.tmp 14), type := 3, pos := "law.go:79", after := #[], guard := none }, { dst := some 103, op := Op.binOp BinOp.add 3 (Operand.tmp 102) (Operand.const (Value.int IntKind.i64 1)) 3, type := 3, pos := "law.go:79", after := #[{ on := 0, ground := Ground.data }], guard := none }, { dst := some 14, op := Op.assign (Operand.tmp 103), type := 3, pos := "law.go:79", after := #[{ on := 1, ground := Ground.data }, { on := 0, ground := Ground.phase }, { on := 1, ground := Ground.phase }], guard := none }] false))).loop)).seq K
set_option maxRecDepth 100000 in
set_option maxHeartbeats 4000000 in
theorem lawLoop2_wp (K : Code) (ra : Rg) (hF : RFit ra) (g6 : Nat) (w0 w : World) (hG : Gr w0 w) (hB : BoxIn w g6 ra) (v0 v1 v2 v3 v4 v7 v8 v9 v10 v11 v12 v13 v14 v15 v16 v17 v18 v19 v20 v21 v22 v23 v24 v25 v26 v27 v28 v29 v30 v31 v32 v33 v34 v35 v36 v37 v38 v39 v40 v41 v42 v43 v44 v45 v46 v47 v48 v49 v50 v51 v52 v53 v54 v55 v56 v57 v58 v59 v60 v61 v62 v63 v64 v65 v66 v67 v68 v69 v70 v71 v72 v73 v74 v75 v76 v77 v78 v79 v80 v81 v82 v83 v84 v85 v86 v87 v88 v89 v90 v91 v92 v93 v94 v95 v96 v97 v98 v99 v100 v101 v102 v103 v104 v105 v106 v107 v108 v109 v110 v111 v112 v113 v114 v115 v116 v117 v118 v119 v120 v121 v122 v123 v124 v125 v126 v127 v128 v129 v130 v131 v132 v133 v134 v135 v136 v137 v138 v139 v140 v141 v142 v143 v144 v145 v146 v147 v148 v149 : Value) (hK : ∀ (x4 x14 x100 x101 x102 x103 x104 x105 x106 x107 x108 x109 x110 x111 : Value), (∀ j, j < 8 → (ra.2.getD j noO).2 + 1 < 18446744073709551616) → K.wp Try.prog (bodyPost Try.prog Try.f3 fun e z => e = .returned (.bool true) ∧ Gr w0 z) ⟨#[v0, v1, v2, v3, x4, (.bool true), (.pointer (some ⟨g6, 0, none⟩)), v7, v8, v9, v10, v11, v12, v13, x14, v15, v16, v17, v18, v19, v20, v21, v22, v23, v24, v25, v26, v27, v28, v29, v30, v31, v32, v33, v34, v35, v36, v37, v38, v39, v40, v41, v42, v43, v44, v45, v46, v47, v48, v49, v50, v51, v52, v53, v54, v55, v56, v57, v58, v59, v60, v61, v62, v63, v64, v65, v66, v67, v68, v69, v70, v71, v72, v73, v74, v75, v76, v77, v78, v79, v80, v81, v82, v83, v84, v85, v86, v87, v88, v89, v90, v91, v92, v93, v94, v95, v96, v97, v98, v99, x100, x101, x102, x103, x104, x105, x106, x107, x108, x109, x110, x111, v112, v113, v114, v115, v116, v117, v118, v119, v120, v121, v122, v123, v124, v125, v126, v127, v128, v129, v130, v131, v132, v133, v134, v135, v136, v137, v138, v139, v140, v141, v142, v143, v144, v145, v146, v147, v148, v149], []⟩ w) : (lawLoop2 K).wp Try.prog (bodyPost Try.prog Try.f3 fun e z => e = .returned (.bool true) ∧ Gr w0 z) ⟨#[v0, v1, v2, v3, v4, (.bool true), (.pointer (some ⟨g6, 0, none⟩)), v7, v8, v9, v10, v11, v12, v13, v14, v15, v16, v17, v18, v19, v20, v21, v22, v23, v24, v25, v26, v27, v28, v29, v30, v31, v32, v33, v34, v35, v36, v37, v38, v39, v40, v41, v42, v43, v44, v45, v46, v47, v48, v49, v50, v51, v52, v53, v54, v55, v56, v57, v58, v59, v60, v61, v62, v63, v64, v65, v66, v67, v68, v69, v70, v71, v72, v73, v74, v75, v76, v77, v78, v79, v80, v81, v82, v83, v84, v85, v86, v87, v88, v89, v90, v91, v92, v93, v94, v95, v96, v97, v98, v99, v100, v101, v102, v103, v104, v105, v106, v107, v108, v109, v110, v111, v112, v113, v114, v115, v116, v117, v118, v119, v120, v121, v122, v123, v124, v125, v126, v127, v128, v129, v130, v131, v132, v133, v134, v135, v136, v137, v138, v139, v140, v141, v142, v143, v144, v145, v146, v147, v148, v149], []⟩ w := by
  obtain ⟨u6, H6, R6⟩ := hB
  have HO : Hid (∀ i : Nat, i < 8 → w.cell? ⟨g6, 1 + i * 2 + 1, none⟩ = some (.int .u64 ((ra.2.getD i noO).2 : Int))) := fun i hi => by
    have h : ra.2[i]? = some (ra.2.getD i noO) := getD_some (by rw [R6.own]; exact hi)
    exact H6.at _ _ (ring_cell u6 ra.1 ra.2 i _ h 1 (by omega))
  have HG : Hid (Gr w0 w) := hG
  have HFt : Hid (RFit ra) := hF
  clear hG hF H6 R6
  unfold lawLoop2
  go_wp2
  go_loopw [14] (fun c wr => ∃ i : Nat, i ≤ 8 ∧ c = .int .i64 (i : Int) ∧ Hid (∀ j, j < i → (ra.2.getD j noO).2 + 1 < 18446744073709551616) ∧ wr = w) (fun c _ => 8 - (intOf c).toNat)
  case atStart => exact ⟨0, Nat.zero_le _, rfl, (by intro j hj; omega), rfl⟩
  case round =>
  obtain ⟨i, hi, rfl, HI, rfl⟩ := hrel
  by_cases hlt : i < 8
  · have hlt' : (i : Int) < 8 := by omega
    have hi0 : (0 : Int) ≤ (i : Int) := by omega
    have c2 := HO.out i hlt
    have hf := HFt.out.own i hlt
    obtain ⟨m3, hm3⟩ : ∃ m, (ra.2.getD i noO).2 = m := ⟨_, rfl⟩
    rw [hm3] at c2 hf
    have HM : Hid ((ra.2.getD i noO).2 = m3) := hm3
    clear hm3
    by_cases hv : m3 + 1 < 18446744073709551616
    · have HI2 : Hid (∀ j, j < i + 1 → (ra.2.getD j noO).2 + 1 < 18446744073709551616) := by
        intro j hj
        rcases Nat.lt_succ_iff_lt_or_eq.1 hj with q | q
        · exact HI.out j q
        · subst q; rw [HM.out]; exact hv
      have hne : ¬ (m3 : Int) + 1 = 0 := by omega
      have hnb : ((m3 : Int) + 1 == 0) = false := by simpa using hne
      have hv1 : (m3 : Int) + 1 < 18446744073709551616 := by omega
      clear HI
      go_wp2
      go_roundw
      case rel => exact ⟨i + 1, by omega, by go_num, HI2, (by first | rfl | trivial)⟩
      case measure => simp [intOf]; omega
    · have hnv : ¬ (m3 : Int) + 1 < 18446744073709551616 := by omega
      have hwr : IntKind.u64.wrap ((m3 : Int) + 1) = 0 := by
        have e : (m3 : Int) + 1 = 18446744073709551616 := by omega
        rw [e]; decide
      go_wp2
      go_ret
      exact ⟨rfl, HG.out⟩
  · obtain rfl : i = 8 := by omega
    have HA : Hid (∀ j, j < 8 → (ra.2.getD j noO).2 + 1 < 18446744073709551616) := HI.out
    go_wp2
    exact hK _ _ _ _ _ _ _ _ _ _ _ _ _ _ HA.out
theorem best_small {l : List Mb} (h : ∀ m ∈ l, m.2.2 + 1 < 18446744073709551616) (n : Int) : (bestL l n).2.2 + 1 < 18446744073709551616 := by
  have : ∀ (l : List Mb) (k : Kn), (∀ n, (k n).2.2 + 1 < 18446744073709551616) → (∀ m ∈ l, m.2.2 + 1 < 18446744073709551616) → ∀ n, (hearL k l n).2.2 + 1 < 18446744073709551616 := by
    intro l
    induction l with
    | nil => intro k hk _ n; exact hk n
    | cons m l ih =>
      intro k hk hl n
      refine ih (hear1 k m) (fun n => ?_) (fun q hq => hl q (by simp [hq])) n
      unfold hear1
      split
      · unfold upd
        split
        · exact hl m (by simp)
        · exact hk n
      · exact hk n
  exact this l noK (fun n => by show (noM).2.2 + 1 < 18446744073709551616; decide) h n
def lawMid : Code := lawLoop1 (lawLoop2 lawTail)
set_option maxRecDepth 100000 in
set_option maxHeartbeats 4000000 in
theorem law_mid (n : Int) (hn : I64 n) (ra : Rg) (hF : RFit ra) (g6 : Nat) (w0 w : World) (hG : Gr w0 w) (hB : BoxIn w g6 ra) (v0 v2 v3 v4 v7 v8 v9 v10 v11 v12 v13 v14 v15 v16 v17 v18 v19 v20 v21 v22 v23 v24 v25 v26 v27 v28 v29 v30 v31 v32 v33 v34 v35 v36 v37 v38 v39 v40 v41 v42 v43 v44 v45 v46 v47 v48 v49 v50 v51 v52 v53 v54 v55 v56 v57 v58 v59 v60 v61 v62 v63 v64 v65 v66 v67 v68 v69 v70 v71 v72 v73 v74 v75 v76 v77 v78 v79 v80 v81 v82 v83 v84 v85 v86 v87 v88 v89 v90 v91 v92 v93 v94 v95 v96 v97 v98 v99 v100 v101 v102 v103 v104 v105 v106 v107 v108 v109 v110 v111 v112 v113 v114 v115 v116 v117 v118 v119 v120 v121 v122 v123 v124 v125 v126 v127 v128 v129 v130 v131 v132 v133 v134 v135 v136 v137 v138 v139 v140 v141 v142 v143 v144 v145 v146 v147 v148 v149 : Value) : lawMid.wp Try.prog (bodyPost Try.prog Try.f3 fun e z => e = .returned (.bool true) ∧ Gr w0 z) ⟨#[v0, (.int .i64 n), v2, v3, v4, (.bool true), (.pointer (some ⟨g6, 0, none⟩)), v7, v8, v9, v10, v11, v12, v13, v14, v15, v16, v17, v18, v19, v20, v21, v22, v23, v24, v25, v26, v27, v28, v29, v30, v31, v32, v33, v34, v35, v36, v37, v38, v39, v40, v41, v42, v43, v44, v45, v46, v47, v48, v49, v50, v51, v52, v53, v54, v55, v56, v57, v58, v59, v60, v61, v62, v63, v64, v65, v66, v67, v68, v69, v70, v71, v72, v73, v74, v75, v76, v77, v78, v79, v80, v81, v82, v83, v84, v85, v86, v87, v88, v89, v90, v91, v92, v93, v94, v95, v96, v97, v98, v99, v100, v101, v102, v103, v104, v105, v106, v107, v108, v109, v110, v111, v112, v113, v114, v115, v116, v117, v118, v119, v120, v121, v122, v123, v124, v125, v126, v127, v128, v129, v130, v131, v132, v133, v134, v135, v136, v137, v138, v139, v140, v141, v142, v143, v144, v145, v146, v147, v148, v149], []⟩ w := by
  unfold lawMid
  refine lawLoop1_wp _ ra hF g6 w0 w hG hB v0 (.int .i64 n) v2 v3 v4 v7 v8 v9 v10 v11 v12 v13 v14 v15 v16 v17 v18 v19 v20 v21 v22 v23 v24 v25 v26 v27 v28 v29 v30 v31 v32 v33 v34 v35 v36 v37 v38 v39 v40 v41 v42 v43 v44 v45 v46 v47 v48 v49 v50 v51 v52 v53 v54 v55 v56 v57 v58 v59 v60 v61 v62 v63 v64 v65 v66 v67 v68 v69 v70 v71 v72 v73 v74 v75 v76 v77 v78 v79 v80 v81 v82 v83 v84 v85 v86 v87 v88 v89 v90 v91 v92 v93 v94 v95 v96 v97 v98 v99 v100 v101 v102 v103 v104 v105 v106 v107 v108 v109 v110 v111 v112 v113 v114 v115 v116 v117 v118 v119 v120 v121 v122 v123 v124 v125 v126 v127 v128 v129 v130 v131 v132 v133 v134 v135 v136 v137 v138 v139 v140 v141 v142 v143 v144 v145 v146 v147 v148 v149 (fun x4 x13 x84 x85 x86 x87 x88 x89 x90 x91 x92 x93 x94 x95 x96 x97 x98 x99 hm => ?_)
  refine lawLoop2_wp _ ra hF g6 w0 w hG hB v0 (.int .i64 n) v2 v3 x4 v7 v8 v9 v10 v11 v12 x13 v14 v15 v16 v17 v18 v19 v20 v21 v22 v23 v24 v25 v26 v27 v28 v29 v30 v31 v32 v33 v34 v35 v36 v37 v38 v39 v40 v41 v42 v43 v44 v45 v46 v47 v48 v49 v50 v51 v52 v53 v54 v55 v56 v57 v58 v59 v60 v61 v62 v63 v64 v65 v66 v67 v68 v69 v70 v71 v72 v73 v74 v75 v76 v77 v78 v79 v80 v81 v82 v83 x84 x85 x86 x87 x88 x89 x90 x91 x92 x93 x94 x95 x96 x97 x98 x99 v100 v101 v102 v103 v104 v105 v106 v107 v108 v109 v110 v111 v112 v113 v114 v115 v116 v117 v118 v119 v120 v121 v122 v123 v124 v125 v126 v127 v128 v129 v130 v131 v132 v133 v134 v135 v136 v137 v138 v139 v140 v141 v142 v143 v144 v145 v146 v147 v148 v149 (fun x4 x14 x100 x101 x102 x103 x104 x105 x106 x107 x108 x109 x110 x111 ho => ?_)
  exact law_tail n hn ra hF ⟨best_small hm, ho⟩ g6 w0 w hG hB _ _ _ _ _ _ _ _ _ _ _ _ _ _ _ _ _ _ _ _ _ _ _ _ _ _ _ _ _ _ _ _ _ _ _ _ _ _ _ _ _ _ _ _ _ _ _ _ _ _ _ _ _ _ _ _ _ _ _ _ _ _ _ _ _ _ _ _ _ _ _ _ _ _ _ _ _ _ _ _ _ _ _ _ _ _ _ _ _ _ _ _ _ _ _ _ _ _ _ _ _ _ _ _ _ _ _ _ _ _ _ _ _ _ _ _ _ _ _ _ _ _ _ _ _ _ _ _ _ _ _ _ _ _ _ _ _ _ _ _ _ _ _ _ _ _ _
end Go.Proofs.Ythmnjebmnocoiaa
