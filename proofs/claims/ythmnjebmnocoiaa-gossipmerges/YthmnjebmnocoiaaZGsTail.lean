/- The law from region 21 on. -/
import Derived.Test.YthmnjebmnocoiaaZGsLawT
namespace Go.Proofs.Ythmnjebmnocoiaa
open Go.RowKit
attribute [local go_sem ↓] rule28
theorem BoxAt.boxIn {w : World} {g : Nat} {cs : List Value} {r : Rg} (h : BoxAt w g cs r) : BoxIn w g r := by
  obtain ⟨H, u, rfl, R⟩ := h
  exact ⟨u, H, R.mono (Nat.le_of_lt H.lt)⟩
def lawTail : Code := (Code.region 21 #[{ dst := some 112, op := Op.load 28 (Operand.tmp 6), type := 28, pos := "law.go:84", after := #[], guard := none }, { dst := some 113, op := Op.move (Operand.tmp 1), type := 3, pos := "law.go:84", after := #[], guard := none }, { dst := some 114, op := Op.call { callee := Callee.value (Operand.func 9), args := #[Operand.tmp 112, Operand.tmp 113], argTypes := #[28, 3] }, type := 28, pos := "law.go:84", after := #[{ on := 0, ground := Ground.data }, { on := 1, ground := Ground.data }], guard := none }, { dst := some 15, op := Op.alloc 28, type := 0, pos := "law.go:84", after := #[], guard := none }, { dst := none, op := Op.store 28 (Operand.tmp 15) (Operand.tmp 114), type := 0, pos := "law.go:84", after := #[{ on := 3, ground := Ground.data }, { on := 2, ground := Ground.data }, { on := 2, ground := Ground.chain }, { on := 0, ground := Ground.phase }, { on := 1, ground := Ground.phase }, { on := 2, ground := Ground.phase }, { on := 3, ground := Ground.phase }], guard := none }] false).seq ((Code.region 22 #[{ dst := some 115, op := Op.load 28 (Operand.tmp 6), type := 28, pos := "law.go:85", after := #[], guard := none }, { dst := some 116, op := Op.move (Operand.tmp 1), type := 3, pos := "law.go:85", after := #[], guard := none }, { dst := some 117, op := Op.call { callee := Callee.value (Operand.func 10), args := #[Operand.tmp 115, Operand.tmp 116], argTypes := #[28, 3] }, type := 28, pos := "law.go:85", after := #[{ on := 0, ground := Ground.data }, { on := 1, ground := Ground.data }], guard := none }, { dst := some 16, op := Op.alloc 28, type := 0, pos := "law.go:85", after := #[], guard := none }, { dst := none, op := Op.store 28 (Operand.tmp 16) (Operand.tmp 117), type := 0, pos := "law.go:85", after := #[{ on := 3, ground := Ground.data }, { on := 2, ground := Ground.data }, { on := 2, ground := Ground.chain }, { on := 0, ground := Ground.phase }, { on := 1, ground := Ground.phase }, { on := 2, ground := Ground.phase }, { on := 3, ground := Ground.phase }], guard := none }] false).seq ((Code.region 23 #[{ dst := some 118, op := Op.load 28 (Operand.tmp 6), type := 28, pos := "law.go:86", after := #[], guard := none }, { dst := some 119, op := Op.load 28 (Operand.tmp 6), type := 28, pos := "law.go:86", after := #[], guard := none }, { dst := some 120, op := Op.call { callee := Callee.value (Operand.func 12), args := #[Operand.tmp 119], argTypes := #[28] }, type := 3, pos := "law.go:86", after := #[{ on := 1, ground := Ground.data }], guard := none }, { dst := some 121, op := Op.call { callee := Callee.value (Operand.func 11), args := #[Operand.tmp 118, Operand.tmp 120], argTypes := #[28, 3] }, type := 28, pos := "law.go:86", after := #[{ on := 0, ground := Ground.data }, { on := 2, ground := Ground.data }, { on := 2, ground := Ground.chain }], guard := none }, { dst := some 17, op := Op.alloc 28, type := 0, pos := "law.go:86", after := #[], guard := none }, { dst := none, op := Op.store 28 (Operand.tmp 17) (Operand.tmp 121), type := 0, pos := "law.go:86", after := #[{ on := 4, ground := Ground.data }, { on := 3, ground := Ground.data }, { on := 3, ground := Ground.chain }, { on := 0, ground := Ground.phase }, { on := 1, ground := Ground.phase }, { on := 2, ground := Ground.phase }, { on := 3, ground := Ground.phase }, { on := 4, ground := Ground.phase }], guard := none }] true).seq ((Code.region 24 #[{ dst := some 122, op := Op.load 28 (Operand.tmp 6), type := 28, pos := "law.go:87", after := #[], guard := none }, { dst := some 123, op := Op.load 28 (Operand.tmp 15), type := 28, pos := "law.go:87", after := #[], guard := none }, { dst := some 124, op := Op.buildSlice 53 2 #[(0, Operand.tmp 122), (1, Operand.tmp 123)], type := 53, pos := "law.go:87", after := #[{ on := 0, ground := Ground.data }, { on := 1, ground := Ground.data }], guard := none }, { dst := some 125, op := Op.call { callee := Callee.value (Operand.func 7), args := #[Operand.tmp 124], argTypes := #[53] }, type := 28, pos := "law.go:87", after := #[{ on := 2, ground := Ground.data }], guard := none }, { dst := some 126, op := Op.load 28 (Operand.tmp 15), type := 28, pos := "law.go:87", after := #[], guard := none }, { dst := some 127, op := Op.call { callee := Callee.value (Operand.func 6), args := #[Operand.tmp 125, Operand.tmp 126], argTypes := #[28, 28] }, type := 4, pos := "law.go:87", after := #[{ on := 3, ground := Ground.data }, { on := 4, ground := Ground.data }, { on := 3, ground := Ground.chain }], guard := none }, { dst := some 18, op := Op.assign (Operand.tmp 127), type := 4, pos := "law.go:87", after := #[{ on := 5, ground := Ground.data }, { on := 5, ground := Ground.chain }, { on := 0, ground := Ground.phase }, { on := 1, ground := Ground.phase }, { on := 2, ground := Ground.phase }, { on := 3, ground := Ground.phase }, { on := 4, ground := Ground.phase }, { on := 5, ground := Ground.phase }], guard := none }] true).seq ((Code.region 25 #[{ dst := some 128, op := Op.load 28 (Operand.tmp 16), type := 28, pos := "law.go:88", after := #[], guard := none }, { dst := some 129, op := Op.load 28 (Operand.tmp 6), type := 28, pos := "law.go:88", after := #[], guard := none }, { dst := some 130, op := Op.buildSlice 53 2 #[(0, Operand.tmp 128), (1, Operand.tmp 129)], type := 53, pos := "law.go:88", after := #[{ on := 0, ground := Ground.data }, { on := 1, ground := Ground.data }], guard := none }, { dst := some 131, op := Op.call { callee := Callee.value (Operand.func 7), args := #[Operand.tmp 130], argTypes := #[53] }, type := 28, pos := "law.go:88", after := #[{ on := 2, ground := Ground.data }], guard := none }, { dst := some 132, op := Op.load 28 (Operand.tmp 16), type := 28, pos := "law.go:88", after := #[], guard := none }, { dst := some 133, op := Op.call { callee := Callee.value (Operand.func 6), args := #[Operand.tmp 131, Operand.tmp 132], argTypes := #[28, 28] }, type := 4, pos := "law.go:88", after := #[{ on := 3, ground := Ground.data }, { on := 4, ground := Ground.data }, { on := 3, ground := Ground.chain }], guard := none }, { dst := some 19, op := Op.assign (Operand.tmp 133), type := 4, pos := "law.go:88", after := #[{ on := 5, ground := Ground.data }, { on := 5, ground := Ground.chain }, { on := 0, ground := Ground.phase }, { on := 1, ground := Ground.phase }, { on := 2, ground := Ground.phase }, { on := 3, ground := Ground.phase }, { on := 4, ground := Ground.phase }, { on := 5, ground := Ground.phase }], guard := none }] true).seq ((Code.region 26 #[{ dst := some 134, op := Op.load 28 (Operand.tmp 17), type := 28, pos := "law.go:89", after := #[], guard := none }, { dst := some 135, op := Op.load 28 (Operand.tmp 6), type := 28, pos := "law.go:89", after := #[], guard := none }, { dst := some 136, op := Op.buildSlice 53 2 #[(0, Operand.tmp 134), (1, Operand.tmp 135)], type := 53, pos := "law.go:89", after := #[{ on := 0, ground := Ground.data }, { on := 1, ground := Ground.data }], guard := none }, { dst := some 137, op := Op.call { callee := Callee.value (Operand.func 7), args := #[Operand.tmp 136], argTypes := #[53] }, type := 28, pos := "law.go:89", after := #[{ on := 2, ground := Ground.data }], guard := none }, { dst := some 138, op := Op.load 28 (Operand.tmp 17), type := 28, pos := "law.go:89", after := #[], guard := none }, { dst := some 139, op := Op.call { callee := Callee.value (Operand.func 6), args := #[Operand.tmp 137, Operand.tmp 138], argTypes := #[28, 28] }, type := 4, pos := "law.go:89", after := #[{ on := 3, ground := Ground.data }, { on := 4, ground := Ground.data }, { on := 3, ground := Ground.chain }], guard := none }, { dst := some 20, op := Op.assign (Operand.tmp 139), type := 4, pos := "law.go:89", after := #[{ on := 5, ground := Ground.data }, { on := 5, ground := Ground.chain }, { on := 0, ground := Ground.phase }, { on := 1, ground := Ground.phase }, { on := 2, ground := Ground.phase }, { on := 3, ground := Ground.phase }, { on := 4, ground := Ground.phase }, { on := 5, ground := Ground.phase }], guard := none }] true).seq ((Code.region 27 #[{ dst := some 140, op := Op.move (Operand.tmp 5), type := 4, pos := "law.go:90", after := #[], guard := none }, { dst := some 141, op := Op.move (Operand.tmp 140), type := 4, pos := "law.go:90", after := #[{ on := 0, ground := Ground.data }], guard := none }, { dst := some 142, op := Op.move (Operand.tmp 18), type := 4, pos := "law.go:90", after := #[{ on := 1, ground := Ground.guard }], guard := some (1, true) }, { dst := some 143, op := Op.pick (Operand.tmp 141) (Operand.tmp 142) (Operand.const (Value.bool false)), type := 4, pos := "law.go:90", after := #[{ on := 1, ground := Ground.data }, { on := 2, ground := Ground.data }], guard := none }, { dst := some 144, op := Op.move (Operand.tmp 143), type := 4, pos := "law.go:90", after := #[{ on := 3, ground := Ground.data }, { on := 1, ground := Ground.chain }], guard := none }, { dst := some 145, op := Op.move (Operand.tmp 19), type := 4, pos := "law.go:90", after := #[{ on := 4, ground := Ground.guard }], guard := some (4, true) }, { dst := some 146, op := Op.pick (Operand.tmp 144) (Operand.tmp 145) (Operand.const (Value.bool false)), type := 4, pos := "law.go:90", after := #[{ on := 4, ground := Ground.data }, { on := 5, ground := Ground.data }], guard := none }, { dst := some 147, op := Op.move (Operand.tmp 146), type := 4, pos := "law.go:90", after := #[{ on := 6, ground := Ground.data }, { on := 4, ground := Ground.chain }], guard := none }, { dst := some 148, op := Op.move (Operand.tmp 20), type := 4, pos := "law.go:90", after := #[{ on := 7, ground := Ground.guard }], guard := some (7, true) }, { dst := some 149, op := Op.pick (Operand.tmp 147) (Operand.tmp 148) (Operand.const (Value.bool false)), type := 4, pos := "law.go:90", after := #[{ on := 7, ground := Ground.data }, { on := 8, ground := Ground.data }], guard := none }, { dst := some 4, op := Op.assign (Operand.tmp 149), type := 4, pos := "law.go:90", after := #[{ on := 9, ground := Ground.data }, { on := 7, ground := Ground.chain }, { on := 0, ground := Ground.phase }, { on := 1, ground := Ground.phase }, { on := 2, ground := Ground.phase }, { on := 3, ground := Ground.phase }, { on := 4, ground := Ground.phase }, { on := 5, ground := Ground.phase }, { on := 6, ground := Ground.phase }, { on := 7, ground := Ground.phase }, { on := 8, ground := Ground.phase }, { on := 9, ground := Ground.phase }], guard := none }] false).seq Code.ret))))))
set_option maxRecDepth 100000 in
set_option maxHeartbeats 4000000 in
theorem law_tail (n : Int) (hn : I64 n) (ra : Rg) (hF : RFit ra) (hS : Small ra) (g6 : Nat) (w0 w : World) (hG : Gr w0 w) (hB : BoxIn w g6 ra) (v0 v2 v3 v4 v7 v8 v9 v10 v11 v12 v13 v14 v15 v16 v17 v18 v19 v20 v21 v22 v23 v24 v25 v26 v27 v28 v29 v30 v31 v32 v33 v34 v35 v36 v37 v38 v39 v40 v41 v42 v43 v44 v45 v46 v47 v48 v49 v50 v51 v52 v53 v54 v55 v56 v57 v58 v59 v60 v61 v62 v63 v64 v65 v66 v67 v68 v69 v70 v71 v72 v73 v74 v75 v76 v77 v78 v79 v80 v81 v82 v83 v84 v85 v86 v87 v88 v89 v90 v91 v92 v93 v94 v95 v96 v97 v98 v99 v100 v101 v102 v103 v104 v105 v106 v107 v108 v109 v110 v111 v112 v113 v114 v115 v116 v117 v118 v119 v120 v121 v122 v123 v124 v125 v126 v127 v128 v129 v130 v131 v132 v133 v134 v135 v136 v137 v138 v139 v140 v141 v142 v143 v144 v145 v146 v147 v148 v149 : Value) : lawTail.wp Try.prog (bodyPost Try.prog Try.f3 fun e z => e = .returned (.bool true) ∧ Gr w0 z) ⟨#[v0, (.int .i64 n), v2, v3, v4, (.bool true), (.pointer (some ⟨g6, 0, none⟩)), v7, v8, v9, v10, v11, v12, v13, v14, v15, v16, v17, v18, v19, v20, v21, v22, v23, v24, v25, v26, v27, v28, v29, v30, v31, v32, v33, v34, v35, v36, v37, v38, v39, v40, v41, v42, v43, v44, v45, v46, v47, v48, v49, v50, v51, v52, v53, v54, v55, v56, v57, v58, v59, v60, v61, v62, v63, v64, v65, v66, v67, v68, v69, v70, v71, v72, v73, v74, v75, v76, v77, v78, v79, v80, v81, v82, v83, v84, v85, v86, v87, v88, v89, v90, v91, v92, v93, v94, v95, v96, v97, v98, v99, v100, v101, v102, v103, v104, v105, v106, v107, v108, v109, v110, v111, v112, v113, v114, v115, v116, v117, v118, v119, v120, v121, v122, v123, v124, v125, v126, v127, v128, v129, v130, v131, v132, v133, v134, v135, v136, v137, v138, v139, v140, v141, v142, v143, v144, v145, v146, v147, v148, v149], []⟩ w := by
  obtain ⟨u6, H6, R6⟩ := hB
  have HF : Hid (RFit ra) := hF
  have HS : Hid (Small ra) := hS
  have HG0 : Hid (Gr w0 w) := hG
  obtain ⟨cs, hcs⟩ : ∃ cs, ringC u6 ra = cs := ⟨_, rfl⟩
  have l6 : cs.length = 17 := hcs ▸ ringC_len R6
  have HC : Hid (ringC u6 ra = cs) := hcs
  have HR6 : Hid (RingAt w.heap.size w u6 ra) := R6
  have HH6 : Hid (Holds w g6 cs 28) := by unfold Hid; rw [← hcs]; exact H6
  have p6 := HH6.out.row28 l6
  have HJ : Hid (∀ W, Gr w W → Calls Try.prog 9 #[.agg cs.toArray, .int .i64 n] W fun e z => ∃ ds : List Value, e = .returned (.agg ds.toArray) ∧ Hid (Tl W z ds (joinL ra n))) := fun W hW => by
    rw [← HC.out]
    exact (join_any u6 ra HF.out n hn W (HR6.out.gr hW)).mono fun _ _ ⟨u, e1, e2, _, e3⟩ => ⟨_, e1, ⟨u, rfl, e2⟩, e3⟩
  have HL : Hid (∀ W, Gr w W → Calls Try.prog 10 #[.agg cs.toArray, .int .i64 n] W fun e z => ∃ ds : List Value, e = .returned (.agg ds.toArray) ∧ Hid (Tl W z ds (leaveL ra n))) := fun W hW => by
    rw [← HC.out]
    exact (leave_any u6 ra HF.out n hn W (HR6.out.gr hW)).mono fun _ _ ⟨u, e1, e2, _, e3⟩ => ⟨_, e1, ⟨u, rfl, e2⟩, e3⟩
  clear hF hS hG H6 R6 hcs hn
  unfold lawTail
  generalize hK : (Code.region 23 _ true).seq _ = K23
  have HK : Hid (_ = K23) := hK
  clear hK
  go_wp2_with (first
    | (go_at_call 9; refine (HJ.out _ (Gr.refl _)).mono ?_; rintro e x1 ⟨c1, rfl, T1⟩; obtain ⟨g15, hg1⟩ : ∃ g, x1.heap.size = g := ⟨_, rfl⟩; have l1 := T1.out.len; have o1 := T1.out.one)
    | (refine wpList_alloc_new 15 rfl rfl 28 rfl g15 hg1 _ zero28 ?_; intro y1 h1)
    | (refine wpList_store_all rfl 28 (.tmp 15) (.tmp 114) rfl g15 rfl c1 rfl 28 _ h1.holds (siz28.trans (congrArg some l1.symm)) l1.symm o1 ?_; intro w1 k1; obtain ⟨B1, G1⟩ := hbox (box_made T1.out hg1 h1 k1); have q6 := (HH6.out.below G1.out HH6.out.lt).row28 l6; clear T1 h1 k1 o1 hg1 p6)
    | (go_at_call 10; refine (HL.out _ G1.out).mono ?_; rintro e x2 ⟨c2, rfl, T2⟩; obtain ⟨g16, hg2⟩ : ∃ g, x2.heap.size = g := ⟨_, rfl⟩; have l2 := T2.out.len; have o2 := T2.out.one)
    | (refine wpList_alloc_new 16 rfl rfl 28 rfl g16 hg2 _ zero28 ?_; intro y2 h2)
    | (refine wpList_store_all rfl 28 (.tmp 16) (.tmp 117) rfl g16 rfl c2 rfl 28 _ h2.holds (siz28.trans (congrArg some l2.symm)) l2.symm o2 ?_; intro w2 k2; obtain ⟨B2, G2⟩ := hbox (box_made T2.out hg2 h2 k2); clear T2 h2 k2 o2 hg2 q6))
  have I15 : Hid (BoxIn w2 g15 (joinL ra n)) := (B1.out.gr G2.out).boxIn
  have I16 : Hid (BoxIn w2 g16 (leaveL ra n)) := B2.out.boxIn
  have A2 : Hid (Gr w w2) := G1.out.trans G2.out
  have I6 : Hid (BoxIn w2 g6 ra) := BoxIn.gr ⟨u6, by rw [HC.out]; exact HH6.out, HR6.out⟩ A2.out
  have A2' : Hid (Gr w0 w2) := HG0.out.trans A2.out
  clear B1 B2 G1 G2 HJ HL HR6 HH6 HC l6 l1 l2 A2 HG0
  rw [← HK.out]
  clear HK
  go_upto_region 23 with fail
  rename_i Kc hKc
  show Code.wp Try.prog _ _ ⟨#[v0, (.int .i64 n), v2, v3, v4, (.bool true), (.pointer (some ⟨g6, 0, none⟩)), v7, v8, v9, v10, v11, v12, v13, v14, (.pointer (some ⟨g15, 0, none⟩)), (.pointer (some ⟨g16, 0, none⟩)), v17, v18, v19, v20, v21, v22, v23, v24, v25, v26, v27, v28, v29, v30, v31, v32, v33, v34, v35, v36, v37, v38, v39, v40, v41, v42, v43, v44, v45, v46, v47, v48, v49, v50, v51, v52, v53, v54, v55, v56, v57, v58, v59, v60, v61, v62, v63, v64, v65, v66, v67, v68, v69, v70, v71, v72, v73, v74, v75, v76, v77, v78, v79, v80, v81, v82, v83, v84, v85, v86, v87, v88, v89, v90, v91, v92, v93, v94, v95, v96, v97, v98, v99, v100, v101, v102, v103, v104, v105, v106, v107, v108, v109, v110, v111, (.agg cs.toArray), (.int .i64 n), (.agg c1.toArray), (.agg cs.toArray), (.int .i64 n), (.agg c2.toArray), v118, v119, v120, v121, v122, v123, v124, v125, v126, v127, v128, v129, v130, v131, v132, v133, v134, v135, v136, v137, v138, v139, v140, v141, v142, v143, v144, v145, v146, v147, v148, v149], []⟩ w2
  -- MARK23
  refine law_r23 rfl g6 rfl I6.out HF.out (fun a x3 g17 hA h17 B17 G3 => ?_)
  refine hKc _ _ ?_
  clear hKc
  have ha : a = ⟨#[v0, (.int .i64 n), v2, v3, v4, (.bool true), (.pointer (some ⟨g6, 0, none⟩)), v7, v8, v9, v10, v11, v12, v13, v14, (.pointer (some ⟨g15, 0, none⟩)), (.pointer (some ⟨g16, 0, none⟩)), (a.eval (.tmp 17)), v18, v19, v20, v21, v22, v23, v24, v25, v26, v27, v28, v29, v30, v31, v32, v33, v34, v35, v36, v37, v38, v39, v40, v41, v42, v43, v44, v45, v46, v47, v48, v49, v50, v51, v52, v53, v54, v55, v56, v57, v58, v59, v60, v61, v62, v63, v64, v65, v66, v67, v68, v69, v70, v71, v72, v73, v74, v75, v76, v77, v78, v79, v80, v81, v82, v83, v84, v85, v86, v87, v88, v89, v90, v91, v92, v93, v94, v95, v96, v97, v98, v99, v100, v101, v102, v103, v104, v105, v106, v107, v108, v109, v110, v111, (.agg cs.toArray), (.int .i64 n), (.agg c1.toArray), (.agg cs.toArray), (.int .i64 n), (.agg c2.toArray), (a.eval (.tmp 118)), (a.eval (.tmp 119)), (a.eval (.tmp 120)), (a.eval (.tmp 121)), v122, v123, v124, v125, v126, v127, v128, v129, v130, v131, v132, v133, v134, v135, v136, v137, v138, v139, v140, v141, v142, v143, v144, v145, v146, v147, v148, v149], []⟩ := hA.lit.trans rfl
  generalize a.eval (.tmp 118) = y118 at ha
  generalize a.eval (.tmp 119) = y119 at ha
  generalize a.eval (.tmp 120) = y120 at ha
  generalize a.eval (.tmp 121) = y121 at ha
  rw [h17] at ha
  clear hA
  subst ha
  have J17 : Hid (BoxIn x3 g17 (planL ra (claimantL ra))) := B17
  have J6 : Hid (BoxIn x3 g6 ra) := I6.out.gr G3
  have J15 : Hid (BoxIn x3 g15 (joinL ra n)) := I15.out.gr G3
  have J16 : Hid (BoxIn x3 g16 (leaveL ra n)) := I16.out.gr G3
  have A3 : Hid (Gr w0 x3) := A2'.out.trans G3
  clear B17 G3 I6 I15 I16 A2'
  -- MARK24
  go_upto_region 24 with fail
  rename_i Kc hKc
  show Code.wp Try.prog _ _ ⟨#[v0, (.int .i64 n), v2, v3, v4, (.bool true), (.pointer (some ⟨g6, 0, none⟩)), v7, v8, v9, v10, v11, v12, v13, v14, (.pointer (some ⟨g15, 0, none⟩)), (.pointer (some ⟨g16, 0, none⟩)), (.pointer (some ⟨g17, 0, none⟩)), v18, v19, v20, v21, v22, v23, v24, v25, v26, v27, v28, v29, v30, v31, v32, v33, v34, v35, v36, v37, v38, v39, v40, v41, v42, v43, v44, v45, v46, v47, v48, v49, v50, v51, v52, v53, v54, v55, v56, v57, v58, v59, v60, v61, v62, v63, v64, v65, v66, v67, v68, v69, v70, v71, v72, v73, v74, v75, v76, v77, v78, v79, v80, v81, v82, v83, v84, v85, v86, v87, v88, v89, v90, v91, v92, v93, v94, v95, v96, v97, v98, v99, v100, v101, v102, v103, v104, v105, v106, v107, v108, v109, v110, v111, (.agg cs.toArray), (.int .i64 n), (.agg c1.toArray), (.agg cs.toArray), (.int .i64 n), (.agg c2.toArray), y118, y119, y120, y121, v122, v123, v124, v125, v126, v127, v128, v129, v130, v131, v132, v133, v134, v135, v136, v137, v138, v139, v140, v141, v142, v143, v144, v145, v146, v147, v148, v149], []⟩ x3
  refine law_r24 rfl g6 rfl J6.out g15 rfl J15.out (merge_fit (by intro r hr; simp at hr; rcases hr with rfl | rfl; exact HF.out; exact join_fit HF.out n)) (join_fit HF.out n) (by rw [join_newer HS.out]) (fun a x4 hA h18 G => ?_)
  refine hKc _ _ ?_
  clear hKc
  have ha : a = ⟨#[v0, (.int .i64 n), v2, v3, v4, (.bool true), (.pointer (some ⟨g6, 0, none⟩)), v7, v8, v9, v10, v11, v12, v13, v14, (.pointer (some ⟨g15, 0, none⟩)), (.pointer (some ⟨g16, 0, none⟩)), (.pointer (some ⟨g17, 0, none⟩)), (a.eval (.tmp 18)), v19, v20, v21, v22, v23, v24, v25, v26, v27, v28, v29, v30, v31, v32, v33, v34, v35, v36, v37, v38, v39, v40, v41, v42, v43, v44, v45, v46, v47, v48, v49, v50, v51, v52, v53, v54, v55, v56, v57, v58, v59, v60, v61, v62, v63, v64, v65, v66, v67, v68, v69, v70, v71, v72, v73, v74, v75, v76, v77, v78, v79, v80, v81, v82, v83, v84, v85, v86, v87, v88, v89, v90, v91, v92, v93, v94, v95, v96, v97, v98, v99, v100, v101, v102, v103, v104, v105, v106, v107, v108, v109, v110, v111, (.agg cs.toArray), (.int .i64 n), (.agg c1.toArray), (.agg cs.toArray), (.int .i64 n), (.agg c2.toArray), y118, y119, y120, y121, (a.eval (.tmp 122)), (a.eval (.tmp 123)), (a.eval (.tmp 124)), (a.eval (.tmp 125)), (a.eval (.tmp 126)), (a.eval (.tmp 127)), v128, v129, v130, v131, v132, v133, v134, v135, v136, v137, v138, v139, v140, v141, v142, v143, v144, v145, v146, v147, v148, v149], []⟩ := hA.lit.trans rfl
  generalize a.eval (.tmp 122) = y122 at ha
  generalize a.eval (.tmp 123) = y123 at ha
  generalize a.eval (.tmp 124) = y124 at ha
  generalize a.eval (.tmp 125) = y125 at ha
  generalize a.eval (.tmp 126) = y126 at ha
  generalize a.eval (.tmp 127) = y127 at ha
  rw [h18] at ha
  clear hA
  subst ha
  replace J6 : Hid (BoxIn x4 g6 ra) := J6.out.gr G
  replace J15 : Hid (BoxIn x4 g15 (joinL ra n)) := J15.out.gr G
  replace J16 : Hid (BoxIn x4 g16 (leaveL ra n)) := J16.out.gr G
  replace J17 : Hid (BoxIn x4 g17 (planL ra (claimantL ra))) := J17.out.gr G
  have A4 : Hid (Gr w0 x4) := A3.out.trans G
  clear G A3
  go_upto_region 25 with fail
  rename_i Kc hKc
  show Code.wp Try.prog _ _ ⟨#[v0, (.int .i64 n), v2, v3, v4, (.bool true), (.pointer (some ⟨g6, 0, none⟩)), v7, v8, v9, v10, v11, v12, v13, v14, (.pointer (some ⟨g15, 0, none⟩)), (.pointer (some ⟨g16, 0, none⟩)), (.pointer (some ⟨g17, 0, none⟩)), (.bool true), v19, v20, v21, v22, v23, v24, v25, v26, v27, v28, v29, v30, v31, v32, v33, v34, v35, v36, v37, v38, v39, v40, v41, v42, v43, v44, v45, v46, v47, v48, v49, v50, v51, v52, v53, v54, v55, v56, v57, v58, v59, v60, v61, v62, v63, v64, v65, v66, v67, v68, v69, v70, v71, v72, v73, v74, v75, v76, v77, v78, v79, v80, v81, v82, v83, v84, v85, v86, v87, v88, v89, v90, v91, v92, v93, v94, v95, v96, v97, v98, v99, v100, v101, v102, v103, v104, v105, v106, v107, v108, v109, v110, v111, (.agg cs.toArray), (.int .i64 n), (.agg c1.toArray), (.agg cs.toArray), (.int .i64 n), (.agg c2.toArray), y118, y119, y120, y121, y122, y123, y124, y125, y126, y127, v128, v129, v130, v131, v132, v133, v134, v135, v136, v137, v138, v139, v140, v141, v142, v143, v144, v145, v146, v147, v148, v149], []⟩ x4
  refine law_r25 rfl g16 rfl J16.out g6 rfl J6.out (merge_fit (by intro r hr; simp at hr; rcases hr with rfl | rfl; exact leave_fit HF.out n; exact HF.out)) (leave_fit HF.out n) (by rw [leave_newer HS.out]) (fun a x5 hA h19 G => ?_)
  refine hKc _ _ ?_
  clear hKc
  have ha : a = ⟨#[v0, (.int .i64 n), v2, v3, v4, (.bool true), (.pointer (some ⟨g6, 0, none⟩)), v7, v8, v9, v10, v11, v12, v13, v14, (.pointer (some ⟨g15, 0, none⟩)), (.pointer (some ⟨g16, 0, none⟩)), (.pointer (some ⟨g17, 0, none⟩)), (.bool true), (a.eval (.tmp 19)), v20, v21, v22, v23, v24, v25, v26, v27, v28, v29, v30, v31, v32, v33, v34, v35, v36, v37, v38, v39, v40, v41, v42, v43, v44, v45, v46, v47, v48, v49, v50, v51, v52, v53, v54, v55, v56, v57, v58, v59, v60, v61, v62, v63, v64, v65, v66, v67, v68, v69, v70, v71, v72, v73, v74, v75, v76, v77, v78, v79, v80, v81, v82, v83, v84, v85, v86, v87, v88, v89, v90, v91, v92, v93, v94, v95, v96, v97, v98, v99, v100, v101, v102, v103, v104, v105, v106, v107, v108, v109, v110, v111, (.agg cs.toArray), (.int .i64 n), (.agg c1.toArray), (.agg cs.toArray), (.int .i64 n), (.agg c2.toArray), y118, y119, y120, y121, y122, y123, y124, y125, y126, y127, (a.eval (.tmp 128)), (a.eval (.tmp 129)), (a.eval (.tmp 130)), (a.eval (.tmp 131)), (a.eval (.tmp 132)), (a.eval (.tmp 133)), v134, v135, v136, v137, v138, v139, v140, v141, v142, v143, v144, v145, v146, v147, v148, v149], []⟩ := hA.lit.trans rfl
  generalize a.eval (.tmp 128) = y128 at ha
  generalize a.eval (.tmp 129) = y129 at ha
  generalize a.eval (.tmp 130) = y130 at ha
  generalize a.eval (.tmp 131) = y131 at ha
  generalize a.eval (.tmp 132) = y132 at ha
  generalize a.eval (.tmp 133) = y133 at ha
  rw [h19] at ha
  clear hA
  subst ha
  replace J6 : Hid (BoxIn x5 g6 ra) := J6.out.gr G
  replace J15 : Hid (BoxIn x5 g15 (joinL ra n)) := J15.out.gr G
  replace J16 : Hid (BoxIn x5 g16 (leaveL ra n)) := J16.out.gr G
  replace J17 : Hid (BoxIn x5 g17 (planL ra (claimantL ra))) := J17.out.gr G
  have A5 : Hid (Gr w0 x5) := A4.out.trans G
  clear G A4
  go_upto_region 26 with fail
  rename_i Kc hKc
  show Code.wp Try.prog _ _ ⟨#[v0, (.int .i64 n), v2, v3, v4, (.bool true), (.pointer (some ⟨g6, 0, none⟩)), v7, v8, v9, v10, v11, v12, v13, v14, (.pointer (some ⟨g15, 0, none⟩)), (.pointer (some ⟨g16, 0, none⟩)), (.pointer (some ⟨g17, 0, none⟩)), (.bool true), (.bool true), v20, v21, v22, v23, v24, v25, v26, v27, v28, v29, v30, v31, v32, v33, v34, v35, v36, v37, v38, v39, v40, v41, v42, v43, v44, v45, v46, v47, v48, v49, v50, v51, v52, v53, v54, v55, v56, v57, v58, v59, v60, v61, v62, v63, v64, v65, v66, v67, v68, v69, v70, v71, v72, v73, v74, v75, v76, v77, v78, v79, v80, v81, v82, v83, v84, v85, v86, v87, v88, v89, v90, v91, v92, v93, v94, v95, v96, v97, v98, v99, v100, v101, v102, v103, v104, v105, v106, v107, v108, v109, v110, v111, (.agg cs.toArray), (.int .i64 n), (.agg c1.toArray), (.agg cs.toArray), (.int .i64 n), (.agg c2.toArray), y118, y119, y120, y121, y122, y123, y124, y125, y126, y127, y128, y129, y130, y131, y132, y133, v134, v135, v136, v137, v138, v139, v140, v141, v142, v143, v144, v145, v146, v147, v148, v149], []⟩ x5
  refine law_r26 rfl g17 rfl J17.out g6 rfl J6.out (merge_fit (by intro r hr; simp at hr; rcases hr with rfl | rfl; exact plan_fit HF.out _; exact HF.out)) (plan_fit HF.out _) (by rw [plan_newer HS.out]) (fun a x6 hA h20 G => ?_)
  refine hKc _ _ ?_
  clear hKc
  have ha : a = ⟨#[v0, (.int .i64 n), v2, v3, v4, (.bool true), (.pointer (some ⟨g6, 0, none⟩)), v7, v8, v9, v10, v11, v12, v13, v14, (.pointer (some ⟨g15, 0, none⟩)), (.pointer (some ⟨g16, 0, none⟩)), (.pointer (some ⟨g17, 0, none⟩)), (.bool true), (.bool true), (a.eval (.tmp 20)), v21, v22, v23, v24, v25, v26, v27, v28, v29, v30, v31, v32, v33, v34, v35, v36, v37, v38, v39, v40, v41, v42, v43, v44, v45, v46, v47, v48, v49, v50, v51, v52, v53, v54, v55, v56, v57, v58, v59, v60, v61, v62, v63, v64, v65, v66, v67, v68, v69, v70, v71, v72, v73, v74, v75, v76, v77, v78, v79, v80, v81, v82, v83, v84, v85, v86, v87, v88, v89, v90, v91, v92, v93, v94, v95, v96, v97, v98, v99, v100, v101, v102, v103, v104, v105, v106, v107, v108, v109, v110, v111, (.agg cs.toArray), (.int .i64 n), (.agg c1.toArray), (.agg cs.toArray), (.int .i64 n), (.agg c2.toArray), y118, y119, y120, y121, y122, y123, y124, y125, y126, y127, y128, y129, y130, y131, y132, y133, (a.eval (.tmp 134)), (a.eval (.tmp 135)), (a.eval (.tmp 136)), (a.eval (.tmp 137)), (a.eval (.tmp 138)), (a.eval (.tmp 139)), v140, v141, v142, v143, v144, v145, v146, v147, v148, v149], []⟩ := hA.lit.trans rfl
  generalize a.eval (.tmp 134) = y134 at ha
  generalize a.eval (.tmp 135) = y135 at ha
  generalize a.eval (.tmp 136) = y136 at ha
  generalize a.eval (.tmp 137) = y137 at ha
  generalize a.eval (.tmp 138) = y138 at ha
  generalize a.eval (.tmp 139) = y139 at ha
  rw [h20] at ha
  clear hA
  subst ha
  replace J6 : Hid (BoxIn x6 g6 ra) := J6.out.gr G
  replace J15 : Hid (BoxIn x6 g15 (joinL ra n)) := J15.out.gr G
  replace J16 : Hid (BoxIn x6 g16 (leaveL ra n)) := J16.out.gr G
  replace J17 : Hid (BoxIn x6 g17 (planL ra (claimantL ra))) := J17.out.gr G
  have A6 : Hid (Gr w0 x6) := A5.out.trans G
  clear G A5
  -- MARK27
  go_wp2
  go_ret
  exact ⟨rfl, A6.out⟩
end Go.Proofs.Ythmnjebmnocoiaa
