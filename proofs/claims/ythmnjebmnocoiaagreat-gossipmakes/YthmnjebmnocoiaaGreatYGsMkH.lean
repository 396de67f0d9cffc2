/- The document's own ways with rings: merge. By tools/gen_mk.py. -/
import Derived.Test.YthmnjebmnocoiaaGreatYM5
namespace Go.Proofs.YthmnjebmnocoiaaGreat.En
open Go.RowKit
set_option maxRecDepth 100000
variable {Q : Exit → Act → World → Prop} {a0 : Act} {w : World}
theorem bin_gtr_u {P : Program} {t : TypeId} {x y : Int} {b : Bool} (h : decide (x > y) = b) : ∀ w, (binOp .gtr t (.int .u64 x) (.int .u64 y)).run P w = .ok (.bool b) w := by
  intro w; subst h; simp [binOp, Op.intCmp]
theorem bin_eql_u {P : Program} {t : TypeId} {x y : Int} {b : Bool} (h : decide (x = y) = b) : ∀ w, (binOp .eql t (.int .u64 x) (.int .u64 y)).run P w = .ok (.bool b) w := by
  intro w; subst h; simp [binOp, Op.intCmp]; rfl
theorem guard_u {P : Program} {b : BinOp} {t : TypeId} {u v : Operand} {x y : Int} : ∀ w, (eqGuard b t u v (.int .u64 x) (.int .u64 y)).run P w = .ok () w := by
  intro w
  unfold eqGuard
  cases b <;> rfl
theorem own_range {x : World} {d k : Nat} {u : Value} {qs : List Ow} (h : Holds x d (u :: ownV qs) 28) (h8 : qs.length = 8) (hk : k < 8) : x.rangeAt d (1 + k * 2) (owV (qs.getD k noO)) := by
  have e : qs.getD k noO = qs[k] := by rw [List.getD_eq_getElem?_getD, List.getElem?_eq_getElem (by omega)]; rfl
  rw [e]
  have hq : qs[k]? = some qs[k] := List.getElem?_eq_getElem (by omega)
  refine h.range (1 + k * 2) (owV qs[k]) (fun j v hv => ?_)
  have hj : j < 2 := (List.getElem?_eq_some_iff.1 hv).1
  rw [show 1 + k * 2 + j = k * 2 + j + 1 by omega, List.getElem?_cons_succ, ownV_cell hq j hj]
  exact hv
theorem tail_box {ops : Array Oper} {Q : Exit → Act → World → Prop} {a : Act} {w : World} {al st : Oper} {F : Nat} {r : Rg} (d sy : Nat) (hne : d ≠ sy) (hz : d < a.tmps.size) (ha : al.op = .alloc 28) (had : al.dst = some d) (hag : al.guard = none) (hg : st.guard = none) (hd : st.dst = none) (ho : st.op = .store 28 (.tmp d) (.tmp sy)) (hy : (ringF F r).holds (a.eval (.tmp sy)) w)
    (h : ∀ g w', g = w.heap.size → Bf F w' g r → Gr w w' → Q .normal (a.put (some d) (.pointer (some ⟨g, 0, none⟩))) w') : wpList Tryz.prog ops Q [al, st] a w := by
  obtain ⟨u, e, R, f⟩ := hy
  refine wpList_alloc_new d had hag 28 ha w.heap.size rfl _ zero28 (fun y hy => ?_)
  refine wpList_store_all hg 28 (.tmp d) (.tmp sy) ho w.heap.size ((ev_put hz).trans (if_pos rfl)) (ringC u r) (((ev_put hz).trans (if_neg hne)).trans e) 28 _ hy.holds (by rw [siz28, ringC_len R]) (by rw [ringC_len R]; rfl) (ringC_one R) (fun z hz => ?_)
  rw [hd]
  have hb : Gr w z := hy.below.trans (hz.below (Nat.le_refl _))
  exact h _ z rfl ⟨u, hz.holds, (R.below hb).mono hb.size, f⟩ hb
theorem keep28 {x y : World} {M n d : Nat} {v : Value} {xs ds : List Value} (own : x.ownsRow M 53 3 v n xs) (gr : x.grownBy y v.ownBlock) (hd : Holds x d ds 28) : Holds y d ds 28 := by
  unfold Holds
  rw [gr.block d hd.lt (fun e => ?_)]
  · exact hd
  · rcases own.2 with ⟨q, _⟩ | ⟨g, cap, cur, q, _, hg, _⟩
    · rw [q] at e; cases e
    · rw [q] at e
      cases e
      unfold Holds at hd
      rw [hg] at hd
      simp at hd
theorem ap_tail2 {ops : Array Oper} {Q : Exit → Act → World → Prop} {c M : Nat} {x : World} {v vs : Value} {ms ls : List Mb} {os : List Ow} {ac : Act} {oa of os' : Oper} {s1 s2 d1 d2 s4 : Nat} (hH : Holds x c (ringC v (ms, os)) 28) (own : x.ownsRow M 53 3 v ms.length (cellsP ms)) (cM : c < M) (hM : M ≤ x.heap.size) (hs : Mems x.heap.size x vs ls) (hl : ms.length + ls.length ≤ 1000000000)
    (hoa : oa.op = .call { callee := .builtin .append, args := #[.tmp s1, .tmp s2], argTypes := #[22, 22] }) (hod : oa.dst = some d1) (hog : oa.guard = none)
    (hfo : of.op = .fieldAddr 28 (.tmp s4) 0) (hfd : of.dst = some d2) (hfg : of.guard = none)
    (hso : os'.op = .store 22 (.tmp d2) (.tmp d1)) (hsd : os'.dst = none) (hsg : os'.guard = none)
    (z1 : d1 < ac.tmps.size) (z2 : d2 < ac.tmps.size) (n1 : d1 ≠ s4) (n2 : d2 ≠ d1)
    (e1 : ac.eval (.tmp s1) = v) (e2 : ac.eval (.tmp s2) = vs) (e4 : ac.eval (.tmp s4) = .pointer (some ⟨c, 0, none⟩))
    (hend : ∀ v' y, Holds y c (ringC v' (ms ++ ls, os)) 28 → y.ownsRow M 53 3 v' (ms ++ ls).length (cellsP (ms ++ ls)) → Outs (fun k => k = c ∨ M ≤ k) x y → (∀ d ds, d ≠ c → Holds x d ds 28 → Holds y d ds 28) → Q .normal ((ac.put (some d1) v').put (some d2) (.pointer (some ⟨c, 0, none⟩))) y) : wpList Tryz.prog ops Q [oa, of, os'] ac x := by
  obtain ⟨i53, f53, hz53, hs53, hb53⟩ := info_parts info35
  obtain ⟨ad, cap, rfl, hcap, hc⟩ := hs
  have hcl : (cellsP ls).length = ls.length * 3 := cellsP_len ls
  refine wpList_append_src hog (.tmp s1) (.tmp s2) 22 hoa M 53 i53 _ 3 24 Tryz.underlying22 f53 hz53 hs53 hb53 (by rfl) (by omega) v ms.length (cellsP ms) own e1 (cellsP ls) ad ls.length cap e2 hcl (fun h0 => ?_) (cellsP_one ls) (by unfold maxLen; omega) (by omega) hM ?_
  · rcases hc with h1 | ⟨g, o, rfl, hg, hcell⟩
    · omega
    · refine ⟨_, rfl, fun j u hu => ?_⟩
      have hj : j < ls.length * 3 := by
        have := (List.getElem?_eq_some_iff.1 hu).1
        omega
      have hi : j / 3 < ls.length := by omega
      have hmi : ls[j / 3]? = some ls[j / 3] := List.getElem?_eq_getElem hi
      have hcj := cellsP_cell hmi (j % 3) (by omega) []
      rw [List.append_nil, show j / 3 * 3 + j % 3 = j by omega, hu] at hcj
      obtain ⟨c0, c1, c2⟩ := hcell (j / 3) _ hmi
      rw [Addr.add_mid]
      have h3 : j % 3 = 0 ∨ j % 3 = 1 ∨ j % 3 = 2 := by omega
      rcases h3 with h3 | h3 | h3
      · rw [h3] at hcj
        rw [show o + j = o + j / 3 * 3 by omega, c0]
        exact hcj.symm
      · rw [h3] at hcj
        rw [show o + j = o + j / 3 * 3 + 1 by omega, c1]
        exact hcj.symm
      · rw [h3] at hcj
        rw [show o + j = o + j / 3 * 3 + 2 by omega, c2]
        exact hcj.symm
  · intro v' y own' gr _
    rw [hod]
    have ez : (ac.put (some d1) v').tmps.size = ac.tmps.size := put_size
    have ev4 : (ac.put (some d1) v').eval (.tmp s4) = .pointer (some ⟨c, 0, none⟩) := (ev_put z1).trans ((if_neg n1).trans e4)
    refine wl_of hfg (op_fa 28 (.tmp s4) 0 _ (.pointer (some ⟨c, 0, none⟩)) hfo ev4 (by intro w; kernel_rfl) ?_)
    rw [hfd]
    have hB : Below M x y := (Below.refl M x).grown gr hM (fun j e => own53_base own j e)
    have hH2 := hH.below hB cM
    have ea : ((ac.put (some d1) v').put (some d2) (.pointer (some ⟨c, 0, none⟩))).eval (.tmp d2) = .pointer (some ⟨c, 0, none⟩) := (ev_put (by rw [ez]; exact z2)).trans (if_pos rfl)
    have eb : ((ac.put (some d1) v').put (some d2) (.pointer (some ⟨c, 0, none⟩))).eval (.tmp d1) = v' := (ev_put (by rw [ez]; exact z2)).trans ((if_neg n2).trans ((ev_put z1).trans (if_pos rfl)))
    have hsl : ∃ a n k, v' = .slice a n k := by
      rcases own'.2 with ⟨rfl, _⟩ | ⟨g, cap, cur, rfl, _⟩
      · exact ⟨_, _, _, rfl⟩
      · exact ⟨_, _, _, rfl⟩
    obtain ⟨va, vn, vk, rfl⟩ := hsl
    refine wl_of hsg (op_store1 22 (.tmp d2) (.tmp d1) hso c 0 ea _ eb rfl rfl (by intro w; kernel_rfl) (hH2.at 0 _ rfl) (hH2.frozen 0) ?_)
    rw [hsd]
    have u := (Upd.refl c y).setCell 0 (.slice va vn vk)
    have hn53 : ∀ cs fr, y.heap[c]? ≠ some (.cells cs 53 fr) := fun cs fr e => by
      have := hH2
      unfold Holds at this
      rw [this] at e
      simp at e
    refine wl_end (hend _ _ (hH2.set 0 _) ?_ ?_ (fun d ds hdc hd => (keep28 own gr hd).upd u hdc))
    · have := own_upd own' u hn53
      rw [List.length_append, cellsP_append]
      exact this
    · exact ⟨u.os.trans hB.os, u.tape.trans hB.tape, u.output.trans hB.output, Nat.le_trans hB.size u.size, fun k hk hn => (u.block k (Nat.lt_of_lt_of_le hk hB.size) (fun e => hn (.inl e))).trans (hB.block k (by
        rcases Nat.lt_or_ge k M with q | q
        · exact q
        · exact absurd (.inr q) hn))⟩
def q11_0 : Array Oper := #[⟨some 2, .alloc 28, 0, "ref.go:42", #[], none⟩]
def q11_1 : Array Oper := #[⟨some 3, .alloc 28, 0, "ref.go:43", #[], none⟩]
def q11_2 : Array Oper := #[⟨some 4, .assign (.const (.int .i64 0)), 3, "ref.go:44", #[], none⟩]
def q11_3 : Array Oper := #[⟨some 9, .move (.tmp 4), 3, "ref.go:44", #[], none⟩, ⟨some 10, .move (.tmp 0), 36, "ref.go:44", #[], none⟩, ⟨some 11, .call ⟨.builtin .len, #[.tmp 10], #[36]⟩, 3, "ref.go:44", #[⟨1, .data⟩], none⟩, ⟨some 12, .binOp .lss 3 (.tmp 9) (.tmp 11) 3, 4, "ref.go:44", #[⟨0, .data⟩, ⟨2, .data⟩], none⟩]
def q11_4 : Array Oper := #[⟨some 13, .move (.tmp 4), 3, "ref.go:44", #[], none⟩, ⟨some 14, .binOp .add 3 (.tmp 13) (.const (.int .i64 1)) 3, 3, "ref.go:44", #[⟨0, .data⟩], none⟩, ⟨some 4, .assign (.tmp 14), 3, "ref.go:44", #[⟨1, .data⟩, ⟨0, .phase⟩, ⟨1, .phase⟩], none⟩]
def q11_5 : Array Oper := #[⟨some 15, .move (.tmp 0), 36, "ref.go:45", #[], none⟩, ⟨some 16, .move (.tmp 4), 3, "ref.go:45", #[], none⟩, ⟨some 17, .indexAddr 36 (.tmp 15) (.tmp 16), 0, "ref.go:45", #[⟨0, .data⟩, ⟨1, .data⟩], none⟩, ⟨some 18, .load 28 (.tmp 17), 28, "ref.go:45", #[⟨2, .data⟩], none⟩, ⟨some 19, .call ⟨.value (.func 9), #[.tmp 18], #[28]⟩, 28, "ref.go:45", #[⟨3, .data⟩], none⟩, ⟨some 5, .alloc 28, 0, "ref.go:45", #[], none⟩, ⟨none, .store 28 (.tmp 5) (.tmp 19), 0, "ref.go:45", #[⟨5, .data⟩, ⟨4, .data⟩, ⟨4, .chain⟩, ⟨0, .phase⟩, ⟨1, .phase⟩, ⟨2, .phase⟩, ⟨3, .phase⟩, ⟨4, .phase⟩, ⟨5, .phase⟩], none⟩]
def q11_6 : Array Oper := #[⟨some 20, .fieldAddr 28 (.tmp 3) 0, 0, "ref.go:46", #[], none⟩, ⟨some 21, .load 22 (.tmp 20), 22, "ref.go:46", #[⟨0, .data⟩], none⟩, ⟨some 22, .fieldAddr 28 (.tmp 5) 0, 0, "ref.go:46", #[], none⟩, ⟨some 23, .load 22 (.tmp 22), 22, "ref.go:46", #[⟨2, .data⟩], none⟩, ⟨some 24, .call ⟨.builtin .append, #[.tmp 21, .tmp 23], #[22, 22]⟩, 22, "ref.go:46", #[⟨1, .data⟩, ⟨3, .data⟩], none⟩, ⟨some 25, .fieldAddr 28 (.tmp 3) 0, 0, "ref.go:46", #[⟨0, .phase⟩, ⟨1, .phase⟩, ⟨2, .phase⟩, ⟨3, .phase⟩, ⟨4, .phase⟩], none⟩, ⟨none, .store 22 (.tmp 25) (.tmp 24), 0, "ref.go:46", #[⟨5, .data⟩, ⟨4, .data⟩, ⟨4, .chain⟩, ⟨0, .phase⟩, ⟨1, .phase⟩, ⟨2, .phase⟩, ⟨3, .phase⟩, ⟨4, .phase⟩], none⟩]
def q11_7 : Array Oper := #[⟨some 6, .assign (.const (.int .i64 0)), 3, "ref.go:47", #[], none⟩]
def q11_8 : Array Oper := #[⟨some 26, .move (.tmp 6), 3, "ref.go:47", #[], none⟩, ⟨some 27, .binOp .lss 3 (.tmp 26) (.const (.int .i64 8)) 3, 4, "ref.go:47", #[⟨0, .data⟩], none⟩]
def q11_9 : Array Oper := #[⟨some 28, .move (.tmp 6), 3, "ref.go:47", #[], none⟩, ⟨some 29, .binOp .add 3 (.tmp 28) (.const (.int .i64 1)) 3, 3, "ref.go:47", #[⟨0, .data⟩], none⟩, ⟨some 6, .assign (.tmp 29), 3, "ref.go:47", #[⟨1, .data⟩, ⟨0, .phase⟩, ⟨1, .phase⟩], none⟩]
def q11_10 : Array Oper := #[⟨some 30, .move (.tmp 6), 3, "ref.go:48", #[], none⟩, ⟨some 31, .fieldAddr 28 (.tmp 5) 1, 0, "ref.go:48", #[], none⟩, ⟨some 32, .indexAddr 26 (.tmp 31) (.tmp 30), 0, "ref.go:48", #[⟨1, .data⟩, ⟨0, .data⟩], none⟩, ⟨some 33, .load 25 (.tmp 32), 25, "ref.go:48", #[⟨2, .data⟩], none⟩, ⟨some 7, .alloc 25, 0, "ref.go:48", #[], none⟩, ⟨none, .store 25 (.tmp 7) (.tmp 33), 0, "ref.go:48", #[⟨4, .data⟩, ⟨3, .data⟩, ⟨0, .phase⟩, ⟨1, .phase⟩, ⟨2, .phase⟩, ⟨3, .phase⟩, ⟨4, .phase⟩], none⟩]
def q11_11 : Array Oper := #[⟨some 34, .move (.tmp 6), 3, "ref.go:49", #[], none⟩, ⟨some 35, .fieldAddr 28 (.tmp 3) 1, 0, "ref.go:49", #[], none⟩, ⟨some 36, .indexAddr 26 (.tmp 35) (.tmp 34), 0, "ref.go:49", #[⟨1, .data⟩, ⟨0, .data⟩], none⟩, ⟨some 37, .load 25 (.tmp 36), 25, "ref.go:49", #[⟨2, .data⟩], none⟩, ⟨some 8, .alloc 25, 0, "ref.go:49", #[], none⟩, ⟨none, .store 25 (.tmp 8) (.tmp 37), 0, "ref.go:49", #[⟨4, .data⟩, ⟨3, .data⟩, ⟨0, .phase⟩, ⟨1, .phase⟩, ⟨2, .phase⟩, ⟨3, .phase⟩, ⟨4, .phase⟩], none⟩]
def q11_12 : Array Oper := #[⟨some 38, .fieldAddr 25 (.tmp 7) 1, 0, "ref.go:50", #[], none⟩, ⟨some 39, .load 23 (.tmp 38), 23, "ref.go:50", #[⟨0, .data⟩], none⟩, ⟨some 40, .fieldAddr 25 (.tmp 8) 1, 0, "ref.go:50", #[], none⟩, ⟨some 41, .load 23 (.tmp 40), 23, "ref.go:50", #[⟨2, .data⟩], none⟩, ⟨some 42, .binOp .gtr 23 (.tmp 39) (.tmp 41) 23, 4, "ref.go:50", #[⟨1, .data⟩, ⟨3, .data⟩], none⟩, ⟨some 43, .move (.tmp 42), 4, "ref.go:50", #[⟨4, .data⟩], none⟩, ⟨some 44, .fieldAddr 25 (.tmp 7) 1, 0, "ref.go:50", #[⟨5, .guard⟩], some (5, false)⟩, ⟨some 45, .load 23 (.tmp 44), 23, "ref.go:50", #[⟨6, .data⟩, ⟨5, .guard⟩], some (5, false)⟩, ⟨some 46, .fieldAddr 25 (.tmp 8) 1, 0, "ref.go:50", #[⟨5, .guard⟩], some (5, false)⟩, ⟨some 47, .load 23 (.tmp 46), 23, "ref.go:50", #[⟨8, .data⟩, ⟨5, .guard⟩], some (5, false)⟩, ⟨some 48, .binOp .eql 23 (.tmp 45) (.tmp 47) 23, 4, "ref.go:50", #[⟨7, .data⟩, ⟨9, .data⟩, ⟨5, .guard⟩], some (5, false)⟩, ⟨some 49, .move (.tmp 48), 4, "ref.go:50", #[⟨10, .data⟩, ⟨5, .chain⟩, ⟨5, .guard⟩], some (5, false)⟩, ⟨some 50, .fieldAddr 25 (.tmp 7) 0, 0, "ref.go:50", #[⟨11, .guard⟩], some (11, true)⟩, ⟨some 51, .load 3 (.tmp 50), 3, "ref.go:50", #[⟨12, .data⟩, ⟨11, .guard⟩], some (11, true)⟩, ⟨some 52, .fieldAddr 25 (.tmp 8) 0, 0, "ref.go:50", #[⟨11, .guard⟩], some (11, true)⟩, ⟨some 53, .load 3 (.tmp 52), 3, "ref.go:50", #[⟨14, .data⟩, ⟨11, .guard⟩], some (11, true)⟩, ⟨some 54, .binOp .gtr 3 (.tmp 51) (.tmp 53) 3, 4, "ref.go:50", #[⟨13, .data⟩, ⟨15, .data⟩, ⟨11, .guard⟩], some (11, true)⟩, ⟨some 55, .pick (.tmp 49) (.tmp 54) (.const (.bool false)), 4, "ref.go:50", #[⟨11, .data⟩, ⟨16, .data⟩, ⟨5, .guard⟩], some (5, false)⟩, ⟨some 56, .pick (.tmp 43) (.const (.bool true)) (.tmp 55), 4, "ref.go:50", #[⟨5, .data⟩, ⟨17, .data⟩], none⟩]
def q11_13 : Array Oper := #[⟨some 57, .move (.tmp 6), 3, "ref.go:51", #[], none⟩, ⟨some 58, .load 25 (.tmp 7), 25, "ref.go:51", #[], none⟩, ⟨some 59, .fieldAddr 28 (.tmp 3) 1, 0, "ref.go:51", #[], none⟩, ⟨some 60, .indexAddr 26 (.tmp 59) (.tmp 57), 0, "ref.go:51", #[⟨2, .data⟩, ⟨0, .data⟩, ⟨0, .phase⟩, ⟨1, .phase⟩], none⟩, ⟨none, .store 25 (.tmp 60) (.tmp 58), 0, "ref.go:51", #[⟨3, .data⟩, ⟨1, .data⟩, ⟨0, .phase⟩, ⟨1, .phase⟩], none⟩]
def q11_14 : Array Oper := #[⟨some 61, .load 28 (.tmp 3), 28, "ref.go:55", #[], none⟩, ⟨some 62, .call ⟨.value (.func 9), #[.tmp 61], #[28]⟩, 28, "ref.go:55", #[⟨0, .data⟩], none⟩, ⟨none, .store 28 (.tmp 2) (.tmp 62), 0, "ref.go:55", #[⟨1, .data⟩, ⟨1, .chain⟩, ⟨0, .phase⟩, ⟨1, .phase⟩], none⟩]
theorem r11_2 (hz : a0.tmps.size = 63)   (hend : ∀ ac wz, After [4] a0 ac → ac.eval (.tmp 4) = .int .i64 0 → Gr w wz → Q .normal ac wz) : RW 2 q11_2 false Q a0 w := by
  refine seq_by (by kernel_rfl) 1 (by decide) [4] (fun | 4 => .val (.int .i64 0) | _ => .any) (by kernel_rfl) (fmc ⟨?s0, fun o ho => nomatch ho⟩) ?e
  case s0 => exact sa_move (.const _) 4 (.val (.int .i64 0)) (.inr rfl) rfl rfl (.const _) rfl
  case e =>
  intro ac wz hA hgr hv
  exact wl_end (hend ac wz hA (hw hv hz 4) hgr)
theorem r11_7 (hz : a0.tmps.size = 63)   (hend : ∀ ac wz, After [6] a0 ac → ac.eval (.tmp 6) = .int .i64 0 → Gr w wz → Q .normal ac wz) : RW 7 q11_7 false Q a0 w := by
  refine seq_by (by kernel_rfl) 1 (by decide) [6] (fun | 6 => .val (.int .i64 0) | _ => .any) (by kernel_rfl) (fmc ⟨?s0, fun o ho => nomatch ho⟩) ?e
  case s0 => exact sa_move (.const _) 6 (.val (.int .i64 0)) (.inr rfl) rfl rfl (.const _) rfl
  case e =>
  intro ac wz hA hgr hv
  exact wl_end (hend ac wz hA (hw hv hz 6) hgr)
theorem r11_3 (hz : a0.tmps.size = 63) (k n cap g : Nat) (e4 : a0.eval (.tmp 4) = .int .i64 (k : Int)) (e0 : a0.eval (.tmp 0) = .slice (some ⟨g, 0, none⟩) n cap) (hend : ∀ ac wz, After [9, 10, 11, 12] a0 ac → ac.eval (.tmp 12) = .bool (decide ((k : Int) < (n : Int))) → Gr w wz → Q .normal ac wz) : RW 3 q11_3 false Q a0 w := by
  refine seq_by (by kernel_rfl) 4 (by decide) [9, 10, 11, 12] (fun | 9 => .val (.int .i64 (k : Int)) | 10 => .val (.slice (some ⟨g, 0, none⟩) n cap) | 11 => .val (.int .i64 (n : Int)) | 12 => .val (.bool (decide ((k : Int) < (n : Int)))) | _ => .any) (by kernel_rfl) (fmc ⟨?s0, fmc ⟨?s1, fmc ⟨?s2, fmc ⟨?s3, fun o ho => nomatch ho⟩⟩⟩⟩) ?e
  case s0 => exact sa_mo 4 9 e4
  case s1 => exact sa_mo 0 10 e0
  case s2 => exact sa_len 36 (.tmp 10) 11 (.slice (some ⟨g, 0, none⟩) n cap) (.int .i64 (n : Int)) rfl rfl rfl (.nw 10 hz) (by intro w; kernel_rfl) rfl
  case s3 => exact sa_bin .lss 3 (.tmp 9) (.tmp 11) 3 12 (.int .i64 (k : Int)) (.int .i64 (n : Int)) (.bool (decide ((k : Int) < (n : Int)))) rfl rfl rfl (.nw 9 hz) (.nw 11 hz) guard_int (bin_lss rfl) rfl
  case e =>
  intro ac wz hA hgr hv
  exact wl_end (hend ac wz hA (hw hv hz 12) hgr)
theorem r11_8 (hz : a0.tmps.size = 63) (k : Nat) (e6 : a0.eval (.tmp 6) = .int .i64 (k : Int)) (hend : ∀ ac wz, After [26, 27] a0 ac → ac.eval (.tmp 27) = .bool (decide ((k : Int) < 8)) → Gr w wz → Q .normal ac wz) : RW 8 q11_8 false Q a0 w := by
  refine seq_by (by kernel_rfl) 2 (by decide) [26, 27] (fun | 26 => .val (.int .i64 (k : Int)) | 27 => .val (.bool (decide ((k : Int) < 8))) | _ => .any) (by kernel_rfl) (fmc ⟨?s0, fmc ⟨?s1, fun o ho => nomatch ho⟩⟩) ?e
  case s0 => exact sa_mo 6 26 e6
  case s1 => exact sa_bin .lss 3 (.tmp 26) (.const _) 3 27 (.int .i64 (k : Int)) (.int .i64 8) (.bool (decide ((k : Int) < 8))) rfl rfl rfl (.nw 26 hz) (.const _) guard_int (bin_lss rfl) rfl
  case e =>
  intro ac wz hA hgr hv
  exact wl_end (hend ac wz hA (hw hv hz 27) hgr)
theorem r11_4 (hz : a0.tmps.size = 63) (k : Nat) (hk : k < 9223372036854775807) (e4 : a0.eval (.tmp 4) = .int .i64 (k : Int)) (hend : ∀ ac wz, After [4, 13, 14] a0 ac → ac.eval (.tmp 4) = .int .i64 ((k + 1 : Nat) : Int) → Gr w wz → Q .normal ac wz) : RW 4 q11_4 false Q a0 w := by
  refine seq_by (by kernel_rfl) 2 (by decide) [13, 14] (fun | 13 => .val (.int .i64 (k : Int)) | 14 => .val (.int .i64 ((k + 1 : Nat) : Int)) | _ => .any) (by kernel_rfl) (fmc ⟨?s0, fmc ⟨?s1, fun o ho => nomatch ho⟩⟩) ?e
  case s0 => exact sa_mo 4 13 e4
  case s1 => exact sa_bin .add 3 (.tmp 13) (.const _) 3 14 (.int .i64 (k : Int)) (.int .i64 1) (.int .i64 ((k + 1 : Nat) : Int)) rfl rfl rfl (.nw 13 hz) (.const _) guard_int (bin_add (by omega) (by omega) (by omega)) rfl
  case e =>
  intro ac wz hA hgr hv
  have o14 : ac.eval (.tmp 14) = .int .i64 ((k + 1 : Nat) : Int) := hw hv hz 14
  refine wl_of rfl (op_move (.tmp 14) (.inr rfl) (wl_end ?_))
  exact hend _ wz (hA.put 4 _)  ((ev_put (by rw [hA.size, hz]; decide)).trans ((if_pos rfl).trans o14)) hgr
theorem r11_9 (hz : a0.tmps.size = 63) (k : Nat) (hk : k < 9223372036854775807) (e6 : a0.eval (.tmp 6) = .int .i64 (k : Int)) (hend : ∀ ac wz, After [6, 28, 29] a0 ac → ac.eval (.tmp 6) = .int .i64 ((k + 1 : Nat) : Int) → Gr w wz → Q .normal ac wz) : RW 9 q11_9 false Q a0 w := by
  refine seq_by (by kernel_rfl) 2 (by decide) [28, 29] (fun | 28 => .val (.int .i64 (k : Int)) | 29 => .val (.int .i64 ((k + 1 : Nat) : Int)) | _ => .any) (by kernel_rfl) (fmc ⟨?s0, fmc ⟨?s1, fun o ho => nomatch ho⟩⟩) ?e
  case s0 => exact sa_mo 6 28 e6
  case s1 => exact sa_bin .add 3 (.tmp 28) (.const _) 3 29 (.int .i64 (k : Int)) (.int .i64 1) (.int .i64 ((k + 1 : Nat) : Int)) rfl rfl rfl (.nw 28 hz) (.const _) guard_int (bin_add (by omega) (by omega) (by omega)) rfl
  case e =>
  intro ac wz hA hgr hv
  have o29 : ac.eval (.tmp 29) = .int .i64 ((k + 1 : Nat) : Int) := hw hv hz 29
  refine wl_of rfl (op_move (.tmp 29) (.inr rfl) (wl_end ?_))
  exact hend _ wz (hA.put 6 _)  ((ev_put (by rw [hA.size, hz]; decide)).trans ((if_pos rfl).trans o29)) hgr
theorem r11_5 (hz : a0.tmps.size = 63) (k n cap g : Nat) (u : Value) (r : Rg) (hk : k < n) (hX : ∀ y, Gr w y → y.rangeAt g (k * 17) (ringC u r)) (hR : RingAt w.heap.size w u r) (e0 : a0.eval (.tmp 0) = .slice (some ⟨g, 0, none⟩) n cap) (e4 : a0.eval (.tmp 4) = .int .i64 (k : Int)) (hend : ∀ ac wz d, After (5 :: [15, 16, 17, 18, 19]) a0 ac → ac.eval (.tmp 5) = .pointer (some ⟨d, 0, none⟩) → w.heap.size ≤ d → Bf w.heap.size wz d (normL r) → Gr w wz → Q .normal ac wz) : RW 5 q11_5 false Q a0 w := by
  refine seq_by (by kernel_rfl) 5 (by decide) [15, 16, 17, 18, 19] (fun | 15 => .val (.slice (some ⟨g, 0, none⟩) n cap) | 16 => .val (.int .i64 (k : Int)) | 17 => .val (.pointer (some ⟨g, k * 17, none⟩)) | 18 => .val (.agg (ringC u r).toArray) | 19 => ringF w.heap.size (normL r) | _ => .any) (by kernel_rfl) (fmc ⟨?s0, fmc ⟨?s1, fmc ⟨?s2, fmc ⟨?s3, fmc ⟨?s4, fun o ho => nomatch ho⟩⟩⟩⟩⟩) ?e
  case s0 => exact sa_mo 0 15 e0
  case s1 => exact sa_mo 4 16 e4
  case s2 => exact sa_ixa 36 (.tmp 15) (.tmp 16) 17 (.slice (some ⟨g, 0, none⟩) n cap) (.int .i64 (k : Int)) (.pointer (some ⟨g, k * 17, none⟩)) rfl rfl rfl (.nw 15 hz) (.nw 16 hz) (ix_slice (sz := 17) Tryz.underlying36 (by intro w; kernel_rfl) (by omega) (by omega)) rfl
  case s3 => exact sa_row 28 (.tmp 17) 18 g (k * 17) 17 _ (ringC u r) rfl rfl rfl Tryz.underlying28 rfl siz28 (ringC_len hR) (.nw 17 hz) hX rfl
  case s4 => exact sa_callF1 9 (.tmp 18) _ 19 (.agg (ringC u r).toArray) (ringF w.heap.size (normL r)) rfl rfl rfl (.nw 18 hz) (enters_of Tryz.func9 (by kernel_rfl) rfl) (fun y hy => k_norm u r w y hy hR) rfl
  case e =>
  intro ac wz hA hgr hv
  have o19 := hw hv hz 19
  refine tail_box 5 19 (by decide) (by rw [hA.size, hz]; decide) rfl rfl rfl rfl rfl rfl o19 (fun d z hd hB hg => ?_)
  exact hend _ z d (hA.put 5 _) ((ev_put (by rw [hA.size, hz]; decide)).trans (if_pos rfl)) (by rw [hd]; exact hgr.size) hB (hgr.trans hg)
theorem r11_6 (hz : a0.tmps.size = 63) (c d M : Nat) (v u : Value) (ms ls : List Mb) (os qs : List Ow) (hC : Holds w c (ringC v (ms, os)) 28) (hD : Holds w d (ringC u (ls, qs)) 28) (hm : Mems w.heap.size w u ls) (own : w.ownsRow M 53 3 v ms.length (cellsP ms)) (cM : c < M) (hM : M ≤ w.heap.size) (hl : ms.length + ls.length ≤ 1000000000) (cd : c ≠ d) (e3 : a0.eval (.tmp 3) = .pointer (some ⟨c, 0, none⟩)) (e5 : a0.eval (.tmp 5) = .pointer (some ⟨d, 0, none⟩)) (hend : ∀ ac wz v2, After (25 :: 24 :: [20, 21, 22, 23]) a0 ac → Holds wz c (ringC v2 (ms ++ ls, os)) 28 → wz.ownsRow M 53 3 v2 (ms ++ ls).length (cellsP (ms ++ ls)) → Outs (fun k => k = c ∨ M ≤ k) w wz → Holds wz d (ringC u (ls, qs)) 28 → Q .normal ac wz) : RW 6 q11_6 false Q a0 w := by
  refine seq_by (by kernel_rfl) 4 (by decide) [20, 21, 22, 23] (fun | 20 => .val (.pointer (some ⟨c, 0, none⟩)) | 21 => .val (v) | 22 => .val (.pointer (some ⟨d, 0, none⟩)) | 23 => .val (u) | _ => .any) (by kernel_rfl) (fmc ⟨?s0, fmc ⟨?s1, fmc ⟨?s2, fmc ⟨?s3, fun o ho => nomatch ho⟩⟩⟩⟩) ?e
  case s0 => exact sa_fa 28 (.tmp 3) 0 20 (.pointer (some ⟨c, 0, none⟩)) (.pointer (some ⟨c, 0, none⟩)) rfl rfl rfl (.old 3 _ (by decide) e3) (by intro w; kernel_rfl) rfl
  case s1 => exact sa_loadc 22 (.tmp 20) 21 (c) (0) (v) rfl rfl rfl (by intro w; kernel_rfl) (.nw 20 hz) (fun y hy => (hC.below hy hC.lt).at 0 _ rfl) rfl
  case s2 => exact sa_fa 28 (.tmp 5) 0 22 (.pointer (some ⟨d, 0, none⟩)) (.pointer (some ⟨d, 0, none⟩)) rfl rfl rfl (.old 5 _ (by decide) e5) (by intro w; kernel_rfl) rfl
  case s3 => exact sa_loadc 22 (.tmp 22) 23 (d) (0) (u) rfl rfl rfl (by intro w; kernel_rfl) (.nw 22 hz) (fun y hy => (hD.below hy hD.lt).at 0 _ rfl) rfl
  case e =>
  intro ac wz hA hgr hv
  have o21 : ac.eval (.tmp 21) = v := hw hv hz 21
  have o23 : ac.eval (.tmp 23) = u := hw hv hz 23
  have o3 : ac.eval (.tmp 3) = .pointer (some ⟨c, 0, none⟩) := (hA.old 3 (by decide)).trans e3
  refine ap_tail2 (d1 := 24) (d2 := 25) (s1 := 21) (s2 := 23) (s4 := 3) (hC.below hgr hC.lt) (own53_gr own hgr) cM (Nat.le_trans hM hgr.size) ((hm.below hgr).mono hgr.size) hl rfl rfl rfl rfl rfl rfl rfl rfl rfl (by rw [hA.size, hz]; decide) (by rw [hA.size, hz]; decide) (by decide) (by decide) o21 o23 o3 (fun v' y h1 h2 h3 h4 => ?_)
  exact hend _ y v' ((hA.put 24 _).put 25 _) h1 h2 ((Outs.ofBelow hgr).trans h3) (h4 d _ (Ne.symm cd) (hD.below hgr hD.lt))
theorem r11_10 (hz : a0.tmps.size = 63) (k d : Nat) (u : Value) (qs : List Ow) (h8 : qs.length = 8) (hk : k < 8) (hD : Holds w d (u :: ownV qs) 28) (e6 : a0.eval (.tmp 6) = .int .i64 (k : Int)) (e5 : a0.eval (.tmp 5) = .pointer (some ⟨d, 0, none⟩)) (hend : ∀ ac wz e, After (7 :: [30, 31, 32, 33]) a0 ac → ac.eval (.tmp 7) = .pointer (some ⟨e, 0, none⟩) → Holds wz e (owV (qs.getD k noO)) 25 → Gr w wz → Q .normal ac wz) : RW 10 q11_10 false Q a0 w := by
  refine seq_by (by kernel_rfl) 4 (by decide) [30, 31, 32, 33] (fun | 30 => .val (.int .i64 (k : Int)) | 31 => .val (.pointer (some ⟨d, 1, none⟩)) | 32 => .val (.pointer (some ⟨d, 1 + k * 2, none⟩)) | 33 => .val (.agg (owV (qs.getD k noO)).toArray) | _ => .any) (by kernel_rfl) (fmc ⟨?s0, fmc ⟨?s1, fmc ⟨?s2, fmc ⟨?s3, fun o ho => nomatch ho⟩⟩⟩⟩) ?e
  case s0 => exact sa_mo 6 30 e6
  case s1 => exact sa_fa 28 (.tmp 5) 1 31 (.pointer (some ⟨d, 0, none⟩)) (.pointer (some ⟨d, 1, none⟩)) rfl rfl rfl (.old 5 _ (by decide) e5) (by intro w; kernel_rfl) rfl
  case s2 => exact sa_ixa 26 (.tmp 31) (.tmp 30) 32 (.pointer (some ⟨d, 1, none⟩)) (.int .i64 (k : Int)) (.pointer (some ⟨d, 1 + k * 2, none⟩)) rfl rfl rfl (.nw 31 hz) (.nw 30 hz) (ix_array (sz := 2) und26 (by intro w; kernel_rfl) hk (by omega)) rfl
  case s3 => exact sa_row 25 (.tmp 32) 33 d (1 + k * 2) 2 _ (owV (qs.getD k noO)) rfl rfl rfl Tryz.underlying25 rfl siz25 rfl (.nw 32 hz) (fun y hy => own_range (hD.below hy hD.lt) h8 hk) rfl
  case e =>
  intro ac wz hA hgr hv
  have o33 : ac.eval (.tmp 33) = .agg (owV (qs.getD k noO)).toArray := hw hv hz 33
  refine wpList_alloc_new 7 rfl rfl 25 rfl wz.heap.size rfl _ zero25 ?_
  intro w3 h3
  have f5 : (ac.put (some 7) (.pointer (some ⟨wz.heap.size, 0, none⟩))).eval (.tmp 7) = .pointer (some ⟨wz.heap.size, 0, none⟩) := (ev_put (by rw [hA.size, hz]; decide)).trans (if_pos rfl)
  refine wpList_store_all rfl 25 (.tmp 7) (.tmp 33) rfl wz.heap.size f5 (owV (qs.getD k noO)) ((ev_put (by rw [hA.size, hz]; decide)).trans ((if_neg (by decide)).trans o33)) 25 _ h3.holds siz25 rfl (owV_one _) ?_
  intro w4 h4
  exact wl_end (hend _ w4 _ (hA.put 7 _) f5 h4.holds (hgr.trans (h3.below.trans (h4.below (Nat.le_refl _)))))
theorem r11_11 (hz : a0.tmps.size = 63) (k d : Nat) (u : Value) (qs : List Ow) (h8 : qs.length = 8) (hk : k < 8) (hD : Holds w d (u :: ownV qs) 28) (e6 : a0.eval (.tmp 6) = .int .i64 (k : Int)) (e3 : a0.eval (.tmp 3) = .pointer (some ⟨d, 0, none⟩)) (hend : ∀ ac wz e, After (8 :: [34, 35, 36, 37]) a0 ac → ac.eval (.tmp 8) = .pointer (some ⟨e, 0, none⟩) → Holds wz e (owV (qs.getD k noO)) 25 → Gr w wz → Q .normal ac wz) : RW 11 q11_11 false Q a0 w := by
  refine seq_by (by kernel_rfl) 4 (by decide) [34, 35, 36, 37] (fun | 34 => .val (.int .i64 (k : Int)) | 35 => .val (.pointer (some ⟨d, 1, none⟩)) | 36 => .val (.pointer (some ⟨d, 1 + k * 2, none⟩)) | 37 => .val (.agg (owV (qs.getD k noO)).toArray) | _ => .any) (by kernel_rfl) (fmc ⟨?s0, fmc ⟨?s1, fmc ⟨?s2, fmc ⟨?s3, fun o ho => nomatch ho⟩⟩⟩⟩) ?e
  case s0 => exact sa_mo 6 34 e6
  case s1 => exact sa_fa 28 (.tmp 3) 1 35 (.pointer (some ⟨d, 0, none⟩)) (.pointer (some ⟨d, 1, none⟩)) rfl rfl rfl (.old 3 _ (by decide) e3) (by intro w; kernel_rfl) rfl
  case s2 => exact sa_ixa 26 (.tmp 35) (.tmp 34) 36 (.pointer (some ⟨d, 1, none⟩)) (.int .i64 (k : Int)) (.pointer (some ⟨d, 1 + k * 2, none⟩)) rfl rfl rfl (.nw 35 hz) (.nw 34 hz) (ix_array (sz := 2) und26 (by intro w; kernel_rfl) hk (by omega)) rfl
  case s3 => exact sa_row 25 (.tmp 36) 37 d (1 + k * 2) 2 _ (owV (qs.getD k noO)) rfl rfl rfl Tryz.underlying25 rfl siz25 rfl (.nw 36 hz) (fun y hy => own_range (hD.below hy hD.lt) h8 hk) rfl
  case e =>
  intro ac wz hA hgr hv
  have o37 : ac.eval (.tmp 37) = .agg (owV (qs.getD k noO)).toArray := hw hv hz 37
  refine wpList_alloc_new 8 rfl rfl 25 rfl wz.heap.size rfl _ zero25 ?_
  intro w3 h3
  have f5 : (ac.put (some 8) (.pointer (some ⟨wz.heap.size, 0, none⟩))).eval (.tmp 8) = .pointer (some ⟨wz.heap.size, 0, none⟩) := (ev_put (by rw [hA.size, hz]; decide)).trans (if_pos rfl)
  refine wpList_store_all rfl 25 (.tmp 8) (.tmp 37) rfl wz.heap.size f5 (owV (qs.getD k noO)) ((ev_put (by rw [hA.size, hz]; decide)).trans ((if_neg (by decide)).trans o37)) 25 _ h3.holds siz25 rfl (owV_one _) ?_
  intro w4 h4
  exact wl_end (hend _ w4 _ (hA.put 8 _) f5 h4.holds (hgr.trans (h3.below.trans (h4.below (Nat.le_refl _)))))
theorem r11_12a (hz : a0.tmps.size = 63) (q7 q8 : Nat) (a b : Ow) (h7 : Holds w q7 (owV a) 25) (h8 : Holds w q8 (owV b) 25) (h1 : b.2 < a.2) (e7 : a0.eval (.tmp 7) = .pointer (some ⟨q7, 0, none⟩)) (e8 : a0.eval (.tmp 8) = .pointer (some ⟨q8, 0, none⟩)) (hend : ∀ ac wz, After [38, 39, 40, 41, 42, 43, 44, 45, 46, 47, 48, 49, 50, 51, 52, 53, 54, 55, 56] a0 ac → ac.eval (.tmp 56) = .bool true → Gr w wz → Q .normal ac wz) : RW 12 q11_12 false Q a0 w := by
  refine seq_by (by kernel_rfl) 19 (by decide) [38, 39, 40, 41, 42, 43, 44, 45, 46, 47, 48, 49, 50, 51, 52, 53, 54, 55, 56] (fun | 38 => .val (.pointer (some ⟨q7, 1, none⟩)) | 39 => .val (.int .u64 (a.2 : Int)) | 40 => .val (.pointer (some ⟨q8, 1, none⟩)) | 41 => .val (.int .u64 (b.2 : Int)) | 42 => .val (.bool true) | 43 => .val (.bool true) | 44 => .val (undef) | 45 => .val (undef) | 46 => .val (undef) | 47 => .val (undef) | 48 => .val (undef) | 49 => .val (undef) | 50 => .val (undef) | 51 => .val (undef) | 52 => .val (undef) | 53 => .val (undef) | 54 => .val (undef) | 55 => .val (undef) | 56 => .val (.bool true) | _ => .any) (by kernel_rfl) (fmc ⟨?s0, fmc ⟨?s1, fmc ⟨?s2, fmc ⟨?s3, fmc ⟨?s4, fmc ⟨?s5, fmc ⟨?s6, fmc ⟨?s7, fmc ⟨?s8, fmc ⟨?s9, fmc ⟨?s10, fmc ⟨?s11, fmc ⟨?s12, fmc ⟨?s13, fmc ⟨?s14, fmc ⟨?s15, fmc ⟨?s16, fmc ⟨?s17, fmc ⟨?s18, fun o ho => nomatch ho⟩⟩⟩⟩⟩⟩⟩⟩⟩⟩⟩⟩⟩⟩⟩⟩⟩⟩⟩) ?e
  case s0 => exact sa_fa 25 (.tmp 7) 1 38 (.pointer (some ⟨q7, 0, none⟩)) (.pointer (some ⟨q7, 1, none⟩)) rfl rfl rfl (.old 7 _ (by decide) e7) (by intro w; kernel_rfl) rfl
  case s1 => exact sa_loadc 23 (.tmp 38) 39 (q7) (1) (.int .u64 (a.2 : Int)) rfl rfl rfl (by intro w; kernel_rfl) (.nw 38 hz) (fun y hy => (h7.below hy h7.lt).at 1 _ rfl) rfl
  case s2 => exact sa_fa 25 (.tmp 8) 1 40 (.pointer (some ⟨q8, 0, none⟩)) (.pointer (some ⟨q8, 1, none⟩)) rfl rfl rfl (.old 8 _ (by decide) e8) (by intro w; kernel_rfl) rfl
  case s3 => exact sa_loadc 23 (.tmp 40) 41 (q8) (1) (.int .u64 (b.2 : Int)) rfl rfl rfl (by intro w; kernel_rfl) (.nw 40 hz) (fun y hy => (h8.below hy h8.lt).at 1 _ rfl) rfl
  case s4 => exact sa_bin .gtr 23 (.tmp 39) (.tmp 41) 23 42 (.int .u64 (a.2 : Int)) (.int .u64 (b.2 : Int)) (.bool true) rfl rfl rfl (.nw 39 hz) (.nw 41 hz) guard_u (bin_gtr_u (decide_eq_true (by omega))) rfl
  case s5 => exact sa_mw 42 43 hz
  case s6 => exact so_nFN 5 43 hz
  case s7 => exact so_nFN 5 43 hz
  case s8 => exact so_nFN 5 43 hz
  case s9 => exact so_nFN 5 43 hz
  case s10 => exact so_nFN 5 43 hz
  case s11 => exact so_nFN 5 43 hz
  case s12 => exact so_nU 11 49 true hz
  case s13 => exact so_nU 11 49 true hz
  case s14 => exact so_nU 11 49 true hz
  case s15 => exact so_nU 11 49 true hz
  case s16 => exact so_nU 11 49 true hz
  case s17 => exact so_nFN 5 43 hz
  case s18 => exact sa_pick (.tmp 43) (.const _) (.tmp 55) 56 (.val (.bool true)) rfl rfl rfl (.nw 43 hz) (.const _) rfl
  case e =>
  intro ac wz hA hgr hv
  exact wl_end (hend ac wz hA (hw hv hz 56) hgr)
theorem r11_12b (hz : a0.tmps.size = 63) (q7 q8 : Nat) (a b : Ow) (h7 : Holds w q7 (owV a) 25) (h8 : Holds w q8 (owV b) 25) (h2 : a.2 = b.2) (e7 : a0.eval (.tmp 7) = .pointer (some ⟨q7, 0, none⟩)) (e8 : a0.eval (.tmp 8) = .pointer (some ⟨q8, 0, none⟩)) (hend : ∀ ac wz, After [38, 39, 40, 41, 42, 43, 44, 45, 46, 47, 48, 49, 50, 51, 52, 53, 54, 55, 56] a0 ac → ac.eval (.tmp 56) = .bool (decide (a.1 > b.1)) → Gr w wz → Q .normal ac wz) : RW 12 q11_12 false Q a0 w := by
  refine seq_by (by kernel_rfl) 19 (by decide) [38, 39, 40, 41, 42, 43, 44, 45, 46, 47, 48, 49, 50, 51, 52, 53, 54, 55, 56] (fun | 38 => .val (.pointer (some ⟨q7, 1, none⟩)) | 39 => .val (.int .u64 (a.2 : Int)) | 40 => .val (.pointer (some ⟨q8, 1, none⟩)) | 41 => .val (.int .u64 (b.2 : Int)) | 42 => .val (.bool false) | 43 => .val (.bool false) | 44 => .val (.pointer (some ⟨q7, 1, none⟩)) | 45 => .val (.int .u64 (a.2 : Int)) | 46 => .val (.pointer (some ⟨q8, 1, none⟩)) | 47 => .val (.int .u64 (b.2 : Int)) | 48 => .val (.bool true) | 49 => .val (.bool true) | 50 => .val (.pointer (some ⟨q7, 0, none⟩)) | 51 => .val (.int .i64 a.1) | 52 => .val (.pointer (some ⟨q8, 0, none⟩)) | 53 => .val (.int .i64 b.1) | 54 => .val (.bool (decide (a.1 > b.1))) | 55 => .val (.bool (decide (a.1 > b.1))) | 56 => .val (.bool (decide (a.1 > b.1))) | _ => .any) (by kernel_rfl) (fmc ⟨?s0, fmc ⟨?s1, fmc ⟨?s2, fmc ⟨?s3, fmc ⟨?s4, fmc ⟨?s5, fmc ⟨?s6, fmc ⟨?s7, fmc ⟨?s8, fmc ⟨?s9, fmc ⟨?s10, fmc ⟨?s11, fmc ⟨?s12, fmc ⟨?s13, fmc ⟨?s14, fmc ⟨?s15, fmc ⟨?s16, fmc ⟨?s17, fmc ⟨?s18, fun o ho => nomatch ho⟩⟩⟩⟩⟩⟩⟩⟩⟩⟩⟩⟩⟩⟩⟩⟩⟩⟩⟩) ?e
  case s0 => exact sa_fa 25 (.tmp 7) 1 38 (.pointer (some ⟨q7, 0, none⟩)) (.pointer (some ⟨q7, 1, none⟩)) rfl rfl rfl (.old 7 _ (by decide) e7) (by intro w; kernel_rfl) rfl
  case s1 => exact sa_loadc 23 (.tmp 38) 39 (q7) (1) (.int .u64 (a.2 : Int)) rfl rfl rfl (by intro w; kernel_rfl) (.nw 38 hz) (fun y hy => (h7.below hy h7.lt).at 1 _ rfl) rfl
  case s2 => exact sa_fa 25 (.tmp 8) 1 40 (.pointer (some ⟨q8, 0, none⟩)) (.pointer (some ⟨q8, 1, none⟩)) rfl rfl rfl (.old 8 _ (by decide) e8) (by intro w; kernel_rfl) rfl
  case s3 => exact sa_loadc 23 (.tmp 40) 41 (q8) (1) (.int .u64 (b.2 : Int)) rfl rfl rfl (by intro w; kernel_rfl) (.nw 40 hz) (fun y hy => (h8.below hy h8.lt).at 1 _ rfl) rfl
  case s4 => exact sa_bin .gtr 23 (.tmp 39) (.tmp 41) 23 42 (.int .u64 (a.2 : Int)) (.int .u64 (b.2 : Int)) (.bool false) rfl rfl rfl (.nw 39 hz) (.nw 41 hz) guard_u (bin_gtr_u (decide_eq_false (by omega))) rfl
  case s5 => exact sa_mw 42 43 hz
  case s6 => exact sa_gf 5 43 hz (sa_fa 25 (.tmp 7) 1 44 (.pointer (some ⟨q7, 0, none⟩)) (.pointer (some ⟨q7, 1, none⟩)) rfl rfl rfl (.old 7 _ (by decide) e7) (by intro w; kernel_rfl) rfl)
  case s7 => exact sa_gf 5 43 hz (sa_loadc 23 (.tmp 44) 45 (q7) (1) (.int .u64 (a.2 : Int)) rfl rfl rfl (by intro w; kernel_rfl) (.nw 44 hz) (fun y hy => (h7.below hy h7.lt).at 1 _ rfl) rfl)
  case s8 => exact sa_gf 5 43 hz (sa_fa 25 (.tmp 8) 1 46 (.pointer (some ⟨q8, 0, none⟩)) (.pointer (some ⟨q8, 1, none⟩)) rfl rfl rfl (.old 8 _ (by decide) e8) (by intro w; kernel_rfl) rfl)
  case s9 => exact sa_gf 5 43 hz (sa_loadc 23 (.tmp 46) 47 (q8) (1) (.int .u64 (b.2 : Int)) rfl rfl rfl (by intro w; kernel_rfl) (.nw 46 hz) (fun y hy => (h8.below hy h8.lt).at 1 _ rfl) rfl)
  case s10 => exact sa_gf 5 43 hz (sa_bin .eql 23 (.tmp 45) (.tmp 47) 23 48 (.int .u64 (a.2 : Int)) (.int .u64 (b.2 : Int)) (.bool true) rfl rfl rfl (.nw 45 hz) (.nw 47 hz) guard_u (bin_eql_u (decide_eq_true (by omega))) rfl)
  case s11 => exact sa_gf 5 43 hz (sa_mw 48 49 hz)
  case s12 => exact sa_gd 11 49 hz (sa_fa 25 (.tmp 7) 0 50 (.pointer (some ⟨q7, 0, none⟩)) (.pointer (some ⟨q7, 0, none⟩)) rfl rfl rfl (.old 7 _ (by decide) e7) (by intro w; kernel_rfl) rfl)
  case s13 => exact sa_gd 11 49 hz (sa_loadc 3 (.tmp 50) 51 (q7) (0) (.int .i64 a.1) rfl rfl rfl (by intro w; kernel_rfl) (.nw 50 hz) (fun y hy => (h7.below hy h7.lt).at 0 _ rfl) rfl)
  case s14 => exact sa_gd 11 49 hz (sa_fa 25 (.tmp 8) 0 52 (.pointer (some ⟨q8, 0, none⟩)) (.pointer (some ⟨q8, 0, none⟩)) rfl rfl rfl (.old 8 _ (by decide) e8) (by intro w; kernel_rfl) rfl)
  case s15 => exact sa_gd 11 49 hz (sa_loadc 3 (.tmp 52) 53 (q8) (0) (.int .i64 b.1) rfl rfl rfl (by intro w; kernel_rfl) (.nw 52 hz) (fun y hy => (h8.below hy h8.lt).at 0 _ rfl) rfl)
  case s16 => exact sa_gd 11 49 hz (sa_bin .gtr 3 (.tmp 51) (.tmp 53) 3 54 (.int .i64 a.1) (.int .i64 b.1) (.bool (decide (a.1 > b.1))) rfl rfl rfl (.nw 51 hz) (.nw 53 hz) guard_int (bin_gtr rfl) rfl)
  case s17 => exact sa_gf 5 43 hz (sa_pick (.tmp 49) (.tmp 54) (.const _) 55 (.val (.bool (decide (a.1 > b.1)))) rfl rfl rfl (.nw 49 hz) (.nw 54 hz) rfl)
  case s18 => exact sa_pickF (.tmp 43) (.const _) (.tmp 55) 56 (.val (.bool (decide (a.1 > b.1)))) rfl rfl rfl (.nw 43 hz) (.nw 55 hz) rfl
  case e =>
  intro ac wz hA hgr hv
  exact wl_end (hend ac wz hA (hw hv hz 56) hgr)
theorem r11_12c (hz : a0.tmps.size = 63) (q7 q8 : Nat) (a b : Ow) (h7 : Holds w q7 (owV a) 25) (h8 : Holds w q8 (owV b) 25) (h1 : ¬ b.2 < a.2) (h2 : ¬ a.2 = b.2) (e7 : a0.eval (.tmp 7) = .pointer (some ⟨q7, 0, none⟩)) (e8 : a0.eval (.tmp 8) = .pointer (some ⟨q8, 0, none⟩)) (hend : ∀ ac wz, After [38, 39, 40, 41, 42, 43, 44, 45, 46, 47, 48, 49, 50, 51, 52, 53, 54, 55, 56] a0 ac → ac.eval (.tmp 56) = .bool false → Gr w wz → Q .normal ac wz) : RW 12 q11_12 false Q a0 w := by
  refine seq_by (by kernel_rfl) 19 (by decide) [38, 39, 40, 41, 42, 43, 44, 45, 46, 47, 48, 49, 50, 51, 52, 53, 54, 55, 56] (fun | 38 => .val (.pointer (some ⟨q7, 1, none⟩)) | 39 => .val (.int .u64 (a.2 : Int)) | 40 => .val (.pointer (some ⟨q8, 1, none⟩)) | 41 => .val (.int .u64 (b.2 : Int)) | 42 => .val (.bool false) | 43 => .val (.bool false) | 44 => .val (.pointer (some ⟨q7, 1, none⟩)) | 45 => .val (.int .u64 (a.2 : Int)) | 46 => .val (.pointer (some ⟨q8, 1, none⟩)) | 47 => .val (.int .u64 (b.2 : Int)) | 48 => .val (.bool false) | 49 => .val (.bool false) | 50 => .val (undef) | 51 => .val (undef) | 52 => .val (undef) | 53 => .val (undef) | 54 => .val (undef) | 55 => .val (.bool false) | 56 => .val (.bool false) | _ => .any) (by kernel_rfl) (fmc ⟨?s0, fmc ⟨?s1, fmc ⟨?s2, fmc ⟨?s3, fmc ⟨?s4, fmc ⟨?s5, fmc ⟨?s6, fmc ⟨?s7, fmc ⟨?s8, fmc ⟨?s9, fmc ⟨?s10, fmc ⟨?s11, fmc ⟨?s12, fmc ⟨?s13, fmc ⟨?s14, fmc ⟨?s15, fmc ⟨?s16, fmc ⟨?s17, fmc ⟨?s18, fun o ho => nomatch ho⟩⟩⟩⟩⟩⟩⟩⟩⟩⟩⟩⟩⟩⟩⟩⟩⟩⟩⟩) ?e
  case s0 => exact sa_fa 25 (.tmp 7) 1 38 (.pointer (some ⟨q7, 0, none⟩)) (.pointer (some ⟨q7, 1, none⟩)) rfl rfl rfl (.old 7 _ (by decide) e7) (by intro w; kernel_rfl) rfl
  case s1 => exact sa_loadc 23 (.tmp 38) 39 (q7) (1) (.int .u64 (a.2 : Int)) rfl rfl rfl (by intro w; kernel_rfl) (.nw 38 hz) (fun y hy => (h7.below hy h7.lt).at 1 _ rfl) rfl
  case s2 => exact sa_fa 25 (.tmp 8) 1 40 (.pointer (some ⟨q8, 0, none⟩)) (.pointer (some ⟨q8, 1, none⟩)) rfl rfl rfl (.old 8 _ (by decide) e8) (by intro w; kernel_rfl) rfl
  case s3 => exact sa_loadc 23 (.tmp 40) 41 (q8) (1) (.int .u64 (b.2 : Int)) rfl rfl rfl (by intro w; kernel_rfl) (.nw 40 hz) (fun y hy => (h8.below hy h8.lt).at 1 _ rfl) rfl
  case s4 => exact sa_bin .gtr 23 (.tmp 39) (.tmp 41) 23 42 (.int .u64 (a.2 : Int)) (.int .u64 (b.2 : Int)) (.bool false) rfl rfl rfl (.nw 39 hz) (.nw 41 hz) guard_u (bin_gtr_u (decide_eq_false (by omega))) rfl
  case s5 => exact sa_mw 42 43 hz
  case s6 => exact sa_gf 5 43 hz (sa_fa 25 (.tmp 7) 1 44 (.pointer (some ⟨q7, 0, none⟩)) (.pointer (some ⟨q7, 1, none⟩)) rfl rfl rfl (.old 7 _ (by decide) e7) (by intro w; kernel_rfl) rfl)
  case s7 => exact sa_gf 5 43 hz (sa_loadc 23 (.tmp 44) 45 (q7) (1) (.int .u64 (a.2 : Int)) rfl rfl rfl (by intro w; kernel_rfl) (.nw 44 hz) (fun y hy => (h7.below hy h7.lt).at 1 _ rfl) rfl)
  case s8 => exact sa_gf 5 43 hz (sa_fa 25 (.tmp 8) 1 46 (.pointer (some ⟨q8, 0, none⟩)) (.pointer (some ⟨q8, 1, none⟩)) rfl rfl rfl (.old 8 _ (by decide) e8) (by intro w; kernel_rfl) rfl)
  case s9 => exact sa_gf 5 43 hz (sa_loadc 23 (.tmp 46) 47 (q8) (1) (.int .u64 (b.2 : Int)) rfl rfl rfl (by intro w; kernel_rfl) (.nw 46 hz) (fun y hy => (h8.below hy h8.lt).at 1 _ rfl) rfl)
  case s10 => exact sa_gf 5 43 hz (sa_bin .eql 23 (.tmp 45) (.tmp 47) 23 48 (.int .u64 (a.2 : Int)) (.int .u64 (b.2 : Int)) (.bool false) rfl rfl rfl (.nw 45 hz) (.nw 47 hz) guard_u (bin_eql_u (decide_eq_false (by omega))) rfl)
  case s11 => exact sa_gf 5 43 hz (sa_mw 48 49 hz)
  case s12 => exact so_nN 11 49 hz
  case s13 => exact so_nN 11 49 hz
  case s14 => exact so_nN 11 49 hz
  case s15 => exact so_nN 11 49 hz
  case s16 => exact so_nN 11 49 hz
  case s17 => exact sa_gf 5 43 hz (sa_pickF (.tmp 49) (.tmp 54) (.const _) 55 (.val (.bool false)) rfl rfl rfl (.nw 49 hz) (.const _) rfl)
  case s18 => exact sa_pickF (.tmp 43) (.const _) (.tmp 55) 56 (.val (.bool false)) rfl rfl rfl (.nw 43 hz) (.nw 55 hz) rfl
  case e =>
  intro ac wz hA hgr hv
  exact wl_end (hend ac wz hA (hw hv hz 56) hgr)
theorem r11_13 (hz : a0.tmps.size = 63) (k c q7 : Nat) (a : Ow) (v : Value) (ms : List Mb) (os : List Ow) (l8 : os.length = 8) (hk : k < 8) (hC : Holds w c (ringC v (ms, os)) 28) (h7 : Holds w q7 (owV a) 25) (e6 : a0.eval (.tmp 6) = .int .i64 (k : Int)) (e7 : a0.eval (.tmp 7) = .pointer (some ⟨q7, 0, none⟩)) (e3 : a0.eval (.tmp 3) = .pointer (some ⟨c, 0, none⟩)) (hend : ∀ ac wz, After [57, 58, 59, 60] a0 ac → Holds wz c (ringC v (ms, os.set k a)) 28 → Upd c w wz → Q .normal ac wz) : RW 13 q11_13 false Q a0 w := by
  refine seq_by (by kernel_rfl) 4 (by decide) [57, 58, 59, 60] (fun | 57 => .val (.int .i64 (k : Int)) | 58 => .val (.agg (owV a).toArray) | 59 => .val (.pointer (some ⟨c, 1, none⟩)) | 60 => .val (.pointer (some ⟨c, 1 + k * 2, none⟩)) | _ => .any) (by kernel_rfl) (fmc ⟨?s0, fmc ⟨?s1, fmc ⟨?s2, fmc ⟨?s3, fun o ho => nomatch ho⟩⟩⟩⟩) ?e
  case s0 => exact sa_mo 6 57 e6
  case s1 => exact sa_row 25 (.tmp 7) 58 q7 (0) 2 _ (owV a) rfl rfl rfl Tryz.underlying25 rfl siz25 rfl (.old 7 _ (by decide) e7) (fun y hy => range_of (h7.below hy h7.lt)) rfl
  case s2 => exact sa_fa 28 (.tmp 3) 1 59 (.pointer (some ⟨c, 0, none⟩)) (.pointer (some ⟨c, 1, none⟩)) rfl rfl rfl (.old 3 _ (by decide) e3) (by intro w; kernel_rfl) rfl
  case s3 => exact sa_ixa 26 (.tmp 59) (.tmp 57) 60 (.pointer (some ⟨c, 1, none⟩)) (.int .i64 (k : Int)) (.pointer (some ⟨c, 1 + k * 2, none⟩)) rfl rfl rfl (.nw 59 hz) (.nw 57 hz) (ix_array (sz := 2) und26 (by intro w; kernel_rfl) hk (by omega)) rfl
  case e =>
  intro ac wz hA hgr hv
  have o58 : ac.eval (.tmp 58) = .agg (owV a).toArray := hw hv hz 58
  have o60 : ac.eval (.tmp 60) = .pointer (some ⟨c, 1 + k * 2, none⟩) := hw hv hz 60
  refine wpList_store_part rfl 25 (.tmp 60) (.tmp 58) rfl c (1 + k * 2) o60 (owV a) o58 28 _ (hC.below hgr hC.lt) siz25 (by show 1 + k * 2 + 2 ≤ (v :: ownV os).length; rw [List.length_cons, ownV_len, l8]; omega) (owV_one _) ?_
  intro y t3
  have th := t3.holds
  rw [ring_set v ms os k a (by rw [l8]; exact hk)] at th
  exact wl_end (hend _ y hA th ((Gr.upd hgr).trans (Turned.upd t3)))
theorem r11_14 (hz : a0.tmps.size = 63) (c b4 : Nat) (u : Value) (r : Rg) (old : List Value) (hC : Holds w c (ringC u r) 28) (hR : RingAt w.heap.size w u r) (h4 : Holds w b4 old 28) (hl : old.length = 17) (e3 : a0.eval (.tmp 3) = .pointer (some ⟨c, 0, none⟩)) (e2 : a0.eval (.tmp 2) = .pointer (some ⟨b4, 0, none⟩)) (hend : ∀ ac wz, After [61, 62] a0 ac → Bf w.heap.size wz b4 (normL r) → Upd b4 w wz → Q .normal ac wz) : RW 14 q11_14 false Q a0 w := by
  refine seq_by (by kernel_rfl) 2 (by decide) [61, 62] (fun | 61 => .val (.agg (ringC u r).toArray) | 62 => ringF w.heap.size (normL r) | _ => .any) (by kernel_rfl) (fmc ⟨?s0, fmc ⟨?s1, fun o ho => nomatch ho⟩⟩) ?e
  case s0 => exact sa_row 28 (.tmp 3) 61 c (0) 17 _ (ringC u r) rfl rfl rfl Tryz.underlying28 rfl siz28 (ringC_len hR) (.old 3 _ (by decide) e3) (fun y hy => range_of (hC.below hy hC.lt)) rfl
  case s1 => exact sa_callF1 9 (.tmp 61) _ 62 (.agg (ringC u r).toArray) (ringF w.heap.size (normL r)) rfl rfl rfl (.nw 61 hz) (enters_of Tryz.func9 (by kernel_rfl) rfl) (fun y hy => k_norm u r w y hy hR) rfl
  case e =>
  intro ac wz hA hgr hv
  have o62 := hw hv hz 62
  have o2 : ac.eval (.tmp 2) = .pointer (some ⟨b4, 0, none⟩) := (hA.old 2 (by decide)).trans e2
  refine wpl_store_ring rfl (.tmp 2) (.tmp 62) rfl rfl b4 w.heap.size o2 (normL r) o62 old (h4.below hgr h4.lt) hl h4.lt (fun w3 h3 u3 _ => ?_)
  exact wl_end (hend _ w3 hA h3 ((Gr.upd hgr).trans u3))
def cM_rb : Code := (((Code.region 8 q11_8 false).seq (Code.cond (.tmp 27) Code.skip (Code.exit 2))).seq ((Code.block 3 ((Code.region 10 q11_10 false).seq ((Code.region 11 q11_11 false).seq ((Code.region 12 q11_12 false).seq (Code.cond (.tmp 56) (Code.region 13 q11_13 false) Code.skip))))).seq (Code.region 9 q11_9 false)))
def cM_lb : Code := (Code.block 2 (cM_rb.loop))
def cM_ra : Code := (((Code.region 3 q11_3 false).seq (Code.cond (.tmp 12) Code.skip (Code.exit 0))).seq ((Code.block 1 ((Code.region 5 q11_5 false).seq ((Code.region 6 q11_6 false).seq ((Code.region 7 q11_7 false).seq cM_lb)))).seq (Code.region 4 q11_4 false)))
def cM_la : Code := (Code.block 0 (cM_ra.loop))
def cM : Code := ((Code.region 0 q11_0 false).seq ((Code.region 1 q11_1 false).seq (((Code.region 2 q11_2 false).seq cM_la).seq ((Code.region 14 q11_14 false).seq Code.ret))))
theorem r11_0 (hz : a0.tmps.size = 63) (b : Nat) (hb : w.heap.size = b) (hend : ∀ ac wz, After [2] a0 ac → ac.eval (.tmp 2) = .pointer (some ⟨b, 0, none⟩) → Anew b w wz (ringC (.slice none 0 0) ([], noOs)) 28 → Q .normal ac wz) : RW 0 q11_0 false Q a0 w := by
  refine wp_region_list ?_
  refine wpList_alloc_new 2 rfl rfl 28 rfl b hb _ zero28 ?_
  intro w1 h1
  refine wl_end (hend _ w1 ((After.self a0).put 2 _) ?_ h1)
  simp [ev_put, hz]
theorem r11_1 (hz : a0.tmps.size = 63) (b : Nat) (hb : w.heap.size = b) (hend : ∀ ac wz, After [3] a0 ac → ac.eval (.tmp 3) = .pointer (some ⟨b, 0, none⟩) → Anew b w wz (ringC (.slice none 0 0) ([], noOs)) 28 → Q .normal ac wz) : RW 1 q11_1 false Q a0 w := by
  refine wp_region_list ?_
  refine wpList_alloc_new 3 rfl rfl 28 rfl b hb _ zero28 ?_
  intro w1 h1
  refine wl_end (hend _ w1 ((After.self a0).put 3 _) ?_ h1)
  simp [ev_put, hz]
structure Mg (w : World) (b : Nat) (sv v : Value) (ms : List Mb) (os : List Ow) (ac : Act) (x : World) : Prop where
  z : ac.tmps.size = 63
  df : ac.defers = []
  e0 : ac.eval (.tmp 0) = sv
  e2 : ac.eval (.tmp 2) = .pointer (some ⟨b, 0, none⟩)
  e3 : ac.eval (.tmp 3) = .pointer (some ⟨b + 1, 0, none⟩)
  h2 : Holds x b (ringC (.slice none 0 0) ([], noOs)) 28
  hc : Holds x (b + 1) (ringC v (ms, os)) 28
  own : x.ownsRow (b + 2) 53 3 v ms.length (cellsP ms)
  bl : Below b w x
  sz : b + 2 ≤ x.heap.size
theorem Mg.gr {w x y : World} {b : Nat} {sv v : Value} {ms : List Mb} {os : List Ow} {ac ad : Act} {D : List Nat} (h : Mg w b sv v ms os ac x) (hA : After D ac ad) (hD : (D.all fun s => decide (4 ≤ s)) = true) (g : Gr x y) : Mg w b sv v ms os ad y :=
  ⟨hA.size.trans h.z, hA.defers.trans h.df, hA.keep hD (by omega) h.e0, hA.keep hD (by omega) h.e2, hA.keep hD (by omega) h.e3, h.h2.below g h.h2.lt, h.hc.below g h.hc.lt, own53_gr h.own g, h.bl.trans (g.mono (Nat.le_of_lt h.h2.lt)), Nat.le_trans h.sz g.size⟩
theorem Mg.put {w x y : World} {b : Nat} {sv v : Value} {ms : List Mb} {os os' : List Ow} {ac ad : Act} {D : List Nat} (h : Mg w b sv v ms os ac x) (hA : After D ac ad) (hD : (D.all fun s => decide (4 ≤ s)) = true) (hc : Holds y (b + 1) (ringC v (ms, os')) 28) (u : Upd (b + 1) x y) : Mg w b sv v ms os' ad y :=
  have hn53 : ∀ cs fr, x.heap[b + 1]? ≠ some (.cells cs 53 fr) := fun cs fr e => by
    have := h.hc
    unfold Holds at this
    rw [this] at e
    simp at e
  ⟨hA.size.trans h.z, hA.defers.trans h.df, hA.keep hD (by omega) h.e0, hA.keep hD (by omega) h.e2, hA.keep hD (by omega) h.e3, h.h2.upd u (by omega), hc, own_upd h.own u hn53, h.bl.trans (u.below (by omega) (Nat.le_of_lt h.h2.lt)), Nat.le_trans h.sz u.size⟩
theorem Mg.more {w x y : World} {b : Nat} {sv v v2 : Value} {ms ms2 : List Mb} {os : List Ow} {ac ad : Act} {D : List Nat} (h : Mg w b sv v ms os ac x) (hA : After D ac ad) (hD : (D.all fun s => decide (4 ≤ s)) = true) (hc : Holds y (b + 1) (ringC v2 (ms2, os)) 28) (own : y.ownsRow (b + 2) 53 3 v2 ms2.length (cellsP ms2)) (o : Outs (fun k => k = b + 1 ∨ b + 2 ≤ k) x y) : Mg w b sv v2 ms2 os ad y :=
  have h0 := h.sz
  have hB : Below (b + 1) x y := o.below (fun k hk q => by omega) (by omega)
  ⟨hA.size.trans h.z, hA.defers.trans h.df, hA.keep hD (by omega) h.e0, hA.keep hD (by omega) h.e2, hA.keep hD (by omega) h.e3, h.h2.below hB (by omega), hc, own, h.bl.trans (hB.mono (by omega)), Nat.le_trans h0 o.size⟩
theorem joO_ab (a b : Ow) : joO b a = if b.2 < a.2 ∨ a.2 = b.2 ∧ b.1 < a.1 then a else b := by
  unfold joO
  by_cases h : newO a b = true
  · rw [if_pos h, if_pos]
    rcases (newO_iff a b).1 h with q | ⟨q1, q2⟩
    · exact .inl q
    · exact .inr ⟨q1.symm, q2⟩
  · rw [if_neg h, if_neg]
    intro q
    apply h
    rw [newO_iff]
    rcases q with q | ⟨q1, q2⟩
    · exact .inl q
    · exact .inr ⟨q1.symm, q2⟩
set_option maxHeartbeats 1000000 in
theorem merge_lb {Q : Exit → Act → World → Prop} {w x : World} {b d i : Nat} {sv v u : Value} {ms ls : List Mb} {os qs : List Ow} {ac : Act} (h8 : os.length = 8) (q8 : qs.length = 8) (hso : ∀ j, j < 8 → So (qs.getD j noO)) (hd : b + 2 ≤ d) (h : Mg w b sv v ms os ac x) (hD : Holds x d (ringC u (ls, qs)) 28) (e4 : ac.eval (.tmp 4) = .int .i64 (i : Int)) (e5 : ac.eval (.tmp 5) = .pointer (some ⟨d, 0, none⟩)) (e6 : ac.eval (.tmp 6) = .int .i64 ((0 : Nat) : Int))
    (hend : ∀ ad y, Mg w b sv v ms (newestL os qs) ad y → ad.eval (.tmp 4) = .int .i64 (i : Int) → Q .normal ad y) : cM_lb.wp Tryz.prog Q ac x := by
  unfold cM_lb
  refine wp_block ?_
  refine wp_loop (fun ad y => ∃ k : Nat, Mg w b sv v ms (mixO os qs k) ad y ∧ Holds y d (ringC u (ls, qs)) 28 ∧ k ≤ 8 ∧ ad.eval (.tmp 4) = .int .i64 (i : Int) ∧ ad.eval (.tmp 5) = .pointer (some ⟨d, 0, none⟩) ∧ ad.eval (.tmp 6) = .int .i64 (k : Int)) (fun ad _ => 8 - (intOf (ad.eval (.tmp 6))).toNat)
    ⟨0, by rw [mixO_zero os qs h8]; exact h, hD, by omega, e4, e5, e6⟩ (fun a0 x0 ⟨k, h0, hD0, hk, f4, f5, f6⟩ => ?_)
  unfold cM_rb
  refine wp_seq (wp_seq (r11_8 h0.z k f6 (fun a1 x1 A1 o27 G1 => ?_)))
  have h1 := h0.gr A1 (by decide) G1
  have hD1 := hD0.below G1 hD0.lt
  have g4 := A1.get f4 (by decide)
  have g5 := A1.get f5 (by decide)
  have g6 := A1.get f6 (by decide)
  show Code.wp Tryz.prog (Code.cond _ _ _) _ a1 x1
  refine wp_cond_split o27 (fun q => ?_) (fun q => ?_)
  · have q : (k : Int) < 8 := of_decide_eq_true q
    have hk8 : k < 8 := by omega
    have hms := mixO_succ os qs k
    have hat := mixO_at os qs k hk8
    rw [okO_id (hso k hk8), ← hat, joO_ab] at hms
    have hml := mixO_len os qs k
    generalize hB : (mixO os qs k).getD k noO = B at *
    generalize hA0 : qs.getD k noO = A at *
    generalize mixO os qs k = mx at *
    have hself : mx.set k B = mx := by
      rw [← hB, List.getD_eq_getElem?_getD, List.getElem?_eq_getElem (by omega)]
      exact List.set_getElem_self (by omega)
    have mea : ∀ a8 : Act, a8.eval (.tmp 6) = .int .i64 ((k + 1 : Nat) : Int) → 8 - (intOf (a8.eval (.tmp 6))).toNat < 8 - (intOf (a0.eval (.tmp 6))).toNat := fun a8 o6' => by
      rw [o6', f6]
      simp only [intOf]
      omega
    refine wp_skip ?_
    show Code.wp Tryz.prog (Code.seq _ _) _ a1 x1
    refine wp_seq (wp_block (wp_seq (r11_10 h1.z k d u qs q8 hk8 hD1 g6 g5 (fun a2 x2 e7 A2 o7 H7 G2 => ?_))))
    have h2 := h1.gr A2 (by decide) G2
    have hD2 := hD1.below G2 hD1.lt
    rw [hA0] at H7
    show Code.wp Tryz.prog (Code.seq _ _) _ a2 x2
    refine wp_seq (r11_11 h2.z k (b + 1) v mx hml hk8 h2.hc (A2.get g6 (by decide)) h2.e3 (fun a3 x3 e8 A3 o8 H8 G3 => ?_))
    have h3 := h2.gr A3 (by decide) G3
    have hD3 := hD2.below G3 hD2.lt
    rw [hB] at H8
    have H73 := H7.below G3 H7.lt
    have p4 := A3.get (A2.get g4 (by decide)) (by decide)
    have p5 := A3.get (A2.get g5 (by decide)) (by decide)
    have p6 := A3.get (A2.get g6 (by decide)) (by decide)
    have p7 := A3.get o7 (by decide)
    show Code.wp Tryz.prog (Code.seq _ _) _ a3 x3
    -- the round's end
    have fin : ∀ (Q' : Exit → Act → World → Prop) a5 x5 D, After D a3 a5 → D.contains 4 = false → D.contains 5 = false → D.contains 6 = false → Mg w b sv v ms (mixO os qs (k + 1)) a5 x5 → Holds x5 d (ringC u (ls, qs)) 28 → (∀ a6 x6, Mg w b sv v ms (mixO os qs (k + 1)) a6 x6 → Holds x6 d (ringC u (ls, qs)) 28 → a6.eval (.tmp 4) = .int .i64 (i : Int) → a6.eval (.tmp 5) = .pointer (some ⟨d, 0, none⟩) → a6.eval (.tmp 6) = .int .i64 ((k + 1 : Nat) : Int) → Q' .normal a6 x6) → (Code.region 9 q11_9 false).wp Tryz.prog Q' a5 x5 := fun Q' a5 x5 D A5 d4 d5 d6 h5 hD5 hQ =>
      r11_9 h5.z k (by omega) (A5.get p6 d6) (fun a6 x6 A6 o6' G6 => hQ a6 x6 (h5.gr A6 (by decide) G6) (hD5.below G6 hD5.lt) (A6.get (A5.get p4 d4) (by decide)) (A6.get (A5.get p5 d5) (by decide)) o6')
    have keepit : ∀ (Q' : Exit → Act → World → Prop) a4 x4 D, After D a3 a4 → (D.all fun s => decide (9 ≤ s)) = true → Gr x3 x4 → mixO os qs (k + 1) = mx → (∀ a5 x5 D', After D' a3 a5 → (D'.all fun s => decide (9 ≤ s)) = true → Mg w b sv v ms (mixO os qs (k + 1)) a5 x5 → Holds x5 d (ringC u (ls, qs)) 28 → Q' .normal a5 x5) → Q' .normal a4 x4 := fun Q' a4 x4 D A4 hD9 G4 he hQ => by
      have h4 := h3.gr A4 (List.all_eq_true.2 fun s hs => by have := List.all_eq_true.1 hD9 s hs; simp at this ⊢; omega) G4
      rw [← he] at h4
      exact hQ a4 x4 D A4 hD9 h4 (hD3.below G4 hD3.lt)
    have turnit : ∀ (Q' : Exit → Act → World → Prop) a4 x4 D, After D a3 a4 → (D.all fun s => decide (9 ≤ s)) = true → Gr x3 x4 → mixO os qs (k + 1) = mx.set k A → (∀ a5 x5 D', After D' a3 a5 → (D'.all fun s => decide (9 ≤ s)) = true → Mg w b sv v ms (mixO os qs (k + 1)) a5 x5 → Holds x5 d (ringC u (ls, qs)) 28 → Q' .normal a5 x5) → (Code.region 13 q11_13 false).wp Tryz.prog Q' a4 x4 := fun Q' a4 x4 D A4 hD9 G4 he hQ => by
      have h4 := h3.gr A4 (List.all_eq_true.2 fun s hs => by have := List.all_eq_true.1 hD9 s hs; simp at this ⊢; omega) G4
      refine r11_13 h4.z k (b + 1) e7 A v ms mx hml hk8 h4.hc (H73.below G4 H73.lt) (A4.keep hD9 (by omega) p6) (A4.keep hD9 (by omega) p7) h4.e3 (fun a5 x5 A5 H5 U5 => ?_)
      rw [← he] at H5
      exact hQ a5 x5 _ (A4.trans A5) (by rw [List.all_append, hD9]; decide) (h4.put A5 (by decide) H5 U5) ((hD3.below G4 hD3.lt).upd U5 (by omega))
    have round : ∀ (Q' : Exit → Act → World → Prop), (∀ a5 x5 D', After D' a3 a5 → (D'.all fun s => decide (9 ≤ s)) = true → Mg w b sv v ms (mixO os qs (k + 1)) a5 x5 → Holds x5 d (ringC u (ls, qs)) 28 → Q' .normal a5 x5) → ((Code.region 12 q11_12 false).seq (Code.cond (.tmp 56) (Code.region 13 q11_13 false) Code.skip)).wp Tryz.prog Q' a3 x3 := fun Q' hQ => by
      by_cases c1 : B.2 < A.2
      · rw [if_pos (.inl c1)] at hms
        refine wp_seq (r11_12a h3.z e7 e8 A B H73 H8 c1 p7 o8 (fun a4 x4 A4 o56 G4 => ?_))
        exact wp_cond_split o56 (fun _ => turnit Q' a4 x4 _ A4 (by decide) G4 hms hQ) (fun q => by cases q)
      · by_cases c2 : A.2 = B.2
        · refine wp_seq (r11_12b h3.z e7 e8 A B H73 H8 c2 p7 o8 (fun a4 x4 A4 o56 G4 => ?_))
          refine wp_cond_split o56 (fun q => ?_) (fun q => ?_)
          · have q : A.1 > B.1 := of_decide_eq_true q
            rw [if_pos (.inr ⟨c2, q⟩)] at hms
            exact turnit Q' a4 x4 _ A4 (by decide) G4 hms hQ
          · have q : ¬ A.1 > B.1 := of_decide_eq_false q
            rw [if_neg (by intro p; rcases p with p | p; exact c1 p; exact q p.2), hself] at hms
            exact wp_skip (keepit Q' a4 x4 _ A4 (by decide) G4 hms hQ)
        · rw [if_neg (by intro p; rcases p with p | p; exact c1 p; exact c2 p.1), hself] at hms
          refine wp_seq (r11_12c h3.z e7 e8 A B H73 H8 c1 c2 p7 o8 (fun a4 x4 A4 o56 G4 => ?_))
          exact wp_cond_split o56 (fun q => by cases q) (fun _ => wp_skip (keepit Q' a4 x4 _ A4 (by decide) G4 hms hQ))
    refine round _ (fun a5 x5 D' A5 hD9 h5 hD5 => ?_)
    have no : ∀ s, s < 9 → D'.contains s = false := fun s hs => by
      cases hc : D'.contains s with
      | false => rfl
      | true =>
        have := List.all_eq_true.1 hD9 s (by simpa using hc)
        simp at this
        omega
    show Code.wp Tryz.prog (Code.region 9 q11_9 false) _ a5 x5
    exact fin _ a5 x5 D' A5 (no 4 (by omega)) (no 5 (by omega)) (no 6 (by omega)) h5 hD5 (fun a6 x6 m1 m2 m3 m4 m5 => ⟨⟨k + 1, m1, m2, by omega, m3, m4, m5⟩, mea a6 m5⟩)
  · have q : ¬ (k : Int) < 8 := of_decide_eq_false q
    obtain rfl : k = 8 := by omega
    rw [mixO_all] at h1
    exact wp_exit (hend a1 x1 h1 g4)
theorem flatR_range {l : List (Value × Rg)} (hl : ∀ p ∈ l, p.2.2.length = 8) {x : World} {g : Nat} (h : Holds x g (flatR l) 28) (i : Nat) (p : Value × Rg) (hi : l[i]? = some p) : x.rangeAt g (i * 17) (ringC p.1 p.2) :=
  h.range (i * 17) (ringC p.1 p.2) (fun j v hv => by
    have hj : j < 17 := by
      have h1 := (List.getElem?_eq_some_iff.1 hv).1
      have h2 : (ringC p.1 p.2).length = 17 := by
        show (p.1 :: ownV p.2.2).length = 17
        rw [List.length_cons, ownV_len, hl p (List.mem_of_getElem? hi)]
      omega
    rw [flatR_cell hl hi j hj]
    exact hv)
set_option maxHeartbeats 1000000 in
theorem rmerge_any (l : List (Value × Rg)) (g : Nat) (w : World) (hg : Holds w g (flatR l) 28) (hl : ∀ p ∈ l, RingAt w.heap.size w p.1 p.2) (hn : l.length ≤ 1000) : Calls Tryz.prog 11 #[.slice (some ⟨g, 0, none⟩) l.length l.length] w (RetN w (mergeL (l.map (·.2)))) := by
  obtain ⟨b, hwb⟩ : ∃ b, w.heap.size = b := ⟨_, rfl⟩
  rw [hwb] at hl
  have hgb : g < b := hwb ▸ hg.lt
  have h8 : ∀ p ∈ l, p.2.2.length = 8 := fun p hp => (hl p hp).own
  have hgr : ∀ y, Below b w y → Gr w y := fun y hy => by unfold Gr; rw [hwb]; exact hy
  refine calls_by (c := cM) Tryz.func11 (by kernel_rfl) 63 (by rw [Tryz.ntmps11]; rfl) (fun ac z df hv => ?_)
  have e0 := hv 0 _ rfl
  clear hv
  unfold cM
  refine wp_seq (r11_0 z b hwb (fun a1 x1 A1 o2 N1 => ?_))
  have z1 := A1.size.trans z
  have s1 : x1.heap.size = b + 1 := N1.size
  show Code.wp Tryz.prog (Code.seq _ _) _ a1 x1
  refine wp_seq (r11_1 z1 (b + 1) s1 (fun a2 x2 A2 o3 N2 => ?_))
  have s2 : x2.heap.size = b + 2 := N2.size
  have h2 : Mg w b (.slice (some ⟨g, 0, none⟩) l.length l.length) (.slice none 0 0) [] noOs a2 x2 := ⟨A2.size.trans z1, A2.defers.trans (A1.defers.trans df), A2.get (A1.get e0 (by decide)) (by decide), A2.get o2 (by decide), o3, N1.holds.below N2.below (by omega), N2.holds, ⟨rfl, .inl ⟨rfl, rfl⟩⟩, N1.below.trans (N2.below.mono (by omega)), by omega⟩
  show Code.wp Tryz.prog (Code.seq (Code.seq _ cM_la) _) _ a2 x2
  refine wp_seq (wp_seq (r11_2 h2.z (fun a3 x3 A3 o4 G3 => ?_)))
  have h3 := h2.gr A3 (by decide) G3
  show Code.wp Tryz.prog cM_la _ a3 x3
  unfold cM_la
  refine wp_block ?_
  refine wp_loop (fun ad y => ∃ (i : Nat) (v : Value), Mg w b (.slice (some ⟨g, 0, none⟩) l.length l.length) v (rmA ((l.map (·.2)).take i)) (mergeO ((l.map (·.2)).take i)) ad y ∧ i ≤ l.length ∧ ad.eval (.tmp 4) = .int .i64 (i : Int)) (fun ad _ => l.length - (intOf (ad.eval (.tmp 4))).toNat)
    ⟨0, _, h3, Nat.zero_le _, o4⟩ (fun a0 x0 ⟨i, v, h0, hi, f4⟩ => ?_)
  unfold cM_ra
  refine wp_seq (wp_seq (r11_3 h0.z i l.length l.length g f4 h0.e0 (fun a4 x4 A4 o12 G4 => ?_)))
  have h4 := h0.gr A4 (by decide) G4
  have g4 := A4.get f4 (by decide)
  show Code.wp Tryz.prog (Code.cond _ _ _) _ a4 x4
  refine wp_cond_split o12 (fun q => ?_) (fun q => ?_)
  · have q : (i : Int) < l.length := of_decide_eq_true q
    have hil : i < l.length := by omega
    have hp : l[i]? = some l[i] := List.getElem?_eq_getElem hil
    have htk : (l.map (·.2)).take (i + 1) = (l.map (·.2)).take i ++ [l[i].2] := by
      rw [List.take_succ_eq_append_getElem (by rw [List.length_map]; exact hil), List.getElem_map]
    have hpm := List.getElem_mem hil
    generalize hpe : l[i] = p at *
    have hA : rmA ((l.map (·.2)).take (i + 1)) = rmA ((l.map (·.2)).take i) ++ (normL p.2).1 := by
      rw [htk]
      unfold rmA
      rw [List.flatMap_append]
      simp
    have hO : mergeO ((l.map (·.2)).take (i + 1)) = newestL (mergeO ((l.map (·.2)).take i)) (normL p.2).2 := by
      rw [htk]
      unfold mergeO
      rw [List.foldl_append]
      show newestL _ p.2.2 = newestL _ (normL p.2).2
      unfold newestL
      apply List.map_congr_left
      intro j hj
      rw [own_norm p.2 j (List.mem_range.1 hj), okO_id (okO_so _)]
    have hml : (rmA ((l.map (·.2)).take i)).length ≤ 7000 := by
      unfold rmA
      rw [List.length_flatMap]
      have h7 : ∀ (L : List Rg), (L.map fun r => (normL r).1.length).sum ≤ 7 * L.length := fun L => by
        induction L with
        | nil => simp
        | cons r L ih =>
          have : (normL r).1.length ≤ 7 := risL_len _
          simp only [List.map_cons, List.sum_cons, List.length_cons]
          omega
      have := h7 ((l.map (·.2)).take i)
      rw [List.length_take, List.length_map] at this
      omega
    have hmo : (mergeO ((l.map (·.2)).take i)).length = 8 := mergeO_len _
    have hn7 : (normL p.2).1.length ≤ 7 := risL_len _
    have hno : (normL p.2).2.length = 8 := mergeO_len _
    have hso := norm_so p.2
    generalize rmA ((l.map (·.2)).take i) = ms at *
    generalize mergeO ((l.map (·.2)).take i) = os at *
    generalize hnr : normL p.2 = nr at *
    have hbx := h4.bl
    have hbs := Nat.le_of_lt h4.h2.lt
    have hgx : Holds x4 g (flatR l) 28 := hg.below hbx hgb
    have hs4 := h4.sz
    refine wp_skip ?_
    show Code.wp Tryz.prog (Code.seq _ _) _ a4 x4
    refine wp_seq (wp_block (wp_seq (r11_5 h4.z i l.length l.length g p.1 p.2 hil (fun y hy => flatR_range h8 (hgx.below hy hgx.lt) i p hp) (((hl p hpm).below hbx).mono hbs) h4.e0 g4 (fun a5 x5 d A5 o5 hd5 B5 G5 => ?_))))
    rw [hnr] at B5
    obtain ⟨u, H5, R5, F5⟩ := B5
    have h5 := h4.gr A5 (by decide) G5
    show Code.wp Tryz.prog (Code.seq _ _) _ a5 x5
    refine wp_seq (r11_6 h5.z (b + 1) d (b + 2) v u ms nr.1 os nr.2 h5.hc H5 R5.mem h5.own (by omega) h5.sz (by omega) (by omega) h5.e3 o5 (fun a6 x6 v2 A6 H6 W6 O6 D6 => ?_))
    have h6 := h5.more A6 (by decide) H6 W6 O6
    show Code.wp Tryz.prog (Code.seq _ _) _ a6 x6
    refine wp_seq (r11_7 h6.z (fun a7 x7 A7 o6 G7 => ?_))
    have h7 := h6.gr A7 (by decide) G7
    show Code.wp Tryz.prog cM_lb _ a7 x7
    refine merge_lb hmo hno hso (by omega) h7 (D6.below G7 D6.lt) (A7.get (A6.get (A5.get g4 (by decide)) (by decide)) (by decide)) (A7.get (A6.get o5 (by decide)) (by decide)) o6 (fun a8 x8 h8' e4' => ?_)
    show Code.wp Tryz.prog (Code.region 4 q11_4 false) _ a8 x8
    refine r11_4 h8'.z i (by omega) e4' (fun a9 x9 A9 o4' G9 => ?_)
    refine ⟨⟨i + 1, v2, by rw [hA, hO]; exact h8'.gr A9 (by decide) G9, by omega, o4'⟩, ?_⟩
    rw [o4', f4]
    simp only [intOf]
    omega
  · have q : ¬ (i : Int) < l.length := of_decide_eq_false q
    have e : (l.map (·.2)).take i = l.map (·.2) := List.take_of_length_le (by rw [List.length_map]; omega)
    rw [e] at h4
    have hM : normL (rmA (l.map (·.2)), mergeO (l.map (·.2))) = mergeL (l.map (·.2)) := by rw [← rmO_eq]; exact rmerge_eq _
    have hmo : (mergeO (l.map (·.2))).length = 8 := mergeO_len _
    generalize rmA (l.map (·.2)) = ms at *
    generalize mergeO (l.map (·.2)) = os at *
    generalize mergeL (l.map (·.2)) = F at *
    have hs4 := h4.sz
    refine wp_exit ?_
    show Code.wp Tryz.prog (Code.seq _ _) _ a4 x4
    refine wp_seq (r11_14 h4.z (b + 1) b v (ms, os) _ h4.hc ⟨mems_of_row h4.own, hmo⟩ h4.h2 noC_len h4.e3 h4.e2 (fun a5 x5 A5 B5 U5 => ?_))
    rw [hM] at B5
    obtain ⟨u5, hh5, R5, F5⟩ := B5
    exact wp_ret (show bodyPost Tryz.prog Tryz.f11 (RetN w F) .ret a5 x5 from ret_ring (p := 2) (b := b) (by kernel_rfl) (A5.defers.trans h4.df) (A5.get h4.e2 (by decide)) ⟨u5, hh5, R5, F5.mono (by omega)⟩ (hgr _ (h4.bl.trans (U5.below (Nat.le_refl _) (by omega)))))
end Go.Proofs.YthmnjebmnocoiaaGreat.En
