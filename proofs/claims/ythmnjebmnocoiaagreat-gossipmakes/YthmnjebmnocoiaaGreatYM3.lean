/- GsMkA, GsMkB, GsMkC. -/
import Derived.Test.YthmnjebmnocoiaaGreatYB4
import Derived.Test.YthmnjebmnocoiaaGreatYGsMkP
import Derived.Test.YthmnjebmnocoiaaGreatYM2
/- Tools for the document's own ways with rings: boxes whose members lie apart, rows that are appended to. -/
namespace Go.Proofs.YthmnjebmnocoiaaGreat.En
open Go.RowKit

theorem siz53 : (Tryz.prog.info? 53).map (·.size) = some 3 := siz35
def Bf (F : Nat) (w : World) (g : Nat) (r : Rg) : Prop := ∃ u, Holds w g (ringC u r) 28 ∧ RingAt w.heap.size w u r ∧ Fresh F u
theorem Bf.gr {F : Nat} {w w' : World} {g : Nat} {r : Rg} (h : Bf F w g r) (hb : Gr w w') : Bf F w' g r := by
  obtain ⟨u, H, R, f⟩ := h
  exact ⟨u, H.below hb H.lt, (R.below hb).mono hb.size, f⟩
theorem ring_upd {B F b : Nat} {w w' : World} {v : Value} {r : Rg} (h : RingAt B w v r) (hf : Fresh F v) (hu : Upd b w w') (hB : B ≤ w.heap.size) (hb : b < F) : RingAt B w' v r :=
  h.outs (s := fun g => g = b) hf (Outs.ofUpd hu rfl) hB (fun g hg e => by omega)
theorem Bf.upd {F b : Nat} {w w' : World} {g : Nat} {r : Rg} (h : Bf F w g r) (hu : Upd b w w') (hb : b < F) (hg : g ≠ b) : Bf F w' g r := by
  obtain ⟨u, H, R, f⟩ := h
  exact ⟨u, H.upd hu hg, (ring_upd R f hu (Nat.le_refl _) hb).mono hu.size, f⟩
def ringF (F : Nat) (r : Rg) : Fact := ⟨fun v y => ∃ u, v = .agg (ringC u r).toArray ∧ RingAt y.heap.size y u r ∧ Fresh F u, fun ⟨u, e, h, f⟩ g => ⟨u, e, (h.below g).mono g.size, f⟩⟩
theorem k_norm (u : Value) (r : Rg) (w y : World) (hg : Gr w y) (h : RingAt w.heap.size w u r) : Calls Tryz.prog 9 #[.agg (ringC u r).toArray] y fun e z => ∃ v, e = .returned v ∧ Gr y z ∧ (ringF w.heap.size (normL r)).holds v z :=
  (refNorm_any u r y ((h.below hg).mono hg.size)).mono fun _ _ ⟨v, e1, e2, e3, e4⟩ => ⟨_, e1, e4, v, rfl, e2, e3.mono hg.size⟩
theorem wpl_store_ring {ops : Array Oper} {rest : List Oper} {o : Oper} {a : Act} {w : World} {Q : Exit → Act → World → Prop} (hgd : o.guard = none) (x y : Operand) (ho : o.op = .store 28 x y) (hd : o.dst = none) (g F : Nat) (hx : a.eval x = .pointer (some ⟨g, 0, none⟩)) (r : Rg) (hy : (ringF F r).holds (a.eval y) w) (old : List Value) (hg : Holds w g old 28) (hl : old.length = 17) (hF : g < F)
    (h : ∀ w', Bf F w' g r → Upd g w w' → w'.heap.size = w.heap.size → wpList Tryz.prog ops Q rest a w') : wpList Tryz.prog ops Q (o :: rest) a w := by
  obtain ⟨u, e, R, f⟩ := hy
  refine wpList_store_all hgd 28 x y ho g hx (ringC u r) e 28 old hg (siz28.trans (by rw [ringC_len R])) (by rw [hl, ringC_len R]) (ringC_one R) (fun w' T => ?_)
  rw [hd]
  have U := Turned.upd T
  exact h w' ⟨u, T.holds, (ring_upd R f U (Nat.le_refl _) hF).mono U.size, f⟩ U T.size
theorem results_ring {fn : Func} {p : Tmp} (h : fn.results = #[.cell p 28]) (tmps : Array Value) (w : World) (b : Nat) (cs : List Value) (hp : tmps.getD p undef = .pointer (some ⟨b, 0, none⟩)) (hb : Holds w b cs 28) (hl : cs.length = 17) :
    (results fn tmps).run Tryz.prog w = .ok (.agg cs.toArray) w :=
  results_cell_row h tmps w b 28 cs.toArray (0, 0) _ hp hb Tryz.underlying28 rfl (by rw [siz28, List.size_toArray, hl])
def RetN (w : World) (r : Rg) (e : Ending) (z : World) : Prop := ∃ u, e = .returned (.agg (ringC u r).toArray) ∧ RingAt z.heap.size z u r ∧ Fresh w.heap.size u ∧ Gr w z
theorem ret_ring {fn : Func} {p : Tmp} {ac : Act} {w x : World} {b : Nat} {r : Rg} (h : fn.results = #[.cell p 28]) (df : ac.defers = []) (ep : ac.eval (.tmp p) = .pointer (some ⟨b, 0, none⟩)) (hb : Bf w.heap.size x b r) (hg : Gr w x) : bodyPost Tryz.prog fn (RetN w r) .ret ac x := by
  obtain ⟨u, H, R, f⟩ := hb
  exact bodyPost_ret (results_ring h _ x b _ ep H (ringC_len R)) df ⟨u, rfl, R, f, hg⟩
section
variable {P : Program} {ops : Array Oper} {Q : Exit → Act → World → Prop} {D : List Nat} {T : Nat → Fact} {a0 : Act} {w : World} {o : Oper}
theorem sa_bd3 (t i j k : Nat) (u v x : Operand) (d : Nat) (s r p q : Value) (ho : o.op = .build t #[(i, u), (j, v), (k, x)]) (hd : o.dst = some d) (hg : o.guard = none) (h1 : Has ops D T a0 o u (Fact.val s)) (h2 : Has ops D T a0 o v (Fact.val r)) (h3 : Has ops D T a0 o x (Fact.val p)) (hr : ∀ y, (Instr.build t #[(i, s), (j, r), (k, p)]).run P y = .ok q y) (hT : T d = Fact.val q) : StepAt P ops D T a0 w Q o :=
  sa_of d hd hg fun f a y c => by
    have e1 : a.eval u = s := h1.get c
    have e2 : a.eval v = r := h2.get c
    have e3 : a.eval x = p := h3.get c
    refine op_val q (y := y) ?_ ⟨_, rfl, Gr.refl _, by rw [hT]; rfl⟩
    unfold execOp
    simp only [ho, List.map_toArray, List.map_cons, List.map_nil, e1, e2, e3, Sem.run_bind, hr, Sem.run_pure, Result.andThen_ok]
theorem sa_bd2 (t i j : Nat) (u v : Operand) (d : Nat) (s r q : Value) (ho : o.op = .build t #[(i, u), (j, v)]) (hd : o.dst = some d) (hg : o.guard = none) (h1 : Has ops D T a0 o u (Fact.val s)) (h2 : Has ops D T a0 o v (Fact.val r)) (hr : ∀ y, (Instr.build t #[(i, s), (j, r)]).run P y = .ok q y) (hT : T d = Fact.val q) : StepAt P ops D T a0 w Q o :=
  sa_of d hd hg fun f a y c => by
    have e1 : a.eval u = s := h1.get c
    have e2 : a.eval v = r := h2.get c
    refine op_val q (y := y) ?_ ⟨_, rfl, Gr.refl _, by rw [hT]; rfl⟩
    unfold execOp
    simp only [ho, List.map_toArray, List.map_cons, List.map_nil, e1, e2, Sem.run_bind, hr, Sem.run_pure, Result.andThen_ok]
end
theorem rmore_any (v : Nat) (hv : v < 18446744073709551616) (w : World) : Calls Tryz.prog 41 #[.int .u64 (v : Int)] w fun e z => e = .returned (.int .u64 (moreN v : Int)) ∧ Gr w z := by
  unfold moreN
  by_cases h : v = 18446744073709551615
  · subst h
    go_enter Tryz.func41, Tryz.ntmps41
    go_wp2
    go_ret
    exact ⟨rfl, Gr.refl _⟩
  · rw [if_neg h]
    have hv1 : (v : Int) + 1 < 18446744073709551616 := by omega
    have h2 : (v : Int) < (v : Int) + 1 := by omega
    go_enter Tryz.func41, Tryz.ntmps41
    go_wp2
    go_ret
    exact ⟨ret_int (by simp), Gr.refl _⟩
theorem mems_at {B : Nat} {w : World} {v : Value} {l : List Mb} (h : Mems B w v l) (k : Nat) (m : Mb) (hm : l[k]? = some m) : ∃ g of cap, v = .slice (some ⟨g, of, none⟩) l.length cap ∧ ∀ y, Below B w y → y.cell? ⟨g, of + k * 3, none⟩ = some (.int .i64 m.1) ∧ y.rangeAt g (of + k * 3) (mbV m) := by
  obtain ⟨a, cap, e⟩ := h.len
  subst e
  obtain ⟨g, of, rfl, hg, c0, c1, c2⟩ := h.cell k m hm
  refine ⟨g, of, cap, rfl, fun y hy => ⟨cell_below hy hg c0, fun j v hv => ?_⟩⟩
  match j, hv with
  | 0, hv => cases hv; exact cell_below hy hg c0
  | 1, hv => cases hv; exact cell_below hy hg c1
  | 2, hv => cases hv; exact cell_below hy hg c2
end Go.Proofs.YthmnjebmnocoiaaGreat.En

/- The document's own ways with rings: find. By tools/gen_mk.py. -/
namespace Go.Proofs.YthmnjebmnocoiaaGreat.En
open Go.RowKit
set_option maxRecDepth 100000
variable {Q : Exit → Act → World → Prop} {a0 : Act} {w : World}
def q39_0 : Array Oper := #[⟨some 2, .box 28 (.tmp 0), 0, "ref.go:66", #[], none⟩, ⟨some 4, .alloc 53, 0, "ref.go:66", #[], none⟩]
def q39_1 : Array Oper := #[⟨some 5, .assign (.const (.int .i64 0)), 3, "ref.go:67", #[], none⟩]
def q39_2 : Array Oper := #[⟨some 6, .move (.tmp 5), 3, "ref.go:67", #[], none⟩, ⟨some 7, .fieldAddr 28 (.tmp 2) 0, 0, "ref.go:67", #[], none⟩, ⟨some 8, .load 22 (.tmp 7), 22, "ref.go:67", #[⟨1, .data⟩], none⟩, ⟨some 9, .call ⟨.builtin .len, #[.tmp 8], #[22]⟩, 3, "ref.go:67", #[⟨2, .data⟩], none⟩, ⟨some 10, .binOp .lss 3 (.tmp 6) (.tmp 9) 3, 4, "ref.go:67", #[⟨0, .data⟩, ⟨3, .data⟩], none⟩]
def q39_3 : Array Oper := #[⟨some 11, .move (.tmp 5), 3, "ref.go:67", #[], none⟩, ⟨some 12, .binOp .add 3 (.tmp 11) (.const (.int .i64 1)) 3, 3, "ref.go:67", #[⟨0, .data⟩], none⟩, ⟨some 5, .assign (.tmp 12), 3, "ref.go:67", #[⟨1, .data⟩, ⟨0, .phase⟩, ⟨1, .phase⟩], none⟩]
def q39_4 : Array Oper := #[⟨some 13, .fieldAddr 28 (.tmp 2) 0, 0, "ref.go:68", #[], none⟩, ⟨some 14, .load 22 (.tmp 13), 22, "ref.go:68", #[⟨0, .data⟩], none⟩, ⟨some 15, .move (.tmp 5), 3, "ref.go:68", #[], none⟩, ⟨some 16, .indexAddr 22 (.tmp 14) (.tmp 15), 0, "ref.go:68", #[⟨1, .data⟩, ⟨2, .data⟩], none⟩, ⟨some 17, .fieldAddr 53 (.tmp 16) 0, 0, "ref.go:68", #[⟨3, .data⟩], none⟩, ⟨some 18, .load 3 (.tmp 17), 3, "ref.go:68", #[⟨4, .data⟩], none⟩, ⟨some 19, .move (.tmp 1), 3, "ref.go:68", #[], none⟩, ⟨some 20, .binOp .eql 3 (.tmp 18) (.tmp 19) 3, 4, "ref.go:68", #[⟨5, .data⟩, ⟨6, .data⟩], none⟩]
def q39_5 : Array Oper := #[⟨some 21, .fieldAddr 28 (.tmp 2) 0, 0, "ref.go:69", #[], none⟩, ⟨some 22, .load 22 (.tmp 21), 22, "ref.go:69", #[⟨0, .data⟩], none⟩, ⟨some 23, .move (.tmp 5), 3, "ref.go:69", #[], none⟩, ⟨some 24, .indexAddr 22 (.tmp 22) (.tmp 23), 0, "ref.go:69", #[⟨1, .data⟩, ⟨2, .data⟩], none⟩, ⟨some 25, .load 53 (.tmp 24), 53, "ref.go:69", #[⟨3, .data⟩], none⟩, ⟨none, .store 53 (.tmp 4) (.tmp 25), 0, "ref.go:69", #[⟨4, .data⟩, ⟨0, .phase⟩, ⟨1, .phase⟩, ⟨2, .phase⟩, ⟨3, .phase⟩, ⟨4, .phase⟩], none⟩]
def q39_6 : Array Oper := #[⟨some 26, .build 53 #[], 53, "ref.go:72", #[], none⟩, ⟨none, .store 53 (.tmp 4) (.tmp 26), 0, "ref.go:72", #[⟨0, .data⟩, ⟨0, .phase⟩], none⟩]
theorem r39_1 (hz : a0.tmps.size = 27)   (hend : ∀ ac wz, After [5] a0 ac → ac.eval (.tmp 5) = .int .i64 0 → Gr w wz → Q .normal ac wz) : RW 1 q39_1 false Q a0 w := by
  refine seq_by (by kernel_rfl) 1 (by decide) [5] (fun | 5 => .val (.int .i64 0) | _ => .any) (by kernel_rfl) (fmc ⟨?s0, fun o ho => nomatch ho⟩) ?e
  case s0 => exact sa_move (.const _) 5 (.val (.int .i64 0)) (.inr rfl) rfl rfl (.const _) rfl
  case e =>
  intro ac wz hA hgr hv
  exact wl_end (hend ac wz hA (hw hv hz 5) hgr)
theorem r39_2 (hz : a0.tmps.size = 27) (k n cap b : Nat) (ad : Option Addr) (os : List Ow) (hB : Holds w b (.slice ad n cap :: ownV os) 28) (e5 : a0.eval (.tmp 5) = .int .i64 (k : Int)) (e2 : a0.eval (.tmp 2) = .pointer (some ⟨b, 0, none⟩)) (hend : ∀ ac wz, After [6, 7, 8, 9, 10] a0 ac → ac.eval (.tmp 10) = .bool (decide ((k : Int) < (n : Int))) → Gr w wz → Q .normal ac wz) : RW 2 q39_2 false Q a0 w := by
  refine seq_by (by kernel_rfl) 5 (by decide) [6, 7, 8, 9, 10] (fun | 6 => .val (.int .i64 (k : Int)) | 7 => .val (.pointer (some ⟨b, 0, none⟩)) | 8 => .val (.slice ad n cap) | 9 => .val (.int .i64 (n : Int)) | 10 => .val (.bool (decide ((k : Int) < (n : Int)))) | _ => .any) (by kernel_rfl) (fmc ⟨?s0, fmc ⟨?s1, fmc ⟨?s2, fmc ⟨?s3, fmc ⟨?s4, fun o ho => nomatch ho⟩⟩⟩⟩⟩) ?e
  case s0 => exact sa_mo 5 6 e5
  case s1 => exact sa_fa 28 (.tmp 2) 0 7 (.pointer (some ⟨b, 0, none⟩)) (.pointer (some ⟨b, 0, none⟩)) rfl rfl rfl (.old 2 _ (by decide) e2) (by intro w; kernel_rfl) rfl
  case s2 => exact sa_loadc 22 (.tmp 7) 8 (b) (0) (.slice ad n cap) rfl rfl rfl (by intro w; kernel_rfl) (.nw 7 hz) (fun y hy => (hB.below hy hB.lt).at 0 _ rfl) rfl
  case s3 => exact sa_len 22 (.tmp 8) 9 (.slice ad n cap) (.int .i64 (n : Int)) rfl rfl rfl (.nw 8 hz) (by intro w; kernel_rfl) rfl
  case s4 => exact sa_bin .lss 3 (.tmp 6) (.tmp 9) 3 10 (.int .i64 (k : Int)) (.int .i64 (n : Int)) (.bool (decide ((k : Int) < (n : Int)))) rfl rfl rfl (.nw 6 hz) (.nw 9 hz) guard_int (bin_lss rfl) rfl
  case e =>
  intro ac wz hA hgr hv
  exact wl_end (hend ac wz hA (hw hv hz 10) hgr)
theorem r39_3 (hz : a0.tmps.size = 27) (k : Nat) (hk : k < 9223372036854775807) (e5 : a0.eval (.tmp 5) = .int .i64 (k : Int)) (hend : ∀ ac wz, After [5, 11, 12] a0 ac → ac.eval (.tmp 5) = .int .i64 ((k + 1 : Nat) : Int) → Gr w wz → Q .normal ac wz) : RW 3 q39_3 false Q a0 w := by
  refine seq_by (by kernel_rfl) 2 (by decide) [11, 12] (fun | 11 => .val (.int .i64 (k : Int)) | 12 => .val (.int .i64 ((k + 1 : Nat) : Int)) | _ => .any) (by kernel_rfl) (fmc ⟨?s0, fmc ⟨?s1, fun o ho => nomatch ho⟩⟩) ?e
  case s0 => exact sa_mo 5 11 e5
  case s1 => exact sa_bin .add 3 (.tmp 11) (.const _) 3 12 (.int .i64 (k : Int)) (.int .i64 1) (.int .i64 ((k + 1 : Nat) : Int)) rfl rfl rfl (.nw 11 hz) (.const _) guard_int (bin_add (by omega) (by omega) (by omega)) rfl
  case e =>
  intro ac wz hA hgr hv
  have o12 : ac.eval (.tmp 12) = .int .i64 ((k + 1 : Nat) : Int) := hw hv hz 12
  refine wl_of rfl (op_move (.tmp 12) (.inr rfl) (wl_end ?_))
  exact hend _ wz (hA.put 5 _)  ((ev_put (by rw [hA.size, hz]; decide)).trans ((if_pos rfl).trans o12)) hgr
theorem r39_4 (hz : a0.tmps.size = 27) (k n cap b g of : Nat) (x node : Int) (hk : k < n) (os : List Ow) (hB : Holds w b (.slice (some ⟨g, of, none⟩) n cap :: ownV os) 28) (hX : ∀ y, Gr w y → y.cell? ⟨g, of + k * 3, none⟩ = some (.int .i64 x)) (e2 : a0.eval (.tmp 2) = .pointer (some ⟨b, 0, none⟩)) (e5 : a0.eval (.tmp 5) = .int .i64 (k : Int)) (e1 : a0.eval (.tmp 1) = .int .i64 node) (hend : ∀ ac wz, After [13, 14, 15, 16, 17, 18, 19, 20] a0 ac → ac.eval (.tmp 20) = .bool (decide (x = node)) → Gr w wz → Q .normal ac wz) : RW 4 q39_4 false Q a0 w := by
  refine seq_by (by kernel_rfl) 8 (by decide) [13, 14, 15, 16, 17, 18, 19, 20] (fun | 13 => .val (.pointer (some ⟨b, 0, none⟩)) | 14 => .val (.slice (some ⟨g, of, none⟩) n cap) | 15 => .val (.int .i64 (k : Int)) | 16 => .val (.pointer (some ⟨g, of + k * 3, none⟩)) | 17 => .val (.pointer (some ⟨g, of + k * 3 + 0, none⟩)) | 18 => .val (.int .i64 x) | 19 => .val (.int .i64 node) | 20 => .val (.bool (decide (x = node))) | _ => .any) (by kernel_rfl) (fmc ⟨?s0, fmc ⟨?s1, fmc ⟨?s2, fmc ⟨?s3, fmc ⟨?s4, fmc ⟨?s5, fmc ⟨?s6, fmc ⟨?s7, fun o ho => nomatch ho⟩⟩⟩⟩⟩⟩⟩⟩) ?e
  case s0 => exact sa_fa 28 (.tmp 2) 0 13 (.pointer (some ⟨b, 0, none⟩)) (.pointer (some ⟨b, 0, none⟩)) rfl rfl rfl (.old 2 _ (by decide) e2) (by intro w; kernel_rfl) rfl
  case s1 => exact sa_loadc 22 (.tmp 13) 14 (b) (0) (.slice (some ⟨g, of, none⟩) n cap) rfl rfl rfl (by intro w; kernel_rfl) (.nw 13 hz) (fun y hy => (hB.below hy hB.lt).at 0 _ rfl) rfl
  case s2 => exact sa_mo 5 15 e5
  case s3 => exact sa_ixa 22 (.tmp 14) (.tmp 15) 16 (.slice (some ⟨g, of, none⟩) n cap) (.int .i64 (k : Int)) (.pointer (some ⟨g, of + k * 3, none⟩)) rfl rfl rfl (.nw 14 hz) (.nw 15 hz) (ix_slice (sz := 3) Tryz.underlying22 (by intro w; kernel_rfl) (by omega) rfl) rfl
  case s4 => exact sa_fa 53 (.tmp 16) 0 17 (.pointer (some ⟨g, of + k * 3, none⟩)) (.pointer (some ⟨g, of + k * 3 + 0, none⟩)) rfl rfl rfl (.nw 16 hz) (by intro w; kernel_rfl) rfl
  case s5 => exact sa_loadc 3 (.tmp 17) 18 (g) (of + k * 3 + 0) (.int .i64 x) rfl rfl rfl (by intro w; kernel_rfl) (.nw 17 hz) hX rfl
  case s6 => exact sa_mo 1 19 e1
  case s7 => exact sa_bin .eql 3 (.tmp 18) (.tmp 19) 3 20 (.int .i64 x) (.int .i64 node) (.bool (decide (x = node))) rfl rfl rfl (.nw 18 hz) (.nw 19 hz) guard_int (bin_eql rfl) rfl
  case e =>
  intro ac wz hA hgr hv
  exact wl_end (hend ac wz hA (hw hv hz 20) hgr)
theorem r39_5 (hz : a0.tmps.size = 27) (k n cap b b4 g of : Nat) (m : Mb) (old : List Value) (hk : k < n) (os : List Ow) (hB : Holds w b (.slice (some ⟨g, of, none⟩) n cap :: ownV os) 28) (hX : ∀ y, Gr w y → y.rangeAt g (of + k * 3) (mbV m)) (h4 : Holds w b4 old 53) (hl : old.length = 3) (e2 : a0.eval (.tmp 2) = .pointer (some ⟨b, 0, none⟩)) (e5 : a0.eval (.tmp 5) = .int .i64 (k : Int)) (e4 : a0.eval (.tmp 4) = .pointer (some ⟨b4, 0, none⟩)) (hend : ∀ ac wz, After [21, 22, 23, 24, 25] a0 ac → Holds wz b4 (mbV m) 53 → Upd b4 w wz → Q .normal ac wz) : RW 5 q39_5 false Q a0 w := by
  refine seq_by (by kernel_rfl) 5 (by decide) [21, 22, 23, 24, 25] (fun | 21 => .val (.pointer (some ⟨b, 0, none⟩)) | 22 => .val (.slice (some ⟨g, of, none⟩) n cap) | 23 => .val (.int .i64 (k : Int)) | 24 => .val (.pointer (some ⟨g, of + k * 3, none⟩)) | 25 => .val (.agg (mbV m).toArray) | _ => .any) (by kernel_rfl) (fmc ⟨?s0, fmc ⟨?s1, fmc ⟨?s2, fmc ⟨?s3, fmc ⟨?s4, fun o ho => nomatch ho⟩⟩⟩⟩⟩) ?e
  case s0 => exact sa_fa 28 (.tmp 2) 0 21 (.pointer (some ⟨b, 0, none⟩)) (.pointer (some ⟨b, 0, none⟩)) rfl rfl rfl (.old 2 _ (by decide) e2) (by intro w; kernel_rfl) rfl
  case s1 => exact sa_loadc 22 (.tmp 21) 22 (b) (0) (.slice (some ⟨g, of, none⟩) n cap) rfl rfl rfl (by intro w; kernel_rfl) (.nw 21 hz) (fun y hy => (hB.below hy hB.lt).at 0 _ rfl) rfl
  case s2 => exact sa_mo 5 23 e5
  case s3 => exact sa_ixa 22 (.tmp 22) (.tmp 23) 24 (.slice (some ⟨g, of, none⟩) n cap) (.int .i64 (k : Int)) (.pointer (some ⟨g, of + k * 3, none⟩)) rfl rfl rfl (.nw 22 hz) (.nw 23 hz) (ix_slice (sz := 3) Tryz.underlying22 (by intro w; kernel_rfl) (by omega) rfl) rfl
  case s4 => exact sa_row 53 (.tmp 24) 25 g (of + k * 3) 3 _ (mbV m) rfl rfl rfl Tryz.underlying53 rfl siz53 rfl (.nw 24 hz) hX rfl
  case e =>
  intro ac wz hA hgr hv
  have o25 : ac.eval (.tmp 25) = .agg (mbV m).toArray := hw hv hz 25
  have o4 : ac.eval (.tmp 4) = .pointer (some ⟨b4, 0, none⟩) := (hA.old 4 (by decide)).trans e4
  refine wpList_store_all rfl 53 (.tmp 4) (.tmp 25) rfl b4 o4 (mbV m) o25 53 _ (h4.below hgr h4.lt) siz53 hl (mbV_one m) ?_
  intro w3 h3
  exact wl_end (hend _ w3 hA h3.holds ((Gr.upd hgr).trans (Turned.upd h3)))
theorem r39_6 (hz : a0.tmps.size = 27) (b4 : Nat) (old : List Value) (h4 : Holds w b4 old 53) (hl : old.length = 3) (e4 : a0.eval (.tmp 4) = .pointer (some ⟨b4, 0, none⟩)) (hend : ∀ ac wz, After [26] a0 ac → Holds wz b4 (mbV noM) 53 → Upd b4 w wz → Q .normal ac wz) : RW 6 q39_6 false Q a0 w := by
  refine seq_by (by kernel_rfl) 1 (by decide) [26] (fun | 26 => .val (.agg (mbV noM).toArray) | _ => .any) (by kernel_rfl) (fmc ⟨?s0, fun o ho => nomatch ho⟩) ?e
  case s0 => exact sa_bd0 53 26 (.agg (mbV noM).toArray) rfl rfl rfl (by intro w; kernel_rfl) rfl
  case e =>
  intro ac wz hA hgr hv
  have o26 : ac.eval (.tmp 26) = .agg (mbV noM).toArray := hw hv hz 26
  have o4 : ac.eval (.tmp 4) = .pointer (some ⟨b4, 0, none⟩) := (hA.old 4 (by decide)).trans e4
  refine wpList_store_all rfl 53 (.tmp 4) (.tmp 26) rfl b4 o4 (mbV noM) o26 53 _ (h4.below hgr h4.lt) siz53 hl (mbV_one noM) ?_
  intro w3 h3
  exact wl_end (hend _ w3 hA h3.holds ((Gr.upd hgr).trans (Turned.upd h3)))
def c39_a : Code := (((Code.region 2 q39_2 false).seq (Code.cond (.tmp 10) Code.skip (Code.exit 0))).seq ((Code.block 1 ((Code.region 4 q39_4 false).seq (Code.cond (.tmp 20) ((Code.region 5 q39_5 false).seq Code.ret) Code.skip))).seq (Code.region 3 q39_3 false)))
def c39_l : Code := (Code.block 0 (c39_a.loop))
def c39 : Code := ((Code.region 0 q39_0 false).seq (((Code.region 1 q39_1 false).seq c39_l).seq ((Code.region 6 q39_6 false).seq Code.ret)))
theorem r39_0 (hz : a0.tmps.size = 27) (b : Nat) (hb : w.heap.size = b) (v : Value) (r : Rg) (e0 : a0.eval (.tmp 0) = .agg (ringC v r).toArray) (hend : ∀ ac w1 wz, After [4, 2] a0 ac → ac.eval (.tmp 2) = .pointer (some ⟨b, 0, none⟩) → ac.eval (.tmp 4) = .pointer (some ⟨b + 1, 0, none⟩) → Anew b w w1 (ringC v r) 28 → Anew (b + 1) w1 wz (mbV noM) 53 → Q .normal ac wz) : RW 0 q39_0 false Q a0 w := by
  refine wp_region_list ?_
  refine wpList_box_new 2 rfl rfl 28 (.tmp 0) rfl b hb _ e0 ?_
  intro w1 h1
  refine wpList_alloc_new 4 rfl rfl 53 rfl (b + 1) h1.size _ zero35 ?_
  intro w2 h2
  refine wl_end (hend _ w1 w2 (((After.self a0).put 2 _).put 4 _) ?_ ?_ h1 h2)
  · simp [ev_put, put_size, hz]
  · simp [ev_put, put_size, hz]
structure Fi (w : World) (b : Nat) (v : Value) (r : Rg) (node : Int) (ac : Act) (x : World) : Prop where
  z : ac.tmps.size = 27
  df : ac.defers = []
  e1 : ac.eval (.tmp 1) = .int .i64 node
  e2 : ac.eval (.tmp 2) = .pointer (some ⟨b, 0, none⟩)
  e4 : ac.eval (.tmp 4) = .pointer (some ⟨b + 1, 0, none⟩)
  hb : Holds x b (ringC v r) 28
  hm : Mems b x v r.1
  h4 : Holds x (b + 1) (mbV noM) 53
  bl : Below b w x
theorem Fi.gr {w x y : World} {b : Nat} {v : Value} {r : Rg} {node : Int} {ac ad : Act} {D : List Nat} (h : Fi w b v r node ac x) (hA : After D ac ad) (hD : (D.all fun s => decide (5 ≤ s)) = true) (g : Gr x y) : Fi w b v r node ad y :=
  ⟨hA.size.trans h.z, hA.defers.trans h.df, hA.keep hD (by omega) h.e1, hA.keep hD (by omega) h.e2, hA.keep hD (by omega) h.e4, h.hb.below g h.hb.lt, h.hm.below (g.mono (Nat.le_of_lt h.hb.lt)), h.h4.below g h.h4.lt, h.bl.trans (g.mono (Nat.le_of_lt h.hb.lt))⟩
theorem ret_mb {ac : Act} {x w : World} {b4 : Nat} {m : Mb} (df : ac.defers = []) (e4 : ac.eval (.tmp 4) = .pointer (some ⟨b4, 0, none⟩)) (h : Holds x b4 (mbV m) 53) (hg : Gr w x) : bodyPost Tryz.prog Tryz.f39 (fun e z => e = .returned (.agg (mbV m).toArray) ∧ Gr w z) .ret ac x :=
  bodyPost_ret (results_cell_row (p := 4) (by kernel_rfl) _ x b4 53 (mbV m).toArray (0, 0) _ e4 h Tryz.underlying53 rfl siz53) df ⟨rfl, hg⟩
theorem findM_cons (m : Mb) (l : List Mb) (n : Int) : findM (m :: l) n = if m.1 = n then m else findM l n := by
  unfold findM
  by_cases h : m.1 = n
  · simp [h]
  · simp [h]
set_option maxHeartbeats 1000000 in
theorem find_any (v : Value) (r : Rg) (node : Int) (w : World) (hR : RingAt w.heap.size w v r) : Calls Tryz.prog 39 #[.agg (ringC v r).toArray, .int .i64 node] w fun e z => e = .returned (.agg (mbV (findM r.1 node)).toArray) ∧ Gr w z := by
  obtain ⟨b, hwb⟩ : ∃ b, w.heap.size = b := ⟨_, rfl⟩
  rw [hwb] at hR
  have hle : r.1.length ≤ 9223372036854775807 := hR.mem.le
  have hgr : ∀ y, Below b w y → Gr w y := fun y hy => by unfold Gr; rw [hwb]; exact hy
  generalize hF : findM r.1 node = F
  refine calls_by (c := c39) Tryz.func39 (by kernel_rfl) 27 (by rw [Tryz.ntmps39]; rfl) (fun ac z df hv => ?_)
  have e0 := hv 0 _ rfl
  have e1 := hv 1 _ rfl
  clear hv
  unfold c39
  refine wp_seq (r39_0 z b hwb v r e0 (fun a1 w1 x1 A1 o2 o4 N1 N2 => ?_))
  have hB1 : Below b w x1 := N1.below.trans (N2.below.mono (by omega))
  have h1 : Fi w b v r node a1 x1 := ⟨A1.size.trans z, A1.defers.trans df, A1.get e1 (by decide), o2, o4, N1.holds.below N2.below (by omega), hR.mem.below hB1, N2.holds, hB1⟩
  show Code.wp Tryz.prog (Code.seq (Code.seq _ c39_l) _) _ a1 x1
  refine wp_seq (wp_seq (r39_1 h1.z (fun a2 x2 A2 o5 G2 => ?_)))
  have h2 := h1.gr A2 (by decide) G2
  show Code.wp Tryz.prog c39_l _ a2 x2
  unfold c39_l
  refine wp_block ?_
  refine wp_loop (fun ad y => ∃ k : Nat, Fi w b v r node ad y ∧ k ≤ r.1.length ∧ findM (r.1.drop k) node = F ∧ ad.eval (.tmp 5) = .int .i64 (k : Int)) (fun ad _ => r.1.length - (intOf (ad.eval (.tmp 5))).toNat)
    ⟨0, h2, Nat.zero_le _, hF, o5⟩ (fun a0 x0 ⟨k, h0, hk, hd, f5⟩ => ?_)
  obtain ⟨ad, cap, hvs⟩ := h0.hm.len
  unfold c39_a
  refine wp_seq (wp_seq (r39_2 h0.z k r.1.length cap b ad r.2 (by have := h0.hb; rw [hvs] at this; exact this) f5 h0.e2 (fun a3 x3 A3 o10 G3 => ?_)))
  have h3 := h0.gr A3 (by decide) G3
  have g5 := A3.get f5 (by decide)
  show Code.wp Tryz.prog (Code.cond _ _ _) _ a3 x3
  refine wp_cond_split o10 (fun q => ?_) (fun q => ?_)
  · have q : (k : Int) < r.1.length := of_decide_eq_true q
    have hkl : k < r.1.length := by omega
    have hmk : r.1[k]? = some r.1[k] := List.getElem?_eq_getElem hkl
    have hdr : r.1.drop k = r.1[k] :: r.1.drop (k + 1) := List.drop_eq_getElem_cons hkl
    rw [hdr, findM_cons] at hd
    generalize r.1[k] = m at *
    obtain ⟨g, of, cap, hvs, hc⟩ := mems_at h3.hm k m hmk
    have hbb := h3.hb
    rw [show ringC v r = v :: ownV r.2 from rfl, hvs] at hbb
    have hlt := h3.hb.lt
    refine wp_skip ?_
    show Code.wp Tryz.prog (Code.seq _ _) _ a3 x3
    refine wp_seq (wp_block (wp_seq (r39_4 h3.z k r.1.length cap b g of m.1 node hkl r.2 hbb (fun y hy => (hc y (hy.mono (Nat.le_of_lt hlt))).1) h3.e2 g5 h3.e1 (fun a4 x4 A4 o20 G4 => ?_))))
    have h4 := h3.gr A4 (by decide) G4
    have i5 := A4.get g5 (by decide)
    show Code.wp Tryz.prog (Code.cond _ _ _) _ a4 x4
    refine wp_cond_split o20 (fun q => ?_) (fun q => ?_)
    · have q : m.1 = node := of_decide_eq_true q
      rw [if_pos q] at hd
      subst hd
      have hbb4 := h4.hb
      rw [show ringC v r = v :: ownV r.2 from rfl, hvs] at hbb4
      refine wp_seq (r39_5 h4.z k r.1.length cap b (b + 1) g of m (mbV noM) hkl r.2 hbb4 (fun y hy => (hc y ((G4.trans hy).mono (Nat.le_of_lt hlt))).2) h4.h4 rfl h4.e2 i5 h4.e4 (fun a5 x5 A5 H5 U5 => ?_))
      exact wp_ret (show bodyPost Tryz.prog Tryz.f39 (fun e z => e = .returned (.agg (mbV m).toArray) ∧ Gr w z) .ret a5 x5 from ret_mb (A5.defers.trans h4.df) (A5.get h4.e4 (by decide)) H5 (hgr _ (h4.bl.trans (U5.below (by omega) (Nat.le_of_lt h4.hb.lt)))))
    · have q : ¬ m.1 = node := of_decide_eq_false q
      rw [if_neg q] at hd
      refine wp_skip ?_
      show Code.wp Tryz.prog (Code.region 3 q39_3 false) _ a4 x4
      refine r39_3 h4.z k (by omega) i5 (fun a5 x5 A5 o5' G5 => ?_)
      refine ⟨⟨k + 1, h4.gr A5 (by decide) G5, by omega, hd, o5'⟩, ?_⟩
      rw [o5', f5]
      simp only [intOf]
      omega
  · have q : ¬ (k : Int) < r.1.length := of_decide_eq_false q
    have e : r.1.drop k = [] := List.drop_eq_nil_of_le (by omega)
    rw [e] at hd
    subst hd
    refine wp_exit ?_
    show Code.wp Tryz.prog (Code.seq _ _) _ a3 x3
    refine wp_seq (r39_6 h3.z (b + 1) (mbV noM) h3.h4 rfl h3.e4 (fun a5 x5 A5 H5 U5 => ?_))
    exact wp_ret (show bodyPost Tryz.prog Tryz.f39 (fun e z => e = .returned (.agg (mbV noM).toArray) ∧ Gr w z) .ret a5 x5 from ret_mb (A5.defers.trans h3.df) (A5.get h3.e4 (by decide)) H5 (hgr _ (h3.bl.trans (U5.below (by omega) (Nat.le_of_lt h3.hb.lt)))))
end Go.Proofs.YthmnjebmnocoiaaGreat.En

/- The document's own ways with rings: put. By tools/gen_mk.py. -/
namespace Go.Proofs.YthmnjebmnocoiaaGreat.En
open Go.RowKit
set_option maxRecDepth 100000
variable {Q : Exit → Act → World → Prop} {a0 : Act} {w : World}
def rowF (x : Mb) : Fact := ⟨fun v y => ∃ g, v = .slice (some ⟨g, 0, none⟩) 1 1 ∧ Holds y g (mbV x) 53, fun ⟨g, h1, h2⟩ k => ⟨g, h1, h2.below k h2.lt⟩⟩
theorem bs_mb (x : Mb) (y : World) : ∃ q z, (Instr.buildSlice 22 1 #[(0, .agg (mbV x).toArray)]).run Tryz.prog y = .ok q z ∧ Gr y z ∧ (rowF x).holds q z :=
  ⟨.slice (some ⟨y.heap.size, 0, none⟩) 1 1, y.alloc (.cells (mbV x).toArray 53), by kernel_rfl, Gr.alloc _ _, y.heap.size, rfl, heap_alloc_new _ _⟩
theorem rowF_mems {x : Mb} {v : Value} {y : World} (h : (rowF x).holds v y) : Mems y.heap.size y v [x] := by
  obtain ⟨g, rfl, hh⟩ := h
  refine ⟨_, 1, rfl, (by show 1 ≤ maxLen; decide), Or.inr ⟨g, 0, rfl, hh.lt, fun i m hm => ?_⟩⟩
  match i, hm with
  | 0, hm => cases hm; exact ⟨hh.at 0 _ rfl, hh.at 1 _ rfl, hh.at 2 _ rfl⟩
theorem cellsP_one (l : List Mb) : ∀ u ∈ cellsP l, u.oneCell' = true := fun u hu => by
  obtain ⟨m, _, h⟩ := List.mem_flatMap.1 hu
  exact mbV_one m u h
theorem ap_tail {ops : Array Oper} {Q : Exit → Act → World → Prop} {c M : Nat} {x : World} {v vs : Value} {ms ls : List Mb} {os : List Ow} {ac : Act} {oa of os' : Oper} {s1 s2 d1 d2 s4 : Nat} (hH : Holds x c (ringC v (ms, os)) 28) (own : x.ownsRow M 53 3 v ms.length (cellsP ms)) (cM : c < M) (hM : M ≤ x.heap.size) (hs : Mems x.heap.size x vs ls) (hl : ms.length + ls.length ≤ 1000000000)
    (hoa : oa.op = .call { callee := .builtin .append, args := #[.tmp s1, .tmp s2], argTypes := #[22, 22] }) (hod : oa.dst = some d1) (hog : oa.guard = none)
    (hfo : of.op = .fieldAddr 28 (.tmp s4) 0) (hfd : of.dst = some d2) (hfg : of.guard = none)
    (hso : os'.op = .store 22 (.tmp d2) (.tmp d1)) (hsd : os'.dst = none) (hsg : os'.guard = none)
    (z1 : d1 < ac.tmps.size) (z2 : d2 < ac.tmps.size) (n1 : d1 ≠ s4) (n2 : d2 ≠ d1)
    (e1 : ac.eval (.tmp s1) = v) (e2 : ac.eval (.tmp s2) = vs) (e4 : ac.eval (.tmp s4) = .pointer (some ⟨c, 0, none⟩))
    (hend : ∀ v' y, Holds y c (ringC v' (ms ++ ls, os)) 28 → y.ownsRow M 53 3 v' (ms ++ ls).length (cellsP (ms ++ ls)) → Outs (fun k => k = c ∨ M ≤ k) x y → Q .normal ((ac.put (some d1) v').put (some d2) (.pointer (some ⟨c, 0, none⟩))) y) : wpList Tryz.prog ops Q [oa, of, os'] ac x := by
  obtain ⟨i53, f53, hz53, hs53, hb53⟩ := info_parts info35
  obtain ⟨ad, cap, rfl, hcap, hc⟩ := hs
  have hcl : (cellsP ls).length = ls.length * 3 := cellsP_len ls
  refine wpList_append_src hog (.tmp s1) (.tmp s2) 22 hoa M 53 i53 _ 3 24 Tryz.underlying22 f53 hz53 hs53 hb53 (by rfl) (by omega) v ms.length (cellsP ms) own e1 (cellsP ls) ad ls.length cap e2 hcl (fun h0 => ?_) (cellsP_one ls) (by unfold maxLen; omega) (by omega) hM ?_
  · rcases hc with h1 | ⟨g, o, rfl, hg, hcell⟩
    · omega
    · refine ⟨_, rfl, fun j u hu => ?_⟩
      have hj : j < ls.length * 3 := by
        have := (List.getElem?_eq_some_iff.1 hu).1
        omega
      have hi : j / 3 < ls.length := by omega
      have hmi : ls[j / 3]? = some ls[j / 3] := List.getElem?_eq_getElem hi
      have hcj := cellsP_cell hmi (j % 3) (by omega) []
      rw [List.append_nil, show j / 3 * 3 + j % 3 = j by omega, hu] at hcj
      obtain ⟨c0, c1, c2⟩ := hcell (j / 3) _ hmi
      rw [Addr.add_mid]
      have h3 : j % 3 = 0 ∨ j % 3 = 1 ∨ j % 3 = 2 := by omega
      rcases h3 with h3 | h3 | h3
      · rw [h3] at hcj
        rw [show o + j = o + j / 3 * 3 by omega, c0]
        exact hcj.symm
      · rw [h3] at hcj
        rw [show o + j = o + j / 3 * 3 + 1 by omega, c1]
        exact hcj.symm
      · rw [h3] at hcj
        rw [show o + j = o + j / 3 * 3 + 2 by omega, c2]
        exact hcj.symm
  · intro v' y own' gr _
    rw [hod]
    have ez : (ac.put (some d1) v').tmps.size = ac.tmps.size := put_size
    have ev4 : (ac.put (some d1) v').eval (.tmp s4) = .pointer (some ⟨c, 0, none⟩) := (ev_put z1).trans ((if_neg n1).trans e4)
    refine wl_of hfg (op_fa 28 (.tmp s4) 0 _ (.pointer (some ⟨c, 0, none⟩)) hfo ev4 (by intro w; kernel_rfl) ?_)
    rw [hfd]
    have hB : Below M x y := (Below.refl M x).grown gr hM (fun j e => own53_base own j e)
    have hH2 := hH.below hB cM
    have ea : ((ac.put (some d1) v').put (some d2) (.pointer (some ⟨c, 0, none⟩))).eval (.tmp d2) = .pointer (some ⟨c, 0, none⟩) := (ev_put (by rw [ez]; exact z2)).trans (if_pos rfl)
    have eb : ((ac.put (some d1) v').put (some d2) (.pointer (some ⟨c, 0, none⟩))).eval (.tmp d1) = v' := (ev_put (by rw [ez]; exact z2)).trans ((if_neg n2).trans ((ev_put z1).trans (if_pos rfl)))
    have hsl : ∃ a n k, v' = .slice a n k := by
      rcases own'.2 with ⟨rfl, _⟩ | ⟨g, cap, cur, rfl, _⟩
      · exact ⟨_, _, _, rfl⟩
      · exact ⟨_, _, _, rfl⟩
    obtain ⟨va, vn, vk, rfl⟩ := hsl
    refine wl_of hsg (op_store1 22 (.tmp d2) (.tmp d1) hso c 0 ea _ eb rfl rfl (by intro w; kernel_rfl) (hH2.at 0 _ rfl) (hH2.frozen 0) ?_)
    rw [hsd]
    have u := (Upd.refl c y).setCell 0 (.slice va vn vk)
    have hn53 : ∀ cs fr, y.heap[c]? ≠ some (.cells cs 53 fr) := fun cs fr e => by
      have := hH2
      unfold Holds at this
      rw [this] at e
      simp at e
    refine wl_end (hend _ _ (hH2.set 0 _) ?_ ?_)
    · have := own_upd own' u hn53
      rw [List.length_append, cellsP_append]
      exact this
    · exact ⟨u.os.trans hB.os, u.tape.trans hB.tape, u.output.trans hB.output, Nat.le_trans hB.size u.size, fun k hk hn => (u.block k (Nat.lt_of_lt_of_le hk hB.size) (fun e => hn (.inl e))).trans (hB.block k (by
        rcases Nat.lt_or_ge k M with q | q
        · exact q
        · exact absurd (.inr q) hn))⟩
def q40_0 : Array Oper := #[⟨some 2, .box 28 (.tmp 0), 0, "ref.go:79", #[], none⟩, ⟨some 3, .box 53 (.tmp 1), 0, "ref.go:79", #[], none⟩, ⟨some 4, .alloc 28, 0, "ref.go:79", #[], none⟩]
def q40_1 : Array Oper := #[⟨some 5, .alloc 28, 0, "ref.go:80", #[], none⟩]
def q40_2 : Array Oper := #[⟨some 7, .fieldAddr 28 (.tmp 2) 1, 0, "ref.go:81", #[], none⟩, ⟨some 8, .load 26 (.tmp 7), 26, "ref.go:81", #[⟨0, .data⟩], none⟩, ⟨some 9, .fieldAddr 28 (.tmp 5) 1, 0, "ref.go:81", #[⟨0, .phase⟩, ⟨1, .phase⟩], none⟩, ⟨none, .store 26 (.tmp 9) (.tmp 8), 0, "ref.go:81", #[⟨2, .data⟩, ⟨1, .data⟩, ⟨0, .phase⟩, ⟨1, .phase⟩], none⟩]
def q40_3 : Array Oper := #[⟨some 6, .assign (.const (.int .i64 0)), 3, "ref.go:82", #[], none⟩]
def q40_4 : Array Oper := #[⟨some 10, .move (.tmp 6), 3, "ref.go:82", #[], none⟩, ⟨some 11, .fieldAddr 28 (.tmp 2) 0, 0, "ref.go:82", #[], none⟩, ⟨some 12, .load 22 (.tmp 11), 22, "ref.go:82", #[⟨1, .data⟩], none⟩, ⟨some 13, .call ⟨.builtin .len, #[.tmp 12], #[22]⟩, 3, "ref.go:82", #[⟨2, .data⟩], none⟩, ⟨some 14, .binOp .lss 3 (.tmp 10) (.tmp 13) 3, 4, "ref.go:82", #[⟨0, .data⟩, ⟨3, .data⟩], none⟩]
def q40_5 : Array Oper := #[⟨some 15, .move (.tmp 6), 3, "ref.go:82", #[], none⟩, ⟨some 16, .binOp .add 3 (.tmp 15) (.const (.int .i64 1)) 3, 3, "ref.go:82", #[⟨0, .data⟩], none⟩, ⟨some 6, .assign (.tmp 16), 3, "ref.go:82", #[⟨1, .data⟩, ⟨0, .phase⟩, ⟨1, .phase⟩], none⟩]
def q40_6 : Array Oper := #[⟨some 17, .fieldAddr 28 (.tmp 2) 0, 0, "ref.go:83", #[], none⟩, ⟨some 18, .load 22 (.tmp 17), 22, "ref.go:83", #[⟨0, .data⟩], none⟩, ⟨some 19, .move (.tmp 6), 3, "ref.go:83", #[], none⟩, ⟨some 20, .indexAddr 22 (.tmp 18) (.tmp 19), 0, "ref.go:83", #[⟨1, .data⟩, ⟨2, .data⟩], none⟩, ⟨some 21, .fieldAddr 53 (.tmp 20) 0, 0, "ref.go:83", #[⟨3, .data⟩], none⟩, ⟨some 22, .load 3 (.tmp 21), 3, "ref.go:83", #[⟨4, .data⟩], none⟩, ⟨some 23, .fieldAddr 53 (.tmp 3) 0, 0, "ref.go:83", #[], none⟩, ⟨some 24, .load 3 (.tmp 23), 3, "ref.go:83", #[⟨6, .data⟩], none⟩, ⟨some 25, .binOp .neq 3 (.tmp 22) (.tmp 24) 3, 4, "ref.go:83", #[⟨5, .data⟩, ⟨7, .data⟩], none⟩]
def q40_7 : Array Oper := #[⟨some 26, .fieldAddr 28 (.tmp 5) 0, 0, "ref.go:84", #[], none⟩, ⟨some 27, .load 22 (.tmp 26), 22, "ref.go:84", #[⟨0, .data⟩], none⟩, ⟨some 28, .fieldAddr 28 (.tmp 2) 0, 0, "ref.go:84", #[], none⟩, ⟨some 29, .load 22 (.tmp 28), 22, "ref.go:84", #[⟨2, .data⟩], none⟩, ⟨some 30, .move (.tmp 6), 3, "ref.go:84", #[], none⟩, ⟨some 31, .indexAddr 22 (.tmp 29) (.tmp 30), 0, "ref.go:84", #[⟨3, .data⟩, ⟨4, .data⟩], none⟩, ⟨some 32, .load 53 (.tmp 31), 53, "ref.go:84", #[⟨5, .data⟩], none⟩, ⟨some 33, .buildSlice 22 1 #[(0, .tmp 32)], 22, "ref.go:84", #[⟨6, .data⟩], none⟩, ⟨some 34, .call ⟨.builtin .append, #[.tmp 27, .tmp 33], #[22, 22]⟩, 22, "ref.go:84", #[⟨1, .data⟩, ⟨7, .data⟩], none⟩, ⟨some 35, .fieldAddr 28 (.tmp 5) 0, 0, "ref.go:84", #[⟨0, .phase⟩, ⟨1, .phase⟩, ⟨2, .phase⟩, ⟨3, .phase⟩, ⟨4, .phase⟩, ⟨5, .phase⟩, ⟨6, .phase⟩, ⟨7, .phase⟩, ⟨8, .phase⟩], none⟩, ⟨none, .store 22 (.tmp 35) (.tmp 34), 0, "ref.go:84", #[⟨9, .data⟩, ⟨8, .data⟩, ⟨8, .chain⟩, ⟨0, .phase⟩, ⟨1, .phase⟩, ⟨2, .phase⟩, ⟨3, .phase⟩, ⟨4, .phase⟩, ⟨5, .phase⟩, ⟨6, .phase⟩, ⟨7, .phase⟩, ⟨8, .phase⟩], none⟩]
def q40_8 : Array Oper := #[⟨some 36, .fieldAddr 28 (.tmp 5) 0, 0, "ref.go:87", #[], none⟩, ⟨some 37, .load 22 (.tmp 36), 22, "ref.go:87", #[⟨0, .data⟩], none⟩, ⟨some 38, .load 53 (.tmp 3), 53, "ref.go:87", #[], none⟩, ⟨some 39, .buildSlice 22 1 #[(0, .tmp 38)], 22, "ref.go:87", #[⟨2, .data⟩], none⟩, ⟨some 40, .call ⟨.builtin .append, #[.tmp 37, .tmp 39], #[22, 22]⟩, 22, "ref.go:87", #[⟨1, .data⟩, ⟨3, .data⟩], none⟩, ⟨some 41, .fieldAddr 28 (.tmp 5) 0, 0, "ref.go:87", #[⟨0, .phase⟩, ⟨1, .phase⟩, ⟨2, .phase⟩, ⟨3, .phase⟩, ⟨4, .phase⟩], none⟩, ⟨none, .store 22 (.tmp 41) (.tmp 40), 0, "ref.go:87", #[⟨5, .data⟩, ⟨4, .data⟩, ⟨4, .chain⟩, ⟨0, .phase⟩, ⟨1, .phase⟩, ⟨2, .phase⟩, ⟨3, .phase⟩, ⟨4, .phase⟩], none⟩]
def q40_9 : Array Oper := #[⟨some 42, .load 28 (.tmp 5), 28, "ref.go:88", #[], none⟩, ⟨some 43, .call ⟨.value (.func 9), #[.tmp 42], #[28]⟩, 28, "ref.go:88", #[⟨0, .data⟩], none⟩, ⟨none, .store 28 (.tmp 4) (.tmp 43), 0, "ref.go:88", #[⟨1, .data⟩, ⟨1, .chain⟩, ⟨0, .phase⟩, ⟨1, .phase⟩], none⟩]
theorem r40_2 (hz : a0.tmps.size = 44) (b c : Nat) (v : Value) (os : List Ow) (h8 : os.length = 8) (hB : Holds w b (v :: ownV os) 28) (hC : Holds w c (.slice none 0 0 :: ownV noOs) 28) (e2 : a0.eval (.tmp 2) = .pointer (some ⟨b, 0, none⟩)) (e5 : a0.eval (.tmp 5) = .pointer (some ⟨c, 0, none⟩)) (hend : ∀ ac wz, After [7, 8, 9] a0 ac → Holds wz c (.slice none 0 0 :: ownV os) 28 → Upd c w wz → Q .normal ac wz) : RW 2 q40_2 false Q a0 w := by
  refine seq_by (by kernel_rfl) 3 (by decide) [7, 8, 9] (fun | 7 => .val (.pointer (some ⟨b, 1, none⟩)) | 8 => .val (.agg (ownV os).toArray) | 9 => .val (.pointer (some ⟨c, 1, none⟩)) | _ => .any) (by kernel_rfl) (fmc ⟨?s0, fmc ⟨?s1, fmc ⟨?s2, fun o ho => nomatch ho⟩⟩⟩) ?e
  case s0 => exact sa_fa 28 (.tmp 2) 1 7 (.pointer (some ⟨b, 0, none⟩)) (.pointer (some ⟨b, 1, none⟩)) rfl rfl rfl (.old 2 _ (by decide) e2) (by intro w; kernel_rfl) rfl
  case s1 => exact sa_row 26 (.tmp 7) 8 b (1) 16 _ (ownV os) rfl rfl rfl Tryz.underlying26 rfl siz26 (by rw [ownV_len, h8]) (.nw 7 hz) (fun y hy => (hB.below hy hB.lt).range 1 (ownV os) (fun j v hv => by rw [Nat.add_comm, List.getElem?_cons_succ]; exact hv)) rfl
  case s2 => exact sa_fa 28 (.tmp 5) 1 9 (.pointer (some ⟨c, 0, none⟩)) (.pointer (some ⟨c, 1, none⟩)) rfl rfl rfl (.old 5 _ (by decide) e5) (by intro w; kernel_rfl) rfl
  case e =>
  intro ac wz hA hgr hv
  have o8 : ac.eval (.tmp 8) = .agg (ownV os).toArray := hw hv hz 8
  have o9 : ac.eval (.tmp 9) = .pointer (some ⟨c, 1, none⟩) := hw hv hz 9
  refine wpList_store_part rfl 26 (.tmp 9) (.tmp 8) rfl c 1 o9 (ownV os) o8 28 _ (hC.below hgr hC.lt) (siz26.trans (by rw [ownV_len, h8])) (by rw [List.length_cons, ownV_len, ownV_len, h8]; decide) (ownV_one os) ?_
  intro w3 h3
  have e : overV (.slice none 0 0 :: ownV noOs) 1 (ownV os) = .slice none 0 0 :: ownV os := by
    have hl : (ownV noOs).drop (ownV os).length = [] := List.drop_eq_nil_of_le (by rw [ownV_len, ownV_len, h8]; decide)
    unfold overV
    rw [show 1 + (ownV os).length = (ownV os).length + 1 by omega]
    simp [hl]
  have H := h3.holds
  rw [e] at H
  exact wl_end (hend _ w3 hA H ((Gr.upd hgr).trans (Turned.upd h3)))
theorem r40_3 (hz : a0.tmps.size = 44)   (hend : ∀ ac wz, After [6] a0 ac → ac.eval (.tmp 6) = .int .i64 0 → Gr w wz → Q .normal ac wz) : RW 3 q40_3 false Q a0 w := by
  refine seq_by (by kernel_rfl) 1 (by decide) [6] (fun | 6 => .val (.int .i64 0) | _ => .any) (by kernel_rfl) (fmc ⟨?s0, fun o ho => nomatch ho⟩) ?e
  case s0 => exact sa_move (.const _) 6 (.val (.int .i64 0)) (.inr rfl) rfl rfl (.const _) rfl
  case e =>
  intro ac wz hA hgr hv
  exact wl_end (hend ac wz hA (hw hv hz 6) hgr)
theorem r40_4 (hz : a0.tmps.size = 44) (k n cap b : Nat) (ad : Option Addr) (os : List Ow) (hB : Holds w b (.slice ad n cap :: ownV os) 28) (e6 : a0.eval (.tmp 6) = .int .i64 (k : Int)) (e2 : a0.eval (.tmp 2) = .pointer (some ⟨b, 0, none⟩)) (hend : ∀ ac wz, After [10, 11, 12, 13, 14] a0 ac → ac.eval (.tmp 14) = .bool (decide ((k : Int) < (n : Int))) → Gr w wz → Q .normal ac wz) : RW 4 q40_4 false Q a0 w := by
  refine seq_by (by kernel_rfl) 5 (by decide) [10, 11, 12, 13, 14] (fun | 10 => .val (.int .i64 (k : Int)) | 11 => .val (.pointer (some ⟨b, 0, none⟩)) | 12 => .val (.slice ad n cap) | 13 => .val (.int .i64 (n : Int)) | 14 => .val (.bool (decide ((k : Int) < (n : Int)))) | _ => .any) (by kernel_rfl) (fmc ⟨?s0, fmc ⟨?s1, fmc ⟨?s2, fmc ⟨?s3, fmc ⟨?s4, fun o ho => nomatch ho⟩⟩⟩⟩⟩) ?e
  case s0 => exact sa_mo 6 10 e6
  case s1 => exact sa_fa 28 (.tmp 2) 0 11 (.pointer (some ⟨b, 0, none⟩)) (.pointer (some ⟨b, 0, none⟩)) rfl rfl rfl (.old 2 _ (by decide) e2) (by intro w; kernel_rfl) rfl
  case s2 => exact sa_loadc 22 (.tmp 11) 12 (b) (0) (.slice ad n cap) rfl rfl rfl (by intro w; kernel_rfl) (.nw 11 hz) (fun y hy => (hB.below hy hB.lt).at 0 _ rfl) rfl
  case s3 => exact sa_len 22 (.tmp 12) 13 (.slice ad n cap) (.int .i64 (n : Int)) rfl rfl rfl (.nw 12 hz) (by intro w; kernel_rfl) rfl
  case s4 => exact sa_bin .lss 3 (.tmp 10) (.tmp 13) 3 14 (.int .i64 (k : Int)) (.int .i64 (n : Int)) (.bool (decide ((k : Int) < (n : Int)))) rfl rfl rfl (.nw 10 hz) (.nw 13 hz) guard_int (bin_lss rfl) rfl
  case e =>
  intro ac wz hA hgr hv
  exact wl_end (hend ac wz hA (hw hv hz 14) hgr)
theorem r40_5 (hz : a0.tmps.size = 44) (k : Nat) (hk : k < 9223372036854775807) (e6 : a0.eval (.tmp 6) = .int .i64 (k : Int)) (hend : ∀ ac wz, After [6, 15, 16] a0 ac → ac.eval (.tmp 6) = .int .i64 ((k + 1 : Nat) : Int) → Gr w wz → Q .normal ac wz) : RW 5 q40_5 false Q a0 w := by
  refine seq_by (by kernel_rfl) 2 (by decide) [15, 16] (fun | 15 => .val (.int .i64 (k : Int)) | 16 => .val (.int .i64 ((k + 1 : Nat) : Int)) | _ => .any) (by kernel_rfl) (fmc ⟨?s0, fmc ⟨?s1, fun o ho => nomatch ho⟩⟩) ?e
  case s0 => exact sa_mo 6 15 e6
  case s1 => exact sa_bin .add 3 (.tmp 15) (.const _) 3 16 (.int .i64 (k : Int)) (.int .i64 1) (.int .i64 ((k + 1 : Nat) : Int)) rfl rfl rfl (.nw 15 hz) (.const _) guard_int (bin_add (by omega) (by omega) (by omega)) rfl
  case e =>
  intro ac wz hA hgr hv
  have o16 : ac.eval (.tmp 16) = .int .i64 ((k + 1 : Nat) : Int) := hw hv hz 16
  refine wl_of rfl (op_move (.tmp 16) (.inr rfl) (wl_end ?_))
  exact hend _ wz (hA.put 6 _)  ((ev_put (by rw [hA.size, hz]; decide)).trans ((if_pos rfl).trans o16)) hgr
theorem r40_6 (hz : a0.tmps.size = 44) (k n cap b b3 g of : Nat) (x : Int) (m : Mb) (hk : k < n) (os : List Ow) (hB : Holds w b (.slice (some ⟨g, of, none⟩) n cap :: ownV os) 28) (h3 : Holds w b3 (mbV m) 53) (hX : ∀ y, Gr w y → y.cell? ⟨g, of + k * 3, none⟩ = some (.int .i64 x)) (e2 : a0.eval (.tmp 2) = .pointer (some ⟨b, 0, none⟩)) (e6 : a0.eval (.tmp 6) = .int .i64 (k : Int)) (e3 : a0.eval (.tmp 3) = .pointer (some ⟨b3, 0, none⟩)) (hend : ∀ ac wz, After [17, 18, 19, 20, 21, 22, 23, 24, 25] a0 ac → ac.eval (.tmp 25) = .bool (decide (¬ x = m.1)) → Gr w wz → Q .normal ac wz) : RW 6 q40_6 true Q a0 w := by
  refine drawn_by (by kernel_rfl) (by kernel_rfl) (by kernel_rfl) [17, 18, 19, 20, 21, 22, 23, 24, 25] (fun | 17 => .val (.pointer (some ⟨b, 0, none⟩)) | 18 => .val (.slice (some ⟨g, of, none⟩) n cap) | 19 => .val (.int .i64 (k : Int)) | 20 => .val (.pointer (some ⟨g, of + k * 3, none⟩)) | 21 => .val (.pointer (some ⟨g, of + k * 3 + 0, none⟩)) | 22 => .val (.int .i64 x) | 23 => .val (.pointer (some ⟨b3, 0, none⟩)) | 24 => .val (.int .i64 m.1) | 25 => .val (.bool (decide (¬ x = m.1))) | _ => .any) (by kernel_rfl) (fmc ⟨?s0, fmc ⟨?s1, fmc ⟨?s2, fmc ⟨?s3, fmc ⟨?s4, fmc ⟨?s5, fmc ⟨?s6, fmc ⟨?s7, fmc ⟨?s8, fun o ho => nomatch ho⟩⟩⟩⟩⟩⟩⟩⟩⟩) ?e
  case s0 => exact sa_fa 28 (.tmp 2) 0 17 (.pointer (some ⟨b, 0, none⟩)) (.pointer (some ⟨b, 0, none⟩)) rfl rfl rfl (.old 2 _ (by decide) e2) (by intro w; kernel_rfl) rfl
  case s1 => exact sa_loadc 22 (.tmp 17) 18 (b) (0) (.slice (some ⟨g, of, none⟩) n cap) rfl rfl rfl (by intro w; kernel_rfl) (.nw 17 hz) (fun y hy => (hB.below hy hB.lt).at 0 _ rfl) rfl
  case s2 => exact sa_mo 6 19 e6
  case s3 => exact sa_ixa 22 (.tmp 18) (.tmp 19) 20 (.slice (some ⟨g, of, none⟩) n cap) (.int .i64 (k : Int)) (.pointer (some ⟨g, of + k * 3, none⟩)) rfl rfl rfl (.nw 18 hz) (.nw 19 hz) (ix_slice (sz := 3) Tryz.underlying22 (by intro w; kernel_rfl) (by omega) rfl) rfl
  case s4 => exact sa_fa 53 (.tmp 20) 0 21 (.pointer (some ⟨g, of + k * 3, none⟩)) (.pointer (some ⟨g, of + k * 3 + 0, none⟩)) rfl rfl rfl (.nw 20 hz) (by intro w; kernel_rfl) rfl
  case s5 => exact sa_loadc 3 (.tmp 21) 22 (g) (of + k * 3 + 0) (.int .i64 x) rfl rfl rfl (by intro w; kernel_rfl) (.nw 21 hz) hX rfl
  case s6 => exact sa_fa 53 (.tmp 3) 0 23 (.pointer (some ⟨b3, 0, none⟩)) (.pointer (some ⟨b3, 0, none⟩)) rfl rfl rfl (.old 3 _ (by decide) e3) (by intro w; kernel_rfl) rfl
  case s7 => exact sa_loadc 3 (.tmp 23) 24 (b3) (0) (.int .i64 m.1) rfl rfl rfl (by intro w; kernel_rfl) (.nw 23 hz) (fun y hy => (h3.below hy h3.lt).at 0 _ rfl) rfl
  case s8 => exact sa_bin .neq 3 (.tmp 22) (.tmp 24) 3 25 (.int .i64 x) (.int .i64 m.1) (.bool (decide (¬ x = m.1))) rfl rfl rfl (.nw 22 hz) (.nw 24 hz) guard_int (bin_neq rfl) rfl
  case e =>
  intro ac wz hA hgr hv
  exact hend ac wz hA (hw hv hz 25) hgr
theorem r40_7 (hz : a0.tmps.size = 44) (k n cap b c M g of : Nat) (v : Value) (ms : List Mb) (x : Mb) (qs : List Ow) (hk : k < n) (os : List Ow) (hB : Holds w b (.slice (some ⟨g, of, none⟩) n cap :: ownV os) 28) (hX : ∀ y, Gr w y → y.rangeAt g (of + k * 3) (mbV x)) (hC : Holds w c (ringC v (ms, qs)) 28) (own : w.ownsRow M 53 3 v ms.length (cellsP ms)) (cM : c < M) (hM : M ≤ w.heap.size) (hl : ms.length + 1 ≤ 1000000000) (e5 : a0.eval (.tmp 5) = .pointer (some ⟨c, 0, none⟩)) (e2 : a0.eval (.tmp 2) = .pointer (some ⟨b, 0, none⟩)) (e6 : a0.eval (.tmp 6) = .int .i64 (k : Int)) (hend : ∀ ac wz v2, After (35 :: 34 :: [26, 27, 28, 29, 30, 31, 32, 33]) a0 ac → Holds wz c (ringC v2 (ms ++ [x], qs)) 28 → wz.ownsRow M 53 3 v2 (ms ++ [x]).length (cellsP (ms ++ [x])) → Outs (fun k => k = c ∨ M ≤ k) w wz → Q .normal ac wz) : RW 7 q40_7 true Q a0 w := by
  refine drawn_tail (by kernel_rfl) (by kernel_rfl) 8 (by decide) (by kernel_rfl) (by kernel_rfl) [26, 27, 28, 29, 30, 31, 32, 33] (fun | 26 => .val (.pointer (some ⟨c, 0, none⟩)) | 27 => .val (v) | 28 => .val (.pointer (some ⟨b, 0, none⟩)) | 29 => .val (.slice (some ⟨g, of, none⟩) n cap) | 30 => .val (.int .i64 (k : Int)) | 31 => .val (.pointer (some ⟨g, of + k * 3, none⟩)) | 32 => .val (.agg (mbV x).toArray) | 33 => rowF x | _ => .any) (by kernel_rfl) (fmc ⟨?s0, fmc ⟨?s1, fmc ⟨?s2, fmc ⟨?s3, fmc ⟨?s4, fmc ⟨?s5, fmc ⟨?s6, fmc ⟨?s7, fun o ho => nomatch ho⟩⟩⟩⟩⟩⟩⟩⟩) ?e
  case s0 => exact sa_fa 28 (.tmp 5) 0 26 (.pointer (some ⟨c, 0, none⟩)) (.pointer (some ⟨c, 0, none⟩)) rfl rfl rfl (.old 5 _ (by decide) e5) (by intro w; kernel_rfl) rfl
  case s1 => exact sa_loadc 22 (.tmp 26) 27 (c) (0) (v) rfl rfl rfl (by intro w; kernel_rfl) (.nw 26 hz) (fun y hy => (hC.below hy hC.lt).at 0 _ rfl) rfl
  case s2 => exact sa_fa 28 (.tmp 2) 0 28 (.pointer (some ⟨b, 0, none⟩)) (.pointer (some ⟨b, 0, none⟩)) rfl rfl rfl (.old 2 _ (by decide) e2) (by intro w; kernel_rfl) rfl
  case s3 => exact sa_loadc 22 (.tmp 28) 29 (b) (0) (.slice (some ⟨g, of, none⟩) n cap) rfl rfl rfl (by intro w; kernel_rfl) (.nw 28 hz) (fun y hy => (hB.below hy hB.lt).at 0 _ rfl) rfl
  case s4 => exact sa_mo 6 30 e6
  case s5 => exact sa_ixa 22 (.tmp 29) (.tmp 30) 31 (.slice (some ⟨g, of, none⟩) n cap) (.int .i64 (k : Int)) (.pointer (some ⟨g, of + k * 3, none⟩)) rfl rfl rfl (.nw 29 hz) (.nw 30 hz) (ix_slice (sz := 3) Tryz.underlying22 (by intro w; kernel_rfl) (by omega) rfl) rfl
  case s6 => exact sa_row 53 (.tmp 31) 32 g (of + k * 3) 3 _ (mbV x) rfl rfl rfl Tryz.underlying53 rfl siz53 rfl (.nw 31 hz) hX rfl
  case s7 => exact sa_bs1 22 1 (.tmp 32) 33 (.agg (mbV x).toArray) rfl rfl rfl (.nw 32 hz) (bs_mb x)
  case e =>
  intro ac wz hA hgr hv
  have o27 : ac.eval (.tmp 27) = v := hw hv hz 27
  have o33 := hw hv hz 33
  have o5 : ac.eval (.tmp 5) = .pointer (some ⟨c, 0, none⟩) := (hA.old 5 (by decide)).trans e5
  refine ap_tail (d1 := 34) (d2 := 35) (s1 := 27) (s2 := 33) (s4 := 5) (hC.below hgr hC.lt) (own53_gr own hgr) cM (Nat.le_trans hM hgr.size) (rowF_mems o33) hl rfl rfl rfl rfl rfl rfl rfl rfl rfl (by rw [hA.size, hz]; decide) (by rw [hA.size, hz]; decide) (by decide) (by decide) o27 rfl o5 (fun v' y h1 h2 h3 => ?_)
  exact hend _ y v' ((hA.put 34 _).put 35 _) h1 h2 ((Outs.ofBelow hgr).trans h3)
theorem r40_8 (hz : a0.tmps.size = 44) (b3 c M : Nat) (v : Value) (ms : List Mb) (m : Mb) (qs : List Ow) (h3 : Holds w b3 (mbV m) 53) (hC : Holds w c (ringC v (ms, qs)) 28) (own : w.ownsRow M 53 3 v ms.length (cellsP ms)) (cM : c < M) (hM : M ≤ w.heap.size) (hl : ms.length + 1 ≤ 1000000000) (e5 : a0.eval (.tmp 5) = .pointer (some ⟨c, 0, none⟩)) (e3 : a0.eval (.tmp 3) = .pointer (some ⟨b3, 0, none⟩)) (hend : ∀ ac wz v2, After (41 :: 40 :: [36, 37, 38, 39]) a0 ac → Holds wz c (ringC v2 (ms ++ [m], qs)) 28 → wz.ownsRow M 53 3 v2 (ms ++ [m]).length (cellsP (ms ++ [m])) → Outs (fun k => k = c ∨ M ≤ k) w wz → Q .normal ac wz) : RW 8 q40_8 false Q a0 w := by
  refine seq_by (by kernel_rfl) 4 (by decide) [36, 37, 38, 39] (fun | 36 => .val (.pointer (some ⟨c, 0, none⟩)) | 37 => .val (v) | 38 => .val (.agg (mbV m).toArray) | 39 => rowF m | _ => .any) (by kernel_rfl) (fmc ⟨?s0, fmc ⟨?s1, fmc ⟨?s2, fmc ⟨?s3, fun o ho => nomatch ho⟩⟩⟩⟩) ?e
  case s0 => exact sa_fa 28 (.tmp 5) 0 36 (.pointer (some ⟨c, 0, none⟩)) (.pointer (some ⟨c, 0, none⟩)) rfl rfl rfl (.old 5 _ (by decide) e5) (by intro w; kernel_rfl) rfl
  case s1 => exact sa_loadc 22 (.tmp 36) 37 (c) (0) (v) rfl rfl rfl (by intro w; kernel_rfl) (.nw 36 hz) (fun y hy => (hC.below hy hC.lt).at 0 _ rfl) rfl
  case s2 => exact sa_row 53 (.tmp 3) 38 b3 (0) 3 _ (mbV m) rfl rfl rfl Tryz.underlying53 rfl siz53 rfl (.old 3 _ (by decide) e3) (fun y hy => range_of (h3.below hy h3.lt)) rfl
  case s3 => exact sa_bs1 22 1 (.tmp 38) 39 (.agg (mbV m).toArray) rfl rfl rfl (.nw 38 hz) (bs_mb m)
  case e =>
  intro ac wz hA hgr hv
  have o37 : ac.eval (.tmp 37) = v := hw hv hz 37
  have o39 := hw hv hz 39
  have o5 : ac.eval (.tmp 5) = .pointer (some ⟨c, 0, none⟩) := (hA.old 5 (by decide)).trans e5
  refine ap_tail (d1 := 40) (d2 := 41) (s1 := 37) (s2 := 39) (s4 := 5) (hC.below hgr hC.lt) (own53_gr own hgr) cM (Nat.le_trans hM hgr.size) (rowF_mems o39) hl rfl rfl rfl rfl rfl rfl rfl rfl rfl (by rw [hA.size, hz]; decide) (by rw [hA.size, hz]; decide) (by decide) (by decide) o37 rfl o5 (fun v' y h1 h2 h3 => ?_)
  exact hend _ y v' ((hA.put 40 _).put 41 _) h1 h2 ((Outs.ofBelow hgr).trans h3)
theorem r40_9 (hz : a0.tmps.size = 44) (c b4 : Nat) (u : Value) (r : Rg) (old : List Value) (hC : Holds w c (ringC u r) 28) (hR : RingAt w.heap.size w u r) (h4 : Holds w b4 old 28) (hl : old.length = 17) (e5 : a0.eval (.tmp 5) = .pointer (some ⟨c, 0, none⟩)) (e4 : a0.eval (.tmp 4) = .pointer (some ⟨b4, 0, none⟩)) (hend : ∀ ac wz, After [42, 43] a0 ac → Bf w.heap.size wz b4 (normL r) → Upd b4 w wz → Q .normal ac wz) : RW 9 q40_9 false Q a0 w := by
  refine seq_by (by kernel_rfl) 2 (by decide) [42, 43] (fun | 42 => .val (.agg (ringC u r).toArray) | 43 => ringF w.heap.size (normL r) | _ => .any) (by kernel_rfl) (fmc ⟨?s0, fmc ⟨?s1, fun o ho => nomatch ho⟩⟩) ?e
  case s0 => exact sa_row 28 (.tmp 5) 42 c (0) 17 _ (ringC u r) rfl rfl rfl Tryz.underlying28 rfl siz28 (ringC_len hR) (.old 5 _ (by decide) e5) (fun y hy => range_of (hC.below hy hC.lt)) rfl
  case s1 => exact sa_callF1 9 (.tmp 42) _ 43 (.agg (ringC u r).toArray) (ringF w.heap.size (normL r)) rfl rfl rfl (.nw 42 hz) (enters_of Tryz.func9 (by kernel_rfl) rfl) (fun y hy => k_norm u r w y hy hR) rfl
  case e =>
  intro ac wz hA hgr hv
  have o43 := hw hv hz 43
  have o4 : ac.eval (.tmp 4) = .pointer (some ⟨b4, 0, none⟩) := (hA.old 4 (by decide)).trans e4
  refine wpl_store_ring rfl (.tmp 4) (.tmp 43) rfl rfl b4 w.heap.size o4 (normL r) o43 old (h4.below hgr h4.lt) hl h4.lt (fun w3 h3 u3 _ => ?_)
  exact wl_end (hend _ w3 hA h3 ((Gr.upd hgr).trans u3))
def c40_a : Code := (((Code.region 4 q40_4 false).seq (Code.cond (.tmp 14) Code.skip (Code.exit 0))).seq ((Code.block 1 ((Code.region 6 q40_6 true).seq (Code.cond (.tmp 25) (Code.region 7 q40_7 true) Code.skip))).seq (Code.region 5 q40_5 false)))
def c40_l : Code := (Code.block 0 (c40_a.loop))
def c40 : Code := ((Code.region 0 q40_0 false).seq ((Code.region 1 q40_1 false).seq ((Code.region 2 q40_2 false).seq (((Code.region 3 q40_3 false).seq c40_l).seq ((Code.region 8 q40_8 false).seq ((Code.region 9 q40_9 false).seq Code.ret))))))
theorem r40_0 (hz : a0.tmps.size = 44) (b : Nat) (hb : w.heap.size = b) (v : Value) (r : Rg) (m : Mb) (e0 : a0.eval (.tmp 0) = .agg (ringC v r).toArray) (e1 : a0.eval (.tmp 1) = .agg (mbV m).toArray) (hend : ∀ ac w1 w2 wz, After [4, 3, 2] a0 ac → ac.eval (.tmp 2) = .pointer (some ⟨b, 0, none⟩) → ac.eval (.tmp 3) = .pointer (some ⟨b + 1, 0, none⟩) → ac.eval (.tmp 4) = .pointer (some ⟨b + 2, 0, none⟩) → Anew b w w1 (ringC v r) 28 → Anew (b + 1) w1 w2 (mbV m) 53 → Anew (b + 2) w2 wz (ringC (.slice none 0 0) ([], noOs)) 28 → Q .normal ac wz) : RW 0 q40_0 false Q a0 w := by
  refine wp_region_list ?_
  refine wpList_box_new 2 rfl rfl 28 (.tmp 0) rfl b hb _ e0 ?_
  intro w1 h1
  refine wpList_box_new 3 rfl rfl 53 (.tmp 1) rfl (b + 1) h1.size (mbV m) (by simp [ev_put, hz, e1]) ?_
  intro w2 h2
  refine wpList_alloc_new 4 rfl rfl 28 rfl (b + 2) h2.size _ zero28 ?_
  intro w3 h3
  refine wl_end (hend _ w1 w2 w3 ((((After.self a0).put 2 _).put 3 _).put 4 _) ?_ ?_ ?_ h1 h2 h3)
  · simp [ev_put, put_size, hz]
  · simp [ev_put, put_size, hz]
  · simp [ev_put, put_size, hz]
theorem r40_1 (hz : a0.tmps.size = 44) (b : Nat) (hb : w.heap.size = b) (hend : ∀ ac wz, After [5] a0 ac → ac.eval (.tmp 5) = .pointer (some ⟨b, 0, none⟩) → Anew b w wz (ringC (.slice none 0 0) ([], noOs)) 28 → Q .normal ac wz) : RW 1 q40_1 false Q a0 w := by
  refine wp_region_list ?_
  refine wpList_alloc_new 5 rfl rfl 28 rfl b hb _ zero28 ?_
  intro w1 h1
  refine wl_end (hend _ w1 ((After.self a0).put 5 _) ?_ h1)
  simp [ev_put, hz]
structure Pu (w : World) (b : Nat) (v : Value) (r : Rg) (m : Mb) (v' : Value) (ms : List Mb) (ac : Act) (x : World) : Prop where
  z : ac.tmps.size = 44
  df : ac.defers = []
  e2 : ac.eval (.tmp 2) = .pointer (some ⟨b, 0, none⟩)
  e3 : ac.eval (.tmp 3) = .pointer (some ⟨b + 1, 0, none⟩)
  e4 : ac.eval (.tmp 4) = .pointer (some ⟨b + 2, 0, none⟩)
  e5 : ac.eval (.tmp 5) = .pointer (some ⟨b + 3, 0, none⟩)
  hb : Holds x b (ringC v r) 28
  hm : Mems b x v r.1
  h3 : Holds x (b + 1) (mbV m) 53
  h4 : Holds x (b + 2) (ringC (.slice none 0 0) ([], noOs)) 28
  hc : Holds x (b + 3) (ringC v' (ms, r.2)) 28
  own : x.ownsRow (b + 4) 53 3 v' ms.length (cellsP ms)
  bl : Below b w x
  sz : b + 4 ≤ x.heap.size
theorem Pu.gr {w x y : World} {b : Nat} {v v' : Value} {r : Rg} {m : Mb} {ms : List Mb} {ac ad : Act} {D : List Nat} (h : Pu w b v r m v' ms ac x) (hA : After D ac ad) (hD : (D.all fun s => decide (6 ≤ s)) = true) (g : Gr x y) : Pu w b v r m v' ms ad y :=
  have h0 := h.sz
  ⟨hA.size.trans h.z, hA.defers.trans h.df, hA.keep hD (by omega) h.e2, hA.keep hD (by omega) h.e3, hA.keep hD (by omega) h.e4, hA.keep hD (by omega) h.e5, h.hb.below g h.hb.lt, h.hm.below (g.mono (by omega)), h.h3.below g h.h3.lt, h.h4.below g h.h4.lt, h.hc.below g h.hc.lt, own53_gr h.own g, h.bl.trans (g.mono (by omega)), Nat.le_trans h0 g.size⟩
theorem Pu.more {w x y : World} {b : Nat} {v v' v2 : Value} {r : Rg} {m : Mb} {ms ms2 : List Mb} {ac ad : Act} {D : List Nat} (h : Pu w b v r m v' ms ac x) (hA : After D ac ad) (hD : (D.all fun s => decide (6 ≤ s)) = true) (hc : Holds y (b + 3) (ringC v2 (ms2, r.2)) 28) (own : y.ownsRow (b + 4) 53 3 v2 ms2.length (cellsP ms2)) (o : Outs (fun k => k = b + 3 ∨ b + 4 ≤ k) x y) : Pu w b v r m v2 ms2 ad y :=
  have h0 := h.sz
  have hB : Below (b + 3) x y := o.below (fun k hk q => by omega) (by omega)
  ⟨hA.size.trans h.z, hA.defers.trans h.df, hA.keep hD (by omega) h.e2, hA.keep hD (by omega) h.e3, hA.keep hD (by omega) h.e4, hA.keep hD (by omega) h.e5, h.hb.below hB (by omega), h.hm.below (hB.mono (by omega)), h.h3.below hB (by omega), h.h4.below hB (by omega), hc, own, h.bl.trans (hB.mono (by omega)), Nat.le_trans h0 o.size⟩
set_option maxHeartbeats 1000000 in
theorem put_any (v : Value) (r : Rg) (m : Mb) (w : World) (hl : r.1.length ≤ 1000) (hR : RingAt w.heap.size w v r) : Calls Tryz.prog 40 #[.agg (ringC v r).toArray, .agg (mbV m).toArray] w (RetN w (putR r m)) := by
  obtain ⟨b, hwb⟩ : ∃ b, w.heap.size = b := ⟨_, rfl⟩
  rw [hwb] at hR
  refine calls_by (c := c40) Tryz.func40 (by kernel_rfl) 44 (by rw [Tryz.ntmps40]; rfl) (fun ac z df hv => ?_)
  have e0 := hv 0 _ rfl
  have e1 := hv 1 _ rfl
  clear hv
  unfold c40
  refine wp_seq (r40_0 z b hwb v r m e0 e1 (fun a1 w1 w2 x1 A1 o2 o3 o4 N1 N2 N3 => ?_))
  have z1 := A1.size.trans z
  have s1 : x1.heap.size = b + 3 := N3.size
  show Code.wp Tryz.prog (Code.seq _ _) _ a1 x1
  refine wp_seq (r40_1 z1 (b + 3) s1 (fun a2 x2 A2 o5 N4 => ?_))
  have z2 := A2.size.trans z1
  have s2 : x2.heap.size = b + 4 := N4.size
  have hb12 : Below b w x1 := N1.below.trans ((N2.below.mono (by omega)).trans (N3.below.mono (by omega)))
  have hb2 : Below b w x2 := hb12.trans (N4.below.mono (by omega))
  have H2 : Holds x2 b (ringC v r) 28 := ((N1.holds.below N2.below (by omega)).below N3.below (by omega)).below N4.below (by omega)
  have H3 : Holds x2 (b + 1) (mbV m) 53 := (N2.holds.below N3.below (by omega)).below N4.below (by omega)
  have H4 : Holds x2 (b + 2) (ringC (.slice none 0 0) ([], noOs)) 28 := N3.holds.below N4.below (by omega)
  show Code.wp Tryz.prog (Code.seq _ _) _ a2 x2
  refine wp_seq (r40_2 z2 b (b + 3) v r.2 hR.own H2 N4.holds (A2.get o2 (by decide)) o5 (fun a3 x3 A3 H5 U3 => ?_))
  have hs3 := U3.size
  have h3 : Pu w b v r m (.slice none 0 0) [] a3 x3 := ⟨A3.size.trans z2, A3.defers.trans (A2.defers.trans (A1.defers.trans df)), A3.get (A2.get o2 (by decide)) (by decide), A3.get (A2.get o3 (by decide)) (by decide), A3.get (A2.get o4 (by decide)) (by decide), A3.get o5 (by decide), H2.upd U3 (by omega), (hR.mem.below hb2).below (U3.below (by omega) (by omega)), H3.upd U3 (by omega), H4.upd U3 (by omega), H5, ⟨rfl, .inl ⟨rfl, rfl⟩⟩, hb2.trans (U3.below (by omega) (by omega)), by omega⟩
  show Code.wp Tryz.prog (Code.seq (Code.seq _ c40_l) _) _ a3 x3
  refine wp_seq (wp_seq (r40_3 h3.z (fun a4 x4 A4 o6 G4 => ?_)))
  have h4 := h3.gr A4 (by decide) G4
  show Code.wp Tryz.prog c40_l _ a4 x4
  unfold c40_l
  refine wp_block ?_
  refine wp_loop (fun ad y => ∃ (k : Nat) (v' : Value), Pu w b v r m v' ((r.1.take k).filter fun x => decide (x.1 ≠ m.1)) ad y ∧ k ≤ r.1.length ∧ ad.eval (.tmp 6) = .int .i64 (k : Int)) (fun ad _ => r.1.length - (intOf (ad.eval (.tmp 6))).toNat)
    ⟨0, _, h4, Nat.zero_le _, o6⟩ (fun a0 x0 ⟨k, v', h0, hk, f6⟩ => ?_)
  obtain ⟨ad, cap, hvs⟩ := h0.hm.len
  unfold c40_a
  refine wp_seq (wp_seq (r40_4 h0.z k r.1.length cap b ad r.2 (by have := h0.hb; rw [hvs] at this; exact this) f6 h0.e2 (fun a5 x5 A5 o14 G5 => ?_)))
  have h5 := h0.gr A5 (by decide) G5
  have g6 := A5.get f6 (by decide)
  show Code.wp Tryz.prog (Code.cond _ _ _) _ a5 x5
  refine wp_cond_split o14 (fun q => ?_) (fun q => ?_)
  · have q : (k : Int) < r.1.length := of_decide_eq_true q
    have hkl : k < r.1.length := by omega
    have hmk : r.1[k]? = some r.1[k] := List.getElem?_eq_getElem hkl
    have htk : r.1.take (k + 1) = r.1.take k ++ [r.1[k]] := List.take_succ_eq_append_getElem hkl
    have hfl : ((r.1.take k).filter fun x => decide (x.1 ≠ m.1)).length ≤ 1000 := Nat.le_trans (List.length_filter_le _ _) (by rw [List.length_take]; omega)
    generalize r.1[k] = p at *
    have hfn : (r.1.take (k + 1)).filter (fun x => decide (x.1 ≠ m.1)) = (r.1.take k).filter (fun x => decide (x.1 ≠ m.1)) ++ (if p.1 = m.1 then [] else [p]) := by
      rw [htk, List.filter_append]
      by_cases e : p.1 = m.1 <;> simp [e]
    generalize (r.1.take k).filter (fun x => decide (x.1 ≠ m.1)) = ms at *
    obtain ⟨g, of, cap, hvs, hc⟩ := mems_at h5.hm k p hmk
    have hbb := h5.hb
    rw [show ringC v r = v :: ownV r.2 from rfl, hvs] at hbb
    have hlt := h5.hb.lt
    refine wp_skip ?_
    show Code.wp Tryz.prog (Code.seq _ _) _ a5 x5
    have fin : ∀ (Q' : Exit → Act → World → Prop) a7 x7 D v2, After D a5 a7 → D.contains 6 = false → Pu w b v r m v2 ((r.1.take (k + 1)).filter fun x => decide (x.1 ≠ m.1)) a7 x7 → (∀ a8 x8, Pu w b v r m v2 ((r.1.take (k + 1)).filter fun x => decide (x.1 ≠ m.1)) a8 x8 → a8.eval (.tmp 6) = .int .i64 ((k + 1 : Nat) : Int) → Q' .normal a8 x8) → (Code.region 5 q40_5 false).wp Tryz.prog Q' a7 x7 := fun Q' a7 x7 D v2 A7 hD h7 hQ =>
      r40_5 h7.z k (by omega) (A7.get g6 hD) (fun a8 x8 A8 o6' G8 => hQ a8 x8 (h7.gr A8 (by decide) G8) o6')
    have mea : ∀ a8 : Act, a8.eval (.tmp 6) = .int .i64 ((k + 1 : Nat) : Int) → r.1.length - (intOf (a8.eval (.tmp 6))).toNat < r.1.length - (intOf (a0.eval (.tmp 6))).toNat := fun a8 o6' => by
      rw [o6', f6]
      simp only [intOf]
      omega
    refine wp_seq (wp_block (wp_seq (r40_6 h5.z k r.1.length cap b (b + 1) g of p.1 m hkl r.2 hbb h5.h3 (fun y hy => (hc y (hy.mono (Nat.le_of_lt hlt))).1) h5.e2 g6 h5.e3 (fun a6 x6 A6 o25 G6 => ?_))))
    have h6 := h5.gr A6 (by decide) G6
    have i6 := A6.get g6 (by decide)
    show Code.wp Tryz.prog (Code.cond _ _ _) _ a6 x6
    refine wp_cond_split o25 (fun q => ?_) (fun q => ?_)
    · have q : ¬ p.1 = m.1 := of_decide_eq_true q
      rw [if_neg q] at hfn
      have hbb6 := h6.hb
      rw [show ringC v r = v :: ownV r.2 from rfl, hvs] at hbb6
      refine r40_7 h6.z k r.1.length cap b (b + 3) (b + 4) g of v' ms p r.2 hkl r.2 hbb6 (fun y hy => (hc y ((G6.trans hy).mono (Nat.le_of_lt hlt))).2) h6.hc h6.own (by omega) h6.sz (by omega) h6.e5 h6.e2 i6 (fun a7 x7 v2 A7 H7 W7 O7 => ?_)
      rw [← hfn] at H7 W7
      have h7 := h6.more A7 (by decide) H7 W7 O7
      show Code.wp Tryz.prog (Code.region 5 q40_5 false) _ a7 x7
      exact fin _ a7 x7 _ v2 (A6.trans A7) (by decide) h7 (fun a8 x8 h8 o8 => ⟨⟨k + 1, v2, h8, by omega, o8⟩, mea a8 o8⟩)
    · have q : p.1 = m.1 := by have := of_decide_eq_false q; omega
      rw [if_pos q, List.append_nil] at hfn
      rw [← hfn] at h6
      refine wp_skip ?_
      show Code.wp Tryz.prog (Code.region 5 q40_5 false) _ a6 x6
      exact fin _ a6 x6 _ v' A6 (by decide) h6 (fun a8 x8 h8 o8 => ⟨⟨k + 1, v', h8, by omega, o8⟩, mea a8 o8⟩)
  · have q : ¬ (k : Int) < r.1.length := of_decide_eq_false q
    have e : r.1.take k = r.1 := List.take_of_length_le (by omega)
    rw [e] at h5
    have hfl : (r.1.filter fun x => decide (x.1 ≠ m.1)).length ≤ 1000 := Nat.le_trans (List.length_filter_le _ _) hl
    have hP : putR r m = normL (r.1.filter (fun x => decide (x.1 ≠ m.1)) ++ [m], r.2) := rfl
    generalize putR r m = F at *
    generalize r.1.filter (fun x => decide (x.1 ≠ m.1)) = ms at *
    refine wp_exit ?_
    show Code.wp Tryz.prog (Code.seq _ _) _ a5 x5
    refine wp_seq (r40_8 h5.z (b + 1) (b + 3) (b + 4) v' ms m r.2 h5.h3 h5.hc h5.own (by omega) h5.sz (by omega) h5.e5 h5.e3 (fun a6 x6 v2 A6 H6 W6 O6 => ?_))
    have h6 := h5.more A6 (by decide) H6 W6 O6
    have hs6 := h6.sz
    show Code.wp Tryz.prog (Code.seq _ _) _ a6 x6
    refine wp_seq (r40_9 h6.z (b + 3) (b + 2) v2 (ms ++ [m], r.2) _ h6.hc ⟨mems_of_row h6.own, hR.own⟩ h6.h4 noC_len h6.e5 h6.e4 (fun a7 x7 A7 H7 U7 => ?_))
    rw [← hP] at H7
    obtain ⟨u7, hh7, R7, F7⟩ := H7
    have hg : Gr w x7 := by unfold Gr; rw [hwb]; exact h6.bl.trans (U7.below (by omega) (by omega))
    exact wp_ret (show bodyPost Tryz.prog Tryz.f40 (RetN w F) .ret a7 x7 from ret_ring (p := 4) (b := b + 2) (by kernel_rfl) (A7.defers.trans h6.df) (A7.get h6.e4 (by decide)) ⟨u7, hh7, R7, F7.mono (by omega)⟩ hg)
end Go.Proofs.YthmnjebmnocoiaaGreat.En
