/- What the second law calls; its script in memory. -/
import Derived.Test.YthmnjebmnocoiaaZGsSeq
import Derived.Test.YthmnjebmnocoiaaZGsLawT
namespace Go.Proofs.Ythmnjebmnocoiaa
open Go.RowKit

def absI (c : Int) : Int := if c < 0 then -(c + 1) else c
def pickN (c n : Int) : Nat := ((absI c).tmod n).toNat
theorem absI_ok {c : Int} (h : I64 c) : 0 ≤ absI c ∧ absI c ≤ 9223372036854775807 := by
  have h1 := h.1
  have h2 := h.2
  unfold absI
  split <;> omega
theorem pickN_is {c n : Int} (h : I64 c) (hn : 0 < n) : ((pickN c n : Nat) : Int) = (absI c).tmod n ∧ ((pickN c n : Nat) : Int) < n := by
  have h1 := absI_ok h
  have e : (absI c).tmod n = absI c % n := Int.tmod_eq_emod_of_nonneg h1.1
  have h2 : 0 ≤ absI c % n := Int.emod_nonneg _ (by omega)
  have h3 : absI c % n < n := Int.emod_lt_of_pos _ hn
  unfold pickN
  rw [e]
  omega
set_option maxRecDepth 100000 in
theorem pick_any (c n : Int) (hc : I64 c) (hn : 0 < n ∧ n ≤ 7) (w : World) : Calls Try.prog 14 #[.int .i64 c, .int .i64 n] w fun e w' => e = .returned (.int .i64 ((pickN c n : Nat) : Int)) ∧ w' = w := by
  have h1 := hc.1
  have h2 := hc.2
  rw [(pickN_is hc hn.1).1]
  have hn0 : ¬ n = 0 := by omega
  have hnb : (n == 0) = false := by simpa using hn0
  obtain ⟨n1, n2⟩ := hn
  unfold absI
  by_cases h : c < 0
  · rw [if_pos h]
    go_enter Try.func14, Try.ntmps14
    go_wp2
    go_ret
    refine ⟨?_, rfl⟩
    rw [Int.neg_tmod]; rfl
  · rw [if_neg h]
    go_enter Try.func14, Try.ntmps14
    go_wp2
    go_ret
    refine ⟨?_, rfl⟩
    rw [Int.tmod_eq_emod_of_nonneg h]; rfl
theorem c_pick (c n : Int) (hc : I64 c) (hn : 0 < n ∧ n ≤ 7) (v s : Value) (y : World) (h : (Fk.val (.int .i64 c)).holds v y) (hs : (Fk.val (.int .i64 n)).holds s y) : Calls Try.prog 14 #[v, s] y fun e z => ∃ u, e = .returned u ∧ Gr y z ∧ (Fk.val (.int .i64 ((pickN c n : Nat) : Int))).holds u z := by
  obtain rfl : v = .int .i64 c := h
  obtain rfl : s = .int .i64 n := hs
  exact (pick_any c n hc hn y).mono fun e z ⟨e1, e2⟩ => ⟨_, e1, by rw [e2]; exact Gr.refl _, rfl⟩
theorem c_new (v : Value) (y : World) (h : (Fk.val (.int .i64 1)).holds v y) : Calls Try.prog 13 #[v] y fun e z => ∃ u, e = .returned u ∧ Gr y z ∧ (Fk.ring aR).holds u z := by
  obtain rfl : v = .int .i64 1 := h
  have := new_any 1 y
  rw [lit_a] at this
  exact this.mono fun e z ⟨u, e1, e2, e3⟩ => ⟨_, e1, e3, u, rfl, e2⟩
theorem c_awake (y : World) : Calls Try.prog 5 #[] y fun e z => ∃ u, e = .returned u ∧ Gr y z ∧ (Fk.val (.bool true)).holds u z :=
  (k_awake y).mono fun _ _ ⟨e1, e2⟩ => ⟨_, e1, e2, rfl⟩
theorem c_bal (o ms : List Int) (ho : o.length = 8) (hl : ms.length ≤ 7) (hb : balL o ms = true) (v1 v2 : Value) (y : World) (h1 : (Fk.val (.agg (intV o).toArray)).holds v1 y) (h2 : Ints y.heap.size y v2 ms) : Calls Try.prog 18 #[v1, v2] y fun e z => ∃ u, e = .returned u ∧ Gr y z ∧ (Fk.val (.bool true)).holds u z := by
  obtain rfl : v1 = .agg (intV o).toArray := h1
  refine (balanced_any y.heap.size o ho v2 ms y h2 (Nat.le_refl _) (by omega)).mono fun e z ⟨e1, e2⟩ => ⟨_, e1, e2, ?_⟩
  rw [hb]; rfl
/-- A step of a script: its kind, at, from, node. -/
abbrev Ac := Int × Int × Int × Int
def acV (c : Ac) : List Value := [.int .i64 c.1, .int .i64 c.2.1, .int .i64 c.2.2.1, .int .i64 c.2.2.2]
structure AcFit (c : Ac) : Prop where
  kind : I64 c.1
  at_ : I64 c.2.1
  src : I64 c.2.2.1
  node : I64 c.2.2.2
/-- The script in memory, in a block below B. -/
structure Script (B : Nat) (w : World) (g of n cap : Nat) (l : List Ac) : Prop where
  len : l.length = n
  lt : g < B
  cell : ∀ i c, l[i]? = some c → w.rangeAt g (of + i * 4) (acV c)
theorem Script.below {B : Nat} {w w' : World} {g of n cap : Nat} {l : List Ac} (h : Script B w g of n cap l) (hb : Below B w w') : Script B w' g of n cap l :=
  ⟨h.len, h.lt, fun i c hc j v hv => by
    rw [World.cell?_of_block (w := w) (hb.block g h.lt)]
    exact h.cell i c hc j v hv⟩
section
variable {ops : Array Oper} {D : List Nat} {T : Nat → Fk} {a0 : Act} {w : World} {Q : Exit → Act → World → Prop} {o : Oper}
theorem siz42 : (Try.prog.info? 42).map (·.size) = some 4 := by kernel_rfl
theorem zero42 (w : World) : (zeroValue 42).run Try.prog w = .ok (.agg (acV (0, 0, 0, 0)).toArray) w := by kernel_rfl
theorem sa_ix39 (x1 x2 : Operand) (d g of n cap i : Nat) (hi : i < n) (ho : o.op = .indexAddr 39 x1 x2) (hd : o.dst = some d) (hg : o.guard = none) (h1 : Has ops D T a0 o x1 (.val (.slice (some ⟨g, of, none⟩) n cap))) (h2 : Has ops D T a0 o x2 (.val (.int .i64 (i : Int)))) (hT : T d = .val (.pointer (some ⟨g, of + i * 4, none⟩))) : StepAt ops D T a0 w Q o :=
  sa_run d _ hd hg hT fun f a y c => by
    have e1 : a.eval x1 = .slice (some ⟨g, of, none⟩) n cap := h1.get c
    have e2 : a.eval x2 = .int .i64 (i : Int) := h2.get c
    unfold execOp
    simp only [ho, e1, e2, Sem.run_bind, run_ix39 g of n cap i hi, Sem.run_pure, Result.andThen_ok]
theorem sa_load42 (x : Operand) (d g off : Nat) (c : Ac) (ho : o.op = .load 42 x) (hd : o.dst = some d) (hg : o.guard = none) (h : Has ops D T a0 o x (.val (.pointer (some ⟨g, off, none⟩)))) (hc : ∀ y, Gr w y → y.rangeAt g off (acV c)) (hT : T d = .val (.agg (acV c).toArray)) : StepAt ops D T a0 w Q o :=
  sa_run d _ hd hg hT fun f a y cx => by
    have e1 : a.eval x = .pointer (some ⟨g, off, none⟩) := h.get cx
    unfold execOp
    simp only [ho, e1, Sem.run_bind, run_loadAt_mid y g off 42 (acV c) _ (hc y cx.grown) Try.underlying42 rfl siz42, Sem.run_pure, Result.andThen_ok]
theorem sa_call2g (n : Nat) (x1 x2 : Operand) (tys : Array TypeId) (d : Nat) (k1 k2 : Fk) (ho : o.op = .call { callee := .value (.func n), args := #[x1, x2], argTypes := tys }) (hd : o.dst = some d) (hg : o.guard = none) (h1 : Has ops D T a0 o x1 k1) (h2 : Has ops D T a0 o x2 k2)
    (he : ∀ args w, (callFunc n args).run Try.prog w = .ok (.enter n args) w) (hc : ∀ v1 v2 y, Gr w y → k1.holds v1 y → k2.holds v2 y → Calls Try.prog n #[v1, v2] y fun e z => ∃ u, e = .returned u ∧ Gr y z ∧ (T d).holds u z) : StepAt ops D T a0 w Q o := fun f a y c => by
  refine ⟨wanted_none hg _, op_call n _ tys ho #[a.eval x1, a.eval x2] (by simp) he ((hc _ _ y c.grown (h1.get c) (h2.get c)).mono fun e z ⟨u, e1, e2, e3⟩ => ⟨u, e1, u, rfl, e2, fun d' hd' => ?_⟩)⟩
  rw [hd] at hd'
  cases hd'
  exact e3
theorem sa_len45 (x : Operand) (d : Nat) (b : Option Addr) (n cap : Nat) (ho : o.op = .call { callee := .builtin .len, args := #[x], argTypes := #[45] }) (hty : o.type = 3) (hd : o.dst = some d) (hg : o.guard = none) (h1 : Has ops D T a0 o x (.val (.slice b n cap))) (hT : T d = .val (.int .i64 (n : Int))) : StepAt ops D T a0 w Q o :=
  sa_run d _ hd hg hT fun f a y c => by
    have e : a.eval x = .slice b n cap := h1.get c
    obtain ⟨dst, op, ty, pos, af, gd⟩ := o
    simp only at ho hty
    subst ho
    subst hty
    exact run_len45 _ x _ _ _ _ b n cap y e
end
/-! Tails of regions: what is made and stored at their end. -/
theorem wpList_end {ops : Array Oper} {Q : Exit → Act → World → Prop} {a : Act} {w : World} (h : Q .normal a w) : wpList Try.prog ops Q [] a w := h
theorem tail_assign {ops : Array Oper} {Q : Exit → Act → World → Prop} {a : Act} {w : World} {st : Oper} (hg : st.guard = none) (x : Operand) (ho : st.op = .assign x) (h : Q .normal (a.put st.dst (a.eval x)) w) : wpList Try.prog ops Q [st] a w := by
  unfold wpList
  rw [if_pos (wanted_none hg _)]
  exact .inl (op_move x (.inr ho) h)
theorem tail_store29 {ops : Array Oper} {Q : Exit → Act → World → Prop} {a : Act} {w : World} {st : Oper} (hg : st.guard = none) (hd : st.dst = none) (sx sy g i : Nat) (ho : st.op = .store 28 (.tmp sx) (.tmp sy)) (hx : a.eval (.tmp sx) = .pointer (some ⟨g, i * 17, none⟩)) (l : List Rg) (hB : Bx w g l) (hi : i < 3) (r : Rg) (hy : (Fk.ring r).holds (a.eval (.tmp sy)) w)
    (h : ∀ w', Bx w' g (l.set i r) → (∀ B, B ≤ g → Below B w w') → Q .normal a w') : wpList Try.prog ops Q [st] a w := by
  obtain ⟨u, e, R⟩ := hy
  obtain ⟨old, h1, h2, h3⟩ := hB.put i hi u r R
  refine wpList_store_part hg 28 (.tmp sx) (.tmp sy) ho g (i * 17) hx (ringC u r) e 29 old h1 (by rw [siz28, ringC_len R]) h2 (ringC_one R) (fun w' ht => ?_)
  rw [hd]
  exact h w' (h3 w' ht) (fun B hb => ht.below hb)
theorem wp_store29 {Q : Exit → Act → World → Prop} {K : Act → World → Prop} {a : Act} {w : World} {st : Oper} (hd : st.dst = none) (sx sy g i : Nat) (ho : st.op = .store 28 (.tmp sx) (.tmp sy)) (hx : a.eval (.tmp sx) = .pointer (some ⟨g, i * 17, none⟩)) (l : List Rg) (hB : Bx w g l) (hi : i < 3) (r : Rg) (hy : (Fk.ring r).holds (a.eval (.tmp sy)) w)
    (h : ∀ w', Bx w' g (l.set i r) → (∀ B, B ≤ g → Below B w w') → K a w') : st.wp Try.prog a w K Q := by
  obtain ⟨u, e, R⟩ := hy
  obtain ⟨old, h1, h2, h3⟩ := hB.put i hi u r R
  refine wp_store_mid 28 (.tmp sx) (.tmp sy) ho g (i * 17) (ringC u r).toArray hx e (h1.there (i * 17) _ (by simpa using h2)) (by rw [siz28]; simp [ringC_len R]) (all_oneCell_toArray (ringC_one R)) ?_
  have ht := turned_setCells g (ringC u r) (i * 17) w old h1 h2
  rw [hd]
  exact h _ (h3 _ (by simpa using ht)) (fun B hb => by simpa using ht.below hb)
theorem tail_box28 {ops : Array Oper} {Q : Exit → Act → World → Prop} {a : Act} {w : World} {al st : Oper} (d sy : Nat) (hne : d ≠ sy) (hz : d < a.tmps.size) (ha : al.op = .alloc 28) (had : al.dst = some d) (hag : al.guard = none) (hg : st.guard = none) (hd : st.dst = none) (ho : st.op = .store 28 (.tmp d) (.tmp sy)) (r : Rg) (hy : (Fk.ring r).holds (a.eval (.tmp sy)) w)
    (h : ∀ g w', BoxIn w' g r → Gr w w' → Q .normal (a.put (some d) (.pointer (some ⟨g, 0, none⟩))) w') : wpList Try.prog ops Q [al, st] a w := by
  obtain ⟨u, e, R⟩ := hy
  refine wpList_alloc_new d had hag 28 ha w.heap.size rfl _ zero28 (fun y hy => ?_)
  refine wpList_store_all hg 28 (.tmp d) (.tmp sy) ho w.heap.size (put_eval_same hz) (ringC u r) ((put_eval_other hne).trans e) 28 _ hy.holds (by rw [siz28, ringC_len R]) (by rw [ringC_len R]; rfl) (ringC_one R) (fun z hz => ?_)
  rw [hd]
  have hb : Gr w z := hy.below.trans (hz.below (Nat.le_refl _))
  exact h _ z ⟨u, hz.holds, R.gr hb⟩ hb
theorem tail_act {ops : Array Oper} {Q : Exit → Act → World → Prop} {a : Act} {w : World} {al st : Oper} (d sy : Nat) (hne : d ≠ sy) (hz : d < a.tmps.size) (ha : al.op = .alloc 42) (had : al.dst = some d) (hag : al.guard = none) (hg : st.guard = none) (hd : st.dst = none) (ho : st.op = .store 42 (.tmp d) (.tmp sy)) (c : Ac) (hy : a.eval (.tmp sy) = .agg (acV c).toArray)
    (h : ∀ g w', Holds w' g (acV c) 42 → Gr w w' → Q .normal (a.put (some d) (.pointer (some ⟨g, 0, none⟩))) w') : wpList Try.prog ops Q [al, st] a w := by
  refine wpList_alloc_new d had hag 42 ha w.heap.size rfl _ zero42 (fun y hy' => ?_)
  refine wpList_store_all hg 42 (.tmp d) (.tmp sy) ho w.heap.size (put_eval_same hz) (acV c) ((put_eval_other hne).trans hy) 42 _ hy'.holds (by rw [siz42]; rfl) rfl (fun u hu => by simp [acV] at hu; rcases hu with rfl | rfl | rfl | rfl <;> rfl) (fun z hz => ?_)
  rw [hd]
  exact h _ z hz.holds (hy'.below.trans (hz.below (Nat.le_refl _)))
theorem zero29 (w : World) : (zeroValue 29).run Try.prog w = .ok (.agg (flatR [(.slice none 0 0, noR), (.slice none 0 0, noR), (.slice none 0 0, noR)]).toArray) w := by kernel_rfl
theorem noR_box (B : Nat) (w : World) : RingAt B w (.slice none 0 0) noR := ⟨mems_nil B w, rfl⟩
theorem tail_box29 {ops : Array Oper} {Q : Exit → Act → World → Prop} {a : Act} {w : World} {al : Oper} (d : Nat) (ha : al.op = .alloc 29) (had : al.dst = some d) (hag : al.guard = none)
    (h : ∀ w', Bx w' w.heap.size [noR, noR, noR] → Gr w w' → Q .normal (a.put (some d) (.pointer (some ⟨w.heap.size, 0, none⟩))) w') : wpList Try.prog ops Q [al] a w := by
  refine wpList_alloc_new d had hag 29 ha w.heap.size rfl _ zero29 (fun y hy => ?_)
  exact h y ⟨⟨_, rfl, rfl, hy.holds, fun p hp => by simp at hp; subst hp; exact noR_box _ _⟩⟩ hy.below
theorem put_after {a0 a : Act} {D : List Nat} {d : Nat} {v : Value} (h : After D a0 a) : After (d :: D) a0 (a.put (some d) v) := ⟨by show (a.tmps.setIfInBounds d v).size = _; rw [Array.size_setIfInBounds]; exact h.size, h.defers, fun s hs => by
  rw [put_eval_other (fun e => hs (by simp [e]))]
  exact h.old s (fun q => hs (by simp [q]))⟩
end Go.Proofs.Ythmnjebmnocoiaa
