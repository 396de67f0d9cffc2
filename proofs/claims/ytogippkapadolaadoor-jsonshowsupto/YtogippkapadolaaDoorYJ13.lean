/- JsInt, EngY, JsLay. -/
import Derived.Lib.AppendStr
import Derived.Lib.AppendIntMem
import Derived.Test.YtogippkapadolaaDoorYJ6
import Derived.Test.YtogippkapadolaaDoorYJ8
import Derived.Test.YtogippkapadolaaDoorYJ4
import Derived.Test.YtogippkapadolaaDoorYJ12
/- A number and a truth value, appended to a row of bytes. -/
namespace Go.Proofs.YtogippkapadolaaDoor
open Go.RowKit

theorem app_str_own {w w' : World} {B : Nat} {u v' : Value} {l : List UInt8} {s : ByteArray} {ty : TypeId} (hown : Out B w u l) (h0 : 0 < s.size) (hlim : l.length + s.size ≤ 140737488355327)
    (hr : (Builtin.append_ #[55, 9] ty #[u, .string s]).run Tryd.prog w = .ok v' w') : ∀ k, v'.ownBlock = some k → u.ownBlock = some k ∨ w.heap.size ≤ k := by
  obtain ⟨i, i1, i2, i3, i4⟩ := inf5
  intro k hk
  rcases hown.2 with ⟨rfl, _⟩ | ⟨g, cap, cur, rfl, hbg, hg, hnc, hcm, hcs, htake⟩
  · rw [run_append_nil_string (P := Tryd.prog) w 55 9 ty 5 i (.int .u8 0) und55 Tryd.underlying9 i1 i2 s (by omega) (by omega) (by rw [i4]; omega)] at hr
    cases hr
    cases hk
    exact .inr (Nat.le_refl _)
  · by_cases hroom : l.length + s.size ≤ cap
    · rw [Lib.run_append_room_string (P := Tryd.prog) w 55 9 ty 5 i und55 Tryd.underlying9 i1 i3 g l.length cap cur hg s hroom (by omega)] at hr
      cases hr
      cases hk
      exact .inl rfl
    · rw [Lib.run_append_grow_string (P := Tryd.prog) w 55 9 ty 5 i (.int .u8 0) und55 Tryd.underlying9 i1 i2 ⟨g, 0, none⟩ l.length cap (l.map byteV) (by rw [i3]; simp) (hown.cells (g := g) rfl) s (by omega) (by omega) (by rw [i4]; exact growslice_fits (by omega) (by omega))] at hr
      cases hr
      cases hk
      exact .inr (Nat.le_refl _)
theorem wpl_app55s {w : World} {ops : Array Oper} {rest : List Oper} {o : Oper} {a : Act} {Q : Exit → Act → World → Prop} (hgd : o.guard = none) (s x : Operand) (ho : o.op = .call { callee := .builtin .append, args := #[s, x], argTypes := #[55, 9] })
    (B : Nat) (u : Value) (l news : List UInt8) (hown : Out B w u l) (hs : a.eval s = u) (hx : a.eval x = .string (strL news)) (hm : 0 < news.length)
    (hlim : l.length + news.length ≤ 140737488355327) (hB : B ≤ w.heap.size) (h : ∀ u' w', Out B w' u' (l ++ news) → Ap B w u w' u' → wpList Tryd.prog ops Q rest (a.put o.dst u') w') : wpList Tryd.prog ops Q (o :: rest) a w :=
  wpList_plain hgd fun K hK => by
    obtain ⟨i, i1, i2, i3, i4⟩ := inf5
    obtain ⟨v', w', hr, h1, h2, _⟩ := Lib.run_append_own_string (P := Tryd.prog) w B 55 9 o.type 5 i und55 Tryd.underlying9 i1 i2 i3 i4 u l.length (l.map byteV) hown (strL news) (by unfold maxLen; rw [strL_size]; omega) (by rw [strL_size]; omega) hB
    have h3 := app_str_own hown (by rw [strL_size]; exact hm) (by rw [strL_size]; exact hlim) hr
    unfold Oper.wp execOp
    simp only [ho, resolve, invoke, builtin, Sem.run_bind, Sem.run_pure, Result.andThen_ok, List.map_toArray, List.map_cons, List.map_nil, hs, hx, hr]
    refine hK _ _ (h v' w' ?_ ⟨grown_below h2 hB (fun j hj => own_base hown j hj), h2, h3⟩)
    unfold Out
    rw [List.length_append, List.map_append]
    exact h1
theorem appBool_any {B : Nat} {w : World} {u : Value} {l : List UInt8} {b : Bool} (h : Out B w u l) (hB : B ≤ w.heap.size) (hlim : l.length + 10 ≤ 140737488355327) :
    Calls Tryd.prog 40 #[u, .bool b] w fun e w' => ∃ v, e = .returned v ∧ Out B w' v (l ++ (if b then [116, 114, 117, 101] else [102, 97, 108, 115, 101])) ∧ Ap B w u w' v := by
  have hl1 : l.length + [(116 : UInt8), 114, 117, 101].length ≤ 140737488355327 := by simp; omega
  have hl2 : l.length + [(102 : UInt8), 97, 108, 115, 101].length ≤ 140737488355327 := by simp; omega
  have h62 : Calls Tryd.prog 62 #[u, .bool b] w fun e w' => ∃ v, e = .returned v ∧ Out B w' v (l ++ (if b then [116, 114, 117, 101] else [102, 97, 108, 115, 101])) ∧ Ap B w u w' v := by
    cases b with
    | true =>
      go_enter Tryd.func62, Tryd.ntmps62
      go_wp2_with (at_builtin; refine wpl_app55s rfl (.tmp 6) (.const _) rfl B u l [116, 114, 117, 101] h rfl rfl (by decide) hl1 hB ?_; intro u' w' h1 h2)
      go_ret
      exact ⟨_, rfl, h1, h2⟩
    | false =>
      go_enter Tryd.func62, Tryd.ntmps62
      go_wp2_with (at_builtin; refine wpl_app55s rfl (.tmp 8) (.const _) rfl B u l [102, 97, 108, 115, 101] h rfl rfl (by decide) hl2 hB ?_; intro u' w' h1 h2)
      go_ret
      exact ⟨_, rfl, h1, h2⟩
  clear h
  generalize (if b = true then ([116, 114, 117, 101] : List UInt8) else [102, 97, 108, 115, 101]) = X at h62 ⊢
  go_enter Tryd.func40, Tryd.ntmps40
  go_wp2_with (go_at_call 62; refine h62.mono ?_; rintro e w' ⟨v, rfl, h1, h2⟩)
  go_ret
  exact ⟨_, rfl, h1, h2⟩
set_option maxHeartbeats 1000000 in
set_option maxRecDepth 100000 in
theorem appUint_small {B : Nat} {w : World} {u : Value} {l : List UInt8} {n : Nat} (hn : n < 100) (h : Out B w u l) (hB : B ≤ w.heap.size) (hlim : l.length + 30 ≤ 140737488355327) :
    Calls Tryd.prog 75 #[u, .int .u64 (n : Int), .int .i64 10] w fun e w' => ∃ v, e = .returned v ∧ Out B w' v (l ++ Lib.decDigits n) ∧ Ap B w u w' v := by
  have hs := Tryd.internal_strconv_small n hn w
  have hd : 0 < (Lib.decDigits n).length ∧ (Lib.decDigits n).length ≤ 20 := by
    rw [Lib.decDigits_length]
    have : Lib.nDigits n ≤ 20 ∧ 0 < Lib.nDigits n := by
      rcases Nat.eq_zero_or_pos n with q | q
      · subst q; unfold Lib.nDigits; simp
      · have := Lib.numDigits_eq n q (by omega)
        constructor
        · split at this <;> omega
        · have := Lib.lt_pow_nDigits n
          rcases Nat.eq_zero_or_pos (Lib.nDigits n) with z | z
          · rw [z] at this; omega
          · exact z
    exact ⟨this.2, this.1⟩
  have hl1 : l.length + (Lib.decDigits n).length ≤ 140737488355327 := by omega
  have g1 : (n : Int) < 100 := by omega
  have hs : Calls Tryd.prog 76 #[.int .i64 (n : Int)] w fun e w' => e = .returned (.string (strL (Lib.decDigits n))) ∧ w' = w := hs
  have hn64 : (n : Int) < 9223372036854775808 := by omega
  generalize Lib.decDigits n = D at *
  go_enter Tryd.func75, Tryd.ntmps75
  go_wp2_with (first
    | (go_at_call 76; refine hs.mono ?_; rintro e w' ⟨rfl, rfl⟩)
    | (at_builtin; refine wpl_app55s rfl (.tmp 13) (.tmp 16) rfl B u l D h rfl rfl hd.1 hl1 hB ?_; intro u' w' h1 h2))
  go_ret
  exact ⟨_, rfl, h1, h2⟩
theorem und100 : Tryd.prog.underlying 100 = some (.array 24 5) := by kernel_rfl
set_option maxHeartbeats 1000000 in
set_option maxRecDepth 100000 in
theorem appUint_big {B : Nat} {w : World} {u : Value} {l : List UInt8} {n : Nat} (hn : 100 ≤ n) (hn64 : n < 18446744073709551616) (h : Out B w u l) (hB : B ≤ w.heap.size) (hlim : l.length + 30 ≤ 140737488355327) (htab : Lib.TabIs Tryd.prog w "internal/strconv.uint64pow10" .u64 Lib.pow10Tab) :
    Calls Tryd.prog 75 #[u, .int .u64 (n : Int), .int .i64 10] w fun e w' => ∃ v, e = .returned v ∧ Out B w' v (l ++ Lib.decDigits n) ∧ Ap B w u w' v := by
  have h20 : Lib.nDigits n ≤ 20 := by have := Lib.numDigits_eq n (by omega) hn64; split at this <;> omega
  have hpos : 0 < Lib.nDigits n := by
    rcases Nat.eq_zero_or_pos (Lib.nDigits n) with z | z
    · have := Lib.lt_pow_nDigits n
      rw [z] at this; omega
    · exact z
  have hlen := Lib.decDigits_length n
  have hnd := Tryd.internal_strconv_numDigits n (by omega) hn64 (w.alloc (.cells Lib.zeros24 100)) (Lib.tabIs_alloc htab _)
  have hzero := Lib.holds_zero0 w 100 (Lib.nDigits n) (by omega)
  have hfm := Tryd.internal_strconv_formatBase10 w.heap.size 0 24 n (Array.replicate (Lib.nDigits n) 0) (w.alloc (.cells Lib.zeros24 100)) hzero (by rw [Array.size_replicate]; exact Lib.lt_pow_nDigits n) hn64 (by rw [Array.size_replicate]; omega)
  rw [Array.size_replicate] at hfm
  -- what formatBase10 leaves, told by the numeral's cells alone
  have hfm : Calls Tryd.prog 78 #[.slice (some ⟨w.heap.size, 0, none⟩) (Lib.nDigits n) 24, .int .u64 (n : Int)] (w.alloc (.cells Lib.zeros24 100)) fun e z => e = .returned (.tuple #[]) ∧ Gr w z ∧ ∀ j v, ((Lib.decDigits n).map byteV)[j]? = some v → z.cell? ((⟨w.heap.size, 0, none⟩ : Addr).add j) = some v := by
    refine hfm.mono ?_
    rintro e z ⟨rfl, k, v', dk, rfl, hF⟩
    obtain ⟨os, eo⟩ := Lib.fin_at w (.cells Lib.zeros24 100) dk k 0
    refine ⟨rfl, by rw [eo]; exact Lib.below_grow w.heap.size w (Nat.le_refl _) k os, fun j v hv => ?_⟩
    rw [List.getElem?_map] at hv
    obtain ⟨x, hx, rfl⟩ := Option.map_eq_some_iff.1 hv
    have hj : j < (Lib.decDigits n).length := (List.getElem?_eq_some_iff.1 hx).1
    have hjx : (Lib.decDigits n)[j] = x := (List.getElem?_eq_some_iff.1 hx).2
    have hr := Lib.row_is_numeral hF j hj
    rw [hjx] at hr
    subst hr
    rw [Lib.add_plain, World.cell?_drewN]
    exact Go.Sort.cell?_putRow (fun (b : UInt8) => Value.int .u8 (b.toNat : Int)) _ w.heap.size 0 _ dk hzero (by rw [hF.size, Array.size_replicate]) j (by rw [hF.size, ← hlen]; exact hj)
  have hsl : ∀ W, (Instr.sliceAt 100 (.pointer (some ⟨w.heap.size, 0, none⟩)) none (some (.int .i64 (Lib.nDigits n : Int))) none).run Tryd.prog W = .ok (.slice (some ⟨w.heap.size, 0, none⟩) (Lib.nDigits n) 24) W := fun W => by
    rw [run_sliceAt_array_h W 100 ⟨w.heap.size, 0, none⟩ (by kernel_rfl) .i64 (Lib.nDigits n : Int) (by omega) (by show _ ≤ ((24 : Nat) : Int); omega)]
    simp [go_sem]
  have g1 : ¬ (n : Int) < 100 := by omega
  have hl1 : l.length + (Lib.decDigits n).length ≤ 140737488355327 := by omega
  have hm : 0 < (Lib.decDigits n).length := by omega
  rw [← hlen] at hsl hnd hfm
  clear hlen hzero h20 hpos
  generalize Lib.decDigits n = D at *
  go_enter Tryd.func75, Tryd.ntmps75
  go_wp2_with (first
    | (go_at_call 77; refine hnd.mono ?_; rintro e w' ⟨rfl, rfl⟩)
    | (go_at_call 78; refine hfm.mono ?_; rintro e z ⟨rfl, hgz, hcz⟩)
    | (at_builtin; refine wpl_app55 rfl (.tmp 24) (.tmp 26) rfl B u l D (h.gr hgz) rfl ⟨w.heap.size, 0, none⟩ 24 rfl hcz hm hl1 (Nat.le_trans hB hgz.size) ?_; intro u' w' h1 h2))
  go_ret
  exact ⟨_, rfl, h1, (Ap.ofGr u hgz hB).trans h2⟩
theorem appUint_any {B : Nat} {w : World} {u : Value} {l : List UInt8} {n : Nat} (hn64 : n < 18446744073709551616) (h : Out B w u l) (hB : B ≤ w.heap.size) (hlim : l.length + 30 ≤ 140737488355327) (htab : Tab B w) :
    Calls Tryd.prog 75 #[u, .int .u64 (n : Int), .int .i64 10] w fun e w' => ∃ v, e = .returned v ∧ Out B w' v (l ++ Lib.decDigits n) ∧ Ap B w u w' v := by
  rcases Nat.lt_or_ge n 100 with q | q
  · exact appUint_small q h hB hlim
  · exact appUint_big q hn64 h hB hlim htab.here
set_option maxHeartbeats 1000000 in
set_option maxRecDepth 100000 in
theorem appInt_any {B : Nat} {w : World} {u : Value} {l : List UInt8} {i : Int} (h0 : -9223372036854775808 ≤ i) (h1 : i ≤ 9223372036854775807) (h : Out B w u l) (hB : B ≤ w.heap.size) (hlim : l.length + 40 ≤ 140737488355327) (htab : Tab B w) :
    Calls Tryd.prog 41 #[u, .int .i64 i, .int .i64 10] w fun e w' => ∃ v, e = .returned v ∧ Out B w' v (l ++ Lib.itoa i) ∧ Ap B w u w' v := by
  have h63 : Calls Tryd.prog 63 #[u, .int .i64 i, .int .i64 10] w fun e w' => ∃ v, e = .returned v ∧ Out B w' v (l ++ Lib.itoa i) ∧ Ap B w u w' v := by
    unfold Lib.itoa
    by_cases hi : i < 0
    · rw [if_pos hi]
      obtain ⟨m, hm⟩ : ∃ m : Nat, (m : Int) = -i := ⟨(-i).toNat, by omega⟩
      have hma : i.natAbs = m := by omega
      rw [hma]
      have hcv : ∀ w, (convert 2 90 (.int .i64 i)).run Tryd.prog w = .ok (.int .u64 (i + 18446744073709551616)) w := fun w => by
        have e : IntKind.u64.wrap i = i + 18446744073709551616 := by rw [wrap_u64]; omega
        simp [convert, run_underlying Tryd.underlying2, run_underlying Tryd.underlying90, Conv.intToInt, e]
      have hng : IntKind.u64.wrap (-(i + 18446744073709551616)) = (m : Int) := by rw [wrap_u64]; omega
      generalize i + 18446744073709551616 = U at hcv hng
      have hn1 := new_bytes w [45] (0, 0)
      have hb1 := Ap.new u hB (.cells #[.int .u8 45] 5)
      have hO1 : Out B (w.alloc (.cells #[.int .u8 45] 5)) u l := h.gr (Gr.alloc _ _)
      have hB1 : B ≤ (w.alloc (.cells #[.int .u8 45] 5)).heap.size := by simp; omega
      have hl1 : l.length + [(45 : UInt8)].length ≤ 140737488355327 := by simp; omega
      have hun : ∀ z v, Out B z v (l ++ [45]) → B ≤ z.heap.size → Below B w z → Calls Tryd.prog 75 #[v, .int .u64 (m : Int), .int .i64 10] z fun e w' => ∃ v', e = .returned v' ∧ Out B w' v' (l ++ [45] ++ Lib.decDigits m) ∧ Ap B z v w' v' := fun z v hz hBz hb => appUint_any (by omega) hz hBz (by simp; omega) (htab.of hb)
      have g1 : i < 0 := hi
      clear h htab h0 h1 hi hma hm
      go_enter Tryd.func63, Tryd.ntmps63
      go_wp2_with (first
        | (at_builtin; refine wpl_app55 rfl (.tmp 12) (.tmp 13) rfl B u l [45] hO1 rfl ⟨w.heap.size, 0, none⟩ 1 rfl hn1 (Nat.zero_lt_succ _) hl1 hB1 ?_; intro u2 w2 hO2 hb2; have hB2 := Nat.le_trans hB1 hb2.size; have hb12 := hb1.trans hb2)
        | (go_at_call 75; refine (hun _ _ hO2 hB2 hb12.below).mono ?_; rintro e w3 ⟨v3, rfl, hO3, hb3⟩))
      go_ret
      refine ⟨_, rfl, ?_, hb12.trans hb3⟩
      simpa using hO3
    · rw [if_neg hi]
      obtain ⟨m, hm⟩ : ∃ m : Nat, (m : Int) = i := ⟨i.toNat, by omega⟩
      subst hm
      have hcv : ∀ w, (convert 2 90 (.int .i64 (m : Int))).run Tryd.prog w = .ok (.int .u64 (m : Int)) w := conv_u64 Tryd.underlying2 Tryd.underlying90 (by omega) (by omega)
      have hun := appUint_any (n := m) (by omega) h hB (by omega) htab
      have e : ((m : Int)).toNat = m := by omega
      rw [e]
      clear h htab
      go_enter Tryd.func63, Tryd.ntmps63
      go_wp2_with (go_at_call 75; refine hun.mono ?_; rintro e w3 ⟨v3, rfl, hO3, hb3⟩)
      go_ret
      exact ⟨_, rfl, hO3, hb3⟩
  clear h htab
  generalize Lib.itoa i = X at h63 ⊢
  go_enter Tryd.func41, Tryd.ntmps41
  go_wp2_with (go_at_call 63; refine h63.mono ?_; rintro e w' ⟨v, rfl, h1, h2⟩)
  go_ret
  exact ⟨_, rfl, h1, h2⟩
end Go.Proofs.YtogippkapadolaaDoor

/- The engine: as EngX, the thing's state told of the slots, too (a row that is appended to, by its slot). -/
namespace Go.Proofs.YtogippkapadolaaDoor
open Go.RowKit
variable {P : Program} {ops : Array Oper} {Q : Exit → Act → World → Prop} {R : World → World → Prop}
/-- An operation that takes the thing from its state k to the next one. -/
def StepY (P : Program) (ops : Array Oper) (D : List Nat) (T : Nat → FactR R) (S : Nat → Act → World → Prop) (a0 : Act) (w : World) (Q : Exit → Act → World → Prop) (k : Nat) (o : Oper) : Prop :=
  ∀ f a x, CtxR ops D T a0 w o f a x → S k a x → Region.wanted o (yielded ops a.tmps) = true ∧ o.wp P a x (fun a' y => ∃ v, a' = a.put o.dst v ∧ R x y ∧ S (k + 1) (a.put o.dst v) y ∧ ∀ d, o.dst = some d → (T d).holds v y) Q
structure MidY (ops : Array Oper) (D C : List Nat) (T : Nat → FactR R) (S : Nat → Act → World → Prop) (a0 : Act) (w : World) (f : Env) (listed : Array Bool) (a : Act) (x : World) : Prop where
  over : Over a0 f a
  grown : R w x
  fact : ∀ s v, f s = some v → (T s).holds v x
  done : ∀ (j : Nat) (o : Oper) (d : Nat), ops[j]? = some o → listed.getD j false = true → o.dst = some d → (f d).isSome = true
  out : ∀ s, s ∉ D → f s = none
  closed : ∀ (j : Nat) (o : Oper), ops[j]? = some o → listed.getD j false = true → ∀ e ∈ o.after, Region.binds .any e = true → listed.getD e.on false = true
  st : ∃ k, k ≤ C.length ∧ S k a x ∧ ∀ j d, C[j]? = some d → (listed.getD d false = true ↔ j < k)
theorem drawn_iy {id : Nat} {a0 : Act} {w : World} (rt : ∀ {x y z}, R x y → R y z → R x z) (rg : ∀ {x y}, Gr x y → R x y) (hm : P.follows .mixedOrders = true) (hlex : lexOk ops = true) (m : Nat) (hsz : m < ops.size) (hcov : coverB ops m = true) (hch : chainB ops m = true) (D C : List Nat) (hCn : C.Nodup) (T : Nat → FactR R) (S : Nat → Act → World → Prop) (CD : List Nat)
    (hD : ((ops.toList.take m).all fun o => match o.dst with | some d => D.contains d | none => true) = true) (hC : (C.all fun i => decide (i < m)) = true)
    (s0 : S 0 a0 w) (sg : ∀ {k a x y}, S k a x → Gr x y → ∀ (d : Option Nat) (v : Value), (∀ s, d = some s → CD.contains s = false) → S k (a.put d v) y) (sd : S 0 a0 w → S 0 a0 w.drew)
    (hstep : ∀ i, i < m → ∃ o, ops[i]? = some o ∧ ((StepR P ops D T a0 w Q o ∧ C.contains i = false ∧ ∀ s, o.dst = some s → CD.contains s = false) ∨ ∃ c, C[c]? = some i ∧ (c = 0 ∨ ∃ i', C[c - 1]? = some i' ∧ edgeB ops i i' = true) ∧ StepY P ops D T S a0 w Q c o))
    (hend : ∀ (a : Act) (x : World), After D a0 a → R w x → S C.length a x → (∀ s, dstsB ops m s = true → s < a0.tmps.size → (T s).holds (a.eval (.tmp s)) x) → wpList P ops Q (ops.toList.drop m) a x) :
    (Code.region id ops true).wp P Q a0 w := by
  refine wp_region_any hm ?_
  have key : ∀ (fuel : Nat) (listed : Array Bool) (f : Env) (a : Act) (x : World), listed.size = ops.size → (unlisted ops listed).length ≤ fuel → listed.getD m true = false → MidY ops D C T S a0 w f listed a x → wpAny P .any ops Q fuel listed a x := by
    intro fuel
    induction fuel with
    | zero =>
      intro listed f a x hz hu hl h
      have : m ∈ unlisted ops listed := List.mem_filter.2 ⟨List.mem_range.2 (by omega), by rw [hl]; rfl⟩
      have hnil : unlisted ops listed = [] := List.eq_nil_of_length_eq_zero (by omega)
      rw [hnil] at this; cases this
    | succ fuel ih =>
      intro listed f a x hz hu hlm h
      refine ⟨fun hr => ?_, fun i hi => ?_⟩
      · have := all_listed hlex hz hr m (by omega)
        rw [hlm] at this; cases this
      · obtain ⟨h0, o, ho, haf⟩ := mem_ready.1 hi
        have hil := (Array.getElem?_eq_some_iff.1 ho).1
        have hif : listed.getD i false = false := by
          have hs : i < listed.size := by omega
          simpa [hs] using h0
        by_cases him : i = m
        · subst him
          have hall : ∀ n j, i ≤ j + n → j < i → listed.getD j false = true := by
            intro n
            induction n with
            | zero => intro j h1 h2; omega
            | succ n ihn =>
              intro j h1 h2
              obtain ⟨k, ok, e, hjk, hk, hok, he, hb, hon⟩ := cover_spec hcov h2
              by_cases hki : k = i
              · subst hki
                rw [ho] at hok
                cases hok
                have := haf e he hb
                rw [hon] at this; exact this
              · have := h.closed k ok hok (ihn k (by omega) (by omega)) e he hb
                rw [hon] at this; exact this
          have hall : ∀ j, j < i → listed.getD j false = true := fun j hj => hall i j (by omega) hj
          have hfil : ∀ s, dstsB ops i s = true → (f s).isSome = true := fun s hs => by
            obtain ⟨oj, hoj, hd⟩ := List.any_eq_true.1 hs
            have hd := of_decide_eq_true hd
            obtain ⟨j, hj⟩ := List.mem_iff_getElem?.1 hoj
            have hjk : j < i := by
              have := (List.getElem?_eq_some_iff.1 hj).1
              simp at this; omega
            rw [List.getElem?_take_of_lt hjk] at hj
            exact h.done j oj s (by simpa using hj) (hall j hjk) hd
          obtain ⟨k, hkC, hSk, hk⟩ := h.st
          have hkl : k = C.length := by
            rcases Nat.eq_zero_or_pos C.length with q | q
            · omega
            · have hl1 : C.length - 1 < C.length := by omega
              have hc : C[C.length - 1]? = some C[C.length - 1] := List.getElem?_eq_getElem hl1
              have hlt := of_decide_eq_true (List.all_eq_true.1 hC _ (List.getElem_mem hl1))
              have := (hk _ _ hc).1 (hall _ hlt)
              omega
          have hwl : wpList P ops Q (ops.toList.drop i) a x := hend a x (h.over.after h.out) h.grown (hkl ▸ hSk) (fun s hs hsz' => by
            obtain ⟨v, hv⟩ := Option.isSome_iff_exists.1 (hfil s hs)
            rw [h.over.get hsz' hv]
            exact h.fact s v hv)
          have hlate : ∀ j, i ≤ j → j < ops.size → listed.getD j true = false := fun j h1 h2 => by
            cases hl : listed.getD j true with
            | false => rfl
            | true =>
              exfalso
              have hbad := late_closed hch h.closed j h1 h2 (by
                have hs : j < listed.size := by omega
                simp [hs] at hl ⊢; exact hl)
              have hs : i < listed.size := by omega
              simp [hs] at hlm hbad
              rw [hlm] at hbad; cases hbad
          have := (any_of_list hlex hch (ops.size - i) i (fuel + 1) listed a x (by omega) hz (by
            have h9 : (unlisted ops listed).length ≤ fuel + 1 := hu
            have h8 : ops.size - i ≤ (unlisted ops listed).length := late_len hlate
            omega) hall hlate hwl (Nat.le_refl _)).2 i hi
          exact this
        · have hlt' : i < m := by
            rcases Nat.lt_or_ge i m with q | q
            · exact q
            · exfalso
              obtain ⟨o1, e1, ho1, he1, hb1, hon⟩ := chain_spec hch (show m < i by omega) hil
              rw [ho] at ho1
              cases ho1
              have h1 := haf e1 he1 hb1
              rw [hon] at h1
              have hbad := late_closed hch h.closed (i - 1) (by omega) (by omega) h1
              have hs : m < listed.size := by omega
              simp [hs] at hlm hbad
              rw [hlm] at hbad; cases hbad
          have hmem : o ∈ ops.toList.take m := by
            rw [List.mem_iff_getElem?]
            exact ⟨i, by rw [List.getElem?_take_of_lt (by omega)]; simpa using ho⟩
          have hneed : ∀ s, needsB ops o s = true → (f s).isSome = true := fun s hs => by
            obtain ⟨e, he, hb⟩ := List.any_eq_true.1 hs
            rw [Bool.and_eq_true] at hb
            have b2 := of_decide_eq_true hb.2
            cases hoj : ops[e.on]? with
            | none => rw [hoj] at b2; cases b2
            | some oj =>
              rw [hoj] at b2
              exact h.done e.on oj s hoj (haf e (by simpa using he) hb.1) b2
          have hc : CtxR ops D T a0 w o f a x := ⟨h.over, h.grown, fun s hs => by
            obtain ⟨v, hv⟩ := Option.isSome_iff_exists.1 (hneed s hs)
            exact ⟨v, hv, h.fact s v hv⟩, h.out⟩
          have hDo : ∀ d, o.dst = some d → d ∈ D := fun d hd => by
            have := List.all_eq_true.1 hD o hmem
            rw [hd] at this
            simpa using this
          have hun : i ∈ unlisted ops listed := List.mem_filter.2 ⟨List.mem_range.2 hil, by rw [h0]; rfl⟩
          have hlt : (unlisted ops (listed.setIfInBounds i true)).length < (unlisted ops listed).length := by
            have hsub : unlisted ops (listed.setIfInBounds i true) = (unlisted ops listed).filter fun j => decide (j ≠ i) := by
              unfold unlisted
              rw [List.filter_filter]
              apply List.filter_congr
              intro j hj
              by_cases e : i = j
              · subst e
                have : i < listed.size := by omega
                simp [this]
              · rw [getD_set_ne true e]
                have e' : ¬ j = i := fun q => e q.symm
                simp [e']
            rw [hsub]
            exact List.length_filter_lt_length_iff_exists.2 ⟨i, hun, by simp⟩
          have next : ∀ (v : Value) (y : World), R x y → (∃ k, k ≤ C.length ∧ S k (a.put o.dst v) y ∧ ∀ j d, C[j]? = some d → ((listed.setIfInBounds i true).getD d false = true ↔ j < k)) → (∀ d, o.dst = some d → (T d).holds v y) → wpAny P .any ops Q fuel (listed.setIfInBounds i true) (a.put o.dst v) y := fun v y r1 hst f1 => by
            refine ih (listed.setIfInBounds i true) (putE f o.dst v) _ y (by simp [hz]) (by omega) (by rw [getD_set_ne true him]; exact hlm) ⟨h.over.put o.dst v, rt h.grown r1, fun s u hs => ?_, fun j oj d hoj hl hd => ?_, fun s hs => ?_, fun j oj hoj hl e he hb => ?_, hst⟩
            · unfold putE at hs
              by_cases e : o.dst = some s
              · rw [if_pos e] at hs
                cases hs
                exact f1 s e
              · rw [if_neg e] at hs
                exact (T s).mono (h.fact s u hs) r1
            · unfold putE
              by_cases e : o.dst = some d
              · rw [if_pos e]; rfl
              · rw [if_neg e]
                by_cases hji : i = j
                · subst hji
                  rw [ho] at hoj
                  cases hoj
                  exact absurd hd e
                · rw [getD_set_ne false hji] at hl
                  exact h.done j oj d hoj hl hd
            · unfold putE
              by_cases e : o.dst = some s
              · exact absurd (hDo s e) hs
              · rw [if_neg e]; exact h.out s hs
            · have hle : listed.getD e.on false = true := by
                by_cases hji : i = j
                · subst hji
                  rw [ho] at hoj
                  cases hoj
                  exact haf e he hb
                · rw [getD_set_ne false hji] at hl
                  exact h.closed j oj hoj hl e he hb
              by_cases q : i = e.on
              · have : i < listed.size := by omega
                rw [← q]; simp [this]
              · rw [getD_set_ne false q]; exact hle
          obtain ⟨k, hkC, hSk, hk⟩ := h.st
          unfold wpOp
          obtain ⟨o', ho', hst'⟩ := hstep i hlt'
          rw [ho] at ho'
          cases ho'
          have his : i < listed.size := by omega
          have hset : (listed.setIfInBounds i true).getD i false = true := by simp [his]
          rcases hst' with ⟨hR, hnC, hnD⟩ | ⟨c, hcd, hpre, hSC⟩
          · obtain ⟨hw, hwp⟩ := hR f a x hc
            simp only [ho, hw, if_true]
            refine .inl (Oper.wp_mono (fun a' y ⟨v, e1, r1, f1⟩ => ?_) hwp)
            subst e1
            refine next v y (rg r1) ⟨k, hkC, sg hSk r1 _ _ hnD, fun j d hj => ?_⟩ f1
            have hne : i ≠ d := fun e => by
              have h2 : C.contains i = true := by
                rw [List.contains_iff_mem, e]
                exact List.mem_iff_getElem?.2 ⟨j, hj⟩
              rw [hnC] at h2; cases h2
            rw [getD_set_ne false hne]; exact hk j d hj
          · have hck : k = c := by
              have h1 : ¬ c < k := fun q => by
                have := (hk c i hcd).2 q
                rw [hif] at this; cases this
              rcases hpre with rfl | ⟨i', hd', hed⟩
              · omega
              · have hl : listed.getD i' false = true := by
                  unfold edgeB at hed
                  rw [ho] at hed
                  obtain ⟨e, he, hb⟩ := List.any_eq_true.1 hed
                  rw [Bool.and_eq_true] at hb
                  have hon := of_decide_eq_true hb.2
                  have := haf e (by simpa using he) hb.1
                  rw [hon] at this; exact this
                have := (hk _ _ hd').1 hl
                omega
            subst hck
            have hcl : k < C.length := (List.getElem?_eq_some_iff.1 hcd).1
            obtain ⟨hw, hwp⟩ := hSC f a x hc hSk
            simp only [ho, hw, if_true]
            refine .inl (Oper.wp_mono (fun a' y ⟨v, e1, r1, s1, f1⟩ => ?_) hwp)
            subst e1
            refine next v y r1 ⟨k + 1, hcl, s1, fun j d2 hj => ?_⟩ f1
            by_cases e : i = d2
            · subst e
              have hjk : j = k := by
                have hjl := (List.getElem?_eq_some_iff.1 hj).1
                exact (List.getElem?_inj hjl hCn).1 (hj.trans hcd.symm)
              rw [hset, hjk]
              simp
            · rw [getD_set_ne false e, hk j d2 hj]
              have hjk : j ≠ k := fun q => by
                rw [q, hcd] at hj
                exact e (Option.some.inj hj)
              omega
  refine key ops.size (Array.replicate ops.size false) (fun _ => none) a0 _ (by simp) ?_ (by simp [hsz]) ⟨Over.start a0, rg (Gr.drew w), (fun s v h => nomatch h), fun j o d _ hl _ => ?_, fun _ _ => rfl, fun j o _ hl _ _ _ => ?_, ⟨0, Nat.zero_le _, sd s0, fun j d _ => ⟨fun h => ?_, fun h => absurd h (Nat.not_lt_zero _)⟩⟩⟩
  · exact Nat.le_trans (List.length_filter_le _ _) (by simp)
  all_goals
    exfalso
    first
      | (have : (Array.replicate ops.size false).getD j false = false := by
          by_cases hj : j < ops.size <;> simp [hj]
         rw [this] at hl; cases hl)
      | (have : (Array.replicate ops.size false).getD d false = false := by
          by_cases hj : d < ops.size <;> simp [hj]
         rw [this] at h; cases h)
end Go.Proofs.YtogippkapadolaaDoor

/- laid: a value behind some bytes (by gen_jslay.py). -/
namespace Go.Proofs.YtogippkapadolaaDoor
open Go.RowKit

theorem ev_other {a : Act} {d s : Nat} {v : Value} (h : d ≠ s) : (a.put (some d) v).eval (.tmp s) = a.eval (.tmp s) := by
  show (a.tmps.setIfInBounds d v).getD s undef = a.tmps.getD s undef
  simp [h]
/-- Some block stays, and all blocks from W on that hold just the byte c. -/
structure RW (B n W : Nat) (bx : List Value) (c : UInt8) (x y : World) : Prop where
  size : x.heap.size ≤ y.heap.size
  below : B ≤ x.heap.size → Below B x y
  box : Holds x n bx 27 → Holds y n bx 27
  one : ∀ k, W ≤ k → x.heap[k]? = some (.cells #[byteV c] 5 (0, 0)) → y.heap[k]? = x.heap[k]?
theorem RW.trans {B n W : Nat} {bx : List Value} {c : UInt8} {x y z : World} (h : RW B n W bx c x y) (k : RW B n W bx c y z) : RW B n W bx c x z :=
  ⟨Nat.le_trans h.size k.size, fun q => (h.below q).trans (k.below (Nat.le_trans q h.size)), fun q => k.box (h.box q), fun i hi q => (k.one i hi ((h.one i hi q).trans q)).trans (h.one i hi q)⟩
theorem RW.ofGr {B n W : Nat} {bx : List Value} {c : UInt8} {x y : World} (h : Gr x y) : RW B n W bx c x y :=
  ⟨h.size, fun q => h.mono q, fun q => q.gr h, fun i _ q => h.block i (Array.getElem?_eq_some_iff.1 q).1⟩
/-- An append to a row that is older, or that ends otherwise. -/
theorem RW.ofAp {B n W : Nat} {bx : List Value} {c d : UInt8} {x y : World} {u v : Value} {l : List UInt8} (h : Ap B x u y v) (hO : Out B x u l) (ho : (∀ k, u.ownBlock = some k → k < W) ∨ (∃ r, l = r ++ [d]) ∧ d ≠ c) : RW B n W bx c x y :=
  ⟨h.size, fun _ => h.below, fun q => q.ap h hO (by decide), fun i hi q => h.grown.block i (Array.getElem?_eq_some_iff.1 q).1 (fun e => by
    rcases ho with ho | ⟨⟨r, rfl⟩, hne⟩
    · have := ho i e.symm
      omega
    · rcases hO.2 with ⟨rfl, h0⟩ | ⟨g, cap, cur, rfl, _, hg, hc, _, hcs, ht⟩
      · cases e
      · cases e
        rw [hg] at q
        cases q
        have h1 : (r ++ [d]).length ≤ 1 := by
          have : (#[byteV c] : Array Value).size = cap * 1 := hcs
          simp only [List.size_toArray, List.length_cons, List.length_nil] at this
          omega
        have h2 : r = [] := by
          cases r with
          | nil => rfl
          | cons a b => simp at h1
        subst h2
        have ht : [byteV c] = [byteV d] := by simpa using ht
        simp only [List.cons.injEq, and_true] at ht
        have : (c.toNat : Int) = d.toNat := congrArg intOf (show Value.int .u8 (c.toNat : Int) = .int .u8 (d.toNat : Int) from ht)
        exact hne (UInt8.toNat.inj (by omega)))⟩
def oneF (W : Nat) (c : UInt8) (v : Value) (y : World) : Prop := ∃ b, W ≤ b ∧ v = .slice (some ⟨b, 0, none⟩) 1 1 ∧ y.heap[b]? = some (.cells #[byteV c] 5 (0, 0))
def oneFR (B n W : Nat) (bx : List Value) (c : UInt8) : FactR (RW B n W bx c) := ⟨oneF W c, fun ⟨b, h1, h2, h3⟩ g => ⟨b, h1, h2, (g.one b h1 h3).trans h3⟩⟩
theorem bs55 (c : Int) (y : World) : (Instr.buildSlice 55 1 #[(0, .int .u8 c)]).run Tryd.prog y = .ok (.slice (some ⟨y.heap.size, 0, none⟩) 1 1) (y.alloc (.cells #[.int .u8 c] 5)) := by kernel_rfl
def q25_9 : Array Oper := #[{ dst := some 27, op := Op.move (Operand.tmp 0), type := 55, pos := "show.go:21", after := #[], guard := none }, { dst := some 28, op := Op.buildSlice 55 1 #[(0, Operand.const (Value.int IntKind.u8 91))], type := 55, pos := "show.go:21", after := #[], guard := none }, { dst := some 29, op := Op.call { callee := Callee.builtin Builtin.append, args := #[Operand.tmp 27, Operand.tmp 28], argTypes := #[55, 55] }, type := 55, pos := "show.go:21", after := #[{ on := 0, ground := Ground.data }, { on := 1, ground := Ground.data }], guard := none }, { dst := some 30, op := Op.load 27 (Operand.tmp 3), type := 27, pos := "show.go:21", after := #[], guard := none }, { dst := some 31, op := Op.call { callee := Callee.value (Operand.func 43), args := #[Operand.tmp 29, Operand.tmp 30], argTypes := #[55, 27] }, type := 55, pos := "show.go:21", after := #[{ on := 2, ground := Ground.data }, { on := 3, ground := Ground.data }, { on := 2, ground := Ground.chain }], guard := none }, { dst := some 32, op := Op.buildSlice 55 1 #[(0, Operand.const (Value.int IntKind.u8 93))], type := 55, pos := "show.go:21", after := #[], guard := none }, { dst := some 33, op := Op.call { callee := Callee.builtin Builtin.append, args := #[Operand.tmp 31, Operand.tmp 32], argTypes := #[55, 55] }, type := 55, pos := "show.go:21", after := #[{ on := 4, ground := Ground.data }, { on := 5, ground := Ground.data }, { on := 4, ground := Ground.chain }], guard := none }, { dst := some 4, op := Op.assign (Operand.tmp 33), type := 55, pos := "show.go:21", after := #[{ on := 6, ground := Ground.data }, { on := 6, ground := Ground.chain }, { on := 0, ground := Ground.phase }, { on := 1, ground := Ground.phase }, { on := 2, ground := Ground.phase }, { on := 3, ground := Ground.phase }, { on := 4, ground := Ground.phase }, { on := 5, ground := Ground.phase }, { on := 6, ground := Ground.phase }], guard := none }]
set_option maxRecDepth 100000 in
set_option maxHeartbeats 1000000 in
theorem r25_9 {Q : Exit → Act → World → Prop} {a0 : Act} {w : World} (hz : a0.tmps.size = 45) {B n : Nat} {u : Value} {o X : List UInt8} {bx : List Value} (h : Out B w u o) (hB : B ≤ w.heap.size) (hbox : Holds w n bx 27) (h6 : bx.length = 6) (hlim : o.length + X.length + 10 ≤ 140737488355327) (e0 : a0.eval (.tmp 0) = u) (e3 : a0.eval (.tmp 3) = .pointer (some ⟨n, 0, none⟩))
    (hparts : ∀ y v, Below B w y → B ≤ y.heap.size → Out B y v (o ++ [91]) → Calls Tryd.prog 43 #[v, .agg bx.toArray] y fun e z => ∃ v', e = .returned v' ∧ Out B z v' (o ++ [91] ++ X) ∧ Ap B y v z v')
    (hend : ∀ ac wz u', ac.defers = a0.defers → ac.eval (.tmp 4) = u' → Out B wz u' (o ++ [91] ++ X ++ [93]) → Ap B w u wz u' → Q .normal ac wz) : (Code.region 9 q25_9 true).wp Tryd.prog Q a0 w := by
  have hlt : ∀ k, u.ownBlock = some k → k < w.heap.size := fun k hk => own_lt h hk
  refine drawn_iy (R := RW B n w.heap.size bx 93) (fun h k => h.trans k) RW.ofGr (by kernel_rfl) (by kernel_rfl) 6 (by decide) (by kernel_rfl) (by kernel_rfl) [27, 28, 29, 30, 31, 32] [1, 2, 4] (by decide) (fun | 27 => .val u | 30 => .val (.agg bx.toArray) | 32 => oneFR B n w.heap.size bx 93 | _ => .any) (fun | 0, _, y => Out B y u o ∧ Ap B w u y u ∧ B ≤ y.heap.size | 1, a, y => (Out B y u o ∧ Ap B w u y u ∧ B ≤ y.heap.size) ∧ ∃ b, a.eval (.tmp 28) = .slice (some ⟨b, 0, none⟩) 1 1 ∧ y.heap[b]? = some (.cells #[byteV 91] 5 (0, 0)) | 2, a, y => Out B y (a.eval (.tmp 29)) (o ++ [91]) ∧ Ap B w u y (a.eval (.tmp 29)) ∧ B ≤ y.heap.size | _ + 3, a, y => Out B y (a.eval (.tmp 31)) (o ++ [91] ++ X) ∧ Ap B w u y (a.eval (.tmp 31)) ∧ B ≤ y.heap.size) [28, 29, 31] (by kernel_rfl) (by kernel_rfl) ⟨h, Ap.ofGr u (Gr.refl _) hB, hB⟩ ?sg (fun ⟨h1, h2, h3⟩ => ⟨h1.gr (gr_drew (Gr.refl _)), h2.trans (Ap.ofGr u (gr_drew (Gr.refl _)) h3), h3⟩) (fun
    | 0, _ => ⟨_, rfl, .inl ⟨?s0, rfl, fun s hs => by cases hs; rfl⟩⟩
    | 1, _ => ⟨_, rfl, .inr ⟨0, rfl, .inl rfl, ?s1⟩⟩
    | 2, _ => ⟨_, rfl, .inr ⟨1, rfl, .inr ⟨1, rfl, by kernel_rfl⟩, ?s2⟩⟩
    | 3, _ => ⟨_, rfl, .inl ⟨?s3, rfl, fun s hs => by cases hs; rfl⟩⟩
    | 4, _ => ⟨_, rfl, .inr ⟨2, rfl, .inr ⟨2, rfl, by kernel_rfl⟩, ?s4⟩⟩
    | 5, _ => ⟨_, rfl, .inl ⟨?s5, rfl, fun s hs => by cases hs; rfl⟩⟩
    | q + 6, hq => absurd hq (by omega)) ?e
  case sg =>
    intro k a x y hS g d v hd
    have hput : ∀ s, [28, 29, 31].contains s = true → (a.put d v).eval (.tmp s) = a.eval (.tmp s) := fun s hs => by
      cases d with
      | none => rfl
      | some d => exact ev_other (fun e => by rw [← e, hd d rfl] at hs; cases hs)
    match k, hS with
    | 0, ⟨h1, h2, h3⟩ => exact ⟨h1.gr g, h2.trans (Ap.ofGr u g h3), Nat.le_trans h3 g.size⟩
    | 1, ⟨⟨h1, h2, h3⟩, b, h4, h5⟩ => exact ⟨⟨h1.gr g, h2.trans (Ap.ofGr u g h3), Nat.le_trans h3 g.size⟩, b, (hput 28 rfl).trans h4, (g.block b (Array.getElem?_eq_some_iff.1 h5).1).trans h5⟩
    | 2, ⟨h1, h2, h3⟩ =>
      have e := hput 29 rfl
      refine ⟨?_, ?_, Nat.le_trans h3 g.size⟩
      · rw [e]; exact h1.gr g
      · rw [e]; exact h2.trans (Ap.ofGr _ g h3)
    | k + 3, ⟨h1, h2, h3⟩ =>
      have e := hput 31 rfl
      refine ⟨?_, ?_, Nat.le_trans h3 g.size⟩
      · rw [e]; exact h1.gr g
      · rw [e]; exact h2.trans (Ap.ofGr _ g h3)
  case s0 => exact sr_move (.tmp 0) 27 (.val u) (.inl rfl) rfl rfl (.old 0 _ (by decide) e0) rfl
  case s1 =>
    intro f a y c hS
    obtain ⟨h1, h2, h3⟩ : Out B y u o ∧ Ap B w u y u ∧ B ≤ y.heap.size := hS
    have hsz : 28 < a.tmps.size := by rw [c.over.size, hz]; decide
    refine ⟨wanted_none rfl _, op_val (.slice (some ⟨y.heap.size, 0, none⟩) 1 1) (y := y.alloc (.cells #[.int .u8 91] 5)) ?_ ⟨_, rfl, RW.ofGr (Gr.alloc _ _), ⟨⟨h1.gr (Gr.alloc _ _), h2.trans (Ap.new u h3 _), Nat.le_trans h3 (Gr.alloc y _).size⟩, y.heap.size, (ev_put hsz).trans (if_pos rfl), heap_alloc_new y _⟩, fun d hd => by cases hd; trivial⟩⟩
    show (execOp a.eval (Oper.mk _ (.buildSlice 55 1 #[(0, .const (.int .u8 91))]) _ _ _ _)).run Tryd.prog y = _
    unfold execOp
    simp only [List.map_toArray, List.map_cons, List.map_nil, Sem.run_bind, ev_const, bs55, Sem.run_pure, Result.andThen_ok]
  case s2 =>
    intro f a y c hS
    obtain ⟨⟨h1, h2, h3⟩, b, h4, h5⟩ : (Out B y u o ∧ Ap B w u y u ∧ B ≤ y.heap.size) ∧ ∃ b, a.eval (.tmp 28) = .slice (some ⟨b, 0, none⟩) 1 1 ∧ y.heap[b]? = some (.cells #[byteV 91] 5 (0, 0)) := hS
    have x27 : a.eval (.tmp 27) = u := (HasR.new (T := (fun | 27 => .val u | 30 => .val (.agg bx.toArray) | 32 => oneFR B n w.heap.size bx 93 | _ => .any)) 27 (by kernel_rfl) (by rw [hz]; decide)).get c
    have hsz : 29 < a.tmps.size := by rw [c.over.size, hz]; decide
    refine ⟨wanted_none rfl _, wp_app55 (.tmp 27) (.tmp 28) rfl B u o [91] h1 x27 ⟨b, 0, none⟩ 1 h4 (fun j v hv => World.news_of_block h5 j v (by simpa using hv)) (Nat.zero_lt_succ _) (by simp; omega) h3 fun u' z h6 h7 => ?_⟩
    have e : (a.put (some 29) u').eval (.tmp 29) = u' := (ev_put hsz).trans (if_pos rfl)
    refine ⟨_, rfl, RW.ofAp (d := 0) h7 h1 (.inl hlt), ⟨?_, ?_, Nat.le_trans h3 h7.size⟩, fun d hd => by cases hd; trivial⟩
    · show Out B z ((a.put (some 29) u').eval (.tmp 29)) _
      rw [e]; exact h6
    · show Ap B w u z ((a.put (some 29) u').eval (.tmp 29))
      rw [e]; exact h2.trans h7
  case s3 => exact sr_of 30 rfl rfl fun f a y c => op_row 27 (.tmp 3) 6 _ bx rfl n 0 ((c.over.old (c.out 3 (by decide))).trans e3) Tryd.underlying27 rfl (by kernel_rfl) h6 (range_of (c.grown.box hbox)) ⟨_, rfl, Gr.refl _, rfl⟩
  case s4 =>
    intro f a y c hS
    obtain ⟨h1, h2, h3⟩ : Out B y (a.eval (.tmp 29)) (o ++ [91]) ∧ Ap B w u y (a.eval (.tmp 29)) ∧ B ≤ y.heap.size := hS
    have x30 : a.eval (.tmp 30) = .agg bx.toArray := (HasR.new (T := (fun | 27 => .val u | 30 => .val (.agg bx.toArray) | 32 => oneFR B n w.heap.size bx 93 | _ => .any)) 30 (by kernel_rfl) (by rw [hz]; decide)).get c
    have hsz : 31 < a.tmps.size := by rw [c.over.size, hz]; decide
    refine ⟨wanted_none rfl _, op_call 43 #[.tmp 29, .tmp 30] #[55, 27] rfl #[a.eval (.tmp 29), .agg bx.toArray] (by simp [x30]) (enters_of Tryd.func43 (by kernel_rfl) rfl) ((hparts y _ h2.below h3 h1).mono ?_)⟩
    rintro e z ⟨v', rfl, h4, h5⟩
    have e : (a.put (some 31) v').eval (.tmp 31) = v' := (ev_put hsz).trans (if_pos rfl)
    refine ⟨v', rfl, _, rfl, RW.ofAp (d := 91) h5 h1 (.inr ⟨⟨o, rfl⟩, by decide⟩), ⟨?_, ?_, Nat.le_trans h3 h5.size⟩, fun d hd => by cases hd; trivial⟩
    · show Out B z ((a.put (some 31) v').eval (.tmp 31)) _
      rw [e]; exact h4
    · show Ap B w u z ((a.put (some 31) v').eval (.tmp 31))
      rw [e]; exact h2.trans h5
  case s5 =>
    refine sr_of 32 rfl rfl fun f a y c => op_val (.slice (some ⟨y.heap.size, 0, none⟩) 1 1) (y := y.alloc (.cells #[.int .u8 93] 5)) ?_ ⟨_, rfl, Gr.alloc _ _, y.heap.size, c.grown.size, rfl, heap_alloc_new y _⟩
    show (execOp a.eval (Oper.mk _ (.buildSlice 55 1 #[(0, .const (.int .u8 93))]) _ _ _ _)).run Tryd.prog y = _
    unfold execOp
    simp only [List.map_toArray, List.map_cons, List.map_nil, Sem.run_bind, ev_const, bs55, Sem.run_pure, Result.andThen_ok]
  case e =>
  intro ac x hA hR hS hf
  obtain ⟨h1, h2, h3⟩ : Out B x (ac.eval (.tmp 31)) (o ++ [91] ++ X) ∧ Ap B w u x (ac.eval (.tmp 31)) ∧ B ≤ x.heap.size := hS
  obtain ⟨b, _, x32, hb⟩ : oneF w.heap.size 93 (ac.eval (.tmp 32)) x := hf 32 (by kernel_rfl) (by rw [hz]; decide)
  refine wpl_app55 rfl (.tmp 31) (.tmp 32) rfl B _ _ [93] h1 rfl ⟨b, 0, none⟩ 1 x32 (fun j v hv => World.news_of_block hb j v (by simpa using hv)) (Nat.zero_lt_succ _) (by simp; omega) h3 ?_
  intro u' w' h4 h5
  refine wl_of rfl (op_move (.tmp 33) (.inr rfl) (wl_end ?_))
  have x33 : (ac.put (some 33) u').eval (.tmp 33) = u' := (ev_put (by rw [hA.size, hz]; decide)).trans (if_pos rfl)
  exact hend _ w' u' (by rw [put_defers, put_defers]; exact hA.defers) ((ev_put (by rw [put_size, hA.size, hz]; decide)).trans ((if_pos rfl).trans x33)) h4 (h2.trans h5)
def q25_11 : Array Oper := #[{ dst := some 36, op := Op.move (Operand.tmp 0), type := 55, pos := "show.go:23", after := #[], guard := none }, { dst := some 37, op := Op.buildSlice 55 1 #[(0, Operand.const (Value.int IntKind.u8 123))], type := 55, pos := "show.go:23", after := #[], guard := none }, { dst := some 38, op := Op.call { callee := Callee.builtin Builtin.append, args := #[Operand.tmp 36, Operand.tmp 37], argTypes := #[55, 55] }, type := 55, pos := "show.go:23", after := #[{ on := 0, ground := Ground.data }, { on := 1, ground := Ground.data }], guard := none }, { dst := some 39, op := Op.load 27 (Operand.tmp 3), type := 27, pos := "show.go:23", after := #[], guard := none }, { dst := some 40, op := Op.call { callee := Callee.value (Operand.func 43), args := #[Operand.tmp 38, Operand.tmp 39], argTypes := #[55, 27] }, type := 55, pos := "show.go:23", after := #[{ on := 2, ground := Ground.data }, { on := 3, ground := Ground.data }, { on := 2, ground := Ground.chain }], guard := none }, { dst := some 41, op := Op.buildSlice 55 1 #[(0, Operand.const (Value.int IntKind.u8 125))], type := 55, pos := "show.go:23", after := #[], guard := none }, { dst := some 42, op := Op.call { callee := Callee.builtin Builtin.append, args := #[Operand.tmp 40, Operand.tmp 41], argTypes := #[55, 55] }, type := 55, pos := "show.go:23", after := #[{ on := 4, ground := Ground.data }, { on := 5, ground := Ground.data }, { on := 4, ground := Ground.chain }], guard := none }, { dst := some 4, op := Op.assign (Operand.tmp 42), type := 55, pos := "show.go:23", after := #[{ on := 6, ground := Ground.data }, { on := 6, ground := Ground.chain }, { on := 0, ground := Ground.phase }, { on := 1, ground := Ground.phase }, { on := 2, ground := Ground.phase }, { on := 3, ground := Ground.phase }, { on := 4, ground := Ground.phase }, { on := 5, ground := Ground.phase }, { on := 6, ground := Ground.phase }], guard := none }]
set_option maxRecDepth 100000 in
set_option maxHeartbeats 1000000 in
theorem r25_11 {Q : Exit → Act → World → Prop} {a0 : Act} {w : World} (hz : a0.tmps.size = 45) {B n : Nat} {u : Value} {o X : List UInt8} {bx : List Value} (h : Out B w u o) (hB : B ≤ w.heap.size) (hbox : Holds w n bx 27) (h6 : bx.length = 6) (hlim : o.length + X.length + 10 ≤ 140737488355327) (e0 : a0.eval (.tmp 0) = u) (e3 : a0.eval (.tmp 3) = .pointer (some ⟨n, 0, none⟩))
    (hparts : ∀ y v, Below B w y → B ≤ y.heap.size → Out B y v (o ++ [123]) → Calls Tryd.prog 43 #[v, .agg bx.toArray] y fun e z => ∃ v', e = .returned v' ∧ Out B z v' (o ++ [123] ++ X) ∧ Ap B y v z v')
    (hend : ∀ ac wz u', ac.defers = a0.defers → ac.eval (.tmp 4) = u' → Out B wz u' (o ++ [123] ++ X ++ [125]) → Ap B w u wz u' → Q .normal ac wz) : (Code.region 11 q25_11 true).wp Tryd.prog Q a0 w := by
  have hlt : ∀ k, u.ownBlock = some k → k < w.heap.size := fun k hk => own_lt h hk
  refine drawn_iy (R := RW B n w.heap.size bx 125) (fun h k => h.trans k) RW.ofGr (by kernel_rfl) (by kernel_rfl) 6 (by decide) (by kernel_rfl) (by kernel_rfl) [36, 37, 38, 39, 40, 41] [1, 2, 4] (by decide) (fun | 36 => .val u | 39 => .val (.agg bx.toArray) | 41 => oneFR B n w.heap.size bx 125 | _ => .any) (fun | 0, _, y => Out B y u o ∧ Ap B w u y u ∧ B ≤ y.heap.size | 1, a, y => (Out B y u o ∧ Ap B w u y u ∧ B ≤ y.heap.size) ∧ ∃ b, a.eval (.tmp 37) = .slice (some ⟨b, 0, none⟩) 1 1 ∧ y.heap[b]? = some (.cells #[byteV 123] 5 (0, 0)) | 2, a, y => Out B y (a.eval (.tmp 38)) (o ++ [123]) ∧ Ap B w u y (a.eval (.tmp 38)) ∧ B ≤ y.heap.size | _ + 3, a, y => Out B y (a.eval (.tmp 40)) (o ++ [123] ++ X) ∧ Ap B w u y (a.eval (.tmp 40)) ∧ B ≤ y.heap.size) [37, 38, 40] (by kernel_rfl) (by kernel_rfl) ⟨h, Ap.ofGr u (Gr.refl _) hB, hB⟩ ?sg (fun ⟨h1, h2, h3⟩ => ⟨h1.gr (gr_drew (Gr.refl _)), h2.trans (Ap.ofGr u (gr_drew (Gr.refl _)) h3), h3⟩) (fun
    | 0, _ => ⟨_, rfl, .inl ⟨?s0, rfl, fun s hs => by cases hs; rfl⟩⟩
    | 1, _ => ⟨_, rfl, .inr ⟨0, rfl, .inl rfl, ?s1⟩⟩
    | 2, _ => ⟨_, rfl, .inr ⟨1, rfl, .inr ⟨1, rfl, by kernel_rfl⟩, ?s2⟩⟩
    | 3, _ => ⟨_, rfl, .inl ⟨?s3, rfl, fun s hs => by cases hs; rfl⟩⟩
    | 4, _ => ⟨_, rfl, .inr ⟨2, rfl, .inr ⟨2, rfl, by kernel_rfl⟩, ?s4⟩⟩
    | 5, _ => ⟨_, rfl, .inl ⟨?s5, rfl, fun s hs => by cases hs; rfl⟩⟩
    | q + 6, hq => absurd hq (by omega)) ?e
  case sg =>
    intro k a x y hS g d v hd
    have hput : ∀ s, [37, 38, 40].contains s = true → (a.put d v).eval (.tmp s) = a.eval (.tmp s) := fun s hs => by
      cases d with
      | none => rfl
      | some d => exact ev_other (fun e => by rw [← e, hd d rfl] at hs; cases hs)
    match k, hS with
    | 0, ⟨h1, h2, h3⟩ => exact ⟨h1.gr g, h2.trans (Ap.ofGr u g h3), Nat.le_trans h3 g.size⟩
    | 1, ⟨⟨h1, h2, h3⟩, b, h4, h5⟩ => exact ⟨⟨h1.gr g, h2.trans (Ap.ofGr u g h3), Nat.le_trans h3 g.size⟩, b, (hput 37 rfl).trans h4, (g.block b (Array.getElem?_eq_some_iff.1 h5).1).trans h5⟩
    | 2, ⟨h1, h2, h3⟩ =>
      have e := hput 38 rfl
      refine ⟨?_, ?_, Nat.le_trans h3 g.size⟩
      · rw [e]; exact h1.gr g
      · rw [e]; exact h2.trans (Ap.ofGr _ g h3)
    | k + 3, ⟨h1, h2, h3⟩ =>
      have e := hput 40 rfl
      refine ⟨?_, ?_, Nat.le_trans h3 g.size⟩
      · rw [e]; exact h1.gr g
      · rw [e]; exact h2.trans (Ap.ofGr _ g h3)
  case s0 => exact sr_move (.tmp 0) 36 (.val u) (.inl rfl) rfl rfl (.old 0 _ (by decide) e0) rfl
  case s1 =>
    intro f a y c hS
    obtain ⟨h1, h2, h3⟩ : Out B y u o ∧ Ap B w u y u ∧ B ≤ y.heap.size := hS
    have hsz : 37 < a.tmps.size := by rw [c.over.size, hz]; decide
    refine ⟨wanted_none rfl _, op_val (.slice (some ⟨y.heap.size, 0, none⟩) 1 1) (y := y.alloc (.cells #[.int .u8 123] 5)) ?_ ⟨_, rfl, RW.ofGr (Gr.alloc _ _), ⟨⟨h1.gr (Gr.alloc _ _), h2.trans (Ap.new u h3 _), Nat.le_trans h3 (Gr.alloc y _).size⟩, y.heap.size, (ev_put hsz).trans (if_pos rfl), heap_alloc_new y _⟩, fun d hd => by cases hd; trivial⟩⟩
    show (execOp a.eval (Oper.mk _ (.buildSlice 55 1 #[(0, .const (.int .u8 123))]) _ _ _ _)).run Tryd.prog y = _
    unfold execOp
    simp only [List.map_toArray, List.map_cons, List.map_nil, Sem.run_bind, ev_const, bs55, Sem.run_pure, Result.andThen_ok]
  case s2 =>
    intro f a y c hS
    obtain ⟨⟨h1, h2, h3⟩, b, h4, h5⟩ : (Out B y u o ∧ Ap B w u y u ∧ B ≤ y.heap.size) ∧ ∃ b, a.eval (.tmp 37) = .slice (some ⟨b, 0, none⟩) 1 1 ∧ y.heap[b]? = some (.cells #[byteV 123] 5 (0, 0)) := hS
    have x27 : a.eval (.tmp 36) = u := (HasR.new (T := (fun | 36 => .val u | 39 => .val (.agg bx.toArray) | 41 => oneFR B n w.heap.size bx 125 | _ => .any)) 36 (by kernel_rfl) (by rw [hz]; decide)).get c
    have hsz : 38 < a.tmps.size := by rw [c.over.size, hz]; decide
    refine ⟨wanted_none rfl _, wp_app55 (.tmp 36) (.tmp 37) rfl B u o [123] h1 x27 ⟨b, 0, none⟩ 1 h4 (fun j v hv => World.news_of_block h5 j v (by simpa using hv)) (Nat.zero_lt_succ _) (by simp; omega) h3 fun u' z h6 h7 => ?_⟩
    have e : (a.put (some 38) u').eval (.tmp 38) = u' := (ev_put hsz).trans (if_pos rfl)
    refine ⟨_, rfl, RW.ofAp (d := 0) h7 h1 (.inl hlt), ⟨?_, ?_, Nat.le_trans h3 h7.size⟩, fun d hd => by cases hd; trivial⟩
    · show Out B z ((a.put (some 38) u').eval (.tmp 38)) _
      rw [e]; exact h6
    · show Ap B w u z ((a.put (some 38) u').eval (.tmp 38))
      rw [e]; exact h2.trans h7
  case s3 => exact sr_of 39 rfl rfl fun f a y c => op_row 27 (.tmp 3) 6 _ bx rfl n 0 ((c.over.old (c.out 3 (by decide))).trans e3) Tryd.underlying27 rfl (by kernel_rfl) h6 (range_of (c.grown.box hbox)) ⟨_, rfl, Gr.refl _, rfl⟩
  case s4 =>
    intro f a y c hS
    obtain ⟨h1, h2, h3⟩ : Out B y (a.eval (.tmp 38)) (o ++ [123]) ∧ Ap B w u y (a.eval (.tmp 38)) ∧ B ≤ y.heap.size := hS
    have x30 : a.eval (.tmp 39) = .agg bx.toArray := (HasR.new (T := (fun | 36 => .val u | 39 => .val (.agg bx.toArray) | 41 => oneFR B n w.heap.size bx 125 | _ => .any)) 39 (by kernel_rfl) (by rw [hz]; decide)).get c
    have hsz : 40 < a.tmps.size := by rw [c.over.size, hz]; decide
    refine ⟨wanted_none rfl _, op_call 43 #[.tmp 38, .tmp 39] #[55, 27] rfl #[a.eval (.tmp 38), .agg bx.toArray] (by simp [x30]) (enters_of Tryd.func43 (by kernel_rfl) rfl) ((hparts y _ h2.below h3 h1).mono ?_)⟩
    rintro e z ⟨v', rfl, h4, h5⟩
    have e : (a.put (some 40) v').eval (.tmp 40) = v' := (ev_put hsz).trans (if_pos rfl)
    refine ⟨v', rfl, _, rfl, RW.ofAp (d := 123) h5 h1 (.inr ⟨⟨o, rfl⟩, by decide⟩), ⟨?_, ?_, Nat.le_trans h3 h5.size⟩, fun d hd => by cases hd; trivial⟩
    · show Out B z ((a.put (some 40) v').eval (.tmp 40)) _
      rw [e]; exact h4
    · show Ap B w u z ((a.put (some 40) v').eval (.tmp 40))
      rw [e]; exact h2.trans h5
  case s5 =>
    refine sr_of 41 rfl rfl fun f a y c => op_val (.slice (some ⟨y.heap.size, 0, none⟩) 1 1) (y := y.alloc (.cells #[.int .u8 125] 5)) ?_ ⟨_, rfl, Gr.alloc _ _, y.heap.size, c.grown.size, rfl, heap_alloc_new y _⟩
    show (execOp a.eval (Oper.mk _ (.buildSlice 55 1 #[(0, .const (.int .u8 125))]) _ _ _ _)).run Tryd.prog y = _
    unfold execOp
    simp only [List.map_toArray, List.map_cons, List.map_nil, Sem.run_bind, ev_const, bs55, Sem.run_pure, Result.andThen_ok]
  case e =>
  intro ac x hA hR hS hf
  obtain ⟨h1, h2, h3⟩ : Out B x (ac.eval (.tmp 40)) (o ++ [123] ++ X) ∧ Ap B w u x (ac.eval (.tmp 40)) ∧ B ≤ x.heap.size := hS
  obtain ⟨b, _, x32, hb⟩ : oneF w.heap.size 125 (ac.eval (.tmp 41)) x := hf 41 (by kernel_rfl) (by rw [hz]; decide)
  refine wpl_app55 rfl (.tmp 40) (.tmp 41) rfl B _ _ [125] h1 rfl ⟨b, 0, none⟩ 1 x32 (fun j v hv => World.news_of_block hb j v (by simpa using hv)) (Nat.zero_lt_succ _) (by simp; omega) h3 ?_
  intro u' w' h4 h5
  refine wl_of rfl (op_move (.tmp 42) (.inr rfl) (wl_end ?_))
  have x33 : (ac.put (some 42) u').eval (.tmp 42) = u' := (ev_put (by rw [hA.size, hz]; decide)).trans (if_pos rfl)
  exact hend _ w' u' (by rw [put_defers, put_defers]; exact hA.defers) ((ev_put (by rw [put_size, hA.size, hz]; decide)).trans ((if_pos rfl).trans x33)) h4 (h2.trans h5)
end Go.Proofs.YtogippkapadolaaDoor
