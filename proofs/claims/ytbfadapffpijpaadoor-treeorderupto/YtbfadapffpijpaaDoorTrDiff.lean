/- What package tree's Differ answers. -/
import Derived.Test.YtbfadapffpijpaaDoorTrLevel
import Derived.Test.YtbfadapffpijpaaDoorTrEql
import Derived.BigQuiet
namespace Go.Proofs.YtbfadapffpijpaaDoor
open Go.RowKit
attribute [local go_sem ↓] rule_eql rule_neq rule_eqlD rule_neqD rule26

/-- A list of sums in memory. -/
def RowsAt (w : World) (v : Value) (l : List (List UInt8)) : Prop := (∀ s ∈ l, s.length = 32) ∧ ∃ a cap, v = .slice a l.length cap ∧ ∀ (i : Nat) (s : List UInt8), l[i]? = some s → ∃ g, a = some ⟨g, 0, none⟩ ∧ g < w.heap.size ∧ w.rangeAt g (i * 32) (s.map byteV)
theorem RowsAt.below {w w' : World} {B : Nat} {v : Value} {l : List (List UInt8)} (h : RowsAt w v l) (hb : Below B w w') (hB : w.heap.size ≤ B) : RowsAt w' v l := by
  obtain ⟨h32, a, cap, e, hc⟩ := h
  refine ⟨h32, a, cap, e, fun i s hs => ?_⟩
  obtain ⟨g, e1, h1, h2⟩ := hc i s hs
  exact ⟨g, e1, Nat.lt_of_lt_of_le h1 hb.size, rangeAt_below h2 hb (by omega)⟩
theorem RowsAt.of {w : World} {base : Nat} {v : Value} {l : List (List UInt8)} (h32 : ∀ s ∈ l, s.length = 32) (h : w.ownsRow base 26 32 v l.length (rowsV l)) : RowsAt w v l := by
  refine ⟨h32, ?_⟩
  rcases h.2 with ⟨rfl, h0⟩ | ⟨g, cap, cur, rfl, _, hg, _⟩
  · exact ⟨none, 0, by rw [h0], fun i s hs => by have := (List.getElem?_eq_some_iff.1 hs).1; omega⟩
  · refine ⟨some ⟨g, 0, none⟩, cap, rfl, fun i s hs => ⟨g, rfl, (Array.getElem?_eq_some_iff.1 hg).1, fun j u hu => ?_⟩⟩
    have hi : i < l.length := (List.getElem?_eq_some_iff.1 hs).1
    have hj : j < 32 := by have := (List.getElem?_eq_some_iff.1 hu).1; rw [List.length_map, h32 s (List.mem_of_getElem? hs)] at this; exact this
    have hle : (i + 1) * 32 ≤ l.length * 32 := Nat.mul_le_mul_right _ hi
    rw [h.cellAt (i * 32 + j) (by omega), rowsV, List.getElem?_map, show i * 32 + j = 32 * i + j by omega, flat_at l i j s h32 hs hj, ← List.getElem?_map]
    exact hu
/-- The places at which two lists are unlike. -/
def diffTo (a b : List (List UInt8)) (k : Nat) : List Nat := (List.range k).filter fun i => decide (¬ a[i]? = b[i]?)
def diffL (a b : List (List UInt8)) : List Nat := diffTo a b (max a.length b.length)
theorem diffTo_succ (a b : List (List UInt8)) (k : Nat) : diffTo a b (k + 1) = diffTo a b k ++ (if a[k]? = b[k]? then [] else [k]) := by
  unfold diffTo
  rw [List.range_succ, List.filter_append]
  by_cases h : a[k]? = b[k]? <;> simp [h]
theorem diffTo_len (a b : List (List UInt8)) (k : Nat) : (diffTo a b k).length ≤ k := Nat.le_trans (List.length_filter_le ..) (by simp)
theorem diffL_same (a : List (List UInt8)) : diffL a a = [] := by unfold diffL diffTo; simp
def natV (l : List Nat) : List Value := l.map fun (n : Nat) => Value.int .i64 (n : Int)
theorem full3 : (Tryd.prog.info? 3).map (fun i => (i.zero, i.size, i.bytes)) = some (some (.int .i64 0), 1, 8) := by kernel_rfl
theorem inf3 : ∃ i, Tryd.prog.info? 3 = some i ∧ i.zero = some (.int .i64 0) ∧ i.size = 1 ∧ i.bytes = 8 := by
  have := full3
  cases h : Tryd.prog.info? 3 with
  | none => simp [h] at this
  | some i =>
    simp [h] at this
    exact ⟨i, rfl, this.1, this.2.1, this.2.2⟩
theorem und47 : Tryd.prog.underlying 47 = some (.slice 3) := by kernel_rfl
theorem row_at {w : World} {g o : Nat} {s : List UInt8} (h : w.rangeAt g o (s.map byteV)) (h32 : s.length = 32) : rowOf w (.pointer (some ⟨g, o, none⟩)) 32 = some (s.map byteV) := by
  have := rowOf_range (w := w) h
  rwa [show (s.map byteV).length = 32 by simp [h32]] at this
theorem rowOf_drewN (w : World) (n : Nat) (p : Value) (k : Nat) : rowOf (w.drewN n) p k = rowOf w p k := by
  have e : ∀ q, (w.drewN n).cell? q = w.cell? q := fun q => World.cell?_of_block (w := w) (by simp)
  unfold rowOf
  simp only [e]
theorem row_same {w w' : World} {base : Nat} {e : TypeId} {size : Nat} {v : Value} {n : Nat} {xs : List Value} (h : w.ownsRow base e size v n xs) (hs : ∀ (i : Nat) cs fr, w.heap[i]? = some (Obj.cells cs e fr) → w'.heap[i]? = w.heap[i]?) : w'.ownsRow base e size v n xs := by
  refine ⟨h.1, ?_⟩
  rcases h.2 with h | ⟨g, cap, cur, e1, hb, hg, r⟩
  · exact .inl h
  · exact .inr ⟨g, cap, cur, e1, hb, (hs g _ _ hg).trans hg, r⟩
theorem quiet_val {o : Oper} {a : Act} {w : World} {K : Act → Prop} {v : Value} (h : ∀ n, (execOp a.eval o).run Tryd.prog (w.drewN n) = .ok (.value v) (w.drewN n)) : Oper.quiet Tryd.prog o a (fun w' => ∃ n, w' = w.drewN n) K = K (a.put o.dst v) := by
  refine propext ⟨fun ⟨u, h1, h2⟩ => ?_, fun hk => ⟨v, fun w' ⟨n, e⟩ => ?_, hk⟩⟩
  · have := h1 (w.drewN 0) ⟨0, rfl⟩
    unfold Oper.quietAt at this
    rw [h 0] at this
    obtain ⟨_, rfl⟩ := this
    exact h2
  · subst e
    unfold Oper.quietAt
    rw [h n]
    exact ⟨rfl, rfl⟩
theorem exec_load26 (dst : Option Tmp) (x : Operand) (t : TypeId) (pos : String) (af : Array Edge) (gd : Option (Nat × Bool)) (a : Act) (w : World) (cs : List Value) (h : rowOf w (a.eval x) 32 = some cs) :
    (execOp a.eval { dst := dst, op := .load 26 x, type := t, pos := pos, after := af, guard := gd }).run Tryd.prog w = .ok (.value (.agg cs.toArray)) w := by
  cases hp : a.eval x with
  | pointer q =>
    cases q with
    | none => rw [hp] at h; simp [rowOf] at h
    | some ad =>
      obtain ⟨b, o, s⟩ := ad
      cases s with
      | some s => rw [hp] at h; simp [rowOf] at h
      | none =>
        rw [hp] at h
        obtain ⟨hl, hr⟩ := rangeAt_rowOf h
        have hrun := run_loadVar_mid (P := Tryd.prog) w b o 26 cs _ hr und26 rfl (by rw [hl]; exact (zero_of_info info26).2)
        unfold execOp
        simp only [hp, Instr.loadAt, Instr.sureAddr, Sem.run_bind, Sem.run_pure, Result.andThen_ok, hrun]
  | _ => rw [hp] at h; simp [rowOf] at h
theorem ruleq26 (dst : Option Tmp) (x : Operand) (t : TypeId) (pos : String) (af : Array Edge) (gd : Option (Nat × Bool)) (a : Act) (w : World) (K : Act → Prop) (h : (rowOf w (a.eval x) 32).isSome = true) :
    Oper.quiet Tryd.prog { dst := dst, op := .load 26 x, type := t, pos := pos, after := af, guard := gd } a (fun w' => ∃ n, w' = w.drewN n) K = K (a.put dst (.agg ((rowOf w (a.eval x) 32).getD []).toArray)) := by
  obtain ⟨cs, hcs⟩ := Option.isSome_iff_exists.1 h
  rw [hcs]
  exact quiet_val fun n => exec_load26 dst x t pos af gd a (w.drewN n) cs (by rw [rowOf_drewN]; exact hcs)
theorem ruleq_neq (dst : Option Tmp) (x y : Operand) (yt t : TypeId) (pos : String) (af : Array Edge) (gd : Option (Nat × Bool)) (a : Act) (w : World) (K : Act → Prop) (h : Same32 (a.eval x) (a.eval y)) :
    Oper.quiet Tryd.prog { dst := dst, op := .binOp .neq 26 x y yt, type := t, pos := pos, after := af, guard := gd } a (fun w' => ∃ n, w' = w.drewN n) K = K (a.put dst (.bool false)) :=
  quiet_val fun n => by
    unfold execOp
    dsimp only
    rw [Sem.run_bind, run_neq_same x y _ _ _ h]
    rfl
theorem ruleq_neqD (dst : Option Tmp) (x y : Operand) (yt t : TypeId) (pos : String) (af : Array Edge) (gd : Option (Nat × Bool)) (a : Act) (w : World) (K : Act → Prop) (h : Diff32 (a.eval x) (a.eval y)) :
    Oper.quiet Tryd.prog { dst := dst, op := .binOp .neq 26 x y yt, type := t, pos := pos, after := af, guard := gd } a (fun w' => ∃ n, w' = w.drewN n) K = K (a.put dst (.bool true)) :=
  quiet_val fun n => by
    unfold execOp
    dsimp only
    rw [Sem.run_bind, run_neq_two x y _ _ false _ h]
    rfl
attribute [local go_sem ↓] ruleq26 ruleq_neq ruleq_neqD
set_option maxHeartbeats 4000000 in
set_option maxRecDepth 100000 in
theorem differ_any (va vb : Value) (a b : List (List UInt8)) (hal : a.length ≤ 1099511627776) (hbl : b.length ≤ 1099511627776) (w : World) (ha : RowsAt w va a) (hb : RowsAt w vb b) :
    Calls Tryd.prog 15 #[va, vb] w fun e w' => ∃ u, e = .returned u ∧ w'.ownsRow w.heap.size 3 1 u (diffL a b).length (natV (diffL a b)) ∧ Below w.heap.size w w' := by
  obtain ⟨n, hn⟩ : ∃ n, w.heap.size = n := ⟨_, rfl⟩
  have hA : Hid (∀ W, Below w.heap.size w W → RowsAt W va a) := fun W hW => ha.below hW (Nat.le_refl _)
  have hB : Hid (∀ W, Below w.heap.size w W → RowsAt W vb b) := fun W hW => hb.below hW (Nat.le_refl _)
  obtain ⟨_, aa, ca, rfl, hax⟩ := ha
  obtain ⟨_, ab, cb, rfl, hbx⟩ := hb
  obtain ⟨i3, f3, hz3, hs3, hb3⟩ := inf3
  have F3 : Hid (Tryd.prog.info? 3 = some i3) := f3
  obtain ⟨la, hla⟩ : ∃ la, a.length = la := ⟨_, rfl⟩
  obtain ⟨lb, hlb⟩ : ∃ lb, b.length = lb := ⟨_, rfl⟩
  have HLA : Hid (a.length = la) := hla
  have HLB : Hid (b.length = lb) := hlb
  have hD : Hid (diffL a b = diffTo a b (max la lb)) := by rw [← hla, ← hlb]; exact rfl
  rw [hn] at hA hB ⊢
  rw [hla] at hal ⊢
  rw [hlb] at hbl ⊢
  obtain ⟨m, hm⟩ : ∃ m, max la lb = m := ⟨_, rfl⟩
  rw [hm] at hD
  have hmax : max (la : Int) (lb : Int) = (m : Int) := by omega
  have hm1 : la ≤ m ∧ lb ≤ m ∧ (m ≤ la ∨ m ≤ lb) := by omega
  obtain ⟨hm2, hm3, hm4⟩ := hm1
  clear hax hbx f3 hla hlb hm
  go_enter Tryd.func15, Tryd.ntmps15
  go_wp2_with fail
  go_loopw [5, 12] (fun tv c wr => ∃ k : Nat, k ≤ m ∧ c = .int .i64 (k : Int) ∧ wr.ownsRow n 3 1 tv (diffTo a b k).length (natV (diffTo a b k)) ∧ Below n w wr) (fun _ c _ => m - (intOf c).toNat)
  case atStart => exact ⟨0, by omega, rfl, World.ownsRow_nil _ _ _ _, Below.refl _ _⟩
  case round =>
    obtain ⟨k, hk, rfl, hown, hBe⟩ := hrel
    have hle : n ≤ wr.heap.size := by have := hBe.size; omega
    by_cases hlt : k < m
    · have hsucc : Hid (diffTo a b (k + 1) = diffTo a b k ++ (if a[k]? = b[k]? then [] else [k])) := diffTo_succ a b k
      have hdl := diffTo_len a b k
      obtain ⟨at_, ct, rfl⟩ := row_slice hown
      have HOW : Hid (wr.ownsRow n 3 1 (.slice at_ (diffTo a b k).length ct) (diffTo a b k).length (natV (diffTo a b k))) := hown
      have HB : Hid (Below n w wr) := hBe
      have HOWD : Hid (∀ q, (wr.drewN q).ownsRow n 3 1 (.slice at_ (diffTo a b k).length ct) (diffTo a b k).length (natV (diffTo a b k))) := fun q => row_same hown (fun i cs fr _ => by simp)
      have HBN : Hid (∀ q, Below n wr (wr.drewN q)) := fun q => (Still.drewN wr q).below n
      have HLE : Hid (∀ q : Nat, n ≤ ((wr.drewN q).alloc (.cells #[.int .i64 (k : Int)] 3)).heap.size) := fun q => by rw [World.size_alloc]; have := (HBN.out q).size; omega
      have HNC : Hid (∀ (q j : Nat) (u : Value), [Value.int .i64 (k : Int)][j]? = some u → ((wr.drewN q).alloc (.cells #[.int .i64 (k : Int)] 3)).cell? (Addr.add ⟨wr.heap.size, 0, none⟩ j) = some u) := fun q j u hu => by
        have h1 := (holds_new (wr.drewN q) [.int .i64 (k : Int)] 3).at j u hu
        rw [Addr.add_mid, Nat.zero_add]
        have e : (wr.drewN q).heap.size = wr.heap.size := by simp
        rw [e] at h1
        exact h1
      have HBD : Hid (∀ (q : Nat) {w3 : World}, ((wr.drewN q).alloc (.cells #[.int .i64 (k : Int)] 3)).grownBy w3 (Value.slice at_ (diffTo a b k).length ct).ownBlock → Below n w w3) := fun q w3 gr => (HB.out.trans ((HBN.out q).alloc (by have := (HBN.out q).size; omega) _)).grown gr (HLE.out q) (fun j e => own3_base (HOWD.out q) j e)
      obtain ⟨h32a, a', c', e', hca⟩ := hA.out wr hBe
      obtain ⟨h32b, a2, c2, e2, hcb⟩ := hB.out wr hBe
      cases e'
      cases e2
      have H32a : Hid (∀ s ∈ a, s.length = 32) := h32a
      have H32b : Hid (∀ s ∈ b, s.length = 32) := h32b
      have i0 : (0 : Int) ≤ (k : Int) := by omega
      have i1 : (k : Int) < (m : Int) := by omega
      clear hown hBe h32a h32b
      by_cases hka : k < la
      · obtain ⟨s, hs⟩ : ∃ s, a[k]? = some s := ⟨_, List.getElem?_eq_getElem (by rw [HLA.out]; exact hka)⟩
        obtain ⟨g, rfl, hgl, hrg⟩ := hca k s hs
        have h32 := H32a.out s (List.mem_of_getElem? hs)
        by_cases hkb : k < lb
        · obtain ⟨t, ht⟩ : ∃ t, b[k]? = some t := ⟨_, List.getElem?_eq_getElem (by rw [HLB.out]; exact hkb)⟩
          obtain ⟨g2, rfl, hgl2, hrg2⟩ := hcb k t ht
          have h32t := H32b.out t (List.mem_of_getElem? ht)
          have r1 := row_at hrg h32
          have r2 := row_at hrg2 h32t
          have j1 : (k : Int) < (la : Int) := by omega
          have j2 : (k : Int) < (lb : Int) := by omega
          clear hca hcb hrg hrg2
          have r1d : rowOf wr.drew (.pointer (some ⟨g, k * 32, none⟩)) 32 = some (s.map byteV) := r1
          have r2d : rowOf wr.drew (.pointer (some ⟨g2, k * 32, none⟩)) 32 = some (t.map byteV) := r2
          have dA : decide (la ≤ k) = false := by simpa using hka
          have dB : decide (lb ≤ k) = false := by simpa using hkb
          by_cases hst : s = t
          · subst hst
            have S := same32 s h32
            have hn2 : Hid (diffTo a b (k + 1) = diffTo a b k) := by
              show diffTo a b (k + 1) = _
              rw [hsucc.out, if_pos (by rw [hs, ht]), List.append_nil]
            go_wp2_with fail
            go_quiet (fail)
            go_wp2
            exact ⟨⟨k + 1, by omega, by go_num, by rw [hn2.out]; exact HOWD.out _, HB.out.trans (HBN.out _)⟩, by simp [intOf]; omega⟩
          · have D := diff32 s t h32 h32t hst
            have hn2 : Hid (diffTo a b (k + 1) = diffTo a b k ++ [k]) := by
              show diffTo a b (k + 1) = _
              rw [hsucc.out, if_neg (by rw [hs, ht]; simpa using hst)]
            go_wp2_with fail
            go_quiet (fail)
            go_wp2_with (at_builtin; refine wpList_append_src rfl (.tmp 36) (.tmp 38) 47 rfl n 3 i3 _ 1 8 und47 F3.out hz3 hs3 hb3 (by rfl) (by omega) _ _ _ ((HOWD.out _).alloc _) rfl [.int .i64 (k : Int)] _ 1 1 rfl (by rfl) (fun _ => ⟨_, rfl, fun j u hu => HNC.out _ j u hu⟩) (fun u hu => by simp at hu; subst hu; rfl) (by unfold maxLen; omega) (by omega) (HLE.out _) ?_; intro v3 w3 own3 gr3 _)
            have e3 : natV (diffTo a b k) ++ [.int .i64 (k : Int)] = natV (diffTo a b (k + 1)) := by rw [hn2.out]; simp [natV]
            have l3 : (diffTo a b k).length + 1 = (diffTo a b (k + 1)).length := by rw [hn2.out]; simp
            rw [e3, l3] at own3
            exact ⟨⟨k + 1, by omega, by go_num, own3, HBD.out _ gr3⟩, by simp [intOf]; omega⟩
        · have dA : decide (la ≤ k) = false := by simpa using hka
          have dB : (lb : Int) ≤ (k : Int) := by omega
          have hn2 : Hid (diffTo a b (k + 1) = diffTo a b k ++ [k]) := by
            show diffTo a b (k + 1) = _
            rw [hsucc.out, if_neg (by rw [hs, List.getElem?_eq_none (by rw [HLB.out]; omega)]; simp)]
          clear hca hcb hrg
          go_wp2_with fail
          go_quiet (fail)
          go_wp2_with (at_builtin; refine wpList_append_src rfl (.tmp 36) (.tmp 38) 47 rfl n 3 i3 _ 1 8 und47 F3.out hz3 hs3 hb3 (by rfl) (by omega) _ _ _ ((HOWD.out _).alloc _) rfl [.int .i64 (k : Int)] _ 1 1 rfl (by rfl) (fun _ => ⟨_, rfl, fun j u hu => HNC.out _ j u hu⟩) (fun u hu => by simp at hu; subst hu; rfl) (by unfold maxLen; omega) (by omega) (HLE.out _) ?_; intro v3 w3 own3 gr3 _)
          have e3 : natV (diffTo a b k) ++ [.int .i64 (k : Int)] = natV (diffTo a b (k + 1)) := by rw [hn2.out]; simp [natV]
          have l3 : (diffTo a b k).length + 1 = (diffTo a b (k + 1)).length := by rw [hn2.out]; simp
          rw [e3, l3] at own3
          exact ⟨⟨k + 1, by omega, by go_num, own3, HBD.out _ gr3⟩, by simp [intOf]; omega⟩
      · have hkb : k < lb := by omega
        have dA : (la : Int) ≤ (k : Int) := by omega
        have hn2 : Hid (diffTo a b (k + 1) = diffTo a b k ++ [k]) := by
          show diffTo a b (k + 1) = _
          rw [hsucc.out, if_neg (by rw [List.getElem?_eq_none (by rw [HLA.out]; omega), List.getElem?_eq_getElem (by rw [HLB.out]; exact hkb)]; simp)]
        clear hca hcb
        go_wp2_with fail
        go_quiet (fail)
        go_wp2_with (at_builtin; refine wpList_append_src rfl (.tmp 36) (.tmp 38) 47 rfl n 3 i3 _ 1 8 und47 F3.out hz3 hs3 hb3 (by rfl) (by omega) _ _ _ ((HOWD.out _).alloc _) rfl [.int .i64 (k : Int)] _ 1 1 rfl (by rfl) (fun _ => ⟨_, rfl, fun j u hu => HNC.out _ j u hu⟩) (fun u hu => by simp at hu; subst hu; rfl) (by unfold maxLen; omega) (by omega) (HLE.out _) ?_; intro v3 w3 own3 gr3 _)
        have e3 : natV (diffTo a b k) ++ [.int .i64 (k : Int)] = natV (diffTo a b (k + 1)) := by rw [hn2.out]; simp [natV]
        have l3 : (diffTo a b k).length + 1 = (diffTo a b (k + 1)).length := by rw [hn2.out]; simp
        rw [e3, l3] at own3
        exact ⟨⟨k + 1, by omega, by go_num, own3, HBD.out _ gr3⟩, by simp [intOf]; omega⟩
    · have i1 : ¬ (k : Int) < (m : Int) := by omega
      have e : diffTo a b k = diffL a b := by rw [hD.out, show k = m by omega]
      rw [e] at hown
      obtain ⟨at_, ct, rfl⟩ := row_slice hown
      have HOW : Hid (wr.ownsRow n 3 1 (.slice at_ (diffL a b).length ct) (diffL a b).length (natV (diffL a b))) := hown
      have HB : Hid (Below n w wr) := hBe
      clear e hown hBe
      go_wp2
      go_ret
      exact ⟨_, rfl, HOW.out, HB.out⟩
end Go.Proofs.YtbfadapffpijpaaDoor
