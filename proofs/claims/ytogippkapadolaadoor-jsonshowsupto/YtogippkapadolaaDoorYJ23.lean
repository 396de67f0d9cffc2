/- Object of the document (by gen_jsrmake.py). -/
import Derived.Test.YtogippkapadolaaDoorYJ22
import Derived.Test.YtogippkapadolaaDoorYJ19
namespace Go.Proofs.YtogippkapadolaaDoor
open Go.RowKit

/-- The box that the document's Object fills: its rows are its own, what its elements point to is older. -/
structure VRf (M bv : Nat) (l : List J) (names : List (List UInt8)) (w : World) (u nv : Value) (es : List (List Value)) : Prop where
  box : Holds w bv (boxV 5 u nv) 27
  own : w.ownsRow M 27 6 u l.length es.flatten
  nown : w.ownsRow M 9 1 nv names.length (names.map strV1)
  apart : ∀ k, u.ownBlock = some k → nv.ownBlock ≠ some k
  len : es.length = l.length
  six : ∀ c ∈ es, c.length = 6
  each : ∀ (i : Nat) (x : J) (c : List Value), l[i]? = some x → es[i]? = some c → JAt w (fun k => k + 1 < bv) x (.agg c.toArray)
theorem VRf.gr {M bv : Nat} {l : List J} {names : List (List UInt8)} {w w' : World} {u nv : Value} {es : List (List Value)} (h : VRf M bv l names w u nv es) (g : Gr w w') : VRf M bv l names w' u nv es :=
  ⟨h.box.gr g, owns_gr h.own g, owns_gr h.nown g, h.apart, h.len, h.six, fun i x c h1 h2 => (h.each i x c h1 h2).gr g⟩
theorem vrf_name {M bv g cap : Nat} {l : List J} {names : List (List UInt8)} {x w1 w2 : World} {u nv : Value} {es : List (List Value)} {nm : List UInt8}
    (hV : VRf M bv l names x u nv es) (hgr : x.grownBy w1 nv.ownBlock) (hT : Turned bv w1 w2 ((boxV 5 u nv).set 5 (.slice (some ⟨g, 0, none⟩) (names.length + 1) cap)) 27) (hbv : bv < M)
    (hown : w1.ownsRow M 9 1 (.slice (some ⟨g, 0, none⟩) (names.length + 1) cap) (names.length + 1) (names.map strV1 ++ [strV1 nm])) (hat : nv.ownBlock = some g ∨ g = x.heap.size) :
    VRf M bv l (names ++ [nm]) w2 u (.slice (some ⟨g, 0, none⟩) (names.length + 1) cap) es ∧ KeepL [bv] M x w2 := by
  have hnb : ∀ k, nv.ownBlock = some k → M ≤ k := fun k hk => own_base hV.nown k hk
  have hsame : ∀ k, k < x.heap.size → k ≠ bv → nv.ownBlock ≠ some k → w2.heap[k]? = x.heap[k]? := fun k h1 h2 h3 => (hT.others k h2).trans (hgr.block k h1 (fun e => h3 e.symm))
  have hlow : ∀ k, k < x.heap.size → k < M → k ≠ bv → w2.heap[k]? = x.heap[k]? := fun k h1 h2 h3 => hsame k h1 h3 fun e => by have := hnb k e; omega
  have hug : ∀ k, u.ownBlock = some k → k ≠ g := fun k hk e => by
    rcases hat with h | h
    · exact hV.apart k hk (e ▸ h)
    · have := own_lt hV.own hk; omega
  have hub : ∀ k, u.ownBlock = some k → M ≤ k := fun k hk => own_base hV.own k hk
  refine ⟨⟨hT.holds, ?_, ?_, ?_, hV.len, hV.six, ?_⟩, ⟨hT.os.trans hgr.os, hT.tape.trans hgr.tape, hT.output.trans hgr.output, by have := hgr.size; have := hT.size; omega, fun k h1 h2 h3 => ?_⟩⟩
  · exact owns_same hV.own fun k hk h1 h2 => hsame k h1 (by omega) (hV.apart k hk)
  · have := owns_same hown (w' := w2) fun k hk h1 h2 => hT.others k (by omega)
    simpa using this
  · intro k hk e
    cases e
    exact hug _ hk rfl
  · intro i j c h1 h2
    exact (hV.each i j c h1 h2).mono fun k h3 h6 => ⟨h3, hlow k h6 (by omega) (by omega)⟩
  · simp only [List.mem_cons, List.not_mem_nil, or_false] at h3
    exact hlow k h1 h2 h3
theorem vrf_elem {M bv g cap : Nat} {l : List J} {names : List (List UInt8)} {x w1 w2 : World} {u nv : Value} {es : List (List Value)} {j : J} {d : List Value}
    (hV : VRf M bv l names x u nv es) (hgr : x.grownBy w1 u.ownBlock) (hT : Turned bv w1 w2 ((boxV 5 u nv).set 4 (.slice (some ⟨g, 0, none⟩) (l.length + 1) cap)) 27) (hbv : bv < M)
    (hown : w1.ownsRow M 27 6 (.slice (some ⟨g, 0, none⟩) (l.length + 1) cap) (l.length + 1) (es.flatten ++ d)) (hat : u.ownBlock = some g ∨ g = x.heap.size) (hd : d.length = 6)
    (hJ : JAt x (fun k => k + 1 < bv) j (.agg d.toArray)) :
    VRf M bv (l ++ [j]) names w2 (.slice (some ⟨g, 0, none⟩) (l.length + 1) cap) nv (es ++ [d]) ∧ KeepL [bv] M x w2 := by
  have hub : ∀ k, u.ownBlock = some k → M ≤ k := fun k hk => own_base hV.own k hk
  have hnown : ∀ k, nv.ownBlock = some k → k < x.heap.size := fun k hk => own_lt hV.nown hk
  have hng : ∀ k, nv.ownBlock = some k → k ≠ g := fun k hk e => by
    rcases hat with q | q
    · exact hV.apart g q (e ▸ hk)
    · have := hnown k hk; omega
  have hMg : M ≤ g := own_base hown g rfl
  have hsame : ∀ k, k < x.heap.size → k ≠ bv → u.ownBlock ≠ some k → w2.heap[k]? = x.heap[k]? := fun k h1 h2 h3 => (hT.others k h2).trans (hgr.block k h1 (fun e => h3 e.symm))
  have hlow : ∀ k, k < x.heap.size → k < M → k ≠ bv → w2.heap[k]? = x.heap[k]? := fun k h1 h2 h3 => hsame k h1 h3 fun e => by have := hub k e; omega
  refine ⟨⟨hT.holds, ?_, ?_, ?_, by simp [hV.len], ?_, ?_⟩, ⟨hT.os.trans hgr.os, hT.tape.trans hgr.tape, hT.output.trans hgr.output, by have := hgr.size; have := hT.size; omega, fun k h1 h2 h3 => ?_⟩⟩
  · have := owns_same hown (w' := w2) fun k hk h1 h2 => hT.others k (by omega)
    simpa using this
  · exact owns_same hV.nown fun k hk h1 h2 => hsame k h1 (by omega) (fun e => hV.apart k e hk)
  · intro k hk e
    cases hk
    exact hng g e rfl
  · intro c hc
    rcases List.mem_append.1 hc with q | q
    · exact hV.six c q
    · simp at q; subst q; exact hd
  · have hmono : ∀ {y : J} {v : Value}, JAt x (fun k => k + 1 < bv) y v → JAt w2 (fun k => k + 1 < bv) y v := fun {y v} hx => hx.mono fun k h1 h4 => ⟨h1, hlow k h4 (by omega) (by omega)⟩
    intro q y c h1 h2
    rcases Nat.lt_or_ge q l.length with h | h
    · rw [List.getElem?_append_left h] at h1
      rw [List.getElem?_append_left (by rw [hV.len]; exact h)] at h2
      exact hmono (hV.each q y c h1 h2)
    · have hq : q = l.length := by
        have := (List.getElem?_eq_some_iff.1 h1).1
        simp at this; omega
      subst hq
      rw [List.getElem?_append_right (Nat.le_refl _)] at h1
      rw [List.getElem?_append_right (by rw [hV.len]; exact Nat.le_refl _), hV.len] at h2
      simp at h1 h2
      subst h1 h2
      exact hmono hJ
  · simp only [List.mem_cons, List.not_mem_nil, or_false] at h3
    exact hlow k h1 h2 h3
def oneN (s : List UInt8) : Fact := ⟨fun v y => ∃ B, v = .slice (some ⟨B, 0, none⟩) 1 1 ∧ Holds y B [strV1 s] 9, fun ⟨B, h1, h2⟩ g => ⟨B, h1, h2.gr g⟩⟩
def oneC (c : List Value) : Fact := ⟨fun v y => ∃ B, v = .slice (some ⟨B, 0, none⟩) 1 1 ∧ Holds y B c 27, fun ⟨B, h1, h2⟩ g => ⟨B, h1, h2.gr g⟩⟩
def q16_9 : Array Oper := #[{ dst := some 22, op := Op.move (Operand.tmp 5), type := 4, pos := "ref.go:374", after := #[], guard := none }, { dst := some 23, op := Op.move (Operand.tmp 22), type := 4, pos := "ref.go:374", after := #[{ on := 0, ground := Ground.data }], guard := none }, { dst := some 24, op := Op.fieldAddr 27 (Operand.tmp 3) 5, type := 0, pos := "ref.go:374", after := #[{ on := 1, ground := Ground.guard }], guard := some (1, false) }, { dst := some 25, op := Op.load 25 (Operand.tmp 24), type := 25, pos := "ref.go:374", after := #[{ on := 2, ground := Ground.data }, { on := 1, ground := Ground.guard }], guard := some (1, false) }, { dst := some 26, op := Op.move (Operand.tmp 6), type := 3, pos := "ref.go:374", after := #[{ on := 1, ground := Ground.guard }], guard := some (1, false) }, { dst := some 27, op := Op.indexAddr 25 (Operand.tmp 25) (Operand.tmp 26), type := 0, pos := "ref.go:374", after := #[{ on := 3, ground := Ground.data }, { on := 4, ground := Ground.data }, { on := 1, ground := Ground.guard }], guard := some (1, false) }, { dst := some 28, op := Op.load 9 (Operand.tmp 27), type := 9, pos := "ref.go:374", after := #[{ on := 5, ground := Ground.data }, { on := 1, ground := Ground.guard }], guard := some (1, false) }, { dst := some 29, op := Op.move (Operand.tmp 0), type := 24, pos := "ref.go:374", after := #[{ on := 1, ground := Ground.guard }], guard := some (1, false) }, { dst := some 30, op := Op.move (Operand.tmp 4), type := 3, pos := "ref.go:374", after := #[{ on := 1, ground := Ground.guard }], guard := some (1, false) }, { dst := some 31, op := Op.indexAddr 24 (Operand.tmp 29) (Operand.tmp 30), type := 0, pos := "ref.go:374", after := #[{ on := 7, ground := Ground.data }, { on := 8, ground := Ground.data }, { on := 1, ground := Ground.guard }], guard := some (1, false) }, { dst := some 32, op := Op.fieldAddr 27 (Operand.tmp 31) 3, type := 0, pos := "ref.go:374", after := #[{ on := 9, ground := Ground.data }, { on := 1, ground := Ground.guard }], guard := some (1, false) }, { dst := some 33, op := Op.load 9 (Operand.tmp 32), type := 9, pos := "ref.go:374", after := #[{ on := 10, ground := Ground.data }, { on := 1, ground := Ground.guard }], guard := some (1, false) }, { dst := some 34, op := Op.binOp BinOp.eql 9 (Operand.tmp 28) (Operand.tmp 33) 9, type := 4, pos := "ref.go:374", after := #[{ on := 6, ground := Ground.data }, { on := 11, ground := Ground.data }, { on := 1, ground := Ground.guard }], guard := some (1, false) }, { dst := some 35, op := Op.pick (Operand.tmp 23) (Operand.const (Value.bool true)) (Operand.tmp 34), type := 4, pos := "ref.go:374", after := #[{ on := 1, ground := Ground.data }, { on := 12, ground := Ground.data }], guard := none }, { dst := some 5, op := Op.assign (Operand.tmp 35), type := 4, pos := "ref.go:374", after := #[{ on := 13, ground := Ground.data }, { on := 1, ground := Ground.chain }, { on := 0, ground := Ground.phase }, { on := 1, ground := Ground.phase }, { on := 2, ground := Ground.phase }, { on := 3, ground := Ground.phase }, { on := 4, ground := Ground.phase }, { on := 5, ground := Ground.phase }, { on := 6, ground := Ground.phase }, { on := 7, ground := Ground.phase }, { on := 8, ground := Ground.phase }, { on := 9, ground := Ground.phase }, { on := 10, ground := Ground.phase }, { on := 11, ground := Ground.phase }, { on := 12, ground := Ground.phase }, { on := 13, ground := Ground.phase }], guard := none }]
set_option maxRecDepth 100000 in
theorem r16_9t {Q : Exit → Act → World → Prop} {a0 : Act} {w : World} (hz : a0.tmps.size = 67) {bv i k g off n cap : Nat} (e5 : a0.eval (.tmp 5) = .bool true) (_e3 : a0.eval (.tmp 3) = .pointer (some ⟨bv, 0, none⟩)) (_e0 : a0.eval (.tmp 0) = .slice (some ⟨g, off, none⟩) n cap) (_e4 : a0.eval (.tmp 4) = .int .i64 (i : Int)) (_e6 : a0.eval (.tmp 6) = .int .i64 (k : Int)) (hend : ∀ ac wz, After [5, 22, 23, 24, 25, 26, 27, 28, 29, 30, 31, 32, 33, 34, 35] a0 ac → ac.eval (.tmp 5) = .bool true → Gr w wz → Q .normal ac wz) : (Code.region 9 q16_9 true).wp Tryd.prog Q a0 w := by
  refine drawn_tail (by kernel_rfl) (by kernel_rfl) 14 (by decide) (by kernel_rfl) (by kernel_rfl) [22, 23, 24, 25, 26, 27, 28, 29, 30, 31, 32, 33, 34, 35] (fun | 22 => .val (.bool true) | 23 => .val (.bool true) | 35 => .val (.bool true) | _ => .any) (by kernel_rfl) (List.forall_mem_cons.2 ⟨?s0, List.forall_mem_cons.2 ⟨?s1, List.forall_mem_cons.2 ⟨?s2, List.forall_mem_cons.2 ⟨?s3, List.forall_mem_cons.2 ⟨?s4, List.forall_mem_cons.2 ⟨?s5, List.forall_mem_cons.2 ⟨?s6, List.forall_mem_cons.2 ⟨?s7, List.forall_mem_cons.2 ⟨?s8, List.forall_mem_cons.2 ⟨?s9, List.forall_mem_cons.2 ⟨?s10, List.forall_mem_cons.2 ⟨?s11, List.forall_mem_cons.2 ⟨?s12, List.forall_mem_cons.2 ⟨?s13, fun o ho => nomatch ho⟩⟩⟩⟩⟩⟩⟩⟩⟩⟩⟩⟩⟩⟩) ?e
  case s0 => exact sa_move (.tmp 5) 22 (.val (.bool true)) (.inl rfl) rfl rfl (.old 5 _ (by decide) e5) rfl
  case s1 => exact sa_move (.tmp 22) 23 (.val (.bool true)) (.inl rfl) rfl rfl (.new 22 (by kernel_rfl) (by rw [hz]; decide)) rfl
  case s2 => exact so_guardF 1 23 rfl rfl (by kernel_rfl) (by rw [hz]; decide) rfl (fun d hd => by cases hd; rfl)
  case s3 => exact so_guardF 1 23 rfl rfl (by kernel_rfl) (by rw [hz]; decide) rfl (fun d hd => by cases hd; rfl)
  case s4 => exact so_guardF 1 23 rfl rfl (by kernel_rfl) (by rw [hz]; decide) rfl (fun d hd => by cases hd; rfl)
  case s5 => exact so_guardF 1 23 rfl rfl (by kernel_rfl) (by rw [hz]; decide) rfl (fun d hd => by cases hd; rfl)
  case s6 => exact so_guardF 1 23 rfl rfl (by kernel_rfl) (by rw [hz]; decide) rfl (fun d hd => by cases hd; rfl)
  case s7 => exact so_guardF 1 23 rfl rfl (by kernel_rfl) (by rw [hz]; decide) rfl (fun d hd => by cases hd; rfl)
  case s8 => exact so_guardF 1 23 rfl rfl (by kernel_rfl) (by rw [hz]; decide) rfl (fun d hd => by cases hd; rfl)
  case s9 => exact so_guardF 1 23 rfl rfl (by kernel_rfl) (by rw [hz]; decide) rfl (fun d hd => by cases hd; rfl)
  case s10 => exact so_guardF 1 23 rfl rfl (by kernel_rfl) (by rw [hz]; decide) rfl (fun d hd => by cases hd; rfl)
  case s11 => exact so_guardF 1 23 rfl rfl (by kernel_rfl) (by rw [hz]; decide) rfl (fun d hd => by cases hd; rfl)
  case s12 => exact so_guardF 1 23 rfl rfl (by kernel_rfl) (by rw [hz]; decide) rfl (fun d hd => by cases hd; rfl)
  case s13 => exact sa_pick (.tmp 23) (.const _) (.tmp 34) 35 (.val (.bool true)) rfl rfl rfl (.new 23 (by kernel_rfl) (by rw [hz]; decide)) (.const _) rfl
  case e =>
  intro ac wz hA hgr hv
  have o35 : ac.eval (.tmp 35) = .bool true := hv 35 (by kernel_rfl) (by rw [hz]; decide)
  refine wl_of rfl (op_move (.tmp 35) (.inr rfl) (wl_end ?_))
  exact hend _ wz (hA.put 5 _) ((ev_put (by rw [hA.size, hz]; decide)).trans ((if_pos rfl).trans o35)) hgr
set_option maxRecDepth 100000 in
theorem r16_9f {Q : Exit → Act → World → Prop} {a0 : Act} {w : World} (hz : a0.tmps.size = 67) {bv i k g off n cap g' off' nn nc : Nat} {m1 m2 : List UInt8} (h25 : ∀ y, Gr w y → y.cell? ⟨bv, 5, none⟩ = some (.slice (some ⟨g', off', none⟩) nn nc)) (hk : k < nn) (hi : i < n) (h28 : ∀ y, Gr w y → y.cell? ⟨g', off' + k, none⟩ = some (.string (strL m1))) (h33 : ∀ y, Gr w y → y.cell? ⟨g, off + i * 6 + 3, none⟩ = some (.string (strL m2))) (e5 : a0.eval (.tmp 5) = .bool false) (e3 : a0.eval (.tmp 3) = .pointer (some ⟨bv, 0, none⟩)) (e0 : a0.eval (.tmp 0) = .slice (some ⟨g, off, none⟩) n cap) (e4 : a0.eval (.tmp 4) = .int .i64 (i : Int)) (e6 : a0.eval (.tmp 6) = .int .i64 (k : Int)) (hend : ∀ ac wz, After [5, 22, 23, 24, 25, 26, 27, 28, 29, 30, 31, 32, 33, 34, 35] a0 ac → ac.eval (.tmp 5) = .bool ((strL m1).toList == (strL m2).toList) → Gr w wz → Q .normal ac wz) : (Code.region 9 q16_9 true).wp Tryd.prog Q a0 w := by
  refine drawn_tail (by kernel_rfl) (by kernel_rfl) 14 (by decide) (by kernel_rfl) (by kernel_rfl) [22, 23, 24, 25, 26, 27, 28, 29, 30, 31, 32, 33, 34, 35] (fun | 22 => .val (.bool false) | 23 => .val (.bool false) | 24 => .val (.pointer (some ⟨bv, 5, none⟩)) | 25 => .val (.slice (some ⟨g', off', none⟩) nn nc) | 26 => .val (.int .i64 (k : Int)) | 27 => .val (.pointer (some ⟨g', off' + k, none⟩)) | 28 => .val (.string (strL m1)) | 29 => .val (.slice (some ⟨g, off, none⟩) n cap) | 30 => .val (.int .i64 (i : Int)) | 31 => .val (.pointer (some ⟨g, off + i * 6, none⟩)) | 32 => .val (.pointer (some ⟨g, off + i * 6 + 3, none⟩)) | 33 => .val (.string (strL m2)) | 34 => .val (.bool ((strL m1).toList == (strL m2).toList)) | 35 => .val (.bool ((strL m1).toList == (strL m2).toList)) | _ => .any) (by kernel_rfl) (List.forall_mem_cons.2 ⟨?s0, List.forall_mem_cons.2 ⟨?s1, List.forall_mem_cons.2 ⟨?s2, List.forall_mem_cons.2 ⟨?s3, List.forall_mem_cons.2 ⟨?s4, List.forall_mem_cons.2 ⟨?s5, List.forall_mem_cons.2 ⟨?s6, List.forall_mem_cons.2 ⟨?s7, List.forall_mem_cons.2 ⟨?s8, List.forall_mem_cons.2 ⟨?s9, List.forall_mem_cons.2 ⟨?s10, List.forall_mem_cons.2 ⟨?s11, List.forall_mem_cons.2 ⟨?s12, List.forall_mem_cons.2 ⟨?s13, fun o ho => nomatch ho⟩⟩⟩⟩⟩⟩⟩⟩⟩⟩⟩⟩⟩⟩) ?e
  case s0 => exact sa_move (.tmp 5) 22 (.val (.bool false)) (.inl rfl) rfl rfl (.old 5 _ (by decide) e5) rfl
  case s1 => exact sa_move (.tmp 22) 23 (.val (.bool false)) (.inl rfl) rfl rfl (.new 22 (by kernel_rfl) (by rw [hz]; decide)) rfl
  case s2 => exact sa_guardF 1 23 rfl rfl (by kernel_rfl) (by rw [hz]; decide) rfl (sa_fa 27 (.tmp 3) 5 24 (.pointer (some ⟨bv, 0, none⟩)) (.pointer (some ⟨bv, 5, none⟩)) rfl rfl rfl (.old 3 _ (by decide) e3) (by intro w; kernel_rfl) rfl)
  case s3 => exact sa_guardF 1 23 rfl rfl (by kernel_rfl) (by rw [hz]; decide) rfl (sa_loadc 25 (.tmp 24) 25 (bv) (5) (.slice (some ⟨g', off', none⟩) nn nc) rfl rfl rfl (by intro w; kernel_rfl) (.new 24 (by kernel_rfl) (by rw [hz]; decide)) h25 rfl)
  case s4 => exact sa_guardF 1 23 rfl rfl (by kernel_rfl) (by rw [hz]; decide) rfl (sa_move (.tmp 6) 26 (.val (.int .i64 (k : Int))) (.inl rfl) rfl rfl (.old 6 _ (by decide) e6) rfl)
  case s5 => exact sa_guardF 1 23 rfl rfl (by kernel_rfl) (by rw [hz]; decide) rfl (sa_ixa 25 (.tmp 25) (.tmp 26) 27 (.slice (some ⟨g', off', none⟩) nn nc) (.int .i64 (k : Int)) (.pointer (some ⟨g', off' + k, none⟩)) rfl rfl rfl (.new 25 (by kernel_rfl) (by rw [hz]; decide)) (.new 26 (by kernel_rfl) (by rw [hz]; decide)) (ix_slice und25 size25 hk (by omega)) rfl)
  case s6 => exact sa_guardF 1 23 rfl rfl (by kernel_rfl) (by rw [hz]; decide) rfl (sa_loadc 9 (.tmp 27) 28 (g') (off' + k) (.string (strL m1)) rfl rfl rfl (by intro w; kernel_rfl) (.new 27 (by kernel_rfl) (by rw [hz]; decide)) h28 rfl)
  case s7 => exact sa_guardF 1 23 rfl rfl (by kernel_rfl) (by rw [hz]; decide) rfl (sa_move (.tmp 0) 29 (.val (.slice (some ⟨g, off, none⟩) n cap)) (.inl rfl) rfl rfl (.old 0 _ (by decide) e0) rfl)
  case s8 => exact sa_guardF 1 23 rfl rfl (by kernel_rfl) (by rw [hz]; decide) rfl (sa_move (.tmp 4) 30 (.val (.int .i64 (i : Int))) (.inl rfl) rfl rfl (.old 4 _ (by decide) e4) rfl)
  case s9 => exact sa_guardF 1 23 rfl rfl (by kernel_rfl) (by rw [hz]; decide) rfl (sa_ixa 24 (.tmp 29) (.tmp 30) 31 (.slice (some ⟨g, off, none⟩) n cap) (.int .i64 (i : Int)) (.pointer (some ⟨g, off + i * 6, none⟩)) rfl rfl rfl (.new 29 (by kernel_rfl) (by rw [hz]; decide)) (.new 30 (by kernel_rfl) (by rw [hz]; decide)) (ix_slice und24 size27 hi rfl) rfl)
  case s10 => exact sa_guardF 1 23 rfl rfl (by kernel_rfl) (by rw [hz]; decide) rfl (sa_fa 27 (.tmp 31) 3 32 (.pointer (some ⟨g, off + i * 6, none⟩)) (.pointer (some ⟨g, off + i * 6 + 3, none⟩)) rfl rfl rfl (.new 31 (by kernel_rfl) (by rw [hz]; decide)) (by intro w; kernel_rfl) rfl)
  case s11 => exact sa_guardF 1 23 rfl rfl (by kernel_rfl) (by rw [hz]; decide) rfl (sa_loadc 9 (.tmp 32) 33 (g) (off + i * 6 + 3) (.string (strL m2)) rfl rfl rfl (by intro w; kernel_rfl) (.new 32 (by kernel_rfl) (by rw [hz]; decide)) h33 rfl)
  case s12 => exact sa_guardF 1 23 rfl rfl (by kernel_rfl) (by rw [hz]; decide) rfl (sa_bin .eql 9 (.tmp 28) (.tmp 33) 9 34 (.string (strL m1)) (.string (strL m2)) (.bool ((strL m1).toList == (strL m2).toList)) rfl rfl rfl (.new 28 (by kernel_rfl) (by rw [hz]; decide)) (.new 33 (by kernel_rfl) (by rw [hz]; decide)) (fun w => guard9e _ _ _ _ w) (fun w => eql9 _ _ w) rfl)
  case s13 => exact sa_pickF (.tmp 23) (.const _) (.tmp 34) 35 (.val (.bool ((strL m1).toList == (strL m2).toList))) rfl rfl rfl (.new 23 (by kernel_rfl) (by rw [hz]; decide)) (.new 34 (by kernel_rfl) (by rw [hz]; decide)) rfl
  case e =>
  intro ac wz hA hgr hv
  have o35 : ac.eval (.tmp 35) = .bool ((strL m1).toList == (strL m2).toList) := hv 35 (by kernel_rfl) (by rw [hz]; decide)
  refine wl_of rfl (op_move (.tmp 35) (.inr rfl) (wl_end ?_))
  exact hend _ wz (hA.put 5 _) ((ev_put (by rw [hA.size, hz]; decide)).trans ((if_pos rfl).trans o35)) hgr
def q16_11 : Array Oper := #[{ dst := some 46, op := Op.fieldAddr 27 (Operand.tmp 3) 5, type := 0, pos := "ref.go:377", after := #[], guard := none }, { dst := some 47, op := Op.load 25 (Operand.tmp 46), type := 25, pos := "ref.go:377", after := #[{ on := 0, ground := Ground.data }], guard := none }, { dst := some 48, op := Op.move (Operand.tmp 0), type := 24, pos := "ref.go:377", after := #[], guard := none }, { dst := some 49, op := Op.move (Operand.tmp 4), type := 3, pos := "ref.go:377", after := #[], guard := none }, { dst := some 50, op := Op.indexAddr 24 (Operand.tmp 48) (Operand.tmp 49), type := 0, pos := "ref.go:377", after := #[{ on := 2, ground := Ground.data }, { on := 3, ground := Ground.data }], guard := none }, { dst := some 51, op := Op.fieldAddr 27 (Operand.tmp 50) 3, type := 0, pos := "ref.go:377", after := #[{ on := 4, ground := Ground.data }], guard := none }, { dst := some 52, op := Op.load 9 (Operand.tmp 51), type := 9, pos := "ref.go:377", after := #[{ on := 5, ground := Ground.data }], guard := none }, { dst := some 53, op := Op.buildSlice 25 1 #[(0, Operand.tmp 52)], type := 25, pos := "ref.go:377", after := #[{ on := 6, ground := Ground.data }], guard := none }, { dst := some 54, op := Op.call { callee := Callee.builtin Builtin.append, args := #[Operand.tmp 47, Operand.tmp 53], argTypes := #[25, 25] }, type := 25, pos := "ref.go:377", after := #[{ on := 1, ground := Ground.data }, { on := 7, ground := Ground.data }], guard := none }, { dst := some 55, op := Op.fieldAddr 27 (Operand.tmp 3) 5, type := 0, pos := "ref.go:377", after := #[{ on := 0, ground := Ground.phase }, { on := 1, ground := Ground.phase }, { on := 2, ground := Ground.phase }, { on := 3, ground := Ground.phase }, { on := 4, ground := Ground.phase }, { on := 5, ground := Ground.phase }, { on := 6, ground := Ground.phase }, { on := 7, ground := Ground.phase }, { on := 8, ground := Ground.phase }], guard := none }, { dst := none, op := Op.store 25 (Operand.tmp 55) (Operand.tmp 54), type := 0, pos := "ref.go:377", after := #[{ on := 9, ground := Ground.data }, { on := 8, ground := Ground.data }, { on := 8, ground := Ground.chain }, { on := 0, ground := Ground.phase }, { on := 1, ground := Ground.phase }, { on := 2, ground := Ground.phase }, { on := 3, ground := Ground.phase }, { on := 4, ground := Ground.phase }, { on := 5, ground := Ground.phase }, { on := 6, ground := Ground.phase }, { on := 7, ground := Ground.phase }, { on := 8, ground := Ground.phase }], guard := none }]
set_option maxRecDepth 100000 in
theorem r16_11 {Q : Exit → Act → World → Prop} {a0 : Act} {w : World} (hz : a0.tmps.size = 67) {M bv g off n cap i : Nat} {l : List J} {names : List (List UInt8)} {u nv : Value} {es : List (List Value)} (hV : VRf M bv l names w u nv es) (hM : M ≤ w.heap.size) (hbv : bv < M) {s : List UInt8} (hn : (names.length + 1) * 16 ≤ 140737488355328) (hi : i < n) (hs : ∀ y, Gr w y → y.cell? ⟨g, off + i * 6 + 3, none⟩ = some (.string (strL s))) (e0 : a0.eval (.tmp 0) = .slice (some ⟨g, off, none⟩) n cap) (e3 : a0.eval (.tmp 3) = .pointer (some ⟨bv, 0, none⟩)) (e4 : a0.eval (.tmp 4) = .int .i64 (i : Int)) (hend : ∀ ac wz g' cap', After [55, 54, 46, 47, 48, 49, 50, 51, 52, 53] a0 ac → VRf M bv l (names ++ [s]) wz u (.slice (some ⟨g', 0, none⟩) (names.length + 1) cap') es → KeepL [bv] M w wz → Q .normal ac wz) : (Code.region 11 q16_11 true).wp Tryd.prog Q a0 w := by
  refine drawn_tail (by kernel_rfl) (by kernel_rfl) 8 (by decide) (by kernel_rfl) (by kernel_rfl) [46, 47, 48, 49, 50, 51, 52, 53] (fun | 46 => .val (.pointer (some ⟨bv, 5, none⟩)) | 47 => .val (nv) | 48 => .val (.slice (some ⟨g, off, none⟩) n cap) | 49 => .val (.int .i64 (i : Int)) | 50 => .val (.pointer (some ⟨g, off + i * 6, none⟩)) | 51 => .val (.pointer (some ⟨g, off + i * 6 + 3, none⟩)) | 52 => .val (.string (strL s)) | 53 => oneN s | _ => .any) (by kernel_rfl) (List.forall_mem_cons.2 ⟨?s0, List.forall_mem_cons.2 ⟨?s1, List.forall_mem_cons.2 ⟨?s2, List.forall_mem_cons.2 ⟨?s3, List.forall_mem_cons.2 ⟨?s4, List.forall_mem_cons.2 ⟨?s5, List.forall_mem_cons.2 ⟨?s6, List.forall_mem_cons.2 ⟨?s7, fun o ho => nomatch ho⟩⟩⟩⟩⟩⟩⟩⟩) ?e
  case s0 => exact sa_fa 27 (.tmp 3) 5 46 (.pointer (some ⟨bv, 0, none⟩)) (.pointer (some ⟨bv, 5, none⟩)) rfl rfl rfl (.old 3 _ (by decide) e3) (by intro w; kernel_rfl) rfl
  case s1 => exact sa_loadc 25 (.tmp 46) 47 (bv) (5) (nv) rfl rfl rfl (by intro w; kernel_rfl) (.new 46 (by kernel_rfl) (by rw [hz]; decide)) (fun y hy => (hV.box.gr hy).at 5 _ rfl) rfl
  case s2 => exact sa_move (.tmp 0) 48 (.val (.slice (some ⟨g, off, none⟩) n cap)) (.inl rfl) rfl rfl (.old 0 _ (by decide) e0) rfl
  case s3 => exact sa_move (.tmp 4) 49 (.val (.int .i64 (i : Int))) (.inl rfl) rfl rfl (.old 4 _ (by decide) e4) rfl
  case s4 => exact sa_ixa 24 (.tmp 48) (.tmp 49) 50 (.slice (some ⟨g, off, none⟩) n cap) (.int .i64 (i : Int)) (.pointer (some ⟨g, off + i * 6, none⟩)) rfl rfl rfl (.new 48 (by kernel_rfl) (by rw [hz]; decide)) (.new 49 (by kernel_rfl) (by rw [hz]; decide)) (ix_slice und24 size27 hi rfl) rfl
  case s5 => exact sa_fa 27 (.tmp 50) 3 51 (.pointer (some ⟨g, off + i * 6, none⟩)) (.pointer (some ⟨g, off + i * 6 + 3, none⟩)) rfl rfl rfl (.new 50 (by kernel_rfl) (by rw [hz]; decide)) (by intro w; kernel_rfl) rfl
  case s6 => exact sa_loadc 9 (.tmp 51) 52 (g) (off + i * 6 + 3) (.string (strL s)) rfl rfl rfl (by intro w; kernel_rfl) (.new 51 (by kernel_rfl) (by rw [hz]; decide)) hs rfl
  case s7 => exact sa_bs1 25 1 (.tmp 52) 53 (.string (strL s)) rfl rfl rfl (.new 52 (by kernel_rfl) (by rw [hz]; decide)) (fun y => ⟨_, _, bs25 _ y, Gr.alloc _ _, y.heap.size, rfl, holds_new y [strV1 s] 9⟩)
  case e =>
  intro ac wz hA hgr hv
  have o47 : ac.eval (.tmp 47) = nv := hv 47 (by kernel_rfl) (by rw [hz]; decide)
  have o53 := hv 53 (by kernel_rfl) (by rw [hz]; decide)
  obtain ⟨B, hvn, hB⟩ : (oneN s).holds (ac.eval (.tmp 53)) wz := o53
  have hVx : VRf M bv l names wz u nv es := hV.gr hgr
  obtain ⟨ii, i1, i2, i3, i4⟩ := inf9
  have hub : ∀ k, nv.ownBlock = some k → M ≤ k := fun k hk => own_base hVx.nown k hk
  refine wpList_append_lies wz rfl (.tmp 47) (.tmp 53) 25 rfl M 9 ii (.string ⟨#[]⟩) 1 16 und25' i1 i2 i3 i4 rfl (by omega) nv names.length (names.map strV1) o47 hVx.nown ⟨B, 0, none⟩ 1 1 [strV1 s] hvn rfl (World.news_of_block hB) (by intro x hx; simp at hx; subst hx; rfl) (by omega) (by unfold maxLen; omega) (by omega) (Nat.le_trans hM hgr.size) wz.heap.size rfl ?_
  intro g' cap' w1 hown hg1 hat hlt
  have hbox : Holds w1 bv (boxV 5 u nv) 27 := (hg1.block bv hVx.box.lt (fun e => by have := hub bv e.symm; omega)).trans hVx.box
  have hAz : (ac.put (some 54) (.slice (some ⟨g', 0, none⟩) (names.length + 1) cap')).tmps.size = 67 := by rw [put_size, hA.size, hz]
  have y3 : (ac.put (some 54) (.slice (some ⟨g', 0, none⟩) (names.length + 1) cap')).eval (.tmp 3) = .pointer (some ⟨bv, 0, none⟩) := (ev_put (by rw [hA.size, hz]; decide)).trans ((if_neg (by decide)).trans ((hA.old 3 (by decide)).trans e3))
  have y9 : (ac.put (some 54) (.slice (some ⟨g', 0, none⟩) (names.length + 1) cap')).eval (.tmp 54) = .slice (some ⟨g', 0, none⟩) (names.length + 1) cap' := (ev_put (by rw [hA.size, hz]; decide)).trans (if_pos rfl)
  refine wl_of rfl (op_fa 27 (.tmp 3) 5 _ (.pointer (some ⟨bv, 5, none⟩)) rfl y3 (fun w => by kernel_rfl) ?_)
  have hAf : After [55, 54, 46, 47, 48, 49, 50, 51, 52, 53] a0 ((ac.put (some 54) (.slice (some ⟨g', 0, none⟩) (names.length + 1) cap')).put (some 55) (.pointer (some ⟨bv, 5, none⟩))) := (hA.put 54 _).put 55 _
  have z10 : ((ac.put (some 54) (.slice (some ⟨g', 0, none⟩) (names.length + 1) cap')).put (some 55) (.pointer (some ⟨bv, 5, none⟩))).eval (.tmp 55) = .pointer (some ⟨bv, 5, none⟩) := (ev_put (by rw [hAz]; decide)).trans (if_pos rfl)
  have z9 : ((ac.put (some 54) (.slice (some ⟨g', 0, none⟩) (names.length + 1) cap')).put (some 55) (.pointer (some ⟨bv, 5, none⟩))).eval (.tmp 54) = .slice (some ⟨g', 0, none⟩) (names.length + 1) cap' := (ev_put (by rw [hAz]; decide)).trans ((if_neg (by decide)).trans y9)
  generalize (ac.put (some 54) (.slice (some ⟨g', 0, none⟩) (names.length + 1) cap')).put (some 55) (.pointer (some ⟨bv, 5, none⟩)) = az at hAf z10 z9 ⊢
  refine wl_of rfl (op_store1 25 (.tmp 55) (.tmp 54) rfl bv 5 z10 _ z9 rfl rfl size25 (hbox.at 5 _ rfl) (hbox.frozen 5) ?_)
  have hT := turned_set hbox 5 (.slice (some ⟨g', 0, none⟩) (names.length + 1) cap')
  obtain ⟨hV', hK⟩ := vrf_name hVx hg1 hT hbv hown hat
  exact wl_end (hend az _ g' cap' hAf hV' (KeepL.trans ⟨hgr.os, hgr.tape, hgr.output, hgr.size, fun k h1 _ _ => hgr.block k h1⟩ hK))
def q16_12 : Array Oper := #[{ dst := some 56, op := Op.fieldAddr 27 (Operand.tmp 3) 4, type := 0, pos := "ref.go:378", after := #[], guard := none }, { dst := some 57, op := Op.load 24 (Operand.tmp 56), type := 24, pos := "ref.go:378", after := #[{ on := 0, ground := Ground.data }], guard := none }, { dst := some 58, op := Op.move (Operand.tmp 0), type := 24, pos := "ref.go:378", after := #[], guard := none }, { dst := some 59, op := Op.move (Operand.tmp 4), type := 3, pos := "ref.go:378", after := #[], guard := none }, { dst := some 60, op := Op.binOp BinOp.add 3 (Operand.tmp 59) (Operand.const (Value.int IntKind.i64 1)) 3, type := 3, pos := "ref.go:378", after := #[{ on := 3, ground := Ground.data }], guard := none }, { dst := some 61, op := Op.indexAddr 24 (Operand.tmp 58) (Operand.tmp 60), type := 0, pos := "ref.go:378", after := #[{ on := 2, ground := Ground.data }, { on := 4, ground := Ground.data }], guard := none }, { dst := some 62, op := Op.load 27 (Operand.tmp 61), type := 27, pos := "ref.go:378", after := #[{ on := 5, ground := Ground.data }], guard := none }, { dst := some 63, op := Op.buildSlice 24 1 #[(0, Operand.tmp 62)], type := 24, pos := "ref.go:378", after := #[{ on := 6, ground := Ground.data }], guard := none }, { dst := some 64, op := Op.call { callee := Callee.builtin Builtin.append, args := #[Operand.tmp 57, Operand.tmp 63], argTypes := #[24, 24] }, type := 24, pos := "ref.go:378", after := #[{ on := 1, ground := Ground.data }, { on := 7, ground := Ground.data }], guard := none }, { dst := some 65, op := Op.fieldAddr 27 (Operand.tmp 3) 4, type := 0, pos := "ref.go:378", after := #[{ on := 0, ground := Ground.phase }, { on := 1, ground := Ground.phase }, { on := 2, ground := Ground.phase }, { on := 3, ground := Ground.phase }, { on := 4, ground := Ground.phase }, { on := 5, ground := Ground.phase }, { on := 6, ground := Ground.phase }, { on := 7, ground := Ground.phase }, { on := 8, ground := Ground.phase }], guard := none }, { dst := none, op := Op.store 24 (Operand.tmp 65) (Operand.tmp 64), type := 0, pos := "ref.go:378", after := #[{ on := 9, ground := Ground.data }, { on := 8, ground := Ground.data }, { on := 8, ground := Ground.chain }, { on := 0, ground := Ground.phase }, { on := 1, ground := Ground.phase }, { on := 2, ground := Ground.phase }, { on := 3, ground := Ground.phase }, { on := 4, ground := Ground.phase }, { on := 5, ground := Ground.phase }, { on := 6, ground := Ground.phase }, { on := 7, ground := Ground.phase }, { on := 8, ground := Ground.phase }], guard := none }]
set_option maxRecDepth 100000 in
theorem r16_12 {Q : Exit → Act → World → Prop} {a0 : Act} {w : World} (hz : a0.tmps.size = 67) {M bv g off n cap i : Nat} {l : List J} {names : List (List UInt8)} {u nv : Value} {es : List (List Value)} (hV : VRf M bv l names w u nv es) (hM : M ≤ w.heap.size) (hbv : bv < M) {x : J} {c : List Value} (hn : (l.length + 1) * 88 ≤ 140737488355328) (hi : i + 1 < n) (hi64 : (i : Int) + 1 ≤ 9223372036854775807) (hr : w.rangeAt g (off + (i + 1) * 6) c) (hgw : g < w.heap.size) (h6 : c.length = 6) (h1c : ∀ v ∈ c, v.oneCell' = true) (hJ : JAt w (fun k => k + 1 < bv) x (.agg c.toArray)) (e0 : a0.eval (.tmp 0) = .slice (some ⟨g, off, none⟩) n cap) (e3 : a0.eval (.tmp 3) = .pointer (some ⟨bv, 0, none⟩)) (e4 : a0.eval (.tmp 4) = .int .i64 (i : Int)) (hend : ∀ ac wz g' cap', After [65, 64, 56, 57, 58, 59, 60, 61, 62, 63] a0 ac → VRf M bv (l ++ [x]) names wz (.slice (some ⟨g', 0, none⟩) (l.length + 1) cap') nv (es ++ [c]) → KeepL [bv] M w wz → Q .normal ac wz) : (Code.region 12 q16_12 true).wp Tryd.prog Q a0 w := by
  refine drawn_tail (by kernel_rfl) (by kernel_rfl) 8 (by decide) (by kernel_rfl) (by kernel_rfl) [56, 57, 58, 59, 60, 61, 62, 63] (fun | 56 => .val (.pointer (some ⟨bv, 4, none⟩)) | 57 => .val (u) | 58 => .val (.slice (some ⟨g, off, none⟩) n cap) | 59 => .val (.int .i64 (i : Int)) | 60 => .val (.int .i64 ((i : Int) + 1)) | 61 => .val (.pointer (some ⟨g, off + (i + 1) * 6, none⟩)) | 62 => .val (.agg c.toArray) | 63 => oneC c | _ => .any) (by kernel_rfl) (List.forall_mem_cons.2 ⟨?s0, List.forall_mem_cons.2 ⟨?s1, List.forall_mem_cons.2 ⟨?s2, List.forall_mem_cons.2 ⟨?s3, List.forall_mem_cons.2 ⟨?s4, List.forall_mem_cons.2 ⟨?s5, List.forall_mem_cons.2 ⟨?s6, List.forall_mem_cons.2 ⟨?s7, fun o ho => nomatch ho⟩⟩⟩⟩⟩⟩⟩⟩) ?e
  case s0 => exact sa_fa 27 (.tmp 3) 4 56 (.pointer (some ⟨bv, 0, none⟩)) (.pointer (some ⟨bv, 4, none⟩)) rfl rfl rfl (.old 3 _ (by decide) e3) (by intro w; kernel_rfl) rfl
  case s1 => exact sa_loadc 24 (.tmp 56) 57 (bv) (4) (u) rfl rfl rfl (by intro w; kernel_rfl) (.new 56 (by kernel_rfl) (by rw [hz]; decide)) (fun y hy => (hV.box.gr hy).at 4 _ rfl) rfl
  case s2 => exact sa_move (.tmp 0) 58 (.val (.slice (some ⟨g, off, none⟩) n cap)) (.inl rfl) rfl rfl (.old 0 _ (by decide) e0) rfl
  case s3 => exact sa_move (.tmp 4) 59 (.val (.int .i64 (i : Int))) (.inl rfl) rfl rfl (.old 4 _ (by decide) e4) rfl
  case s4 => exact sa_bin .add 3 (.tmp 59) (.const _) 3 60 (.int .i64 (i : Int)) (.int .i64 1) (.int .i64 ((i : Int) + 1)) rfl rfl rfl (.new 59 (by kernel_rfl) (by rw [hz]; decide)) (.const _) guard_int (bin_add rfl (by omega) (by omega)) rfl
  case s5 => exact sa_ixa 24 (.tmp 58) (.tmp 60) 61 (.slice (some ⟨g, off, none⟩) n cap) (.int .i64 ((i : Int) + 1)) (.pointer (some ⟨g, off + (i + 1) * 6, none⟩)) rfl rfl rfl (.new 58 (by kernel_rfl) (by rw [hz]; decide)) (.new 60 (by kernel_rfl) (by rw [hz]; decide)) (by intro y; have := (ix_slice (P := Tryd.prog) (b := g) (o := off) und24 size27 hi rfl : ∀ w, (Instr.indexAt 24 (.slice (some ⟨g, off, none⟩) n cap) (.int .i64 ((i + 1 : Nat) : Int))).run Tryd.prog w = _); exact this y) rfl
  case s6 => exact sa_row 27 (.tmp 61) 62 g (off + (i + 1) * 6) 6 _ c rfl rfl rfl Tryd.underlying27 rfl siz27 h6 (.new 61 (by kernel_rfl) (by rw [hz]; decide)) (fun y hy => range_gr1 hr hy hgw) rfl
  case s7 => exact sa_bs1 24 1 (.tmp 62) 63 (.agg c.toArray) rfl rfl rfl (.new 62 (by kernel_rfl) (by rw [hz]; decide)) (fun y => ⟨_, _, bs24e c h6 y, Gr.alloc _ _, y.heap.size, rfl, holds_new y c 27⟩)
  case e =>
  intro ac wz hA hgr hv
  have o57 : ac.eval (.tmp 57) = u := hv 57 (by kernel_rfl) (by rw [hz]; decide)
  have o63 := hv 63 (by kernel_rfl) (by rw [hz]; decide)
  obtain ⟨B, hvn, hB⟩ : (oneC c).holds (ac.eval (.tmp 63)) wz := o63
  have hVx : VRf M bv l names wz u nv es := hV.gr hgr
  obtain ⟨ii, i1, i2, i3, i4⟩ := inf27
  have hub : ∀ k, u.ownBlock = some k → M ≤ k := fun k hk => own_base hVx.own k hk
  refine wpList_append_lies wz rfl (.tmp 57) (.tmp 63) 24 rfl M 27 ii _ 6 88 und24 i1 i2 i3 i4 rfl (by omega) u l.length es.flatten o57 hVx.own ⟨B, 0, none⟩ 1 1 c hvn (by rw [h6]) (World.news_of_block hB) h1c (by omega) (by unfold maxLen; omega) (by omega) (Nat.le_trans hM hgr.size) wz.heap.size rfl ?_
  intro g' cap' w1 hown hg1 hat hlt
  have hbox : Holds w1 bv (boxV 5 u nv) 27 := (hg1.block bv hVx.box.lt (fun e => by have := hub bv e.symm; omega)).trans hVx.box
  have hAz : (ac.put (some 64) (.slice (some ⟨g', 0, none⟩) (l.length + 1) cap')).tmps.size = 67 := by rw [put_size, hA.size, hz]
  have y3 : (ac.put (some 64) (.slice (some ⟨g', 0, none⟩) (l.length + 1) cap')).eval (.tmp 3) = .pointer (some ⟨bv, 0, none⟩) := (ev_put (by rw [hA.size, hz]; decide)).trans ((if_neg (by decide)).trans ((hA.old 3 (by decide)).trans e3))
  have y9 : (ac.put (some 64) (.slice (some ⟨g', 0, none⟩) (l.length + 1) cap')).eval (.tmp 64) = .slice (some ⟨g', 0, none⟩) (l.length + 1) cap' := (ev_put (by rw [hA.size, hz]; decide)).trans (if_pos rfl)
  refine wl_of rfl (op_fa 27 (.tmp 3) 4 _ (.pointer (some ⟨bv, 4, none⟩)) rfl y3 (fun w => by kernel_rfl) ?_)
  have hAf : After [65, 64, 56, 57, 58, 59, 60, 61, 62, 63] a0 ((ac.put (some 64) (.slice (some ⟨g', 0, none⟩) (l.length + 1) cap')).put (some 65) (.pointer (some ⟨bv, 4, none⟩))) := (hA.put 64 _).put 65 _
  have z10 : ((ac.put (some 64) (.slice (some ⟨g', 0, none⟩) (l.length + 1) cap')).put (some 65) (.pointer (some ⟨bv, 4, none⟩))).eval (.tmp 65) = .pointer (some ⟨bv, 4, none⟩) := (ev_put (by rw [hAz]; decide)).trans (if_pos rfl)
  have z9 : ((ac.put (some 64) (.slice (some ⟨g', 0, none⟩) (l.length + 1) cap')).put (some 65) (.pointer (some ⟨bv, 4, none⟩))).eval (.tmp 64) = .slice (some ⟨g', 0, none⟩) (l.length + 1) cap' := (ev_put (by rw [hAz]; decide)).trans ((if_neg (by decide)).trans y9)
  generalize (ac.put (some 64) (.slice (some ⟨g', 0, none⟩) (l.length + 1) cap')).put (some 65) (.pointer (some ⟨bv, 4, none⟩)) = az at hAf z10 z9 ⊢
  refine wl_of rfl (op_store1 24 (.tmp 65) (.tmp 64) rfl bv 4 z10 _ z9 rfl rfl size24 (hbox.at 4 _ rfl) (hbox.frozen 4) ?_)
  have hT := turned_set hbox 4 (.slice (some ⟨g', 0, none⟩) (l.length + 1) cap')
  obtain ⟨hV', hK⟩ := vrf_elem hVx hg1 hT hbv hown hat h6 (hJ.gr hgr)
  exact wl_end (hend az _ g' cap' hAf hV' (KeepL.trans ⟨hgr.os, hgr.tape, hgr.output, hgr.size, fun k h1 _ _ => hgr.block k h1⟩ hK))
theorem keepL_grow {w x y : World} {bv M : Nat} (h : Gr w x) (k : KeepL [bv] M x y) (h1 : w.heap.size ≤ bv) (h2 : w.heap.size ≤ M) : Gr w y := keepL_gr h k h1 h2
set_option maxHeartbeats 8000000 in
set_option maxRecDepth 100000 in
theorem rmake_any {w0 : World} {S : Nat → Prop} {ls : List J} {la : Option Addr} {lc : Nat} {es : List (List Value)} (hes : es.length = ls.length) (h6' : ∀ c ∈ es, c.length = 6) (hl : ∀ (i : Nat) (x : J) (c : List Value), ls[i]? = some x → es[i]? = some c → JAt w0 S x (.agg c.toArray)) (hlies : Lies w0 S la es.flatten)
    (hL : ls.length * 88 ≤ 140737488355328) {w : World} (hw : Gr w0 w) :
    Calls Tryd.prog 16 #[.slice la ls.length lc] w fun e w' => ∃ u, e = .returned u ∧ Gr w w' ∧ JAt w' (fun _ => True) (makeJ ls) u := by
  obtain ⟨n, hn⟩ : ∃ n, ls.length = n := ⟨_, rfl⟩
  obtain ⟨RR, hRR⟩ : ∃ R, makeF ls [] [] = R := ⟨_, rfl⟩
  have hn64 : (n : Int) ≤ 1599289640401 := by omega
  obtain ⟨w1, hw1e⟩ : ∃ w1, (w.alloc (.cells zeroJ.toArray 27)).alloc (.cells (boxV 5 (.slice none 0 0) (.slice none 0 0)).toArray 27) = w1 := ⟨_, rfl⟩
  have hg1 : Gr w w1 := hw1e ▸ (Gr.alloc _ _).trans (Gr.alloc _ _)
  have hs1 : w1.heap.size = w.heap.size + 2 := by rw [← hw1e]; simp
  have hz1 : Holds w1 w.heap.size zeroJ 27 := by rw [← hw1e]; exact (holds_new w zeroJ 27).alloc _
  have hbx : Holds w1 (w.heap.size + 1) (boxV 5 (.slice none 0 0) (.slice none 0 0)) 27 := by
    have := holds_new (w.alloc (.cells zeroJ.toArray 27)) (boxV 5 (.slice none 0 0) (.slice none 0 0)) 27
    rw [hw1e] at this
    simpa using this
  subst hw1e
  unfold makeJ
  rw [hRR, hn]
  go_enter Tryd.func16, Tryd.ntmps16
  go_wp2_with fail
  go_loopw [4] (fun c wr => ∃ (i : Nat) (ejs : List J) (names : List (List UInt8)) (u nv : Value) (ess : List (List Value)), c = .int .i64 (i : Int) ∧ i ≤ n + 1 ∧ makeF (ls.drop i) names ejs = RR ∧ (VRf (w.heap.size + 2) (w.heap.size + 1) ejs names wr u nv ess ∧ ejs.length ≤ i ∧ names.length ≤ i) ∧ Holds wr w.heap.size zeroJ 27 ∧ Gr w wr ∧ w.heap.size + 2 ≤ wr.heap.size) (fun c _ => n + 1 - (intOf c).toNat)
  case atStart =>
    refine ⟨0, [], [], .slice none 0 0, .slice none 0 0, [], rfl, by omega, by rw [List.drop_zero]; exact hRR, ⟨⟨hbx, World.ownsRow_nil _ _ _ _, World.ownsRow_nil _ _ _ _, (fun k h => by cases h), rfl, (fun c h => nomatch h), fun i x c h => by simp at h⟩, Nat.zero_le _, Nat.zero_le _⟩, hz1, hg1, by simp⟩
  case round =>
    obtain ⟨i, ejs, names, u, nv, ess, rfl, hi, hR, ⟨hV, hjl, hnl⟩, hz, hgw, hsr⟩ := hrel
    obtain ⟨w1, hw1e⟩ : ∃ w1, w1 = wr := ⟨_, rfl⟩
    subst hw1e
    clear hz1 hbx hRR hs1 hg1
    rcases Nat.lt_or_ge (i + 1) n with hlt | hge
    · have hx : ls[i]? = some ls[i] := List.getElem?_eq_getElem (by omega)
      have hy : ls[i + 1]? = some ls[i + 1] := List.getElem?_eq_getElem (by omega)
      have hce : es[i]? = some (es[i]'(by omega)) := List.getElem?_eq_getElem (by omega)
      have hde : es[i + 1]? = some (es[i + 1]'(by omega)) := List.getElem?_eq_getElem (by omega)
      have d6 := h6' _ (List.mem_of_getElem? hde)
      have d1 := es_one hes hl _ (List.mem_of_getElem? hde)
      have hJx := hl i _ _ hx hce
      have hJy := hl (i + 1) _ _ hy hde
      obtain ⟨g, off, rfl, hgS, _⟩ := hlies.elemG (hw.trans hgw) h6' hce
      have hrng : ∀ z, Gr w z → z.rangeAt g (off + i * 6) (es[i]'(by omega)) := by
        intro z hz'
        obtain ⟨g', off', e1, _, e3⟩ := hlies.elemG (hw.trans hz') h6' hce
        cases e1
        exact e3
      have hrd : ∀ z, Gr w z → z.rangeAt g (off + (i + 1) * 6) (es[i + 1]'(by omega)) := by
        intro z hz'
        obtain ⟨g', off', e1, _, e3⟩ := hlies.elemG (hw.trans hz') h6' hde
        cases e1
        exact e3
      have hix : ∀ w, (Instr.indexAt 24 (.slice (some ⟨g, off, none⟩) n lc) (.int .i64 (i : Int))).run Tryd.prog w = .ok (.pointer (some ⟨g, off + i * 6, none⟩)) w := ix_slice und24 size27 (by omega) rfl
      have g1 : (i : Int) + 1 < (n : Int) := by omega
      have hw1 : IntKind.i64.wrap ((i : Int) + 1) = (i : Int) + 1 := wrap_in (by omega) (by omega)
      have hw2 : IntKind.i64.wrap ((i : Int) + 2) = ((i + 2 : Nat) : Int) := by rw [wrap_in (by omega) (by omega)]; omega
      have hgN : g < w.heap.size := Nat.lt_of_lt_of_le hgS hw.size
      rw [make_next (by omega)] at hR
      generalize hxx : ls[i] = x at *
      generalize hyy : ls[i + 1] = y at *
      generalize es[i]'(by omega) = c at *
      generalize es[i + 1]'(by omega) = d at *
      obtain ⟨k, b, m, s, xl, xn⟩ := x
      obtain ⟨lx, nx, cx, kx, ex, rfl, _⟩ := jat_at hJx
      have hR : (if k = 3 then (if s ∈ names then makeF (ls.drop (i + 2)) names ejs else makeF (ls.drop (i + 2)) (names ++ [s]) (ejs ++ [y])) else makeF (ls.drop (i + 2)) names ejs) = RR := hR
      have hs3 : ∀ z, Gr w z → z.cell? ⟨g, off + i * 6 + 3, none⟩ = some (.string (strL s)) := fun z hz => hrng z hz 3 _ rfl
      have hk0 : ∀ z, Gr w z → z.cell? ⟨g, off + i * 6, none⟩ = some (.int .i64 k) := fun z hz => hrng z hz 0 _ rfl
      clear hes h6' hl hlies hx hy hce hde hJx hxx hyy hrng
      obtain ⟨va, nc, hnv, hnlies⟩ := own_val hV.nown
      subst hnv
      have hnl64 : (names.length : Int) ≤ 1599289640402 := by omega
      obtain ⟨NN, hNN⟩ : ∃ q, names.length = q := ⟨_, rfl⟩
      rw [hNN] at hV hnl64
      have hfal : decide (s ∈ names.take 0) = false := by simp
      go_wp2_with fail
      go_loopw [5, 6] (fun a c wx => ∃ t : Nat, a = .bool (decide (s ∈ names.take t)) ∧ c = .int .i64 (t : Int) ∧ t ≤ NN ∧ Gr w1 wx) (fun _ c _ => NN - (intOf c).toNat)
      case atStart => exact ⟨0, by rw [hfal], rfl, Nat.zero_le _, Gr.refl _⟩
      case round =>
        obtain ⟨wx, hwxe⟩ : ∃ wx, wx = wr := ⟨_, rfl⟩
        subst hwxe
        obtain ⟨t, rfl, rfl, ht, hgx⟩ := hrel
        have hVx := hV.gr hgx
        have hzx := hz.gr hgx
        have k5 : wx.cell? ⟨w.heap.size + 1, 5, none⟩ = some (.slice va NN nc) := hVx.box.at 5 _ rfl
        rcases Nat.lt_or_ge t NN with hn1 | hn1
        · have gn : (t : Int) < (NN : Int) := by omega
          have hw3 : IntKind.i64.wrap ((t : Int) + 1) = ((t + 1 : Nat) : Int) := by rw [wrap_in (by omega) (by omega)]; omega
          have htk : names.take (t + 1) = names.take t ++ [names[t]'(by omega)] := List.take_succ_eq_append_getElem (by omega)
          obtain ⟨g2, o2, rfl, _, _⟩ := lies_str hnlies hgx (i := t) (by omega)
          have f1 : ∀ y, Gr wx y → y.cell? ⟨g2, o2 + t, none⟩ = some (.string (strL (names[t]'(by omega)))) := fun y hy => by
            obtain ⟨g', o', e, _, e3⟩ := lies_str hnlies (hgx.trans hy) (i := t) (by omega)
            cases e; exact e3
          generalize names[t]'(by omega) = m1 at *
          by_cases hin : s ∈ names.take t
          · have g5 : decide (s ∈ names.take t) = true := by simp [hin]
            have g6 : decide (s ∈ names.take (t + 1)) = true := by rw [htk]; simp [hin]
            rw [g5]
            clear hin htk g5 hR
            go_upto_region 9 with fail
            refine r16_9t rfl rfl rfl rfl rfl rfl fun ac wz hA h5 hgz => ?_
            rename_i hK
            refine hK _ _ ?_
            have e : ac = ⟨(ac.eval (.tmp 0) :: ac.eval (.tmp 1) :: ac.eval (.tmp 2) :: ac.eval (.tmp 3) :: ac.eval (.tmp 4) :: ac.eval (.tmp 5) :: ac.eval (.tmp 6) :: ac.eval (.tmp 7) :: ac.eval (.tmp 8) :: ac.eval (.tmp 9) :: ac.eval (.tmp 10) :: ac.eval (.tmp 11) :: ac.eval (.tmp 12) :: ac.eval (.tmp 13) :: ac.eval (.tmp 14) :: ac.eval (.tmp 15) :: ac.eval (.tmp 16) :: ac.eval (.tmp 17) :: ac.eval (.tmp 18) :: ac.eval (.tmp 19) :: ac.eval (.tmp 20) :: ac.eval (.tmp 21) :: ac.eval (.tmp 22) :: ac.eval (.tmp 23) :: ac.eval (.tmp 24) :: ac.eval (.tmp 25) :: ac.eval (.tmp 26) :: ac.eval (.tmp 27) :: ac.eval (.tmp 28) :: ac.eval (.tmp 29) :: ac.eval (.tmp 30) :: ac.eval (.tmp 31) :: ac.eval (.tmp 32) :: ac.eval (.tmp 33) :: ac.eval (.tmp 34) :: ac.eval (.tmp 35) :: ac.eval (.tmp 36) :: ac.eval (.tmp 37) :: ac.eval (.tmp 38) :: ac.eval (.tmp 39) :: ac.eval (.tmp 40) :: ac.eval (.tmp 41) :: ac.eval (.tmp 42) :: ac.eval (.tmp 43) :: ac.eval (.tmp 44) :: ac.eval (.tmp 45) :: ac.eval (.tmp 46) :: ac.eval (.tmp 47) :: ac.eval (.tmp 48) :: ac.eval (.tmp 49) :: ac.eval (.tmp 50) :: ac.eval (.tmp 51) :: ac.eval (.tmp 52) :: ac.eval (.tmp 53) :: ac.eval (.tmp 54) :: ac.eval (.tmp 55) :: ac.eval (.tmp 56) :: ac.eval (.tmp 57) :: ac.eval (.tmp 58) :: ac.eval (.tmp 59) :: ac.eval (.tmp 60) :: ac.eval (.tmp 61) :: ac.eval (.tmp 62) :: ac.eval (.tmp 63) :: ac.eval (.tmp 64) :: ac.eval (.tmp 65) :: ac.eval (.tmp 66) :: ([] : List Value)).toArray, ac.defers⟩ := (act_lit2 (hA.size.trans rfl)).trans rfl
            rw [hA.defers, (hA.old 0 (by decide)).trans rfl, (hA.old 1 (by decide)).trans rfl, (hA.old 2 (by decide)).trans rfl, (hA.old 3 (by decide)).trans rfl, (hA.old 4 (by decide)).trans rfl, (hA.old 6 (by decide)).trans rfl, (hA.old 7 (by decide)).trans rfl, (hA.old 8 (by decide)).trans rfl, (hA.old 9 (by decide)).trans rfl, (hA.old 10 (by decide)).trans rfl, (hA.old 11 (by decide)).trans rfl, (hA.old 12 (by decide)).trans rfl, (hA.old 13 (by decide)).trans rfl, (hA.old 14 (by decide)).trans rfl, (hA.old 15 (by decide)).trans rfl, (hA.old 16 (by decide)).trans rfl, (hA.old 17 (by decide)).trans rfl, (hA.old 18 (by decide)).trans rfl, (hA.old 19 (by decide)).trans rfl, (hA.old 20 (by decide)).trans rfl, (hA.old 21 (by decide)).trans rfl, (hA.old 36 (by decide)).trans rfl, (hA.old 37 (by decide)).trans rfl, (hA.old 38 (by decide)).trans rfl, (hA.old 39 (by decide)).trans rfl, (hA.old 40 (by decide)).trans rfl, (hA.old 41 (by decide)).trans rfl, (hA.old 42 (by decide)).trans rfl, (hA.old 43 (by decide)).trans rfl, (hA.old 44 (by decide)).trans rfl, (hA.old 45 (by decide)).trans rfl, (hA.old 46 (by decide)).trans rfl, (hA.old 47 (by decide)).trans rfl, (hA.old 48 (by decide)).trans rfl, (hA.old 49 (by decide)).trans rfl, (hA.old 50 (by decide)).trans rfl, (hA.old 51 (by decide)).trans rfl, (hA.old 52 (by decide)).trans rfl, (hA.old 53 (by decide)).trans rfl, (hA.old 54 (by decide)).trans rfl, (hA.old 55 (by decide)).trans rfl, (hA.old 56 (by decide)).trans rfl, (hA.old 57 (by decide)).trans rfl, (hA.old 58 (by decide)).trans rfl, (hA.old 59 (by decide)).trans rfl, (hA.old 60 (by decide)).trans rfl, (hA.old 61 (by decide)).trans rfl, (hA.old 62 (by decide)).trans rfl, (hA.old 63 (by decide)).trans rfl, (hA.old 64 (by decide)).trans rfl, (hA.old 65 (by decide)).trans rfl, (hA.old 66 (by decide)).trans rfl, h5] at e
            generalize ac.eval (.tmp 22) = x22 at e
            generalize ac.eval (.tmp 23) = x23 at e
            generalize ac.eval (.tmp 24) = x24 at e
            generalize ac.eval (.tmp 25) = x25 at e
            generalize ac.eval (.tmp 26) = x26 at e
            generalize ac.eval (.tmp 27) = x27 at e
            generalize ac.eval (.tmp 28) = x28 at e
            generalize ac.eval (.tmp 29) = x29 at e
            generalize ac.eval (.tmp 30) = x30 at e
            generalize ac.eval (.tmp 31) = x31 at e
            generalize ac.eval (.tmp 32) = x32 at e
            generalize ac.eval (.tmp 33) = x33 at e
            generalize ac.eval (.tmp 34) = x34 at e
            generalize ac.eval (.tmp 35) = x35 at e
            subst e
            go_wp2
            exact ⟨⟨t + 1, by rw [g6], rfl, by omega, hgx.trans hgz⟩, by simp; omega⟩
          · have g5 : decide (s ∈ names.take t) = false := by simp [hin]
            have g6 : ((strL m1).toList == (strL s).toList) = decide (s ∈ names.take (t + 1)) := by
              rw [htk]
              by_cases hq : m1 = s
              · subst hq; simp
              · simp only [List.mem_append, hin, List.mem_singleton, false_or, Ne.symm hq]
                simp [toList_ne hq]
            rw [g5]
            clear hin htk g5 hR
            go_upto_region 9 with fail
            refine r16_9f rfl (fun y hy => (hVx.box.gr hy).at 5 _ rfl) hn1 (show i < n by omega) f1 (fun y hy => hs3 y (hgw.trans (hgx.trans hy))) rfl rfl rfl rfl rfl fun ac wz hA h5 hgz => ?_
            rw [g6] at h5
            generalize hQ : decide (s ∈ names.take (t + 1)) = qb at *
            rename_i hK
            refine hK _ _ ?_
            have e : ac = ⟨(ac.eval (.tmp 0) :: ac.eval (.tmp 1) :: ac.eval (.tmp 2) :: ac.eval (.tmp 3) :: ac.eval (.tmp 4) :: ac.eval (.tmp 5) :: ac.eval (.tmp 6) :: ac.eval (.tmp 7) :: ac.eval (.tmp 8) :: ac.eval (.tmp 9) :: ac.eval (.tmp 10) :: ac.eval (.tmp 11) :: ac.eval (.tmp 12) :: ac.eval (.tmp 13) :: ac.eval (.tmp 14) :: ac.eval (.tmp 15) :: ac.eval (.tmp 16) :: ac.eval (.tmp 17) :: ac.eval (.tmp 18) :: ac.eval (.tmp 19) :: ac.eval (.tmp 20) :: ac.eval (.tmp 21) :: ac.eval (.tmp 22) :: ac.eval (.tmp 23) :: ac.eval (.tmp 24) :: ac.eval (.tmp 25) :: ac.eval (.tmp 26) :: ac.eval (.tmp 27) :: ac.eval (.tmp 28) :: ac.eval (.tmp 29) :: ac.eval (.tmp 30) :: ac.eval (.tmp 31) :: ac.eval (.tmp 32) :: ac.eval (.tmp 33) :: ac.eval (.tmp 34) :: ac.eval (.tmp 35) :: ac.eval (.tmp 36) :: ac.eval (.tmp 37) :: ac.eval (.tmp 38) :: ac.eval (.tmp 39) :: ac.eval (.tmp 40) :: ac.eval (.tmp 41) :: ac.eval (.tmp 42) :: ac.eval (.tmp 43) :: ac.eval (.tmp 44) :: ac.eval (.tmp 45) :: ac.eval (.tmp 46) :: ac.eval (.tmp 47) :: ac.eval (.tmp 48) :: ac.eval (.tmp 49) :: ac.eval (.tmp 50) :: ac.eval (.tmp 51) :: ac.eval (.tmp 52) :: ac.eval (.tmp 53) :: ac.eval (.tmp 54) :: ac.eval (.tmp 55) :: ac.eval (.tmp 56) :: ac.eval (.tmp 57) :: ac.eval (.tmp 58) :: ac.eval (.tmp 59) :: ac.eval (.tmp 60) :: ac.eval (.tmp 61) :: ac.eval (.tmp 62) :: ac.eval (.tmp 63) :: ac.eval (.tmp 64) :: ac.eval (.tmp 65) :: ac.eval (.tmp 66) :: ([] : List Value)).toArray, ac.defers⟩ := (act_lit2 (hA.size.trans rfl)).trans rfl
            rw [hA.defers, (hA.old 0 (by decide)).trans rfl, (hA.old 1 (by decide)).trans rfl, (hA.old 2 (by decide)).trans rfl, (hA.old 3 (by decide)).trans rfl, (hA.old 4 (by decide)).trans rfl, (hA.old 6 (by decide)).trans rfl, (hA.old 7 (by decide)).trans rfl, (hA.old 8 (by decide)).trans rfl, (hA.old 9 (by decide)).trans rfl, (hA.old 10 (by decide)).trans rfl, (hA.old 11 (by decide)).trans rfl, (hA.old 12 (by decide)).trans rfl, (hA.old 13 (by decide)).trans rfl, (hA.old 14 (by decide)).trans rfl, (hA.old 15 (by decide)).trans rfl, (hA.old 16 (by decide)).trans rfl, (hA.old 17 (by decide)).trans rfl, (hA.old 18 (by decide)).trans rfl, (hA.old 19 (by decide)).trans rfl, (hA.old 20 (by decide)).trans rfl, (hA.old 21 (by decide)).trans rfl, (hA.old 36 (by decide)).trans rfl, (hA.old 37 (by decide)).trans rfl, (hA.old 38 (by decide)).trans rfl, (hA.old 39 (by decide)).trans rfl, (hA.old 40 (by decide)).trans rfl, (hA.old 41 (by decide)).trans rfl, (hA.old 42 (by decide)).trans rfl, (hA.old 43 (by decide)).trans rfl, (hA.old 44 (by decide)).trans rfl, (hA.old 45 (by decide)).trans rfl, (hA.old 46 (by decide)).trans rfl, (hA.old 47 (by decide)).trans rfl, (hA.old 48 (by decide)).trans rfl, (hA.old 49 (by decide)).trans rfl, (hA.old 50 (by decide)).trans rfl, (hA.old 51 (by decide)).trans rfl, (hA.old 52 (by decide)).trans rfl, (hA.old 53 (by decide)).trans rfl, (hA.old 54 (by decide)).trans rfl, (hA.old 55 (by decide)).trans rfl, (hA.old 56 (by decide)).trans rfl, (hA.old 57 (by decide)).trans rfl, (hA.old 58 (by decide)).trans rfl, (hA.old 59 (by decide)).trans rfl, (hA.old 60 (by decide)).trans rfl, (hA.old 61 (by decide)).trans rfl, (hA.old 62 (by decide)).trans rfl, (hA.old 63 (by decide)).trans rfl, (hA.old 64 (by decide)).trans rfl, (hA.old 65 (by decide)).trans rfl, (hA.old 66 (by decide)).trans rfl, h5] at e
            generalize ac.eval (.tmp 22) = x22 at e
            generalize ac.eval (.tmp 23) = x23 at e
            generalize ac.eval (.tmp 24) = x24 at e
            generalize ac.eval (.tmp 25) = x25 at e
            generalize ac.eval (.tmp 26) = x26 at e
            generalize ac.eval (.tmp 27) = x27 at e
            generalize ac.eval (.tmp 28) = x28 at e
            generalize ac.eval (.tmp 29) = x29 at e
            generalize ac.eval (.tmp 30) = x30 at e
            generalize ac.eval (.tmp 31) = x31 at e
            generalize ac.eval (.tmp 32) = x32 at e
            generalize ac.eval (.tmp 33) = x33 at e
            generalize ac.eval (.tmp 34) = x34 at e
            generalize ac.eval (.tmp 35) = x35 at e
            subst e
            go_wp2
            exact ⟨⟨t + 1, by rw [hQ], rfl, by omega, hgx.trans hgz⟩, by simp; omega⟩
        · have gn : ¬ (t : Int) < (NN : Int) := by omega
          have hta : names.take t = names := List.take_of_length_le (by omega)
          have hkz := hk0 wx (hgw.trans hgx)
          rw [hta]
          by_cases hk : k = 3
          case neg =>
            have gk : (k == 3) = false := by simp [hk]
            rw [if_neg hk] at hR
            generalize decide (s ∈ names) = qb at *
            clear hk hrd hs3 hJy
            rw [hNN] at *
            go_wp2
            exact ⟨⟨i + 2, ejs, names, u, _, ess, rfl, by omega, hR, ⟨hNN ▸ hVx, by omega, by omega⟩, hzx, hgw.trans hgx, Nat.le_trans hsr hgx.size⟩, by simp; omega⟩
          subst hk
          rw [if_pos rfl] at hR
          by_cases hin : s ∈ names
          · rw [if_pos hin] at hR
            have g5 : decide (s ∈ names) = true := by simp [hin]
            rw [g5]
            clear hin g5 hrd hs3 hJy
            go_wp2
            exact ⟨⟨i + 2, ejs, names, u, _, ess, rfl, by omega, hR, ⟨hNN ▸ hVx, by omega, by omega⟩, hzx, hgw.trans hgx, Nat.le_trans hsr hgx.size⟩, by simp; omega⟩
          · rw [if_neg hin] at hR
            have g5 : decide (s ∈ names) = false := by simp [hin]
            rw [g5]
            clear hin g5
            subst hNN
            go_upto_region 11 with fail
            refine r16_11 rfl hVx (by have := hgx.size; omega) (by omega) (by omega) (show i < n by omega) (fun y hy => hs3 y (hgw.trans (hgx.trans hy))) rfl rfl rfl fun ac wz g3 cap3 hA hV3 hK3 => ?_
            rename_i hK
            refine hK _ _ ?_
            have e : ac = ⟨(ac.eval (.tmp 0) :: ac.eval (.tmp 1) :: ac.eval (.tmp 2) :: ac.eval (.tmp 3) :: ac.eval (.tmp 4) :: ac.eval (.tmp 5) :: ac.eval (.tmp 6) :: ac.eval (.tmp 7) :: ac.eval (.tmp 8) :: ac.eval (.tmp 9) :: ac.eval (.tmp 10) :: ac.eval (.tmp 11) :: ac.eval (.tmp 12) :: ac.eval (.tmp 13) :: ac.eval (.tmp 14) :: ac.eval (.tmp 15) :: ac.eval (.tmp 16) :: ac.eval (.tmp 17) :: ac.eval (.tmp 18) :: ac.eval (.tmp 19) :: ac.eval (.tmp 20) :: ac.eval (.tmp 21) :: ac.eval (.tmp 22) :: ac.eval (.tmp 23) :: ac.eval (.tmp 24) :: ac.eval (.tmp 25) :: ac.eval (.tmp 26) :: ac.eval (.tmp 27) :: ac.eval (.tmp 28) :: ac.eval (.tmp 29) :: ac.eval (.tmp 30) :: ac.eval (.tmp 31) :: ac.eval (.tmp 32) :: ac.eval (.tmp 33) :: ac.eval (.tmp 34) :: ac.eval (.tmp 35) :: ac.eval (.tmp 36) :: ac.eval (.tmp 37) :: ac.eval (.tmp 38) :: ac.eval (.tmp 39) :: ac.eval (.tmp 40) :: ac.eval (.tmp 41) :: ac.eval (.tmp 42) :: ac.eval (.tmp 43) :: ac.eval (.tmp 44) :: ac.eval (.tmp 45) :: ac.eval (.tmp 46) :: ac.eval (.tmp 47) :: ac.eval (.tmp 48) :: ac.eval (.tmp 49) :: ac.eval (.tmp 50) :: ac.eval (.tmp 51) :: ac.eval (.tmp 52) :: ac.eval (.tmp 53) :: ac.eval (.tmp 54) :: ac.eval (.tmp 55) :: ac.eval (.tmp 56) :: ac.eval (.tmp 57) :: ac.eval (.tmp 58) :: ac.eval (.tmp 59) :: ac.eval (.tmp 60) :: ac.eval (.tmp 61) :: ac.eval (.tmp 62) :: ac.eval (.tmp 63) :: ac.eval (.tmp 64) :: ac.eval (.tmp 65) :: ac.eval (.tmp 66) :: ([] : List Value)).toArray, ac.defers⟩ := (act_lit2 (hA.size.trans rfl)).trans rfl
            rw [hA.defers, (hA.old 0 (by decide)).trans rfl, (hA.old 1 (by decide)).trans rfl, (hA.old 2 (by decide)).trans rfl, (hA.old 3 (by decide)).trans rfl, (hA.old 4 (by decide)).trans rfl, (hA.old 5 (by decide)).trans rfl, (hA.old 6 (by decide)).trans rfl, (hA.old 7 (by decide)).trans rfl, (hA.old 8 (by decide)).trans rfl, (hA.old 9 (by decide)).trans rfl, (hA.old 10 (by decide)).trans rfl, (hA.old 11 (by decide)).trans rfl, (hA.old 12 (by decide)).trans rfl, (hA.old 13 (by decide)).trans rfl, (hA.old 14 (by decide)).trans rfl, (hA.old 15 (by decide)).trans rfl, (hA.old 16 (by decide)).trans rfl, (hA.old 17 (by decide)).trans rfl, (hA.old 18 (by decide)).trans rfl, (hA.old 19 (by decide)).trans rfl, (hA.old 20 (by decide)).trans rfl, (hA.old 21 (by decide)).trans rfl, (hA.old 22 (by decide)).trans rfl, (hA.old 23 (by decide)).trans rfl, (hA.old 24 (by decide)).trans rfl, (hA.old 25 (by decide)).trans rfl, (hA.old 26 (by decide)).trans rfl, (hA.old 27 (by decide)).trans rfl, (hA.old 28 (by decide)).trans rfl, (hA.old 29 (by decide)).trans rfl, (hA.old 30 (by decide)).trans rfl, (hA.old 31 (by decide)).trans rfl, (hA.old 32 (by decide)).trans rfl, (hA.old 33 (by decide)).trans rfl, (hA.old 34 (by decide)).trans rfl, (hA.old 35 (by decide)).trans rfl, (hA.old 36 (by decide)).trans rfl, (hA.old 37 (by decide)).trans rfl, (hA.old 38 (by decide)).trans rfl, (hA.old 39 (by decide)).trans rfl, (hA.old 40 (by decide)).trans rfl, (hA.old 41 (by decide)).trans rfl, (hA.old 42 (by decide)).trans rfl, (hA.old 43 (by decide)).trans rfl, (hA.old 44 (by decide)).trans rfl, (hA.old 45 (by decide)).trans rfl, (hA.old 56 (by decide)).trans rfl, (hA.old 57 (by decide)).trans rfl, (hA.old 58 (by decide)).trans rfl, (hA.old 59 (by decide)).trans rfl, (hA.old 60 (by decide)).trans rfl, (hA.old 61 (by decide)).trans rfl, (hA.old 62 (by decide)).trans rfl, (hA.old 63 (by decide)).trans rfl, (hA.old 64 (by decide)).trans rfl, (hA.old 65 (by decide)).trans rfl, (hA.old 66 (by decide)).trans rfl] at e
            generalize ac.eval (.tmp 46) = x46 at e
            generalize ac.eval (.tmp 47) = x47 at e
            generalize ac.eval (.tmp 48) = x48 at e
            generalize ac.eval (.tmp 49) = x49 at e
            generalize ac.eval (.tmp 50) = x50 at e
            generalize ac.eval (.tmp 51) = x51 at e
            generalize ac.eval (.tmp 52) = x52 at e
            generalize ac.eval (.tmp 53) = x53 at e
            generalize ac.eval (.tmp 54) = x54 at e
            generalize ac.eval (.tmp 55) = x55 at e
            subst e
            have hg3 : Gr w wz := keepL_gr (hgw.trans hgx) hK3 (by omega) (by omega)
            have hz3 : Holds wz w.heap.size zeroJ 27 := (hK3.block _ hzx.lt (by omega) (by simp)).trans hzx
            have hs3' : w.heap.size + 2 ≤ wz.heap.size := by have := hK3.size; have := hgx.size; omega
            clear hA
            go_upto_region 12 with fail
            refine r16_12 (n := n) rfl hV3 hs3' (by omega) (by omega) hlt (by omega) (hrd wz hg3) (by have := hg3.size; omega) d6 d1 ((jat_lt hJy).mono fun k h1 h2 => ⟨by have := hw.size; omega, (hw.trans hg3).block k h2⟩) rfl rfl rfl fun ac wz2 g4 cap4 hA hV4 hK4 => ?_
            have e : ac = ⟨(ac.eval (.tmp 0) :: ac.eval (.tmp 1) :: ac.eval (.tmp 2) :: ac.eval (.tmp 3) :: ac.eval (.tmp 4) :: ac.eval (.tmp 5) :: ac.eval (.tmp 6) :: ac.eval (.tmp 7) :: ac.eval (.tmp 8) :: ac.eval (.tmp 9) :: ac.eval (.tmp 10) :: ac.eval (.tmp 11) :: ac.eval (.tmp 12) :: ac.eval (.tmp 13) :: ac.eval (.tmp 14) :: ac.eval (.tmp 15) :: ac.eval (.tmp 16) :: ac.eval (.tmp 17) :: ac.eval (.tmp 18) :: ac.eval (.tmp 19) :: ac.eval (.tmp 20) :: ac.eval (.tmp 21) :: ac.eval (.tmp 22) :: ac.eval (.tmp 23) :: ac.eval (.tmp 24) :: ac.eval (.tmp 25) :: ac.eval (.tmp 26) :: ac.eval (.tmp 27) :: ac.eval (.tmp 28) :: ac.eval (.tmp 29) :: ac.eval (.tmp 30) :: ac.eval (.tmp 31) :: ac.eval (.tmp 32) :: ac.eval (.tmp 33) :: ac.eval (.tmp 34) :: ac.eval (.tmp 35) :: ac.eval (.tmp 36) :: ac.eval (.tmp 37) :: ac.eval (.tmp 38) :: ac.eval (.tmp 39) :: ac.eval (.tmp 40) :: ac.eval (.tmp 41) :: ac.eval (.tmp 42) :: ac.eval (.tmp 43) :: ac.eval (.tmp 44) :: ac.eval (.tmp 45) :: ac.eval (.tmp 46) :: ac.eval (.tmp 47) :: ac.eval (.tmp 48) :: ac.eval (.tmp 49) :: ac.eval (.tmp 50) :: ac.eval (.tmp 51) :: ac.eval (.tmp 52) :: ac.eval (.tmp 53) :: ac.eval (.tmp 54) :: ac.eval (.tmp 55) :: ac.eval (.tmp 56) :: ac.eval (.tmp 57) :: ac.eval (.tmp 58) :: ac.eval (.tmp 59) :: ac.eval (.tmp 60) :: ac.eval (.tmp 61) :: ac.eval (.tmp 62) :: ac.eval (.tmp 63) :: ac.eval (.tmp 64) :: ac.eval (.tmp 65) :: ac.eval (.tmp 66) :: ([] : List Value)).toArray, ac.defers⟩ := (act_lit2 (hA.size.trans rfl)).trans rfl
            rw [hA.defers, (hA.old 0 (by decide)).trans rfl, (hA.old 1 (by decide)).trans rfl, (hA.old 2 (by decide)).trans rfl, (hA.old 3 (by decide)).trans rfl, (hA.old 4 (by decide)).trans rfl, (hA.old 5 (by decide)).trans rfl, (hA.old 6 (by decide)).trans rfl, (hA.old 7 (by decide)).trans rfl, (hA.old 8 (by decide)).trans rfl, (hA.old 9 (by decide)).trans rfl, (hA.old 10 (by decide)).trans rfl, (hA.old 11 (by decide)).trans rfl, (hA.old 12 (by decide)).trans rfl, (hA.old 13 (by decide)).trans rfl, (hA.old 14 (by decide)).trans rfl, (hA.old 15 (by decide)).trans rfl, (hA.old 16 (by decide)).trans rfl, (hA.old 17 (by decide)).trans rfl, (hA.old 18 (by decide)).trans rfl, (hA.old 19 (by decide)).trans rfl, (hA.old 20 (by decide)).trans rfl, (hA.old 21 (by decide)).trans rfl, (hA.old 22 (by decide)).trans rfl, (hA.old 23 (by decide)).trans rfl, (hA.old 24 (by decide)).trans rfl, (hA.old 25 (by decide)).trans rfl, (hA.old 26 (by decide)).trans rfl, (hA.old 27 (by decide)).trans rfl, (hA.old 28 (by decide)).trans rfl, (hA.old 29 (by decide)).trans rfl, (hA.old 30 (by decide)).trans rfl, (hA.old 31 (by decide)).trans rfl, (hA.old 32 (by decide)).trans rfl, (hA.old 33 (by decide)).trans rfl, (hA.old 34 (by decide)).trans rfl, (hA.old 35 (by decide)).trans rfl, (hA.old 36 (by decide)).trans rfl, (hA.old 37 (by decide)).trans rfl, (hA.old 38 (by decide)).trans rfl, (hA.old 39 (by decide)).trans rfl, (hA.old 40 (by decide)).trans rfl, (hA.old 41 (by decide)).trans rfl, (hA.old 42 (by decide)).trans rfl, (hA.old 43 (by decide)).trans rfl, (hA.old 44 (by decide)).trans rfl, (hA.old 45 (by decide)).trans rfl, (hA.old 46 (by decide)).trans rfl, (hA.old 47 (by decide)).trans rfl, (hA.old 48 (by decide)).trans rfl, (hA.old 49 (by decide)).trans rfl, (hA.old 50 (by decide)).trans rfl, (hA.old 51 (by decide)).trans rfl, (hA.old 52 (by decide)).trans rfl, (hA.old 53 (by decide)).trans rfl, (hA.old 54 (by decide)).trans rfl, (hA.old 55 (by decide)).trans rfl, (hA.old 66 (by decide)).trans rfl] at e
            generalize ac.eval (.tmp 56) = x56 at e
            generalize ac.eval (.tmp 57) = x57 at e
            generalize ac.eval (.tmp 58) = x58 at e
            generalize ac.eval (.tmp 59) = x59 at e
            generalize ac.eval (.tmp 60) = x60 at e
            generalize ac.eval (.tmp 61) = x61 at e
            generalize ac.eval (.tmp 62) = x62 at e
            generalize ac.eval (.tmp 63) = x63 at e
            generalize ac.eval (.tmp 64) = x64 at e
            generalize ac.eval (.tmp 65) = x65 at e
            subst e
            have hg4 : Gr w wz2 := keepL_gr hg3 hK4 (by omega) (by omega)
            have hz4 : Holds wz2 w.heap.size zeroJ 27 := (hK4.block _ hz3.lt (by omega) (by simp)).trans hz3
            go_wp2
            exact ⟨⟨i + 2, ejs ++ [y], names ++ [s], _, _, ess ++ [d], rfl, by omega, hR, ⟨hV4, by simp; omega, by simp; omega⟩, hz4, hg4, by have := hK4.size; omega⟩, by simp; omega⟩
    · rw [make_end (by omega)] at hR
      subst hR
      obtain ⟨ua, uc, rfl⟩ := own_grown hV.own
      obtain ⟨va, vc, rfl⟩ := own_grown hV.nown
      have g1 : ¬ (i : Int) + 1 < (n : Int) := by omega
      have hw1 : IntKind.i64.wrap ((i : Int) + 1) = (i : Int) + 1 := wrap_in (by omega) (by omega)
      have hb := hV.box
      have h1c : ∀ x ∈ boxV 5 (.slice ua ejs.length uc) (.slice va names.length vc), x.oneCell' = true := by
        intro x hx
        simp only [boxV, List.mem_cons, List.not_mem_nil, or_false] at hx
        rcases hx with rfl | rfl | rfl | rfl | rfl | rfl <;> rfl
      clear hes h6' hl hlies
      go_wp2_with (first
        | (refine wpList_load_part rfl 27 (.tmp 3) rfl (w.heap.size + 1) 0 rfl (boxV 5 (.slice ua ejs.length uc) (.slice va names.length vc)) _ (range_of hb) Tryd.underlying27 rfl (by kernel_rfl) ?_)
        | (refine wpList_store_all rfl 27 (.tmp 2) (.tmp 66) rfl w.heap.size rfl (boxV 5 (.slice ua ejs.length uc) (.slice va names.length vc)) rfl 27 zeroJ hz (by kernel_rfl) rfl h1c ?_; intro w5 hT5))
      refine bodyPost_ret (results_cell_row (p := 2) (by kernel_rfl) _ w5 w.heap.size 27 (boxV 5 (.slice ua ejs.length uc) (.slice va names.length vc)).toArray (0, 0) _ rfl hT5.holds Tryd.underlying27 rfl (by kernel_rfl)) rfl ?_
      refine ⟨_, rfl, gr_turned hgw hT5 (Nat.le_refl _), ?_⟩
      have hst : ∀ k, k ≠ w.heap.size → w5.heap[k]? = w1.heap[k]? := fun k h => hT5.others k h
      exact .mk 5 false 0 [] ejs names ua va uc vc ess hV.len hV.six (fun q x c h1 h2 => (hV.each q x c h1 h2).mono fun k h3 _ => ⟨trivial, hst k (by omega)⟩) ((own_lies hV.own).mono fun k h3 h4 => ⟨trivial, hst k (by omega)⟩) ((own_lies hV.nown).mono fun k h3 h4 => ⟨trivial, hst k (by omega)⟩)
end Go.Proofs.YtogippkapadolaaDoor
