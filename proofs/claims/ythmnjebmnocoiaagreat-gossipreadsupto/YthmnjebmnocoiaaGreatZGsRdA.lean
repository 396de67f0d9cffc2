/- A ring that is being read: what lies in memory. -/
import Derived.Test.YthmnjebmnocoiaaGreatZR2
import Derived.Test.YthmnjebmnocoiaaGreatZGsMem
import Derived.Test.YthmnjebmnocoiaaGreatZA2
import Derived.Test.YthmnjebmnocoiaaGreatZE1
namespace Go.Proofs.YthmnjebmnocoiaaGreat.En
open Go.RowKit
variable {ops : Array Oper} {Q : Exit → Act → World → Prop}

/-- A kind of reader in memory. -/
structure Kind where
  here : World → Nat → Rd.St → Prop
  keep : ∀ {x y : World} {m M : Nat} {st : Rd.St}, here x m st → m < M → Below M x y → here y m st
  other : ∀ {x y : World} {m c : Nat} {st : Rd.St}, here x m st → Upd c x y → m ≠ c → here y m st
  not53 : ∀ {x : World} {m : Nat} {st : Rd.St}, here x m st → ∀ cs fr, x.heap[m]? ≠ some (.cells cs 53 fr)
def rdK : Kind where
  here w m st := Pk.Rd w m st.1 st.2
  keep h hm hb := Holds.below h hb hm
  other h hu hm := Holds.upd h hu hm
  not53 h cs fr e := by
    unfold Pk.Rd Holds at h
    rw [h] at e
    simp at e
def simK : Kind where
  here w m st := Rd.Sim w m st
  keep h hm hb := by
    obtain ⟨E, h1, h2, h3⟩ := h
    exact ⟨E, h1, Holds.below h2 hb hm, h3⟩
  other h hu hm := by
    obtain ⟨E, h1, h2, h3⟩ := h
    exact ⟨E, h1, Holds.upd h2 hu hm, h3⟩
  not53 h cs fr e := by
    obtain ⟨E, h1, h2, h3⟩ := h
    unfold Rd.Rq Holds at h2
    rw [h2] at e
    simp at e
theorem own_upd {w w' : World} {m n b : Nat} {v : Value} {xs : List Value} (h : w.ownsRow m 53 3 v n xs) (hu : Upd b w w') (hb : ∀ cs fr, w.heap[b]? ≠ some (.cells cs 53 fr)) : w'.ownsRow m 53 3 v n xs := by
  obtain ⟨h1, h2⟩ := h
  refine ⟨h1, ?_⟩
  rcases h2 with q | ⟨g, cap, cur, e, hg, hh, r⟩
  · exact .inl q
  · refine .inr ⟨g, cap, cur, e, hg, ?_, r⟩
    rw [hu.block g (Array.getElem?_eq_some_iff.1 hh).1 (fun e => hb cur (0, 0) (by rw [← e]; exact hh))]
    exact hh
theorem own53_base {w : World} {m n : Nat} {v : Value} {xs : List Value} (h : w.ownsRow m 53 3 v n xs) (j : Nat) (e : v.ownBlock = some j) : m ≤ j := by
  rcases h.2 with ⟨rfl, _⟩ | ⟨g, cap, cur, rfl, hg, _⟩
  · cases e
  · cases e; exact hg
theorem own53_gr {w w' : World} {m n : Nat} {v : Value} {xs : List Value} (h : w.ownsRow m 53 3 v n xs) (hg : Gr w w') : w'.ownsRow m 53 3 v n xs := by
  obtain ⟨h1, h2⟩ := h
  refine ⟨h1, ?_⟩
  rcases h2 with q | ⟨g, cap, cur, e, hgb, hh, r⟩
  · exact .inl q
  · exact .inr ⟨g, cap, cur, e, hgb, by rw [hg.block g (Array.getElem?_eq_some_iff.1 hh).1]; exact hh, r⟩
/-- The ring at block c, its members' row from M on, the reader at block m; all below b is as it was in w. -/
structure Mem (K : Kind) (b c m M : Nat) (w x : World) (v : Value) (ms : List Mb) (os : List Ow) (st : Rd.St) : Prop where
  h2 : Holds x b (ringC (.slice none 0 0) ([], noOs)) 28
  h4 : Holds x c (ringC v (ms, os)) 28
  own : x.ownsRow M 53 3 v ms.length (cellsP ms)
  rd : K.here x m st
  bl : Below b w x
  bc : b < c
  bm : b < m
  cM : c < M
  mM : m < M
  cm : c ≠ m
  MN : M ≤ x.heap.size
theorem Mem.gr {K : Kind} {b c m M : Nat} {w x y : World} {v : Value} {ms : List Mb} {os : List Ow} {st : Rd.St} (h : Mem K b c m M w x v ms os st) (g : Gr x y) : Mem K b c m M w y v ms os st :=
  have h1 := h.MN
  have h2 := h.cM
  have h3 := h.bc
  ⟨h.h2.below g h.h2.lt, h.h4.below g h.h4.lt, own53_gr h.own g, K.keep h.rd (Nat.lt_of_lt_of_le h.mM h.MN) g, h.bl.trans (g.mono (by omega)), h.bc, h.bm, h.cM, h.mM, h.cm, Nat.le_trans h.MN g.size⟩
theorem Mem.read {K : Kind} {b c m M : Nat} {w x y : World} {v : Value} {ms : List Mb} {os : List Ow} {st st' : Rd.St} (h : Mem K b c m M w x v ms os st) (u : Upd m x y) (hr : K.here y m st') : Mem K b c m M w y v ms os st' :=
  have h1 := h.MN
  have h3 := h.bm
  have h4 := h.mM
  ⟨h.h2.upd u (by omega), h.h4.upd u h.cm, own_upd h.own u (K.not53 h.rd), hr, h.bl.trans (u.below (by omega) (by omega)), h.bc, h.bm, h.cM, h.mM, h.cm, Nat.le_trans h.MN u.size⟩
/-- A member is appended. -/
theorem Mem.more {K : Kind} {b c m M : Nat} {w x y : World} {v v' : Value} {ms : List Mb} {os : List Ow} {st : Rd.St} {mb : Mb} (h : Mem K b c m M w x v ms os st) (own : y.ownsRow M 53 3 v' (ms.length + 1) (cellsP ms ++ mbV mb)) (g : x.grownBy y v.ownBlock) : Mem K b c m M w (y.setCell ⟨c, 0, none⟩ v') v' (ms ++ [mb]) os st := by
  have h1 := h.MN
  have h2 := h.cM
  have h3 := h.bc
  have h4 := h.bm
  have h5 := h.mM
  have hB : Below M x y := (Below.refl M x).grown g h1 (fun j e => own53_base h.own j e)
  have hH := h.h4.below hB h.cM
  have u := (Upd.refl c y).setCell 0 v'
  have hn53 : ∀ cs fr, y.heap[c]? ≠ some (.cells cs 53 fr) := fun cs fr e => by
    have := hH
    unfold Holds at this
    rw [this] at e
    simp at e
  refine ⟨(h.h2.below hB (by omega)).upd u (by omega), ?_, ?_, K.other (K.keep h.rd h5 hB) u (Ne.symm h.cm), (h.bl.trans (hB.mono (by omega))).trans (u.below (by omega) (by have := hB.size; omega)), h3, h4, h2, h5, h.cm, Nat.le_trans (Nat.le_trans h1 hB.size) u.size⟩
  · have := hH.set 0 v'
    exact this
  · have e : (ms ++ [mb]).length = ms.length + 1 := by simp
    rw [e, cellsP_append]
    have := own_upd own u hn53
    have e2 : cellsP [mb] = mbV mb := by simp [cellsP]
    rw [e2]
    exact this
/-- The reader's states while a member is read. -/
def stM (st : Rd.St) : Nat → Rd.St
  | 0 => st
  | 1 => (Rd.rdI st).2
  | 2 => (Rd.rdI (Rd.rdI st).2).2
  | _ => (Rd.rdM st).2
/-- A new row of one member. -/
def rowR (m : Nat) (mb : Mb) : FactR (Upd m) := ⟨fun v x => ∃ q, v = .slice (some ⟨q, 0, none⟩) 1 1 ∧ q ≠ m ∧ Holds x q (mbV mb) 53, fun ⟨q, e, hq, h⟩ u => ⟨q, e, hq, h.upd u hq⟩⟩
section
variable {P : Program} {R : World → World → Prop} {D : List Nat} {T : Nat → FactR R} {a0 : Act} {w : World} {o : Oper}
theorem sr_bd3 (t i j k : Nat) (u v x : Operand) (d : Nat) (s r p q : Value) (ho : o.op = .build t #[(i, u), (j, v), (k, x)]) (hd : o.dst = some d) (hg : o.guard = none) (h1 : HasR ops D T a0 o u (FactR.val s)) (h2 : HasR ops D T a0 o v (FactR.val r)) (h3 : HasR ops D T a0 o x (FactR.val p)) (hr : ∀ y, (Instr.build t #[(i, s), (j, r), (k, p)]).run P y = .ok q y) (hT : T d = FactR.val q) : StepR P ops D T a0 w Q o :=
  sr_of d hd hg fun f a y c => by
    have e1 : a.eval u = s := h1.get c
    have e2 : a.eval v = r := h2.get c
    have e3 : a.eval x = p := h3.get c
    refine op_val q (y := y) ?_ ⟨_, rfl, Gr.refl _, by rw [hT]; rfl⟩
    unfold execOp
    simp only [ho, List.map_toArray, List.map_cons, List.map_nil, e1, e2, e3, Sem.run_bind, hr, Sem.run_pure, Result.andThen_ok]
theorem sr_bs1 (t n : Nat) (u : Operand) (d : Nat) (s : Value) (ho : o.op = .buildSlice t n #[(0, u)]) (hd : o.dst = some d) (hg : o.guard = none) (h1 : HasR ops D T a0 o u (FactR.val s))
    (hr : ∀ y, R w y → ∃ q z, (Instr.buildSlice t n #[(0, s)]).run P y = .ok q z ∧ Gr y z ∧ (T d).holds q z) : StepR P ops D T a0 w Q o :=
  sr_of d hd hg fun f a y c => by
    have e1 : a.eval u = s := h1.get c
    obtain ⟨q, z, e3, e4, e5⟩ := hr y c.grown
    refine op_val q (y := z) ?_ ⟨_, rfl, e4, e5⟩
    unfold execOp
    simp only [ho, List.map_toArray, List.map_cons, List.map_nil, e1, Sem.run_bind, e3, Sem.run_pure, Result.andThen_ok]
end
def mbA (mb : Mb) : Value := .agg #[.int .i64 mb.1, .int .i64 mb.2.1, .int .u64 (mb.2.2 : Int)]
theorem run_mb (a b : Int) (c : Nat) (y : World) : (Instr.build 53 #[(0, .int .i64 a), (1, .int .i64 b), (2, .int .u64 (c : Int))]).run Tryz.prog y = .ok (mbA (a, b, c)) y := by kernel_rfl
theorem run_mbs (mb : Mb) (y : World) : (Instr.buildSlice 22 1 #[(0, mbA mb)]).run Tryz.prog y = .ok (.slice (some ⟨y.heap.size, 0, none⟩) 1 1) (y.alloc (.cells (mbV mb).toArray 53)) := by kernel_rfl
theorem mem_row {m : Nat} {w y : World} (mb : Mb) (hm : m < w.heap.size) (u : Upd m w y) : ∃ q z, (Instr.buildSlice 22 1 #[(0, mbA mb)]).run Tryz.prog y = .ok q z ∧ Gr y z ∧ (rowR m mb).holds q z :=
  ⟨_, _, run_mbs mb y, (Below.refl _ _).alloc (Nat.le_refl _) _, y.heap.size, rfl, by have := u.size; omega, holds_new y (mbV mb) 53⟩
/-- The append of a member, and its store. -/
theorem mem_tail {K : Kind} {b c m M : Nat} {w x : World} {v : Value} {ms : List Mb} {os : List Ow} {st : Rd.St} {mb : Mb} {ac : Act} {oa of os' : Oper} {s1 s2 d1 d2 s4 : Nat} (h : Mem K b c m M w x v ms os st) (hl : ms.length + 1 ≤ 1000000000)
    (hoa : oa.op = .call { callee := .builtin .append, args := #[.tmp s1, .tmp s2], argTypes := #[22, 22] }) (hod : oa.dst = some d1) (hog : oa.guard = none)
    (hfo : of.op = .fieldAddr 28 (.tmp s4) 0) (hfd : of.dst = some d2) (hfg : of.guard = none)
    (hso : os'.op = .store 22 (.tmp d2) (.tmp d1)) (hsd : os'.dst = none) (hsg : os'.guard = none)
    (z1 : d1 < ac.tmps.size) (z2 : d2 < ac.tmps.size) (n1 : d1 ≠ s4) (n2 : d2 ≠ d1)
    (e1 : ac.eval (.tmp s1) = v) (e2 : (rowR m mb).holds (ac.eval (.tmp s2)) x) (e4 : ac.eval (.tmp s4) = .pointer (some ⟨c, 0, none⟩))
    (hend : ∀ v' y, Mem K b c m M w y v' (ms ++ [mb]) os st → Q .normal ((ac.put (some d1) v').put (some d2) (.pointer (some ⟨c, 0, none⟩))) y) : wpList Tryz.prog ops Q [oa, of, os'] ac x := by
  obtain ⟨i53, f53, hz53, hs53, hb53⟩ := info_parts info35
  obtain ⟨q, eq, hqm, hq⟩ := e2
  refine wpList_append_src hog (.tmp s1) (.tmp s2) 22 hoa M 53 i53 _ 3 24 Tryz.underlying22 f53 hz53 hs53 hb53 (by rfl) (by omega) v ms.length (cellsP ms) h.own e1 (mbV mb) _ 1 1 eq rfl (fun _ => ⟨_, rfl, fun j u hu => ?_⟩) (mbV_one mb) (by unfold maxLen; omega) (by omega) h.MN ?_
  · rw [Addr.add_mid, Nat.zero_add]
    exact hq.at j u hu
  · intro v' y own gr _
    rw [hod]
    have ez : (ac.put (some d1) v').tmps.size = ac.tmps.size := put_size
    have ev4 : (ac.put (some d1) v').eval (.tmp s4) = .pointer (some ⟨c, 0, none⟩) := (ev_put z1).trans ((if_neg n1).trans e4)
    refine wl_of hfg (op_fa 28 (.tmp s4) 0 _ (.pointer (some ⟨c, 0, none⟩)) hfo ev4 (by intro w; kernel_rfl) ?_)
    rw [hfd]
    have hB : Below M x y := (Below.refl M x).grown gr h.MN (fun j e => own53_base h.own j e)
    have hH := h.h4.below hB h.cM
    have ea : ((ac.put (some d1) v').put (some d2) (.pointer (some ⟨c, 0, none⟩))).eval (.tmp d2) = .pointer (some ⟨c, 0, none⟩) := (ev_put (by rw [ez]; exact z2)).trans (if_pos rfl)
    have eb : ((ac.put (some d1) v').put (some d2) (.pointer (some ⟨c, 0, none⟩))).eval (.tmp d1) = v' := (ev_put (by rw [ez]; exact z2)).trans ((if_neg n2).trans ((ev_put z1).trans (if_pos rfl)))
    have hsl : ∃ a n k, v' = .slice a n k := by
      rcases own.2 with ⟨rfl, _⟩ | ⟨g, cap, cur, rfl, _⟩
      · exact ⟨_, _, _, rfl⟩
      · exact ⟨_, _, _, rfl⟩
    obtain ⟨va, vn, vk, rfl⟩ := hsl
    refine wl_of hsg (op_store1 22 (.tmp d2) (.tmp d1) hso c 0 ea _ eb rfl rfl (by intro w; kernel_rfl) (hH.at 0 _ rfl) (hH.frozen 0) ?_)
    rw [hsd]
    exact wl_end (hend _ _ (h.more own gr))
end Go.Proofs.YthmnjebmnocoiaaGreat.En
