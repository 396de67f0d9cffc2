/- QuorumStays: answers in memory; two tallies of the same needs. -/
import Derived.Test.YtmhpfncbbboamaaGreatQmAw
import Derived.Test.YtmhpfncbbboamaaGreatQmMeet
import Derived.Test.YtmhpfncbbboamaaGreatQmStayP
namespace Go.Proofs.YtmhpfncbbboamaaGreat
open Go.RowKit Go.Maps

def opC (o : Opq) : List Value := [.int .i64 o.kind, .int .i64 o.node, o.c2, o.c3, o.c4, o.c5]
def opF (F : List Opq) : List Value := F.flatMap opC
def okO (o : Opq) : Prop := I64 o.kind ∧ I64 o.node ∧ ∀ v ∈ opC o, v.oneCell' = true
theorem opF_app (a b : List Opq) : opF (a ++ b) = opF a ++ opF b := by simp [opF]
theorem opF_at {l : List Opq} {i : Nat} {o : Opq} (h : l[i]? = some o) : ∀ j v, (opC o)[j]? = some v → (opF l)[i * 6 + j]? = some v := by
  induction l generalizing i with
  | nil => simp at h
  | cons t l ih =>
    intro j v hv
    have hj : j < 6 := (List.getElem?_eq_some_iff.1 hv).1
    cases i with
    | zero =>
      simp at h; subst h
      rw [opF, List.flatMap_cons, List.getElem?_append_left (by show 0 * 6 + j < 6; omega)]
      simpa using hv
    | succ i =>
      rw [opF, List.flatMap_cons, List.getElem?_append_right (by show 6 ≤ _; omega)]
      have := ih (i := i) (by simpa using h) j v hv
      rw [show (i + 1) * 6 + j - (opC t).length = i * 6 + j by show _ - 6 = _; omega]
      exact this
/-- Answers in memory, below B. -/
def OpAt (B : Nat) (w : World) (a : Option Addr) (os : List Opq) : Prop := os = [] ∨ ∃ g q, a = some ⟨g, q, none⟩ ∧ g < B ∧ ∀ i o, os[i]? = some o → ∀ j u, (opC o)[j]? = some u → w.cell? ⟨g, q + i * 6 + j, none⟩ = some u
theorem OpAt.below {B : Nat} {w w' : World} {a : Option Addr} {os : List Opq} (h : OpAt B w a os) (hb : Below B w w') : OpAt B w' a os := by
  rcases h with h0 | ⟨g, q, rfl, hg, hc⟩
  · exact .inl h0
  · exact .inr ⟨g, q, rfl, hg, fun i o hi j u hu => (World.cell?_of_block (a := ⟨g, q + i * 6 + j, none⟩) (hb.block g hg)).trans (hc i o hi j u hu)⟩
theorem OpAt.cell {B : Nat} {w : World} {a : Option Addr} {os : List Opq} (h : OpAt B w a os) (i : Nat) (o : Opq) (hi : os[i]? = some o) : ∃ g q, a = some ⟨g, q, none⟩ ∧ ∀ j u, (opC o)[j]? = some u → w.cell? ⟨g, q + i * 6 + j, none⟩ = some u := by
  rcases h with h0 | ⟨g, q, rfl, hg, hc⟩
  · subst h0; simp at hi
  · exact ⟨g, q, rfl, hc i o hi⟩
theorem und58 : Tryz.prog.underlying 58 = some (.slice 60) := by kernel_rfl
def z60 : Value := .agg #[.int .i64 0, .int .i64 0, .int .i64 0, .slice none 0 0, .slice none 0 0, .slice none 0 0]
theorem info60x : ∃ i, Tryz.prog.info? 60 = some i ∧ i.zero = some z60 ∧ i.size = 6 ∧ i.bytes = 96 := by
  have : (Tryz.prog.info? 60).map (fun i => (i.zero, i.size, i.bytes)) = some (some z60, 6, 96) := by kernel_rfl
  cases h : Tryz.prog.info? 60 with
  | none => rw [h] at this; cases this
  | some i =>
    rw [h] at this
    simp at this
    exact ⟨i, rfl, this⟩
/-- A row of first answers that the call owns: where its cells lie. -/
theorem row_op {w : World} {base : Nat} {v : Value} {F : List Opq} (h : w.ownsRow base 60 6 v F.length (opF F)) (k : Nat) (o : Opq) (hk : F[k]? = some o) : ∃ g cap cs, v = .slice (some ⟨g, 0, none⟩) F.length cap ∧ base ≤ g ∧ Holds w g cs 60 ∧ ∀ j u, (opC o)[j]? = some u → cs[k * 6 + j]? = some u := by
  have hkl := (List.getElem?_eq_some_iff.1 hk).1
  obtain ⟨_, ⟨rfl, h0⟩ | ⟨g, cap, cur, rfl, hb, hcur, hle, hcap, hcs, hxs⟩⟩ := h
  · omega
  · refine ⟨g, cap, cur.toList, rfl, hb, by unfold Holds; simpa using hcur, fun j u hu => ?_⟩
    have hj : j < 6 := (List.getElem?_eq_some_iff.1 hu).1
    have := opF_at hk j u hu
    rw [← hxs, List.getElem?_take_of_lt (by omega)] at this
    exact this
/-- Two tallies of one need, between B and B2. -/
def SSt (B B2 : Nat) (a p : Int) (W : World) (b1 b2 : Nat) (A C : Ses) : Prop := ∃ p1 h1 p2 h2, B ≤ p1 ∧ h1 ≤ p2 ∧ h2 ≤ B2 ∧ TyAt p1 h1 [] 30 a p W b1 A ∧ TyAt p2 h2 [] 30 a p W b2 C
theorem SSt.gr {B B2 : Nat} {a p : Int} {W W' : World} {b1 b2 : Nat} {A C : Ses} (h : SSt B B2 a p W b1 b2 A C) (hg : Gr W W') : SSt B B2 a p W' b1 b2 A C := by
  obtain ⟨p1, h1, p2, h2, q1, q2, q3, q4, q5⟩ := h
  exact ⟨p1, h1, p2, h2, q1, q2, q3, q4.gr hg, q5.gr hg⟩
theorem SSt.keep {B B2 : Nat} {a p : Int} {W W' : World} {b1 b2 : Nat} {A C : Ses} (h : SSt B B2 a p W b1 b2 A C) (hb : Below B2 W W') : SSt B B2 a p W' b1 b2 A C := by
  obtain ⟨p1, h1, p2, h2, q1, q2, q3, q4, q5⟩ := h
  have := q5.n_le
  exact ⟨p1, h1, p2, h2, q1, q2, q3, q4.keep hb (by omega), q5.keep hb q3⟩
theorem SSt.say1 {B B2 : Nat} {a p : Int} {W : World} {b1 b2 : Nat} {A C : Ses} (h : SSt B B2 a p W b1 b2 A C) (o : Opq) (ho : okO o) (fn : Nat) (hfn : (fn = 10 ∧ o.kind.tmod 2 = 0) ∨ (fn = 11 ∧ ¬ o.kind.tmod 2 = 0)) : Calls Tryz.prog fn #[.pointer (some ⟨b1, 0, none⟩), .slice (some ⟨W.heap.size, 0, none⟩) 1 1] (W.alloc (.cells #[.int .i64 o.node] 3)) fun e w' => (∃ t, e = .returned (.bool t)) ∧ SSt B B2 a p w' b1 b2 (sayO A o) C ∧ Mid B B2 W w' := by
  obtain ⟨p1, h1, p2, h2, q1, q2, q3, q4, q5⟩ := h.gr (al1 (o := .cells #[.int .i64 o.node] 3))
  have n1 := q4.n_le
  have n2 := q5.n_le
  have hc := (holds_new W [.int .i64 o.node] 3).at 0 _ rfl
  rcases hfn with ⟨rfl, hk⟩ | ⟨rfl, hk⟩
  · have ea : sayO A o = sayS 1 A o.node := by unfold sayO ansK; rw [if_pos hk]
    rw [ea]
    exact (yes_any q4 W.heap.size 0 1 o.node ho.2.1 hc).mono fun _ _ ⟨e1, e2, e3⟩ => ⟨⟨_, e1⟩, ⟨p1, h1, p2, h2, q1, q2, q3, e2, q5.mid e3 (.inr q2)⟩, (Mid.ofGr al1).trans (e3.wide q1 (by omega))⟩
  · have ea : sayO A o = sayS 2 A o.node := by unfold sayO ansK; rw [if_neg hk]
    rw [ea]
    exact (no_any q4 W.heap.size 0 1 o.node ho.2.1 hc).mono fun _ _ ⟨e1, e2, e3⟩ => ⟨⟨_, e1⟩, ⟨p1, h1, p2, h2, q1, q2, q3, e2, q5.mid e3 (.inr q2)⟩, (Mid.ofGr al1).trans (e3.wide q1 (by omega))⟩
theorem SSt.say2 {B B2 : Nat} {a p : Int} {W : World} {b1 b2 : Nat} {A C : Ses} (h : SSt B B2 a p W b1 b2 A C) (o : Opq) (ho : okO o) (fn : Nat) (hfn : (fn = 10 ∧ o.kind.tmod 2 = 0) ∨ (fn = 11 ∧ ¬ o.kind.tmod 2 = 0)) : Calls Tryz.prog fn #[.pointer (some ⟨b2, 0, none⟩), .slice (some ⟨W.heap.size, 0, none⟩) 1 1] (W.alloc (.cells #[.int .i64 o.node] 3)) fun e w' => (∃ t, e = .returned (.bool t)) ∧ SSt B B2 a p w' b1 b2 A (sayO C o) ∧ Mid B B2 W w' := by
  obtain ⟨p1, h1, p2, h2, q1, q2, q3, q4, q5⟩ := h.gr (al1 (o := .cells #[.int .i64 o.node] 3))
  have n1 := q4.n_le
  have n2 := q5.n_le
  have hc := (holds_new W [.int .i64 o.node] 3).at 0 _ rfl
  rcases hfn with ⟨rfl, hk⟩ | ⟨rfl, hk⟩
  · have ea : sayO C o = sayS 1 C o.node := by unfold sayO ansK; rw [if_pos hk]
    rw [ea]
    exact (yes_any q5 W.heap.size 0 1 o.node ho.2.1 hc).mono fun _ _ ⟨e1, e2, e3⟩ => ⟨⟨_, e1⟩, ⟨p1, h1, p2, h2, q1, q2, q3, q4.mid e3 (.inl q2), e2⟩, (Mid.ofGr al1).trans (e3.wide (by omega) q3)⟩
  · have ea : sayO C o = sayS 2 C o.node := by unfold sayO ansK; rw [if_neg hk]
    rw [ea]
    exact (no_any q5 W.heap.size 0 1 o.node ho.2.1 hc).mono fun _ _ ⟨e1, e2, e3⟩ => ⟨⟨_, e1⟩, ⟨p1, h1, p2, h2, q1, q2, q3, q4.mid e3 (.inl q2), e2⟩, (Mid.ofGr al1).trans (e3.wide (by omega) q3)⟩
theorem SSt.ver1 {B B2 : Nat} {a p : Int} {W : World} {b1 b2 : Nat} {A C : Ses} (h : SSt B B2 a p W b1 b2 A C) : Calls Tryz.prog 9 #[.pointer (some ⟨b1, 0, none⟩)] W fun e w' => e = .returned (.int .i64 (verd a p A : Int)) ∧ SSt B B2 a p w' b1 b2 A C ∧ Gr W w' := by
  have h0 := h
  obtain ⟨p1, h1, p2, h2, q1, q2, q3, q4, q5⟩ := h
  exact (verdict_any q4).mono fun _ _ ⟨e1, e2⟩ => ⟨e1, h0.gr e2, e2⟩
theorem SSt.ver2 {B B2 : Nat} {a p : Int} {W : World} {b1 b2 : Nat} {A C : Ses} (h : SSt B B2 a p W b1 b2 A C) : Calls Tryz.prog 9 #[.pointer (some ⟨b2, 0, none⟩)] W fun e w' => e = .returned (.int .i64 (verd a p C : Int)) ∧ SSt B B2 a p w' b1 b2 A C ∧ Gr W w' := by
  have h0 := h
  obtain ⟨p1, h1, p2, h2, q1, q2, q3, q4, q5⟩ := h
  exact (verdict_any q5).mono fun _ _ ⟨e1, e2⟩ => ⟨e1, h0.gr e2, e2⟩
theorem sst_made {B : Nat} {a p : Int} {ts : List (Int × Int)} {W0 W : World} {v : Value} (hn : ts.length ≤ 1000) (h64 : ∀ q ∈ ts, I64 q.1) (hlo : Below B W0 W) (hB : B ≤ W.heap.size) (hT : TgAt W.heap.size W v ts) : Calls Tryz.prog 15 #[v, .int .i64 a, .int .i64 p] W fun e w' => ∃ b1, e = .returned (.pointer (some ⟨b1, 0, none⟩)) ∧ Below B W0 w' ∧ ∀ b, Calls Tryz.prog 15 #[v, .int .i64 a, .int .i64 p] w' fun e w2 => b = b1 → ∃ b2, e = .returned (.pointer (some ⟨b2, 0, none⟩)) ∧ SSt B w2.heap.size a p w2 b1 b2 (seats ts) (seats ts) ∧ Below B W0 w2 := by
  refine (new_any v ts a p W hn h64 hT).mono fun e w' ⟨e1, e2, e3⟩ => ⟨_, e1, hlo.trans (e3.mono hB), fun b => ?_⟩
  refine (new_any v ts a p w' hn h64 ((hT.below e3).mono e3.size)).mono fun e w2 ⟨f1, f2, f3⟩ _ => ⟨_, f1, ⟨W.heap.size, w'.heap.size, w'.heap.size, w2.heap.size, hB, Nat.le_refl _, Nat.le_refl _, e2.keep f3 (Nat.le_refl _), f2⟩, (hlo.trans (e3.mono hB)).trans (f3.mono (by have := e3.size; omega))⟩
theorem firsts_len (os : List Opq) (i : Nat) (h : os.length ≤ i) : (firsts os).length ≤ i := by
  suffices q : ∀ F : List Opq, (os.foldl stepF F).length ≤ F.length + os.length by
    have := q []
    unfold firsts
    simp at this
    omega
  clear h
  induction os with
  | nil => intro F; simp
  | cons o os ih =>
    intro F
    have h1 := ih (stepF F o)
    have h2 : (stepF F o).length ≤ F.length + 1 := by unfold stepF; split <;> simp
    rw [List.foldl_cons, List.length_cons]; omega
theorem firsts_mem (os : List Opq) : ∀ o ∈ firsts os, o ∈ os := by
  suffices q : ∀ F : List Opq, ∀ o ∈ os.foldl stepF F, o ∈ F ∨ o ∈ os from fun o ho => (q [] o ho).elim (fun h => by simp at h) id
  induction os with
  | nil => intro F o ho; exact .inl ho
  | cons a os ih =>
    intro F o ho
    rcases ih _ o ho with h | h
    · unfold stepF at h
      split at h
      · exact .inl h
      · rcases List.mem_append.1 h with h | h
        · exact .inl h
        · simp at h; subst h; exact .inr (by simp)
    · exact .inr (by simp [h])
theorem drop_rev (F : List Opq) (j : Nat) (o : Opq) (h : F[j]? = some o) : (F.drop j).reverse = (F.drop (j + 1)).reverse ++ [o] := by
  have hj := (List.getElem?_eq_some_iff.1 h).1
  rw [List.drop_eq_getElem_cons hj, List.reverse_cons]
  rw [List.getElem?_eq_getElem hj] at h
  rw [Option.some.inj h]
end Go.Proofs.YtmhpfncbbboamaaGreat
