/- CaskLast's rounds: the calls on the states. -/
import Derived.Test.YtfmmholkeadejaaGreatDoorZCkFull
import Derived.Test.YtfmmholkeadejaaGreatDoorZCkRefF
namespace Go.Proofs.YtfmmholkeadejaaGreatDoor
open Go.RowKit

/-- A change as a cask writes it. -/
def nrm (c : Ch) : Ch := if c.dead = true then ⟨c.k, ⟨#[]⟩, true⟩ else ⟨c.k, c.v, false⟩
theorem takeF_nrm (c : Ch) (kv : Fs) : takeF (nrm c) kv = takeF c kv := by
  unfold nrm takeF
  cases hd : c.dead <;> simp
theorem kvOf_nrm (l : List Ch) : kvOf (l.map nrm) = kvOf l := by
  unfold kvOf
  rw [List.foldl_map]
  simp only [takeF_nrm]
def rowI (l : List Ch) : List Value := l.flatMap fun c => [.string c.k, .string c.v, .bool c.dead]
theorem rowI_append (a b : List Ch) : rowI (a ++ b) = rowI a ++ rowI b := by simp [rowI]
theorem rowI_len (l : List Ch) : (rowI l).length = l.length * 3 := by
  induction l with
  | nil => rfl
  | cons p l ih => simp [rowI] at ih ⊢; omega
theorem rowI_at : ∀ {l : List Ch} {i : Nat} {c : Ch}, l[i]? = some c → ∀ tl : List Value, (rowI l ++ tl)[i * 3]? = some (.string c.k) ∧ (rowI l ++ tl)[i * 3 + 1]? = some (.string c.v) ∧ (rowI l ++ tl)[i * 3 + 2]? = some (.bool c.dead)
  | [], i, p, h, tl => by simp at h
  | q :: l, 0, p, h, tl => by
    simp at h
    subst h
    exact ⟨rfl, rfl, rfl⟩
  | q :: l, i + 1, p, h, tl => by
    have := rowI_at (l := l) (i := i) (c := p) (by simpa using h) tl
    have e : rowI (q :: l) ++ tl = .string q.k :: .string q.v :: .bool q.dead :: (rowI l ++ tl) := rfl
    rw [e, show (i + 1) * 3 = i * 3 + 1 + 1 + 1 by omega]
    simp only [List.getElem?_cons_succ]
    exact this
theorem chg_of_row {W : World} {m : Nat} {v : Value} {l : List Ch} (h : W.ownsRow m 52 3 v l.length (rowI l)) : ChgAt W v l := by
  rcases h.2 with ⟨rfl, h0⟩ | ⟨g, cap, cur, rfl, hm, hh, hc, hc2, hc3, ht⟩
  · have : l = [] := List.eq_nil_of_length_eq_zero h0
    subst this
    exact ⟨_, _, rfl, fun e => absurd rfl e⟩
  · refine ⟨_, _, rfl, fun _ => ⟨g, 0, rfl, (Array.getElem?_eq_some_iff.1 hh).1, fun i c e => ?_⟩⟩
    have hH : Holds W g (rowI l ++ cur.toList.drop (l.length * 3)) 52 := by
      unfold Holds
      rw [← ht, List.take_append_drop, Array.toArray_toList]
      exact hh
    obtain ⟨h1, h2, h3⟩ := rowI_at e (cur.toList.drop (l.length * 3))
    rw [Nat.zero_add]
    exact ⟨hH.at _ _ h1, hH.at _ _ h2, hH.at _ _ h3⟩
/-- Between two calls: the cask has the changes chs, and the row v holds those that were told OK. -/
structure LastS (w : World) (N : Lo) (c d mb : Nat) (S : Dk) (K : Ck) (chs all : List Ch) (i : Nat) (W : World) (v : Value) : Prop where
  cur : Cur w W N c d mb S K
  on : On S K v1B chs i
  calm : Calm S
  fs : S.fs.length ≤ i
  oks : ∀ x ∈ chs, x.Ok
  row : W.ownsRow w.heap.size 52 3 v all.length (rowI all)
def LastI (w : World) (c d : Nat) (chs all : List Ch) (i : Nat) (W : World) (v : Value) : Prop := ∃ N mb S K, LastS w N c d mb S K chs all i W v
theorem row52 {W W' : World} (h : Oth W W') {m : Nat} {v : Value} {n : Nat} {xs : List Value} (hr : W.ownsRow m 52 3 v n xs) : W'.ownsRow m 52 3 v n xs := h.row hr (by decide) (by decide) (by decide) (by decide) (by decide)
theorem LastI.bel {w W : World} {c d i : Nat} {chs all : List Ch} {v : Value} (h : LastI w c d chs all i W v) : Below w.heap.size w W := by
  obtain ⟨N, mb, S, K, h⟩ := h
  exact h.cur.bel
theorem LastS.drew {w W : World} {N : Lo} {c d mb : Nat} {S : Dk} {K : Ck} {chs all : List Ch} {i : Nat} {v : Value} (h : LastS w N c d mb S K chs all i W v) : LastS w N c d mb S K chs all i W.drew v :=
  ⟨h.cur.below ((Below.refl _ W).drew), h.on, h.calm, h.fs, h.oks, row52 (Oth.ofBelow ((Below.refl _ W).drew)) h.row⟩
theorem LastS.below {w W W' : World} {N : Lo} {c d mb : Nat} {S : Dk} {K : Ck} {chs all : List Ch} {i : Nat} {v : Value} (h : LastS w N c d mb S K chs all i W v) (hb : Below W.heap.size W W') : LastS w N c d mb S K chs all i W' v :=
  ⟨h.cur.below hb, h.on, h.calm, h.fs, h.oks, row52 (Oth.ofBelow hb) h.row⟩
theorem nx_last {w W w' : World} {N : Lo} {c d mb : Nat} {S : Dk} {chs0 chs all : List Ch} {K : Ck} {i : Nat} {v : Value} (h : LastS w N c d mb S K chs0 all i W v) (hok : ∀ x ∈ chs, x.Ok) (hn : Nx w W N c d mb v1B chs (i + 1) S w') : LastI w c d chs all (i + 1) w' v := by
  obtain ⟨S', K', e2, e3, e4, e5⟩ := hn
  refine ⟨N, mb, S', K', e2, e3, e4.calm, ?_, hok, row52 e5 h.row⟩
  have := e4.sized.len
  have := h.fs
  omega
/-- A change in a round: it is written, or refused. -/
theorem last_put {w W0 : World} {N : Lo} {c d mb : Nat} {S : Dk} {K : Ck} {chs all : List Ch} {i : Nat} {v0 : Value} (h0 : LastS w N c d mb S K chs all i W0 v0) (hi : i < 200) (ch : Ch) (hd : ch.dead = false) :
    ∃ E, (E = 0 → ∀ W v, LastS w N c d mb S K chs all i W v → Calls Tryz.prog 18 #[.pointer (some ⟨c, 0, none⟩), .string ch.k, .string ch.v] W fun e w' => e = .returned (.int .i64 E) ∧ LastI w c d (chs ++ [nrm ch]) all (i + 1) w' v) ∧
      (E ≠ 0 → ∀ W v, LastS w N c d mb S K chs all i W v → Calls Tryz.prog 18 #[.pointer (some ⟨c, 0, none⟩), .string ch.k, .string ch.v] W fun e w' => e = .returned (.int .i64 E) ∧ LastI w c d chs all (i + 1) w' v) := by
  have hfs := h0.fs
  have hn : nrm ch = ⟨ch.k, ch.v, false⟩ := by unfold nrm; rw [hd]; rfl
  rcases on_put h0.cur h0.on h0.calm (by omega) (by omega) ch.k ch.v with ⟨hE, hp⟩ | ⟨E, hE, _, hp⟩
  · refine ⟨0, fun _ W v h => (hp W h.cur).mono fun e w' ⟨e1, e2⟩ => ⟨e1, nx_last h (fun x hx => ?_) (by rw [hn]; exact e2)⟩, fun e => absurd rfl e⟩
    rcases List.mem_append.1 hx with hx | hx
    · exact h.oks x hx
    · simp at hx; rw [hx, hn]; exact hE
  · exact ⟨E, fun e => absurd e hE, fun _ W v h => (hp W h.cur).mono fun e w' ⟨e1, e2⟩ => ⟨e1, nx_last h h.oks e2⟩⟩
theorem last_del {w W0 : World} {N : Lo} {c d mb : Nat} {S : Dk} {K : Ck} {chs all : List Ch} {i : Nat} {v0 : Value} (h0 : LastS w N c d mb S K chs all i W0 v0) (hi : i < 200) (ch : Ch) (hd : ch.dead = true) (hk : ch.k.size ≤ maxLen) :
    ∃ E, (E = 0 → ∀ W v g q, LastS w N c d mb S K chs all i W v → W.cell? ⟨g, 0, none⟩ = some (.string ch.k) → Calls Tryz.prog 19 #[.pointer (some ⟨c, 0, none⟩), .slice (some ⟨g, 0, none⟩) 1 q] W fun e w' => e = .returned (.int .i64 E) ∧ LastI w c d (chs ++ [nrm ch]) all (i + 1) w' v) ∧
      (E ≠ 0 → ∀ W v g q, LastS w N c d mb S K chs all i W v → W.cell? ⟨g, 0, none⟩ = some (.string ch.k) → Calls Tryz.prog 19 #[.pointer (some ⟨c, 0, none⟩), .slice (some ⟨g, 0, none⟩) 1 q] W fun e w' => e = .returned (.int .i64 E) ∧ LastI w c d chs all (i + 1) w' v) := by
  have hfs := h0.fs
  have hn : nrm ch = ⟨ch.k, ⟨#[]⟩, true⟩ := by unfold nrm; rw [hd]; rfl
  rcases on_del h0.cur h0.on h0.oks h0.calm (by omega) (by omega) ch.k hk with ⟨hE, hp⟩ | ⟨E, hE, hp⟩
  · refine ⟨0, fun _ W v g q h hc => (hp W g q h.cur hc).mono fun e w' ⟨e1, e2⟩ => ⟨e1, nx_last h (fun x hx => ?_) (by rw [hn]; exact e2)⟩, fun e => absurd rfl e⟩
    rcases List.mem_append.1 hx with hx | hx
    · exact h.oks x hx
    · simp at hx; rw [hx, hn]; exact hE
  · exact ⟨E, fun e => absurd e hE, fun _ W v g q h hc => (hp W g q h.cur hc).mono fun e w' ⟨e1, e2⟩ => ⟨e1, nx_last h h.oks e2⟩⟩
theorem last_reopen {w W : World} {c d i : Nat} {chs all : List Ch} {v : Value} (h : LastI w c d chs all i W v) (hi : i ≤ 256) :
    Calls Tryz.prog 21 #[.pointer (some ⟨c, 0, none⟩)] W fun e w' => e = .returned (.int .i64 0) ∧ LastI w c d chs all i w' v := by
  obtain ⟨N, mb, S, K, h⟩ := h
  refine (on_reopen h.cur h.on h.calm hi).mono fun e w' ⟨e1, mb2, S', K', e2, e3, e4, e5, e6⟩ => ⟨e1, _, mb2, S', K', e2, e3, e4, by rw [e5]; exact h.fs, h.oks, row52 e6 h.row⟩
theorem last_open {w W : World} {d : Nat} {r : Int} (h : DCur w W (lo0 w) d (newS r)) :
    Calls Tryz.prog 16 #[.pointer (some ⟨d, 0, none⟩), .string v1B] W fun e w' => ∃ c, e = .returned (.tuple #[.pointer (some ⟨c, 0, none⟩), .int .i64 0]) ∧ LastI w c d [] [] 0 w' (.slice none 0 0) :=
  (on_open h (empty_calm r) v1B aCap [] (empty_sound r v1B) 0 (by simp) (by simp) (by simp) (by simp)).mono fun e w' ⟨c, mb, e1, S', K', e2, e3, e4, e5, e6, e7, e8, _⟩ => ⟨c, e1, _, mb, S', K', e2, e3, e4, by rw [e6]; exact Nat.le_refl _, by simp, World.ownsRow_nil _ _ _ _⟩
/-- The row has grown. -/
theorem last_more {w W W' : World} {c d i : Nat} {chs all : List Ch} {v v' : Value} {ch : Ch} (h : LastI w c d chs all i W v) {row : Option Nat} (hg : W.grownBy W' row) (hv : row = v.ownBlock) (hr : W'.ownsRow w.heap.size 52 3 v' (all.length + 1) (rowI all ++ [.string ch.k, .string ch.v, .bool ch.dead])) : LastI w c d chs (all ++ [ch]) i W' v' := by
  obtain ⟨N, mb, S, K, h⟩ := h
  subst hv
  have hb : Below w.heap.size w W' := below_grown h.cur.bel hg h.cur.bel.size h.row
  have hne : ∀ (j : Nat) o, W.heap[j]? = some o → (∀ cs fr, o ≠ Obj.cells cs 52 fr) → W'.heap[j]? = W.heap[j]? := fun j o hj ho => hg.block j (Array.getElem?_eq_some_iff.1 hj).1 (fun e => by
    rcases h.row.2 with ⟨q, _⟩ | ⟨g, cap, cur, q, _, hh, _⟩
    · rw [q] at e; simp [Value.ownBlock] at e
    · rw [q] at e
      obtain rfl : j = g := by simpa [Value.ownBlock] using e
      rw [hh] at hj
      cases hj
      exact ho _ _ rfl)
  obtain ⟨sv, o⟩ := h.cur.op
  refine ⟨N, mb, S, K, ⟨⟨sv, ?_⟩, h.cur.lo, ?_, hb⟩, h.on, h.calm, h.fs, h.oks, ?_⟩
  · have hH : Holds W' c (ckV d mb sv K) 28 := by
      have q := o.holds
      unfold Holds at q ⊢
      rw [hne c _ q (fun cs fr e => by simp at e)]; exact q
    have hD : DiskAt W' N d S := by
      obtain ⟨mv, st, A, V, q, hN, hM, hF, hS⟩ := o.disk
      refine ⟨mv, st, A, V, ?_, hN, hM.same (fun j es k hj => hne j _ hj (fun _ _ e => by cases e)), hF.same (fun j cs t fr hj ht => hne j _ hj (fun _ _ e => by simp at e; rcases ht with rfl | rfl <;> simp at e)), hS⟩
      unfold Holds at q ⊢
      rw [hne d _ q (fun cs fr e => by simp at e)]; exact q
    refine ⟨hH, o.le, o.guard2, fun j hj => Nat.lt_of_lt_of_le (o.lt j hj) hg.size, ?_, row_same o.row (fun j cs fr hj => hne j _ hj (fun _ _ e => by simp at e)), hD, o.fine⟩
    obtain ⟨es, cl, q⟩ := o.keys.isMap
    exact o.keys.same (hne mb _ q (fun _ _ e => by cases e))
  · have hB : Below N W W' := by
      refine ⟨hg.os, hg.tape, hg.output, hg.size, fun j hj => ?_⟩
      have hlo := h.cur.lo
      refine hg.block j (Nat.lt_of_lt_of_le hj h.cur.sz) (fun e => ?_)
      have := (h.row.lt j e.symm).1
      have : j < w.heap.size := by rw [← hlo]; exact hj
      omega
    exact h.cur.tab.on hB
  · rw [List.length_append, rowI_append]; exact hr
/-- Get, in the last rounds. -/
theorem last_get {w W : World} {c d i : Nat} {chs all : List Ch} {v : Value} (h : LastI w c d chs all i W v) (hc : chs = all.map nrm) (k : ByteArray) (hk : k.size ≤ maxLen) :
    Calls Tryz.prog 15 #[.pointer (some ⟨c, 0, none⟩), .string k] W fun e w' => e = .returned (.tuple #[.string (getV (kvOf all) k), .int .i64 (getE (kvOf all) k)]) ∧ LastI w c d chs all i w' v := by
  obtain ⟨N, mb, S, K, h⟩ := h
  have hkv : K.kv = kvOf all := by rw [h.on.kv, hc, kvOf_nrm]
  refine (cur_get h.cur k hk h.on.ok).mono fun e w' ⟨e1, e2, e3⟩ => ⟨by rw [e1, hkv], N, mb, S, K, e2, h.on, h.calm, h.fs, h.oks, row52 e3 h.row⟩
theorem last_ref {w W : World} {c d i : Nat} {chs all : List Ch} {v : Value} (h : LastI w c d chs all i W v) (k : ByteArray) (hl : all.length ≤ 1000) :
    Calls Tryz.prog 37 #[v, .string k] W fun e w' => e = .returned (.tuple #[.string (getV (kvOf all) k), .int .i64 (getE (kvOf all) k)]) ∧ LastI w c d chs all i w' v := by
  obtain ⟨N, mb, S, K, h⟩ := h
  exact (refLast_any v all k (by omega) W (chg_of_row h.row)).mono fun e w' ⟨e1, e2⟩ => ⟨e1, N, mb, S, K, h.below e2⟩
/-- Fold and the document's Fold. -/
theorem last_fold {w W : World} {c d i : Nat} {chs all : List Ch} {v : Value} (h : LastI w c d chs all i W v) (hc : chs = all.map nrm) :
    Calls Tryz.prog 23 #[.pointer (some ⟨c, 0, none⟩)] W fun e w' => ∃ a n q, e = .returned (.slice a n q) ∧ LastI w c d chs all i w' v ∧ w'.ownsRow w.heap.size 103 2 (.slice a n q) (kvL (kvOf all)).length (cellsP (kvL (kvOf all))) := by
  obtain ⟨N, mb, S, K, h⟩ := h
  have hkv : K.kv = kvOf all := by rw [h.on.kv, hc, kvOf_nrm]
  refine (cur_fold h.cur).mono fun e w' ⟨u, e1, e2, e3, e4⟩ => ?_
  obtain ⟨a, q, rfl⟩ := row_slice e2
  rw [hkv] at e2
  exact ⟨a, _, q, e1, ⟨N, mb, S, K, e3, h.on, h.calm, h.fs, h.oks, row52 e4 h.row⟩, by rw [hkv]; exact row_base e2 h.cur.bel.size⟩
theorem last_rfold {w W : World} {c d i : Nat} {chs all : List Ch} {v u : Value} (h : LastI w c d chs all i W v) (hu : W.ownsRow w.heap.size 103 2 u (kvL (kvOf all)).length (cellsP (kvL (kvOf all)))) (hl : all.length ≤ 1000) :
    Calls Tryz.prog 33 #[v] W fun e w' => ∃ a n q, e = .returned (.slice a n q) ∧ (w'.ownsRow w.heap.size 103 2 (.slice a n q) (kvL (kvOf all)).length (cellsP (kvL (kvOf all))) ∧ w'.ownsRow w.heap.size 103 2 u (kvL (kvOf all)).length (cellsP (kvL (kvOf all))) ∧ Below w.heap.size w w') := by
  have hb := h.bel
  obtain ⟨N, mb, S, K, h⟩ := h
  refine (refFold_any v all (by omega) W (chg_of_row h.row)).mono fun e w' ⟨x, e1, e2, e3⟩ => ?_
  obtain ⟨a, q, rfl⟩ := row_slice e2
  exact ⟨a, _, q, e1, row_base e2 hb.size, (Oth.ofBelow e3).row hu (by decide) (by decide) (by decide) (by decide) (by decide), hb.trans (e3.mono hb.size)⟩
theorem last_same {w W : World} {all : List Ch} {u x : Value} (h : W.ownsRow w.heap.size 103 2 x (kvL (kvOf all)).length (cellsP (kvL (kvOf all))) ∧ W.ownsRow w.heap.size 103 2 u (kvL (kvOf all)).length (cellsP (kvL (kvOf all))) ∧ Below w.heap.size w W) (hl : all.length ≤ 1000) :
    Calls Tryz.prog 32 #[u, x] W fun e w' => e = .returned (.bool true) ∧ Below w.heap.size w w' := by
  have hk : (kvL (kvOf all)).length < 9223372036854775807 := by
    have : (kvOf all).length ≤ all.length := ldC_len v1B all []
    rw [kvL_len]
    omega
  exact (same_any u x _ _ hk hk W (prs_of_row h.2.1) (prs_of_row h.1)).mono fun e w' ⟨e1, e2⟩ => ⟨by rw [e1]; simp, h.2.2.trans (e2.mono h.2.2.size)⟩
end Go.Proofs.YtfmmholkeadejaaGreatDoor
