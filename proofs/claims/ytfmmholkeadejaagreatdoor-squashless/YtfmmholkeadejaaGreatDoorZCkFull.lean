/- CaskFull's rounds: the calls on the states. -/
import Derived.Test.YtfmmholkeadejaaGreatDoorZC6
namespace Go.Proofs.YtfmmholkeadejaaGreatDoor
open Go.RowKit

/-- A slice of changes that came in. -/
def InC (w : World) (a : Option Addr) (l : List Ch) : Prop := l ≠ [] → ∃ b o, a = some ⟨b, o, none⟩ ∧ b < w.heap.size ∧ ∀ i c, l[i]? = some c → w.cell? ⟨b, o + i * 3, none⟩ = some (.string c.k) ∧ w.cell? ⟨b, o + i * 3 + 1, none⟩ = some (.string c.v) ∧ w.cell? ⟨b, o + i * 3 + 2, none⟩ = some (.bool c.dead)
theorem empty_sound (r : Int) (nm : ByteArray) : Sound (newS r) nm [] := ⟨by simp, by simp, by simp, by simp, by simp, fun k _ h => by cases h⟩
theorem empty_calm (r : Int) : Calm (newS r) := ⟨rfl, rfl⟩
/-- Between two rounds. -/
def FullI (w : World) (N : Lo) (c d mb rn i : Nat) (W : World) : Prop := ∃ S K chs, Cur w W N c d mb S K ∧ On S K v1B chs i ∧ Calm S ∧ S.fs.length ≤ i ∧ S.room = rn ∧ used S.fs ≤ rn
/-- With what Fold told. -/
def FullR (w : World) (N : Lo) (c d mb : Nat) (S : Dk) (K : Ck) (W : World) (v : Value) : Prop := Cur w W N c d mb S K ∧ W.ownsRow w.heap.size 103 2 v (kvL K.kv).length (cellsP (kvL K.kv))
theorem row_base {W : World} {m m' : Nat} {e : TypeId} {size : Nat} {v : Value} {n : Nat} {xs : List Value} (h : W.ownsRow m e size v n xs) (hm : m' ≤ m) : W.ownsRow m' e size v n xs := by
  refine ⟨h.1, ?_⟩
  rcases h.2 with h | ⟨g, cap, cur, e1, hb, r⟩
  · exact .inl h
  · exact .inr ⟨g, cap, cur, e1, by omega, r⟩
theorem full_fold {w W : World} {N : Lo} {c d mb : Nat} {S : Dk} {K : Ck} (h : Cur w W N c d mb S K) :
    Calls Tryz.prog 23 #[.pointer (some ⟨c, 0, none⟩)] W fun e w' => ∃ a n q, e = .returned (.slice a n q) ∧ FullR w N c d mb S K w' (.slice a n q) :=
  (cur_fold h).mono fun e w' ⟨v, e1, e2, e3, _⟩ => by
    obtain ⟨a, q, rfl⟩ := row_slice e2
    exact ⟨a, _, q, e1, e3, row_base e2 h.bel.size⟩
/-- A refused Put, and what Fold had told ahead of it. -/
def FullX (w : World) (N : Lo) (c d mb rn i : Nat) (chs : List Ch) (W : World) (v : Value) : Prop := ∃ S K, Cur w W N c d mb S K ∧ On S K v1B chs i ∧ Calm S ∧ S.fs.length ≤ i ∧ S.room = rn ∧ used S.fs ≤ rn ∧ W.ownsRow w.heap.size 103 2 v (kvL (kvOf chs)).length (cellsP (kvL (kvOf chs)))
theorem FullX.on {w W : World} {N : Lo} {c d mb rn i : Nat} {chs : List Ch} {v : Value} (h : FullX w N c d mb rn i chs W v) : FullI w N c d mb rn i W := by
  obtain ⟨S, K, q1, q2, q3, q4, q5, q6, _⟩ := h
  exact ⟨S, K, chs, q1, q2, q3, q4, q5, q6⟩
theorem FullI.bel {w W : World} {N : Lo} {c d mb rn i : Nat} (h : FullI w N c d mb rn i W) : Below w.heap.size w W := by
  obtain ⟨S, K, chs, q1, _⟩ := h
  exact q1.bel
theorem FullX.bel {w W : World} {N : Lo} {c d mb rn i : Nat} {chs : List Ch} {v : Value} (h : FullX w N c d mb rn i chs W v) : Below w.heap.size w W := h.on.bel
theorem FullR.drew {w W : World} {N : Lo} {c d mb : Nat} {S : Dk} {K : Ck} {v : Value} (h : FullR w N c d mb S K W v) : FullR w N c d mb S K W.drew v :=
  ⟨h.1.below ((Below.refl _ W).drew), (Oth.ofBelow ((Below.refl _ W).drew)).row h.2 (by decide) (by decide) (by decide) (by decide) (by decide)⟩
theorem wr_room {S S' : Dk} {nm : ByteArray} {rn i : Nat} (h : Wr S nm S') (h1 : S.fs.length ≤ i) (h2 : S.room = rn) (h3 : used S.fs ≤ rn) : Calm S' ∧ S'.fs.length ≤ i + 1 ∧ S'.room = rn ∧ used S'.fs ≤ rn := by
  have q1 := h.sized.len
  have q2 := h.sized.room
  have q3 := h.sized.used
  exact ⟨h.calm, by omega, by omega, by omega⟩
theorem full_fold2 {w W : World} {N : Lo} {c d mb rn i : Nat} {chs : List Ch} {v : Value} (h : FullX w N c d mb rn i chs W v) :
    Calls Tryz.prog 23 #[.pointer (some ⟨c, 0, none⟩)] W fun e w' => ∃ a n q, e = .returned (.slice a n q) ∧ FullX w N c d mb rn i chs w' v ∧ w'.ownsRow w.heap.size 103 2 (.slice a n q) (kvL (kvOf chs)).length (cellsP (kvL (kvOf chs))) := by
  obtain ⟨S, K, q1, q2, q3, q4, q5, q6, q7⟩ := h
  refine (cur_fold q1).mono fun e w' ⟨u, e1, e2, e3, e4⟩ => ?_
  obtain ⟨a, q, rfl⟩ := row_slice e2
  rw [q2.kv] at e2
  exact ⟨a, _, q, e1, ⟨S, K, e3, q2, q3, q4, q5, q6, e4.row q7 (by decide) (by decide) (by decide) (by decide) (by decide)⟩, by rw [q2.kv]; exact row_base e2 q1.bel.size⟩
theorem full_same {w W : World} {N : Lo} {c d mb rn i : Nat} {chs : List Ch} {v u : Value} (hi : i < 4000000) (h : FullX w N c d mb rn i chs W v) (hu : W.ownsRow w.heap.size 103 2 u (kvL (kvOf chs)).length (cellsP (kvL (kvOf chs)))) :
    Calls Tryz.prog 32 #[u, v] W fun e w' => e = .returned (.bool true) ∧ FullX w N c d mb rn i chs w' v := by
  obtain ⟨S, K, q1, q2, q3, q4, q5, q6, q7⟩ := h
  have hl : (kvL (kvOf chs)).length < 9223372036854775807 := by
    have := ldC_len v1B chs []
    have h2 := q2.len
    rw [kvL_len]
    have : (kvOf chs).length ≤ chs.length := this
    omega
  refine (same_any u v _ _ hl hl W (prs_of_row hu) (prs_of_row q7)).mono fun e w' ⟨e1, e2⟩ => ⟨by rw [e1]; simp, S, K, q1.below e2, q2, q3, q4, q5, q6, ?_⟩
  exact (Oth.ofBelow e2).row q7 (by decide) (by decide) (by decide) (by decide) (by decide)
theorem full_broken {w W : World} {N : Lo} {c d mb rn i : Nat} {chs : List Ch} {v : Value} (h : FullX w N c d mb rn i chs W v) :
    Calls Tryz.prog 28 #[.pointer (some ⟨c, 0, none⟩)] W fun e w' => e = .returned (.bool false) ∧ w' = W := by
  obtain ⟨S, K, q1, q2, q3, q4, q5, q6, q7⟩ := h
  exact (cur_broken q1).mono fun e w' ⟨e1, e2⟩ => ⟨by rw [e1, q2.ok], e2⟩
/-- Put in a round: it is written; it finds no room; or it may not be. -/
theorem full_put {w W0 : World} {N : Lo} {c d mb rn i : Nat} {S : Dk} {K : Ck} {chs : List Ch} (h0 : Cur w W0 N c d mb S K) (ho : On S K v1B chs i) (hc : Calm S) (hf : S.fs.length ≤ i) (hr : S.room = rn) (hu : used S.fs ≤ rn) (hi : i < 200) (k v : ByteArray) :
    ∃ E, (E ≠ 22 → ∀ W u, FullR w N c d mb S K W u → Calls Tryz.prog 18 #[.pointer (some ⟨c, 0, none⟩), .string k, .string v] W fun e w' => e = .returned (.int .i64 E) ∧ FullI w N c d mb rn (i + 1) w') ∧
      (E = 22 → ∀ W u, FullR w N c d mb S K W u → Calls Tryz.prog 18 #[.pointer (some ⟨c, 0, none⟩), .string k, .string v] W fun e w' => e = .returned (.int .i64 E) ∧ FullX w N c d mb rn (i + 1) chs w' u) := by
  rcases on_put h0 ho hc (by omega) (by omega) k v with ⟨_, hp⟩ | ⟨E, hE, _, hp⟩
  · refine ⟨0, fun _ W u h => (hp W h.1).mono fun e w' ⟨e1, S', K', e2, e3, e4, e5⟩ => ⟨e1, ?_⟩, fun e => by cases e⟩
    obtain ⟨r1, r2, r3, r4⟩ := wr_room e4 hf hr hu
    exact ⟨S', K', _, e2, e3, r1, r2, r3, r4⟩
  · refine ⟨E, fun _ W u h => (hp W h.1).mono fun e w' ⟨e1, S', K', e2, e3, e4, e5⟩ => ⟨e1, ?_⟩, fun _ W u h => (hp W h.1).mono fun e w' ⟨e1, S', K', e2, e3, e4, e5⟩ => ⟨e1, ?_⟩⟩
    · obtain ⟨r1, r2, r3, r4⟩ := wr_room e4 hf hr hu
      exact ⟨S', K', _, e2, e3, r1, r2, r3, r4⟩
    · obtain ⟨r1, r2, r3, r4⟩ := wr_room e4 hf hr hu
      have hrow := h.2
      rw [ho.kv] at hrow
      exact ⟨S', K', e2, e3, r1, r2, r3, r4, e5.row hrow (by decide) (by decide) (by decide) (by decide) (by decide)⟩
/-- Limit, the last Put and its Get. -/
def FullE (w : World) (N : Lo) (c d mb : Nat) (W : World) : Prop := ∃ S K chs, Cur w W N c d mb S K ∧ On S K v1B chs 60 ∧ Calm S ∧ S.fs.length ≤ 60 ∧ S.room = 1048576 ∧ used S.fs ≤ 9000
theorem full_limit {w W : World} {N : Lo} {c d mb rn i : Nat} (h : FullI w N c d mb rn i W) (hrn : rn ≤ 9000) (hi : i ≤ 60) :
    Calls Tryz.prog 38 #[.pointer (some ⟨d, 0, none⟩), .int .i64 1048576] W fun e w' => e = .returned (.tuple #[]) ∧ FullE w N c d mb w' := by
  obtain ⟨S, K, chs, q1, q2, q3, q4, q5, q6⟩ := h
  obtain ⟨sv, o⟩ := q1.op
  refine (limit_some N d S 1048576 W o.disk).mono fun e w' ⟨e1, e2, e3⟩ => ⟨e1, _, K, chs, ⟨⟨sv, o.dupd e3 e2⟩, q1.lo, q1.tab.on (e3.below q1.sz), q1.bel.trans (by have := q1.lo; rw [← this]; exact e3.below q1.sz)⟩, ?_, ⟨q3.on, q3.armed⟩, by show S.fs.length ≤ 60; omega, rfl, by show used S.fs ≤ 9000; omega⟩
  obtain ⟨L, g, r1, r2⟩ := q2.ex
  exact ⟨⟨L, ⟨g.sound.of (fun _ _ => rfl), g.segs, g.kv, g.recs, g.whole, g.lim, g.ok⟩, r1, by omega⟩, q2.name, Nat.le_trans q2.new (by omega), Nat.le_trans q2.len (by omega)⟩
abbrev moreB : ByteArray := ⟨#[109, 111, 114, 101]⟩
abbrev roomS : ByteArray := ⟨#[114, 111, 111, 109]⟩
theorem more_size : (chR ⟨moreB, roomS, false⟩).size ≤ 100 := by decide +kernel
def FullZ (w : World) (N : Lo) (c d mb : Nat) (W : World) : Prop := ∃ S K, Cur w W N c d mb S K ∧ K.broken = false ∧ getV K.kv moreB = roomS ∧ getE K.kv moreB = 0
theorem full_last {w W : World} {N : Lo} {c d mb : Nat} (h : FullE w N c d mb W) :
    Calls Tryz.prog 18 #[.pointer (some ⟨c, 0, none⟩), .string moreB, .string roomS] W fun e w' => e = .returned (.int .i64 0) ∧ FullZ w N c d mb w' := by
  obtain ⟨S, K, chs, q1, q2, q3, q4, q5, q6⟩ := h
  rcases on_put q1 q2 q3 (by omega) (by omega) moreB roomS with ⟨_, hp⟩ | ⟨E, hE, hn, hp⟩
  · refine (hp W q1).mono fun e w' ⟨e1, S', K', e2, e3, e4, e5⟩ => ⟨e1, S', K', e2, e3.ok, ?_⟩
    have hg : get K'.kv moreB.data.toList = some ⟨roomS.data.toList, 0⟩ := by
      rw [e3.kv, kvOf_snoc, get_take (kvOf_rise chs), if_pos rfl, if_neg (by decide)]
    unfold getV getE
    rw [hg]
    exact ⟨rfl, rfl⟩
  · exact absurd ⟨by decide, by have := more_size; omega⟩ hn
theorem full_get {w W : World} {N : Lo} {c d mb : Nat} (h : FullZ w N c d mb W) :
    Calls Tryz.prog 15 #[.pointer (some ⟨c, 0, none⟩), .string moreB] W fun e w' => e = .returned (.tuple #[.string roomS, .int .i64 0]) ∧ Below w.heap.size w w' := by
  obtain ⟨S, K, q1, q2, q3, q4⟩ := h
  exact (cur_get q1 moreB (by unfold maxLen; decide) q2).mono fun e w' ⟨e1, e2, _⟩ => ⟨by rw [e1, q3, q4], e2.bel⟩
theorem full_new (w W : World) (hT : Tab w.heap.size w) (hB : Below w.heap.size w W) (r : Int) :
    Calls Tryz.prog 29 #[.int .i64 r] W fun e w' => e = .returned (.pointer (some ⟨W.heap.size, 0, none⟩)) ∧ DCur w w' (lo0 w) W.heap.size (newS r) :=
  (dcur_new w hT r W hB).mono fun _ _ ⟨e1, e2, _⟩ => ⟨e1, e2⟩
theorem full_open {w W : World} {d rn : Nat} {r : Int} (h : DCur w W (lo0 w) d (newS r)) (hr : roomN r = rn) :
    Calls Tryz.prog 16 #[.pointer (some ⟨d, 0, none⟩), .string v1B] W fun e w' => ∃ c mb, e = .returned (.tuple #[.pointer (some ⟨c, 0, none⟩), .int .i64 0]) ∧ FullI w ((lo0 w).with mb) c d mb rn 0 w' :=
  (on_open h (empty_calm r) v1B aCap [] (empty_sound r v1B) 0 (by simp) (by simp) (by simp) (by simp)).mono fun e w' ⟨c, mb, e1, S', K', e2, e3, e4, e5, e6, e7, e8, _⟩ => ⟨c, mb, e1, S', K', _, e2, e3, e4, by rw [e6]; exact Nat.le_refl _, by rw [e8]; exact hr, by rw [e7]; exact Nat.zero_le _⟩
end Go.Proofs.YtfmmholkeadejaaGreatDoor
