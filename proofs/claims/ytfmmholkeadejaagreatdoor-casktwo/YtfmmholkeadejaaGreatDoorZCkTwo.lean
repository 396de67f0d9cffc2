/- Two casks on one disk: the calls on the states. -/
import Derived.Test.YtfmmholkeadejaaGreatDoorZCkLast
namespace Go.Proofs.YtfmmholkeadejaaGreatDoor
open Go.RowKit

theorem row_at {w w' : World} {base : Nat} {e : TypeId} {size : Nat} {v : Value} {n : Nat} {xs : List Value} (h : w.ownsRow base e size v n xs) (hs : ∀ g, v.ownBlock = some g → w'.heap[g]? = w.heap[g]?) : w'.ownsRow base e size v n xs := by
  refine ⟨h.1, ?_⟩
  rcases h.2 with h | ⟨g, cap, cur, e1, hb, hg, r⟩
  · exact .inl h
  · exact .inr ⟨g, cap, cur, e1, hb, (hs g (by rw [e1]; rfl)).trans hg, r⟩
theorem row_cells {w : World} {base : Nat} {e : TypeId} {size : Nat} {v : Value} {n : Nat} {xs : List Value} (h : w.ownsRow base e size v n xs) {g : Nat} (hg : v.ownBlock = some g) : ∃ cs fr, w.heap[g]? = some (Obj.cells cs e fr) := by
  rcases h.2 with ⟨q, _⟩ | ⟨g', cap, cur, q, _, hh, _⟩
  · rw [q] at hg; simp [Value.ownBlock] at hg
  · rw [q] at hg
    obtain rfl : g' = g := by simpa [Value.ownBlock] using hg
    exact ⟨_, _, hh⟩
/-- Two casks on one disk, apart in memory. -/
structure Two (W : World) (N : Lo) (d : Nat) (S : Dk) (c1 mb1 : Nat) (sv1 : Value) (K1 : Ck) (c2 mb2 : Nat) (sv2 : Value) (K2 : Ck) : Prop where
  a : CaskOpen W N c1 d mb1 sv1 S K1
  b : CaskOpen W N c2 d mb2 sv2 S K2
  nc : c1 ≠ c2
  nm : mb1 ≠ mb2
  ns : ∀ g, sv1.ownBlock = some g → sv2.ownBlock ≠ some g
theorem Two.swap {W : World} {N : Lo} {d : Nat} {S : Dk} {c1 mb1 : Nat} {sv1 : Value} {K1 : Ck} {c2 mb2 : Nat} {sv2 : Value} {K2 : Ck} (h : Two W N d S c1 mb1 sv1 K1 c2 mb2 sv2 K2) : Two W N d S c2 mb2 sv2 K2 c1 mb1 sv1 K1 :=
  ⟨h.b, h.a, h.nc.symm, h.nm.symm, fun g h2 h1 => h.ns g h1 h2⟩
/-- A call on the one leaves the other. -/
theorem Two.step {W w' : World} {N : Lo} {d : Nat} {S S' : Dk} {c1 mb1 : Nat} {sv1 sv1' : Value} {K1 K1' : Ck} {c2 mb2 : Nat} {sv2 : Value} {K2 : Ck} (h : Two W N d S c1 mb1 sv1 K1 c2 mb2 sv2 K2) (hu : CUpd N (Own c1 mb1 sv1) W w') (ha : CaskOpen w' N c1 d mb1 sv1' S' K1') (hn : Near W sv1 sv1') : Two w' N d S' c1 mb1 sv1' K1' c2 mb2 sv2 K2 := by
  have hc2 := h.b.holds
  have hc1 := h.a.holds
  obtain ⟨es1, l1, m1⟩ := h.a.keys.isMap
  obtain ⟨es2, l2, m2⟩ := h.b.keys.isMap
  unfold Holds at hc1 hc2
  refine ⟨ha, ⟨?_, h.b.le, h.b.guard2, ha.lt, ?_, ?_, ha.disk, h.b.fine⟩, h.nc, h.nm, ?_⟩
  · unfold Holds
    rw [hu.block c2 h.b.holds.lt ?_ (.inr ⟨_, _, _, hc2, by decide, by decide, by decide⟩)]
    · exact hc2
    · rintro (e | e | e)
      · exact h.nc e.symm
      · rw [e, m1] at hc2; cases hc2
      · obtain ⟨cs, fr, q⟩ := row_cells h.a.row e
        rw [q] at hc2; simp at hc2
  · refine h.b.keys.same (hu.block mb2 (h.b.lt mb2 h.b.guard) ?_ (.inl (.inr ⟨h.b.guard, es2, l2, m2⟩)))
    rintro (e | e | e)
    · rw [e, hc1] at m2; cases m2
    · exact h.nm e.symm
    · obtain ⟨cs, fr, q⟩ := row_cells h.a.row e
      rw [q] at m2; cases m2
  · refine row_at h.b.row (fun g hg => ?_)
    obtain ⟨cs, fr, q⟩ := row_cells h.b.row hg
    refine hu.block g (h.b.row.lt g hg).2 ?_ (.inr ⟨_, _, _, q, by decide, by decide, by decide⟩)
    rintro (e | e | e)
    · rw [e, hc1] at q; simp at q
    · rw [e, m1] at q; cases q
    · exact h.ns g e hg
  · intro g h1 h2
    rcases hn g h1 with q | q
    · exact h.ns g q h2
    · have := (h.b.row.lt g h2).2; omega
theorem Two.below {W w' : World} {N : Lo} {d : Nat} {S : Dk} {c1 mb1 : Nat} {sv1 : Value} {K1 : Ck} {c2 mb2 : Nat} {sv2 : Value} {K2 : Ck} (h : Two W N d S c1 mb1 sv1 K1 c2 mb2 sv2 K2) (hb : Below W.heap.size W w') : Two w' N d S c1 mb1 sv1 K1 c2 mb2 sv2 K2 :=
  ⟨h.a.below hb, h.b.below hb, h.nc, h.nm, h.ns⟩
/-- The segments of a cask on the disk. -/
def SegOf (S : Dk) (nm : ByteArray) (chs : List Ch) (i : Nat) : Prop := ∃ L, Sound S nm L ∧ L.flatMap Sg.cs = chs ∧ L.length ≤ i ∧ (∀ x ∈ L, x.n ≤ i) ∧ chs.length ≤ i
theorem On.segOf {S : Dk} {K : Ck} {nm : ByteArray} {chs : List Ch} {i : Nat} (h : On S K nm chs i) : SegOf S nm chs i := by
  obtain ⟨L, g, rfl, hl⟩ := h.ex
  have hs := g.sound
  rw [h.name] at hs
  exact ⟨L, hs, rfl, hl, fun x hx => Nat.le_trans (g.nums x hx) h.new, h.len⟩
theorem SegOf.of {S S' : Dk} {nm : ByteArray} {chs : List Ch} {i : Nat} (h : SegOf S nm chs i) (hb : ∀ k, Mine nm k → bts S' k = bts S k) : SegOf S' nm chs i := by
  obtain ⟨L, h1, h2, h3, h4, h5⟩ := h
  exact ⟨L, h1.of hb, h2, h3, h4, h5⟩
theorem On.other {S S' : Dk} {K : Ck} {nm : ByteArray} {chs : List Ch} {i : Nat} (h : On S K nm chs i) (hb : ∀ k, Mine nm k → bts S' k = bts S k) : On S' K nm chs i := by
  obtain ⟨L, g, r1, r2⟩ := h.ex
  exact ⟨⟨L, ⟨g.sound.of (fun k hk => hb k (by rw [← h.name]; exact hk)), g.segs, g.kv, g.recs, g.whole, g.lim, g.ok⟩, r1, r2⟩, h.name, h.new, h.len⟩
/-- Two rows of changes, apart. -/
structure Rows2 (w W : World) (one two : List Ch) (v1 v2 : Value) : Prop where
  r1 : W.ownsRow w.heap.size 52 3 v1 one.length (rowI one)
  r2 : W.ownsRow w.heap.size 52 3 v2 two.length (rowI two)
  nr : ∀ g, v1.ownBlock = some g → v2.ownBlock ≠ some g
theorem Rows2.swap {w W : World} {one two : List Ch} {v1 v2 : Value} (h : Rows2 w W one two v1 v2) : Rows2 w W two one v2 v1 := ⟨h.r2, h.r1, fun g h2 h1 => h.nr g h1 h2⟩
theorem Rows2.oth {w W W' : World} {one two : List Ch} {v1 v2 : Value} (h : Rows2 w W one two v1 v2) (ho : Oth W W') : Rows2 w W' one two v1 v2 := ⟨row52 ho h.r1, row52 ho h.r2, h.nr⟩
structure TwoS (w : World) (n1 n2 : ByteArray) (N : Lo) (d : Nat) (S : Dk) (c1 mb1 : Nat) (sv1 : Value) (K1 : Ck) (c2 mb2 : Nat) (sv2 : Value) (K2 : Ck) (chs1 chs2 one two : List Ch) (i : Nat) (W : World) (v1 v2 : Value) : Prop where
  cks : Two W N d S c1 mb1 sv1 K1 c2 mb2 sv2 K2
  lo : N.n = w.heap.size
  tab : Tab N W
  bel : Below w.heap.size w W
  on1 : On S K1 n1 chs1 i
  on2 : On S K2 n2 chs2 i
  calm : Calm S
  fs : S.fs.length ≤ i
  rows : Rows2 w W one two v1 v2
def TwoI (w : World) (n1 n2 : ByteArray) (d c1 c2 : Nat) (chs1 chs2 one two : List Ch) (i : Nat) (W : World) (v1 v2 : Value) : Prop := ∃ N S mb1 sv1 K1 mb2 sv2 K2, TwoS w n1 n2 N d S c1 mb1 sv1 K1 c2 mb2 sv2 K2 chs1 chs2 one two i W v1 v2
theorem TwoS.swap {w : World} {n1 n2 : ByteArray} {N : Lo} {d : Nat} {S : Dk} {c1 mb1 : Nat} {sv1 : Value} {K1 : Ck} {c2 mb2 : Nat} {sv2 : Value} {K2 : Ck} {chs1 chs2 one two : List Ch} {i : Nat} {W : World} {v1 v2 : Value} (h : TwoS w n1 n2 N d S c1 mb1 sv1 K1 c2 mb2 sv2 K2 chs1 chs2 one two i W v1 v2) : TwoS w n2 n1 N d S c2 mb2 sv2 K2 c1 mb1 sv1 K1 chs2 chs1 two one i W v2 v1 :=
  ⟨h.cks.swap, h.lo, h.tab, h.bel, h.on2, h.on1, h.calm, h.fs, h.rows.swap⟩
theorem TwoI.swap {w : World} {n1 n2 : ByteArray} {d c1 c2 : Nat} {chs1 chs2 one two : List Ch} {i : Nat} {W : World} {v1 v2 : Value} (h : TwoI w n1 n2 d c1 c2 chs1 chs2 one two i W v1 v2) : TwoI w n2 n1 d c2 c1 chs2 chs1 two one i W v2 v1 := by
  obtain ⟨N, S, mb1, sv1, K1, mb2, sv2, K2, h⟩ := h
  exact ⟨N, S, mb2, sv2, K2, mb1, sv1, K1, h.swap⟩
theorem TwoS.sz {w : World} {n1 n2 : ByteArray} {N : Lo} {d : Nat} {S : Dk} {c1 mb1 : Nat} {sv1 : Value} {K1 : Ck} {c2 mb2 : Nat} {sv2 : Value} {K2 : Ck} {chs1 chs2 one two : List Ch} {i : Nat} {W : World} {v1 v2 : Value} (h : TwoS w n1 n2 N d S c1 mb1 sv1 K1 c2 mb2 sv2 K2 chs1 chs2 one two i W v1 v2) : N ≤ W.heap.size := by
  show N.n ≤ _
  rw [h.lo]; exact h.bel.size
theorem TwoS.cur {w : World} {n1 n2 : ByteArray} {N : Lo} {d : Nat} {S : Dk} {c1 mb1 : Nat} {sv1 : Value} {K1 : Ck} {c2 mb2 : Nat} {sv2 : Value} {K2 : Ck} {chs1 chs2 one two : List Ch} {i : Nat} {W : World} {v1 v2 : Value} (h : TwoS w n1 n2 N d S c1 mb1 sv1 K1 c2 mb2 sv2 K2 chs1 chs2 one two i W v1 v2) : Cur w W N c1 d mb1 S K1 := ⟨⟨sv1, h.cks.a⟩, h.lo, h.tab, h.bel⟩
theorem TwoS.below {w : World} {n1 n2 : ByteArray} {N : Lo} {d : Nat} {S : Dk} {c1 mb1 : Nat} {sv1 : Value} {K1 : Ck} {c2 mb2 : Nat} {sv2 : Value} {K2 : Ck} {chs1 chs2 one two : List Ch} {i : Nat} {W W' : World} {v1 v2 : Value} (h : TwoS w n1 n2 N d S c1 mb1 sv1 K1 c2 mb2 sv2 K2 chs1 chs2 one two i W v1 v2) (hb : Below W.heap.size W W') : TwoS w n1 n2 N d S c1 mb1 sv1 K1 c2 mb2 sv2 K2 chs1 chs2 one two i W' v1 v2 :=
  ⟨h.cks.below hb, h.lo, h.tab.on (hb.mono h.sz), h.bel.trans (hb.mono h.bel.size), h.on1, h.on2, h.calm, h.fs, h.rows.oth (Oth.ofBelow hb)⟩
theorem TwoI.below {w : World} {n1 n2 : ByteArray} {d c1 c2 : Nat} {chs1 chs2 one two : List Ch} {i : Nat} {W W' : World} {v1 v2 : Value} (h : TwoI w n1 n2 d c1 c2 chs1 chs2 one two i W v1 v2) (hb : Below W.heap.size W W') : TwoI w n1 n2 d c1 c2 chs1 chs2 one two i W' v1 v2 := by
  obtain ⟨N, S, mb1, sv1, K1, mb2, sv2, K2, h⟩ := h
  exact ⟨N, S, mb1, sv1, K1, mb2, sv2, K2, h.below hb⟩
theorem TwoI.bel {w : World} {n1 n2 : ByteArray} {d c1 c2 : Nat} {chs1 chs2 one two : List Ch} {i : Nat} {W : World} {v1 v2 : Value} (h : TwoI w n1 n2 d c1 c2 chs1 chs2 one two i W v1 v2) : Below w.heap.size w W := by
  obtain ⟨N, S, mb1, sv1, K1, mb2, sv2, K2, h⟩ := h
  exact h.bel
/-- Put on the one: it is written, or refused. -/
theorem two_put {w : World} {n1 n2 : ByteArray} (hap : ∀ k, Mine n2 k → ¬ Mine n1 k) {N : Lo} {d : Nat} {S : Dk} {c1 mb1 : Nat} {sv1 : Value} {K1 : Ck} {c2 mb2 : Nat} {sv2 : Value} {K2 : Ck} {chs1 chs2 one two : List Ch} {i : Nat} {W0 : World} {v10 v20 : Value} (h0 : TwoS w n1 n2 N d S c1 mb1 sv1 K1 c2 mb2 sv2 K2 chs1 chs2 one two i W0 v10 v20) (hi : i < 200) (k v : ByteArray) :
    ∃ E, (E = 0 → ∀ W v1 v2, TwoS w n1 n2 N d S c1 mb1 sv1 K1 c2 mb2 sv2 K2 chs1 chs2 one two i W v1 v2 → Calls Tryz.prog 18 #[.pointer (some ⟨c1, 0, none⟩), .string k, .string v] W fun e w' => e = .returned (.int .i64 E) ∧ TwoI w n1 n2 d c1 c2 (chs1 ++ [⟨k, v, false⟩]) chs2 one two (i + 1) w' v1 v2) ∧
      (E ≠ 0 → ∀ W v1 v2, TwoS w n1 n2 N d S c1 mb1 sv1 K1 c2 mb2 sv2 K2 chs1 chs2 one two i W v1 v2 → Calls Tryz.prog 18 #[.pointer (some ⟨c1, 0, none⟩), .string k, .string v] W fun e w' => e = .returned (.int .i64 E) ∧ TwoI w n1 n2 d c1 c2 chs1 chs2 one two (i + 1) w' v1 v2) := by
  have hfs := h0.fs
  by_cases hE : cfE k v = 0
  · obtain ⟨q1, q2, q3⟩ := h0.on1.write h0.calm h0.cur.dfine.rise h0.cur.fine (by omega) ⟨k, v, false⟩ hE
    have hp := fun W v1 v2 (h : TwoS w n1 n2 N d S c1 mb1 sv1 K1 c2 mb2 sv2 K2 chs1 chs2 one two i W v1 v2) => put_near N c1 d mb1 sv1 S K1 k v hE W h.cks.a h.sz h.tab h0.on1.ok (h0.on1.room h0.cur (by omega) (by omega))
    have hst : ∀ W v1 v2 w' sv' K', TwoS w n1 n2 N d S c1 mb1 sv1 K1 c2 mb2 sv2 K2 chs1 chs2 one two i W v1 v2 → CUpd N (Own c1 mb1 sv1) W w' → CaskOpen w' N c1 d mb1 sv' (stS S K1 (chR ⟨k, v, false⟩)) K' → Near W sv1 sv' → ∀ chs, On (stS S K1 (chR ⟨k, v, false⟩)) K' n1 chs (i + 1) → TwoI w n1 n2 d c1 c2 chs chs2 one two (i + 1) w' v1 v2 := fun W v1 v2 w' sv' K' h hu ho hn chs hon => by
      have hB : Below N W w' := hu.below h.sz (fun j hj => h.cks.a.own j hj)
      refine ⟨N, _, mb1, sv', K', mb2, sv2, K2, h.cks.step hu ho hn, h.lo, h.tab.on hB, h.bel.trans (by have := h.lo; rw [← this]; exact hB), hon, (h.on2.mono (by omega)).other (fun k hk => q1.others k (hap k hk)), q1.calm, ?_, h.rows.oth (h.cks.a.oth (fun _ q => q) hu)⟩
      have := q1.sized.len
      omega
    rcases q2 with ⟨e, o⟩ | ⟨e, o⟩
    · refine ⟨0, fun _ W v1 v2 h => (hp W v1 v2 h).mono fun x w' ⟨e1, ⟨sv', e2, e4⟩, e3⟩ => ?_, fun q => absurd rfl q⟩
      rw [e, if_pos rfl] at e2
      exact ⟨by rw [e1, e], hst W v1 v2 w' sv' _ h e3 e2 e4 _ o⟩
    · refine ⟨22, (fun q => by cases q), fun _ W v1 v2 h => (hp W v1 v2 h).mono fun x w' ⟨e1, ⟨sv', e2, e4⟩, e3⟩ => ?_⟩
      rw [e, if_neg (by decide)] at e2
      exact ⟨by rw [e1, e], hst W v1 v2 w' sv' _ h e3 e2 e4 _ o⟩
  · refine ⟨_, fun q => absurd q hE, fun _ W v1 v2 h => (put_bad c1 d mb1 sv1 K1 k v W h.cks.a.holds h.on1.ok hE).mono fun x w' ⟨e1, e2⟩ => ⟨e1, N, S, mb1, sv1, K1, mb2, sv2, K2, ?_⟩⟩
    have h' := h.below e2
    exact ⟨h'.cks, h'.lo, h'.tab, h'.bel, h'.on1.mono (by omega), h'.on2.mono (by omega), h'.calm, Nat.le_trans h'.fs (by omega), h'.rows⟩
/-- Blocks that are no rows of changes stay. -/
theorem CaskOpen.kept52 {W W' : World} {N : Lo} {c d mb : Nat} {sv : Value} {S : Dk} {K : Ck} (o : CaskOpen W N c d mb sv S K) (hs : W.heap.size ≤ W'.heap.size) (hne : ∀ (j : Nat) o, W.heap[j]? = some o → (∀ cs fr, o ≠ Obj.cells cs 52 fr) → W'.heap[j]? = W.heap[j]?) : CaskOpen W' N c d mb sv S K := by
  have hH : Holds W' c (ckV d mb sv K) 28 := by
    have q := o.holds
    unfold Holds at q ⊢
    rw [hne c _ q (fun cs fr e => by simp at e)]; exact q
  have hD : DiskAt W' N d S := by
    obtain ⟨mv, st, A, V, q, hN, hM, hF, hS⟩ := o.disk
    refine ⟨mv, st, A, V, ?_, hN, hM.same (fun j es k hj => hne j _ hj (fun _ _ e => by cases e)), hF.same (fun j cs t fr hj ht => hne j _ hj (fun _ _ e => by simp at e; rcases ht with rfl | rfl <;> simp at e)), hS⟩
    unfold Holds at q ⊢
    rw [hne d _ q (fun cs fr e => by simp at e)]; exact q
  refine ⟨hH, o.le, o.guard2, fun j hj => Nat.lt_of_lt_of_le (o.lt j hj) hs, ?_, row_same o.row (fun j cs fr hj => hne j _ hj (fun _ _ e => by simp at e)), hD, o.fine⟩
  obtain ⟨es, cl, q⟩ := o.keys.isMap
  exact o.keys.same (hne mb _ q (fun _ _ e => by cases e))
/-- The one's row has grown. -/
theorem two_more {w W W' : World} {n1 n2 : ByteArray} {d c1 c2 i : Nat} {chs1 chs2 one two : List Ch} {v1 v2 v1' : Value} {ch : Ch} (h : TwoI w n1 n2 d c1 c2 chs1 chs2 one two i W v1 v2) {row : Option Nat} (hg : W.grownBy W' row) (hv : row = v1.ownBlock) (hr : W'.ownsRow w.heap.size 52 3 v1' (one.length + 1) (rowI one ++ [.string ch.k, .string ch.v, .bool ch.dead])) (hl : v1'.ownBlock = v1.ownBlock ∨ v1'.ownBlock = some W.heap.size) : TwoI w n1 n2 d c1 c2 chs1 chs2 (one ++ [ch]) two i W' v1' v2 := by
  obtain ⟨N, S, mb1, sv1, K1, mb2, sv2, K2, h⟩ := h
  subst hv
  have hne : ∀ (j : Nat) o, W.heap[j]? = some o → (∀ cs fr, o ≠ Obj.cells cs 52 fr) → W'.heap[j]? = W.heap[j]? := fun j o hj ho => hg.block j (Array.getElem?_eq_some_iff.1 hj).1 (fun e => by
    obtain ⟨cs, fr, q⟩ := row_cells h.rows.r1 e.symm
    rw [q] at hj
    cases hj
    exact ho _ _ rfl)
  have hb : Below w.heap.size w W' := below_grown h.bel hg h.bel.size h.rows.r1
  have hB : Below N W W' := by
    refine ⟨hg.os, hg.tape, hg.output, hg.size, fun j hj => ?_⟩
    have hlo := h.lo
    refine hg.block j (Nat.lt_of_lt_of_le hj h.sz) (fun e => ?_)
    have := (h.rows.r1.lt j e.symm).1
    have : j < w.heap.size := by rw [← hlo]; exact hj
    omega
  refine ⟨N, S, mb1, sv1, K1, mb2, sv2, K2, ⟨h.cks.a.kept52 hg.size hne, h.cks.b.kept52 hg.size hne, h.cks.nc, h.cks.nm, h.cks.ns⟩, h.lo, h.tab.on hB, hb, h.on1, h.on2, h.calm, h.fs, ⟨?_, kept_row h.rows.r2 hg (fun g hg2 e => h.rows.nr g e hg2), fun g h1 h2 => ?_⟩⟩
  · rw [List.length_append, rowI_append]; exact hr
  · rcases hl with q | q
    · rw [q] at h1; exact h.rows.nr g h1 h2
    · rw [q] at h1
      simp at h1
      have := (h.rows.r2.lt g h2).2
      omega
/-- One cask is open, and the disk has the other's segments. -/
structure Mid (w : World) (n1 n2 : ByteArray) (N : Lo) (d : Nat) (S : Dk) (c1 mb1 : Nat) (K1 : Ck) (chs1 chs2 one two : List Ch) (i : Nat) (W : World) (v1 v2 : Value) : Prop where
  cur : Cur w W N c1 d mb1 S K1
  on1 : On S K1 n1 chs1 i
  calm : Calm S
  fs : S.fs.length ≤ i
  seg : SegOf S n2 chs2 i
  rows : Rows2 w W one two v1 v2
def MidI (w : World) (n1 n2 : ByteArray) (d c1 : Nat) (chs1 chs2 one two : List Ch) (i : Nat) (W : World) (v1 v2 : Value) : Prop := ∃ N S mb1 K1, Mid w n1 n2 N d S c1 mb1 K1 chs1 chs2 one two i W v1 v2
theorem two_first {w W : World} {d : Nat} {r : Int} (n1 n2 : ByteArray) (hn : capOk n1 = true) (h : DCur w W (lo0 w) d (newS r)) :
    Calls Tryz.prog 16 #[.pointer (some ⟨d, 0, none⟩), .string n1] W fun e w' => ∃ c, e = .returned (.tuple #[.pointer (some ⟨c, 0, none⟩), .int .i64 0]) ∧ MidI w n1 n2 d c [] [] [] [] 0 w' (.slice none 0 0) (.slice none 0 0) :=
  (on_open h (empty_calm r) n1 hn [] (empty_sound r n1) 0 (by simp) (by simp) (by simp) (by simp)).mono fun e w' ⟨c, mb, e1, S', K', e2, e3, e4, e5, e6, e7, e8, _⟩ => ⟨c, e1, _, S', mb, K', e2, e3, e4, by rw [e6]; exact Nat.le_refl _, ⟨[], (empty_sound r n2).of (fun k _ => e5 k), rfl, by simp, by simp, by simp⟩, ⟨World.ownsRow_nil _ _ _ _, World.ownsRow_nil _ _ _ _, fun g hg => by simp [Value.ownBlock] at hg⟩⟩
theorem two_again {w W : World} {n1 n2 : ByteArray} (hn : capOk n1 = true) {d c1 c2 i : Nat} {chs1 chs2 one two : List Ch} {v1 v2 : Value} (h : TwoI w n1 n2 d c1 c2 chs1 chs2 one two i W v1 v2) (hi : i ≤ 256) :
    Calls Tryz.prog 16 #[.pointer (some ⟨d, 0, none⟩), .string n1] W fun e w' => ∃ c, e = .returned (.tuple #[.pointer (some ⟨c, 0, none⟩), .int .i64 0]) ∧ MidI w n1 n2 d c chs1 chs2 one two i w' v1 v2 := by
  obtain ⟨N, S, mb1, sv1, K1, mb2, sv2, K2, h⟩ := h
  obtain ⟨L, g1, rfl, g3, g4, g5⟩ := h.on1.segOf
  exact (on_open h.cur.drop h.calm n1 hn L g1 i g3 g4 g5 hi).mono fun e w' ⟨c, mb, e1, S', K', e2, e3, e4, e5, e6, e7, e8, e9⟩ => ⟨c, e1, _, S', mb, K', e2, e3, e4, by rw [e6]; exact h.fs, h.on2.segOf.of (fun k _ => e5 k), h.rows.oth e9⟩
theorem two_open {w W : World} {n1 n2 : ByteArray} (hn : capOk n2 = true) {d c1 i : Nat} {chs1 chs2 one two : List Ch} {v1 v2 : Value} (h : MidI w n1 n2 d c1 chs1 chs2 one two i W v1 v2) (hi : i ≤ 256) :
    Calls Tryz.prog 16 #[.pointer (some ⟨d, 0, none⟩), .string n2] W fun e w' => ∃ c, e = .returned (.tuple #[.pointer (some ⟨c, 0, none⟩), .int .i64 0]) ∧ TwoI w n1 n2 d c1 c chs1 chs2 one two i w' v1 v2 := by
  obtain ⟨N, S, mb1, K1, h⟩ := h
  obtain ⟨L, g1, rfl, g3, g4, g5⟩ := h.seg
  obtain ⟨q1, q2, q3, q4⟩ := g1.opened h.calm hn
  obtain ⟨u1, u2, u3, u4⟩ := ld_sized h.cur.dfine.rise n2 L
  obtain ⟨sv1, o⟩ := h.cur.op
  refine (open_fresh N d S h.calm.on n2 hn L (g1.list h.cur.dfine.rise) (by omega) g1.seg (by omega) W o.disk h.cur.sz h.cur.tab o.lt).mono ?_
  rintro e w' ⟨c, mb, sv, e1, e2, ⟨f1, f2, f3⟩, e4⟩
  have hB := e4.below h.cur.sz
  have ha : CaskOpen w' (N.with mb) c1 d mb1 sv1 (ldS S n2 L) K1 :=
    ⟨o.holds.dupd e4 (by decide) (by decide) (by decide), o.le, ⟨.inl o.guard2.1, o.guard2.2⟩, e2.lt, o.keys.same (e4.block mb1 (o.lt mb1 o.guard) (.inl (.inr ⟨o.guard, o.keys.isMap⟩))), row_same o.row (fun i cs fr hi => e4.block i (Array.getElem?_eq_some_iff.1 hi).1 (.inr ⟨cs, 3, fr, hi, by decide, by decide, by decide⟩)), e2.disk, o.fine⟩
  refine ⟨c, by rw [e1, q1]; rfl, _, _, mb1, sv1, K1, mb, sv, _, ⟨ha, e2, ?_, ?_, ?_⟩, h.cur.lo, h.cur.tab.on hB, h.cur.bel.trans (by have := h.cur.lo; rw [← this]; exact hB), h.on1.other (fun k _ => q4 k), On.opened g1 h.calm hn g3 g4 g5, q2, by rw [u3]; exact h.fs, h.rows.oth (Oth.ofD e4)⟩
  · have := o.holds.lt; omega
  · have := o.lt mb1 o.guard; omega
  · intro g h1 h2
    have := f3 g h2
    have := (o.row.lt g h1).2
    omega
/-- Fold of the one, and the document's. -/
theorem two_fold {w W : World} {n1 n2 : ByteArray} {d c1 c2 i : Nat} {one chs2 two : List Ch} {v1 v2 : Value} (h : TwoI w n1 n2 d c1 c2 one chs2 one two i W v1 v2) :
    Calls Tryz.prog 23 #[.pointer (some ⟨c1, 0, none⟩)] W fun e w' => ∃ a n q, e = .returned (.slice a n q) ∧ (TwoI w n1 n2 d c1 c2 one chs2 one two i w' v1 v2 ∧ w'.ownsRow w.heap.size 103 2 (.slice a n q) (kvL (kvOf one)).length (cellsP (kvL (kvOf one)))) := by
  obtain ⟨N, S, mb1, sv1, K1, mb2, sv2, K2, h⟩ := h
  refine (fold_some N c1 d mb1 sv1 S K1 W h.cks.a).mono fun e w' ⟨u, e1, e2, e3⟩ => ?_
  have hk := h.on1.kv
  have e2' : w'.ownsRow W.heap.size 103 2 u (kvL (kvOf one)).length (cellsP (kvL (kvOf one))) := by rw [← hk, kvL_len]; exact e2
  obtain ⟨a, q, rfl⟩ := row_slice e2'
  exact ⟨a, _, q, e1, ⟨N, S, mb1, sv1, K1, mb2, sv2, K2, h.below e3⟩, row_base e2' h.bel.size⟩
theorem two_rfold {w W : World} {n1 n2 : ByteArray} {d c1 c2 i : Nat} {chs1 one chs2 two : List Ch} {v1 v2 u : Value} (h : TwoI w n1 n2 d c1 c2 chs1 chs2 one two i W v1 v2 ∧ W.ownsRow w.heap.size 103 2 u (kvL (kvOf one)).length (cellsP (kvL (kvOf one)))) (hl : one.length ≤ 1000) :
    Calls Tryz.prog 33 #[v1] W fun e w' => ∃ a n q, e = .returned (.slice a n q) ∧ (TwoI w n1 n2 d c1 c2 chs1 chs2 one two i w' v1 v2 ∧ w'.ownsRow w.heap.size 103 2 (.slice a n q) (kvL (kvOf one)).length (cellsP (kvL (kvOf one))) ∧ w'.ownsRow w.heap.size 103 2 u (kvL (kvOf one)).length (cellsP (kvL (kvOf one)))) := by
  obtain ⟨N, S, mb1, sv1, K1, mb2, sv2, K2, hs⟩ := id h.1
  refine (refFold_any v1 one (by omega) W (chg_of_row hs.rows.r1)).mono fun e w' ⟨x, e1, e2, e3⟩ => ?_
  obtain ⟨a, q, rfl⟩ := row_slice e2
  exact ⟨a, _, q, e1, h.1.below e3, row_base e2 hs.bel.size, (Oth.ofBelow e3).row h.2 (by decide) (by decide) (by decide) (by decide) (by decide)⟩
theorem two_same {w W : World} {n1 n2 : ByteArray} {d c1 c2 i : Nat} {chs1 one chs2 two : List Ch} {v1 v2 u x : Value} (h : TwoI w n1 n2 d c1 c2 chs1 chs2 one two i W v1 v2 ∧ W.ownsRow w.heap.size 103 2 x (kvL (kvOf one)).length (cellsP (kvL (kvOf one))) ∧ W.ownsRow w.heap.size 103 2 u (kvL (kvOf one)).length (cellsP (kvL (kvOf one)))) (hl : one.length ≤ 1000) :
    Calls Tryz.prog 32 #[u, x] W fun e w' => e = .returned (.bool true) ∧ TwoI w n1 n2 d c1 c2 chs1 chs2 one two i w' v1 v2 := by
  have hk : (kvL (kvOf one)).length < 9223372036854775807 := by
    have : (kvOf one).length ≤ one.length := ldC_len v1B one []
    rw [kvL_len]
    omega
  exact (same_any u x _ _ hk hk W (prs_of_row h.2.2) (prs_of_row h.2.1)).mono fun e w' ⟨e1, e2⟩ => ⟨by rw [e1]; simp, h.1.below e2⟩
/-- The law's names. -/
abbrev vB : ByteArray := ⟨#[118]⟩
abbrev vxB : ByteArray := ⟨#[118, 45, 49]⟩
theorem vCap : capOk vB = true := by kernel_rfl
theorem vxCap : capOk vxB = true := by kernel_rfl
theorem apart_vx (k : List UInt8) (h1 : Mine vxB k) : ¬ Mine vB k := fun h2 => by
  obtain ⟨t1, e1⟩ := h1
  obtain ⟨t2, e2⟩ := h2
  rw [← e1] at e2
  simp at e2
theorem apart_v (k : List UInt8) (h1 : Mine vB k) : ¬ Mine vxB k := fun h2 => apart_vx k h2 h1
end Go.Proofs.YtfmmholkeadejaaGreatDoor
