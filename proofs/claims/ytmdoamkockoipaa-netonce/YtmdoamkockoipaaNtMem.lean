/- A net in memory. -/
import Derived.Test.YtmdoamkockoipaaNtPure
namespace Go.Proofs.Ytmdoamkockoipaa
open Go.RowKit Go.Maps

/-- What a call leaves as it was: all blocks that are guarded. -/
structure Keeps (G : Nat → Prop) (w w' : World) : Prop where
  os : w'.os = w.os
  tape : w'.tape = w.tape
  output : w'.output = w.output
  size : w.heap.size ≤ w'.heap.size
  block : ∀ k, G k → w'.heap[k]? = w.heap[k]?
theorem Keeps.refl (G : Nat → Prop) (w : World) : Keeps G w w := ⟨rfl, rfl, rfl, Nat.le_refl _, fun _ _ => rfl⟩
theorem Keeps.trans {G : Nat → Prop} {x y z : World} (h : Keeps G x y) (k : Keeps G y z) : Keeps G x z :=
  ⟨k.os.trans h.os, k.tape.trans h.tape, k.output.trans h.output, Nat.le_trans h.size k.size, fun i hi => (k.block i hi).trans (h.block i hi)⟩
theorem Keeps.ofBelow {G : Nat → Prop} {w w' : World} (h : Below w.heap.size w w') (hG : ∀ k, G k → k < w.heap.size) : Keeps G w w' :=
  ⟨h.os, h.tape, h.output, h.size, fun k hk => h.block k (hG k hk)⟩
theorem Keeps.mono {G G' : Nat → Prop} {w w' : World} (h : Keeps G w w') (hG : ∀ k, G' k → G k) : Keeps G' w w' :=
  ⟨h.os, h.tape, h.output, h.size, fun k hk => h.block k (hG k hk)⟩
theorem Keeps.toBelow {G : Nat → Prop} {N : Nat} {w w' : World} (h : Keeps G w w') (hG : ∀ k, k < N → G k) : Below N w w' := ⟨h.os, h.tape, h.output, h.size, fun k hk => h.block k (hG k hk)⟩
theorem Keeps.ofUpd {G : Nat → Prop} {b : Nat} {w w' : World} (h : Upd b w w') (hb : ¬ G b) (hG : ∀ k, G k → k < w.heap.size) : Keeps G w w' :=
  ⟨h.os, h.tape, h.output, h.size, fun k hk => h.block k (hG k hk) (fun e => hb (e ▸ hk))⟩
theorem Keeps.drew {G : Nat → Prop} {x y : World} (h : Keeps G x y) : Keeps G x y.drew := ⟨h.os, h.tape, h.output, h.size, h.block⟩
theorem Holds.keeps {G : Nat → Prop} {w w' : World} {g : Nat} {cs : List Value} {t : TypeId} (h : Holds w g cs t) (hk : Keeps G w w') (hg : G g) : Holds w' g cs t := by
  unfold Holds at *
  rw [hk.block g hg]; exact h
/-- A row that a call owns, as a fact that lasts while its block does. -/
theorem owns_same {w w' : World} {base : Nat} {e : TypeId} {size : Nat} {v : Value} {n : Nat} {xs : List Value} (h : w.ownsRow base e size v n xs) (hs : ∀ g, v.ownBlock = some g → w'.heap[g]? = w.heap[g]?) : w'.ownsRow base e size v n xs := by
  obtain ⟨h1, h2 | ⟨g, cap, cur, rfl, hb, hg, r⟩⟩ := h
  · exact ⟨h1, .inl h2⟩
  · exact ⟨h1, .inr ⟨g, cap, cur, rfl, hb, (hs g rfl).trans hg, r⟩⟩
theorem owns_lt {w : World} {base : Nat} {e : TypeId} {size : Nat} {v : Value} {n : Nat} {xs : List Value} (h : w.ownsRow base e size v n xs) {g : Nat} (hg : v.ownBlock = some g) : g < w.heap.size := by
  obtain ⟨h1, ⟨rfl, _⟩ | ⟨g', cap, cur, rfl, hb, hh, r⟩⟩ := h
  · cases hg
  · simp [Value.ownBlock] at hg
    subst hg
    exact (Array.getElem?_eq_some_iff.1 hh).1
theorem owns_cells {w : World} {base : Nat} {e : TypeId} {size : Nat} {v : Value} {n : Nat} {xs : List Value} (h : w.ownsRow base e size v n xs) {g : Nat} (hg : v.ownBlock = some g) : ∃ cur, w.heap[g]? = some (.cells cur e (0, 0)) := by
  obtain ⟨h1, ⟨rfl, _⟩ | ⟨g', cap, cur, rfl, hb, hh, r⟩⟩ := h
  · cases hg
  · simp [Value.ownBlock] at hg
    subst hg
    exact ⟨_, hh⟩
/-- Those that are cut off, in a map or in none. -/
def CutsAt (G : Nat → Prop) (w : World) (mv : Value) (c : List (Int × Int)) : Prop :=
  (∀ p ∈ c, okP p) ∧ c.Nodup ∧ ((mv = .map none ∧ c = []) ∨ ∃ mb, mv = .map (some mb) ∧ ¬ G mb ∧ SetAt 54 w mb (c.map keyP))
/-- A net at block b; what is guarded is none of its own. -/
structure NetAt (G : Nat → Prop) (w : World) (b : Nat) (s : Nt) : Prop where
  low : ∀ k, G k → k < w.heap.size
  mine : ¬ G b
  room : s.l.length ≤ 4096
  mem : ∃ v mv, Holds w b [v, .int .i64 (s.last : Int), mv] 46 ∧ w.ownsRow 0 34 4 v s.l.length (mgF s.l) ∧ (∀ g, v.ownBlock = some g → ¬ G g ∧ g ≠ b) ∧ CutsAt G w mv s.cuts
theorem CutsAt.same {G : Nat → Prop} {w w' : World} {mv : Value} {c : List (Int × Int)} (h : CutsAt G w mv c) (hs : ∀ k es cl, w.heap[k]? = some (.map es cl) → ¬ G k → w'.heap[k]? = w.heap[k]?) : CutsAt G w' mv c := by
  obtain ⟨h1, h2, h3 | ⟨mb, e, hg, hT⟩⟩ := h
  · exact ⟨h1, h2, .inl h3⟩
  · obtain ⟨es, cl, hm⟩ := hT.isMap
    exact ⟨h1, h2, .inr ⟨mb, e, hg, hT.same (hs mb es cl hm hg)⟩⟩
theorem NetAt.lt {G : Nat → Prop} {w : World} {b : Nat} {s : Nt} (h : NetAt G w b s) : b < w.heap.size := by
  obtain ⟨_, _, _, v, mv, hH, _⟩ := h
  exact hH.lt
theorem NetAt.below {G : Nat → Prop} {w w' : World} {b : Nat} {s : Nt} (h : NetAt G w b s) (hb : Below w.heap.size w w') : NetAt G w' b s := by
  obtain ⟨h1, h2, h3, v, mv, hH, hR, hg, hC⟩ := h
  refine ⟨fun k hk => Nat.lt_of_lt_of_le (h1 k hk) hb.size, h2, h3, v, mv, hH.below hb hH.lt, owns_same hR fun g hg' => hb.block g (owns_lt hR hg'), hg, hC.same fun k es cl hm _ => hb.block k (Array.getElem?_eq_some_iff.1 hm).1⟩
theorem NetAt.alloc {G : Nat → Prop} {w : World} {b : Nat} {s : Nt} (h : NetAt G w b s) (o : Obj) : NetAt G (w.alloc o) b s := h.below ((Below.refl _ _).alloc (Nat.le_refl _) o)
theorem NetAt.drew {G : Nat → Prop} {w : World} {b : Nat} {s : Nt} (h : NetAt G w b s) : NetAt G w.drew b s := ⟨h.low, h.mine, h.room, h.mem⟩
/-- Other blocks are guarded. -/
theorem NetAt.guard {G G' : Nat → Prop} {w w' : World} {b : Nat} {s : Nt} (h : NetAt G w b s) (hb : Below w.heap.size w w') (hG : ∀ k, G' k → G k ∨ (w.heap.size ≤ k ∧ k < w'.heap.size)) : NetAt G' w' b s := by
  have h' := h.below hb
  have hlt := h.lt
  obtain ⟨h1, h2, h3, v, mv, hH, hR, hg, hC⟩ := h'
  obtain ⟨_, _, _, v0, mv0, hH0, hR0, _, hC0⟩ := h
  obtain ⟨e1, _⟩ := (hH0.below hb hH0.lt).inj hH
  simp only [List.cons.injEq, true_and, and_true] at e1
  obtain ⟨rfl, rfl⟩ := e1
  refine ⟨fun k hk => ?_, fun hk => ?_, h3, v0, mv0, hH, hR, fun g q => ⟨fun hk => ?_, (hg g q).2⟩, ?_⟩
  · rcases hG k hk with hk | hk
    · exact h1 k hk
    · exact hk.2
  · rcases hG b hk with hk | hk
    · exact h2 hk
    · omega
  · rcases hG g hk with hk | hk
    · exact (hg g q).1 hk
    · have := owns_lt hR0 q; omega
  · obtain ⟨c1, c2, c3⟩ := hC
    obtain ⟨_, _, d3⟩ := hC0
    refine ⟨c1, c2, ?_⟩
    rcases c3 with c3 | ⟨mb, e, hgm, hT⟩
    · exact .inl c3
    · rcases d3 with ⟨d3, _⟩ | ⟨mb', e', hgm', hT'⟩
      · rw [d3] at e; cases e
      · rw [e'] at e
        obtain rfl : mb' = mb := by simpa using e
        refine .inr ⟨mb', e', fun hk => ?_, hT⟩
        rcases hG mb' hk with hk | hk
        · exact hgm' hk
        · have := hT'.lt; omega
theorem NetAt.less {G G' : Nat → Prop} {w : World} {b : Nat} {s : Nt} (h : NetAt G w b s) (hG : ∀ k, G' k → G k) : NetAt G' w b s := h.guard (Below.refl _ _) fun k hk => .inl (hG k hk)
/-- A guarded block is written. -/
theorem NetAt.keep {G : Nat → Prop} {w w' : World} {b : Nat} {s : Nt} (h : NetAt G w b s) (hs : w.heap.size ≤ w'.heap.size) (hk : ∀ k, k < w.heap.size → ¬ G k → w'.heap[k]? = w.heap[k]?) : NetAt G w' b s := by
  obtain ⟨h1, h2, h3, v, mv, hH, hR, hg, hC⟩ := h
  refine ⟨fun k q => Nat.lt_of_lt_of_le (h1 k q) hs, h2, h3, v, mv, ?_, owns_same hR fun g hg' => hk g (owns_lt hR hg') (hg g hg').1, hg, hC.same fun k es cl hm hgk => hk k (Array.getElem?_eq_some_iff.1 hm).1 hgk⟩
  unfold Holds
  rw [hk b hH.lt h2]; exact hH
theorem new_any (w : World) : Calls Try.prog 8 #[] w fun e w' => e = .returned (.pointer (some ⟨w.heap.size, 0, none⟩)) ∧ w' = w.alloc (.cells #[.slice none 0 0, .int .i64 0, .map none] 46) := by
  go_enter Try.func8, Try.ntmps8
  go_wp2
  go_ret
  exact ⟨rfl, rfl⟩
def nt0 : Nt := ⟨[], 0, []⟩
theorem net_new (G : Nat → Prop) (w : World) (hG : ∀ k, G k → k < w.heap.size) : NetAt G (w.alloc (.cells #[.slice none 0 0, .int .i64 0, .map none] 46)) w.heap.size nt0 :=
  ⟨fun k hk => Nat.lt_of_lt_of_le (hG k hk) (by simp), fun h => Nat.lt_irrefl _ (hG _ h), by simp [nt0], .slice none 0 0, .map none, holds_new w [.slice none 0 0, .int .i64 0, .map none] 46, ⟨⟨rfl, .inl ⟨rfl, rfl⟩⟩, (fun g q => nomatch q), by simp [nt0], by simp [nt0], .inl ⟨rfl, rfl⟩⟩⟩
end Go.Proofs.Ytmdoamkockoipaa
