/- A wheel in memory; lists of names. -/
import Derived.Test.YtklkonmdllgeeaaWhMap
namespace Go.Proofs.Ytklkonmdllgeeaa
open Go.RowKit Go.Maps

/-- A list of names in memory, in a block of cells other than b. -/
def Strs (b : Nat) (w : World) (v : Value) (l : List (List UInt8)) : Prop :=
  ∃ a cap, v = .slice a l.length cap ∧ (l.length = 0 ∨ ∃ g o cs t fr, a = some ⟨g, o, none⟩ ∧ g ≠ b ∧ w.heap[g]? = some (.cells cs t fr) ∧ ∀ i k, l[i]? = some k → w.cell? ⟨g, o + i, none⟩ = some (.string (strL k)))
/-- What a call of a wheel at block b leaves as it was: all that lies below N, and all cells but the wheel's own. -/
structure WUpd (N b : Nat) (w w' : World) : Prop where
  os : w'.os = w.os
  tape : w'.tape = w.tape
  output : w'.output = w.output
  size : w.heap.size ≤ w'.heap.size
  low : ∀ g, g < N → w'.heap[g]? = w.heap[g]?
  cells : ∀ g cs t fr, g ≠ b → w.heap[g]? = some (.cells cs t fr) → w'.heap[g]? = w.heap[g]?
theorem WUpd.refl (N b : Nat) (w : World) : WUpd N b w w := ⟨rfl, rfl, rfl, Nat.le_refl _, fun _ _ => rfl, fun _ _ _ _ _ _ => rfl⟩
theorem WUpd.trans {N b : Nat} {x y z : World} (h : WUpd N b x y) (k : WUpd N b y z) : WUpd N b x z :=
  ⟨k.os.trans h.os, k.tape.trans h.tape, k.output.trans h.output, Nat.le_trans h.size k.size, fun g hg => (k.low g hg).trans (h.low g hg),
   fun g cs t fr hb hg => (k.cells g cs t fr hb ((h.cells g cs t fr hb hg).trans hg)).trans (h.cells g cs t fr hb hg)⟩
theorem WUpd.ofBelow {N b : Nat} {w w' : World} (h : Below w.heap.size w w') (hN : N ≤ w.heap.size) : WUpd N b w w' :=
  ⟨h.os, h.tape, h.output, h.size, fun g hg => h.block g (by omega), fun g _ _ _ _ hg => h.block g (Array.getElem?_eq_some_iff.1 hg).1⟩
theorem WUpd.toBelow {N b : Nat} {w w' : World} (h : WUpd N b w w') : Below N w w' := ⟨h.os, h.tape, h.output, h.size, h.low⟩
theorem Holds.wupd {N b : Nat} {w w' : World} {g : Nat} {cs : List Value} {t : TypeId} (h : Holds w g cs t) (hw : WUpd N b w w') (hb : g ≠ b) : Holds w' g cs t := by
  unfold Holds at *
  rw [hw.cells g _ _ _ hb h]; exact h
theorem Strs.keep {b : Nat} {w w' : World} {v : Value} {l : List (List UInt8)} (h : Strs b w v l) (hw : ∀ g cs t fr, g ≠ b → w.heap[g]? = some (.cells cs t fr) → w'.heap[g]? = w.heap[g]?) : Strs b w' v l := by
  obtain ⟨a, cap, rfl, h0 | ⟨g, o, cs, t, fr, rfl, hg, hh, hc⟩⟩ := h
  · exact ⟨a, cap, rfl, .inl h0⟩
  · have e := hw g cs t fr hg hh
    exact ⟨_, cap, rfl, .inr ⟨g, o, cs, t, fr, rfl, hg, e.trans hh, fun i k hi => by rw [World.cell?_of_block (w := w) e]; exact hc i k hi⟩⟩
theorem Strs.wupd {N b : Nat} {w w' : World} {v : Value} {l : List (List UInt8)} (h : Strs b w v l) (hw : WUpd N b w w') : Strs b w' v l := h.keep hw.cells
theorem Strs.below {b : Nat} {w w' : World} {v : Value} {l : List (List UInt8)} (h : Strs b w v l) (hb : Below w.heap.size w w') : Strs b w' v l := h.keep fun g _ _ _ _ hg => hb.block g (Array.getElem?_eq_some_iff.1 hg).1
theorem Strs.cell {b : Nat} {w : World} {a : Option Addr} {n c : Nat} {l : List (List UInt8)} (h : Strs b w (.slice a n c) l) (i : Nat) (k : List UInt8) (hi : l[i]? = some k) : ∃ g o, a = some ⟨g, o, none⟩ ∧ w.cell? ⟨g, o + i, none⟩ = some (.string (strL k)) := by
  obtain ⟨a', cap, e, h0 | ⟨g, o, cs, t, fr, e2, hg, hh, hc⟩⟩ := h
  · have := (List.getElem?_eq_some_iff.1 hi).1; omega
  · obtain ⟨rfl, _, _⟩ := Value.slice.inj e
    exact ⟨g, o, e2, hc i k hi⟩
theorem Strs.len {b : Nat} {w : World} {v : Value} {l : List (List UInt8)} (h : Strs b w v l) : ∃ a cap, v = .slice a l.length cap := by
  obtain ⟨a, cap, rfl, _⟩ := h
  exact ⟨a, cap, rfl⟩
/-- A wheel: its timers in its map, or none in none. -/
structure WheelAt (N : Nat) (w : World) (b : Nat) (l : Ts) (t : Nat) : Prop where
  low : N ≤ b
  fine : Fine l t
  names : ∀ x ∈ l, x.1.length ≤ maxLen
  mem : ∃ mv, Holds w b [mv, .int .u64 (t : Int)] 50 ∧ ((mv = .map none ∧ l = []) ∨ ∃ mb, mv = .map (some mb) ∧ N ≤ mb ∧ TmsAt w mb l)
theorem WheelAt.same {N : Nat} {w w' : World} {b : Nat} {l : Ts} {t : Nat} (h : WheelAt N w b l t) (hb : Below w.heap.size w w') : WheelAt N w' b l t := by
  obtain ⟨h1, h2, h3, mv, hH, hm⟩ := h
  refine ⟨h1, h2, h3, mv, hH.below hb hH.lt, ?_⟩
  rcases hm with hm | ⟨mb, e, hmb, hT⟩
  · exact .inl hm
  · exact .inr ⟨mb, e, hmb, hT.same (hb.block mb hT.lt)⟩
theorem WheelAt.lt {N : Nat} {w : World} {b : Nat} {l : Ts} {t : Nat} (h : WheelAt N w b l t) : b < w.heap.size := by
  obtain ⟨h1, h2, h3, mv, hH, hm⟩ := h
  exact hH.lt
/-- A cell that is written elsewhere leaves the wheel. -/
theorem WheelAt.set {N : Nat} {w : World} {b : Nat} {l : Ts} {t : Nat} (h : WheelAt N w b l t) (g i : Nat) (v : Value) (hg : g ≠ b) (cs : List Value) (ty : TypeId) (hH : Holds w g cs ty) : WheelAt N (w.setCell ⟨g, i, none⟩ v) b l t := by
  obtain ⟨h1, h2, h3, mv, hW, hm⟩ := h
  refine ⟨h1, h2, h3, mv, hW.setOther g i v (fun e => hg e.symm), ?_⟩
  rcases hm with hm | ⟨mb, e, hmb, hT⟩
  · exact .inl hm
  · have hne : mb ≠ g := fun q => by
      obtain ⟨es, c, hes⟩ := hT.isMap
      unfold Holds at hH
      rw [← q, hes] at hH
      cases hH
    exact .inr ⟨mb, e, hmb, hT.same (heap_setCell_other w ⟨g, i, none⟩ mb v hne)⟩
theorem new_any (w : World) : Calls Try.prog 7 #[] w fun e w' => e = .returned (.pointer (some ⟨w.heap.size, 0, none⟩)) ∧ w' = w.alloc (.cells #[.map none, .int .u64 0] 50) := by
  go_enter Try.func7, Try.ntmps7
  go_wp2
  go_ret
  exact ⟨rfl, rfl⟩
theorem wheel_new (N : Nat) (w : World) (hN : N ≤ w.heap.size) : WheelAt N (w.alloc (.cells #[.map none, .int .u64 0] 50)) w.heap.size [] 0 :=
  ⟨hN, fine_nil, by simp, .map none, holds_new w [.map none, .int .u64 0] 50, .inl ⟨rfl, rfl⟩⟩
theorem len_nil (w : World) : Calls Try.prog 17 #[.pointer none] w fun e w' => e = .returned (.int .i64 0) ∧ w' = w := by
  go_enter Try.func17, Try.ntmps17
  go_wp2
  go_ret
  exact ⟨rfl, rfl⟩
theorem len_any (N b : Nat) (l : Ts) (t : Nat) (w : World) (h : WheelAt N w b l t) : Calls Try.prog 17 #[.pointer (some ⟨b, 0, none⟩)] w fun e w' => e = .returned (.int .i64 (l.length : Int)) ∧ w' = w := by
  obtain ⟨h1, h2, h3, mv, hH, ⟨rfl, rfl⟩ | ⟨mb, rfl, hmb, hT⟩⟩ := h
  · have c0 := hH.at 0 _ rfl
    have hl := fun ty => len_none (w := w) ty
    go_enter Try.func17, Try.ntmps17
    go_wp2
    go_ret
    exact ⟨rfl, rfl⟩
  · have c0 := hH.at 0 _ rfl
    have hl := hT.len h2.nodup
    clear hT
    go_enter Try.func17, Try.ntmps17
    go_wp2
    go_ret
    exact ⟨rfl, rfl⟩
theorem at_nil (v : Value) (w : World) : Calls Try.prog 18 #[.pointer none, v] w fun e w' => e = .returned (.tuple #[.int .i64 0, .bool false]) ∧ w' = w := by
  go_enter Try.func18, Try.ntmps18
  go_wp2
  go_ret2
  exact ⟨rfl, rfl⟩
def atI : Option Tm → Int
  | some x => x.2.1
  | none => 0
theorem at_any (N b : Nat) (l : Ts) (t : Nat) (k : List UInt8) (hk : k.length ≤ maxLen) (w : World) (h : WheelAt N w b l t) : Calls Try.prog 18 #[.pointer (some ⟨b, 0, none⟩), .string (strL k)] w fun e w' => e = .returned (.tuple #[.int .i64 (atI (findT l k)), .bool (findT l k).isSome]) ∧ Below w.heap.size w w' := by
  obtain ⟨h1, h2, h3, mv, hH, ⟨rfl, rfl⟩ | ⟨mb, rfl, hmb, hT⟩⟩ := h
  · have c0 := hH.at 0 _ rfl
    have hl := look_none (w := w) k hk
    simp only [lookV] at hl
    go_enter Try.func18, Try.ntmps18
    go_wp2
    go_ret2
    exact ⟨rfl, (Below.refl _ _).alloc (Nat.le_refl _) _⟩
  · have c0 := hH.at 0 _ rfl
    have hl := hT.look k hk
    clear hT
    cases hf : findT l k with
    | none =>
      rw [hf] at hl
      simp only [lookV, Option.isSome_none] at hl
      go_enter Try.func18, Try.ntmps18
      go_wp2
      go_ret2
      exact ⟨rfl, (Below.refl _ _).alloc (Nat.le_refl _) _⟩
    | some x =>
      rw [hf] at hl
      obtain ⟨x1, x2, x3⟩ := x
      simp only [lookV, tmV, Option.isSome_some] at hl
      go_enter Try.func18, Try.ntmps18
      go_wp2
      go_ret2
      exact ⟨rfl, (Below.refl _ _).alloc (Nat.le_refl _) _⟩
end Go.Proofs.Ytklkonmdllgeeaa
