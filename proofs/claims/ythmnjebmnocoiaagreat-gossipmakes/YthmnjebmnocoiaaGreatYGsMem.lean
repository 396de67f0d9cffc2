/- Members and rings in memory. -/
import Derived.Test.YthmnjebmnocoiaaGreatYA1
import Derived.Test.YthmnjebmnocoiaaGreatYA4
namespace Go.Proofs.YthmnjebmnocoiaaGreat
open Go.RowKit

def Mems (B : Nat) (w : World) (v : Value) (l : List Mb) : Prop :=
  ∃ a cap, v = .slice a l.length cap ∧ l.length ≤ maxLen ∧ (l.length = 0 ∨ ∃ g o, a = some ⟨g, o, none⟩ ∧ g < B ∧ ∀ i m, l[i]? = some m → w.cell? ⟨g, o + i * 3, none⟩ = some (.int .i64 m.1) ∧ w.cell? ⟨g, o + i * 3 + 1, none⟩ = some (.int .i64 m.2.1) ∧ w.cell? ⟨g, o + i * 3 + 2, none⟩ = some (.int .u64 (m.2.2 : Int)))
theorem Mems.keep {B : Nat} {w w' : World} {v : Value} {l : List Mb} (h : Mems B w v l) (hb : ∀ g, g < B → w'.heap[g]? = w.heap[g]?) : Mems B w' v l := by
  obtain ⟨a, cap, e, hcp, hc⟩ := h
  refine ⟨a, cap, e, hcp, ?_⟩
  rcases hc with h0 | ⟨g, o, e1, h1, h2⟩
  · exact Or.inl h0
  · refine Or.inr ⟨g, o, e1, h1, fun i m hm => ?_⟩
    obtain ⟨q0, q1, q2⟩ := h2 i m hm
    refine ⟨?_, ?_, ?_⟩
    · rw [World.cell?_of_block (w := w) (hb g h1)]; exact q0
    · rw [World.cell?_of_block (w := w) (hb g h1)]; exact q1
    · rw [World.cell?_of_block (w := w) (hb g h1)]; exact q2
theorem Mems.below {B : Nat} {w w' : World} {v : Value} {l : List Mb} (h : Mems B w v l) (hb : Below B w w') : Mems B w' v l := h.keep fun g hg => hb.block g hg
theorem Mems.mono {B C : Nat} {w : World} {v : Value} {l : List Mb} (h : Mems B w v l) (hb : B ≤ C) : Mems C w v l := by
  obtain ⟨a, cap, e, hcp, hc⟩ := h
  refine ⟨a, cap, e, hcp, ?_⟩
  rcases hc with h0 | ⟨g, o, e1, h1, h2⟩
  · exact Or.inl h0
  · exact Or.inr ⟨g, o, e1, Nat.lt_of_lt_of_le h1 hb, h2⟩
theorem Mems.len {B : Nat} {w : World} {v : Value} {l : List Mb} (h : Mems B w v l) : ∃ a cap, v = .slice a l.length cap := by
  obtain ⟨a, cap, e, _⟩ := h
  exact ⟨a, cap, e⟩
theorem Mems.le {B : Nat} {w : World} {v : Value} {l : List Mb} (h : Mems B w v l) : l.length ≤ maxLen := by
  obtain ⟨a, cap, e, h1, _⟩ := h
  exact h1
theorem Mems.cell {B : Nat} {w : World} {a : Option Addr} {n cap : Nat} {l : List Mb} (h : Mems B w (.slice a n cap) l) (i : Nat) (m : Mb) (hm : l[i]? = some m) : ∃ g o, a = some ⟨g, o, none⟩ ∧ g < B ∧ w.cell? ⟨g, o + i * 3, none⟩ = some (.int .i64 m.1) ∧ w.cell? ⟨g, o + i * 3 + 1, none⟩ = some (.int .i64 m.2.1) ∧ w.cell? ⟨g, o + i * 3 + 2, none⟩ = some (.int .u64 (m.2.2 : Int)) := by
  obtain ⟨a', cap', e, _, h0 | ⟨g, o, e1, h1, h2⟩⟩ := h
  · have := (List.getElem?_eq_some_iff.1 hm).1; omega
  · obtain ⟨rfl, _, _⟩ := Value.slice.inj e
    exact ⟨g, o, e1, h1, h2 i m hm⟩
theorem mems_nil (B : Nat) (w : World) : Mems B w (.slice none 0 0) [] := ⟨none, 0, rfl, Nat.zero_le _, Or.inl rfl⟩
theorem mems_of_row {w : World} {base : Nat} {v : Value} {l : List Mb} (h : w.ownsRow base 53 3 v l.length (cellsP l)) : Mems w.heap.size w v l := by
  rcases h.2 with ⟨rfl, h0⟩ | ⟨g, cap, cur, rfl, _, hg, hc, hcm, hcs, ht⟩
  · exact ⟨none, 0, by rw [h0], by omega, Or.inl h0⟩
  · refine ⟨_, cap, rfl, by omega, Or.inr ⟨g, 0, rfl, (Array.getElem?_eq_some_iff.1 hg).1, fun i m hm => ?_⟩⟩
    have hi := (List.getElem?_eq_some_iff.1 hm).1
    have hcell : ∀ j, j < 3 → w.cell? ⟨g, 0 + i * 3 + j, none⟩ = (mbV m)[j]? := fun j hj => by
      rw [cell_of_row w g _ cur 53 (0, 0) hg, ← cellsP_cell hm j hj []]
      rw [List.append_nil, Nat.zero_add, ← ht, List.getElem?_take_of_lt (by omega), Array.getElem?_toList]
    exact ⟨hcell 0 (by omega), hcell 1 (by omega), hcell 2 (by omega)⟩
theorem mbV_one (m : Mb) : ∀ u ∈ mbV m, u.oneCell' = true := fun u hu => by simp [mbV] at hu; rcases hu with rfl | rfl | rfl <;> rfl
theorem owV_one (m : Ow) : ∀ u ∈ owV m, u.oneCell' = true := fun u hu => by simp [owV] at hu; rcases hu with rfl | rfl <;> rfl
def ownV (os : List Ow) : List Value := os.flatMap owV
theorem ownV_len (os : List Ow) : (ownV os).length = os.length * 2 := by
  induction os with
  | nil => rfl
  | cons o l ih => simp [ownV, owV] at ih ⊢; omega
theorem ownV_one (os : List Ow) : ∀ u ∈ ownV os, u.oneCell' = true := fun u hu => by
  obtain ⟨o, _, h⟩ := List.mem_flatMap.1 hu
  exact owV_one o u h
def ringC (v : Value) (r : Rg) : List Value := v :: ownV r.2
def ringV (v : Value) (r : Rg) : Value := .agg (ringC v r).toArray
structure RingAt (B : Nat) (w : World) (v : Value) (r : Rg) : Prop where
  mem : Mems B w v r.1
  own : r.2.length = 8
theorem RingAt.below {B : Nat} {w w' : World} {v : Value} {r : Rg} (h : RingAt B w v r) (hb : Below B w w') : RingAt B w' v r := ⟨h.mem.below hb, h.own⟩
theorem RingAt.mono {B C : Nat} {w : World} {v : Value} {r : Rg} (h : RingAt B w v r) (hb : B ≤ C) : RingAt C w v r := ⟨h.mem.mono hb, h.own⟩
theorem ringC_len {B : Nat} {w : World} {v : Value} {r : Rg} (h : RingAt B w v r) : (ringC v r).length = 17 := by
  unfold ringC
  rw [List.length_cons, ownV_len, h.own]
theorem mems_one {B : Nat} {w : World} {v : Value} {l : List Mb} (h : Mems B w v l) : v.oneCell' = true := by
  obtain ⟨a, c, rfl⟩ := h.len
  rfl
theorem ringC_one {B : Nat} {w : World} {v : Value} {r : Rg} (h : RingAt B w v r) : ∀ u ∈ ringC v r, u.oneCell' = true := fun u hu => by
  rcases List.mem_cons.1 hu with rfl | hu
  · exact mems_one h.mem
  · exact ownV_one _ u hu
theorem siz28 : (Tryz.prog.info? 28).map (·.size) = some 17 := by kernel_rfl
theorem siz26 : (Tryz.prog.info? 26).map (·.size) = some 16 := by kernel_rfl
theorem siz35 : (Tryz.prog.info? 53).map (·.size) = some 3 := by kernel_rfl
theorem siz25 : (Tryz.prog.info? 25).map (·.size) = some 2 := by kernel_rfl
theorem und26 : Tryz.prog.underlying 26 = some (.array 8 25) := by kernel_rfl
theorem zero28 (w : World) : (zeroValue 28).run Tryz.prog w = .ok (.agg (ringC (.slice none 0 0) ([], noOs)).toArray) w := by kernel_rfl
theorem zero26 (w : World) : (zeroValue 26).run Tryz.prog w = .ok (.agg (ownV noOs).toArray) w := by kernel_rfl
theorem zero25 (w : World) : (zeroValue 25).run Tryz.prog w = .ok (.agg (owV noO).toArray) w := by kernel_rfl
theorem isNode_any (n : Int) (w : World) : Calls Tryz.prog 37 #[.int .i64 n] w fun e w' => e = .returned (.bool (isN n)) ∧ w' = w := by
  unfold isN
  go_enter Tryz.func37, Tryz.ntmps37
  by_cases h1 : 1 ≤ n
  · go_wp2
    go_ret
    simp [h1]
  · have h1' : decide (1 ≤ n) = false := by simpa using h1
    go_wp2
    go_ret
    simp
end Go.Proofs.YthmnjebmnocoiaaGreat
