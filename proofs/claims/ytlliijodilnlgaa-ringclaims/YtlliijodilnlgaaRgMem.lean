/- Lists of integers in memory; the ring's types. -/
import Derived.Test.YtlliijodilnlgaaRgPure
import Derived.Test.YtlliijodilnlgaaShelf
import Derived.Test.YtlliijodilnlgaaApp
import Derived.BigQuiet
namespace Go.Proofs.Ytlliijodilnlgaa
open Go.RowKit

def intV (l : List Int) : List Value := l.map fun n => Value.int .i64 n
theorem intV_len (l : List Int) : (intV l).length = l.length := by simp [intV]
theorem intV_append (l m : List Int) : intV (l ++ m) = intV l ++ intV m := by simp [intV]
theorem intV_one (l : List Int) : ∀ u ∈ intV l, u.oneCell' = true := fun u hu => by
  simp only [intV, List.mem_map] at hu
  obtain ⟨x, _, rfl⟩ := hu; rfl
theorem intV_at (l : List Int) (i : Nat) (h : i < l.length) : (intV l)[i]? = some (.int .i64 (l.getD i 0)) := by
  simp [intV, h]
/-- A list of integers in memory, in a block below B. -/
def Ints (B : Nat) (w : World) (v : Value) (l : List Int) : Prop :=
  ∃ a cap, v = .slice a l.length cap ∧ l.length ≤ cap ∧ (l.length = 0 ∨ ∃ g o, a = some ⟨g, o, none⟩ ∧ g < B ∧ ∀ j, j < l.length → w.cell? ⟨g, o + j, none⟩ = some (.int .i64 (l.getD j 0)))
theorem Ints.below {B : Nat} {w w' : World} {v : Value} {l : List Int} (h : Ints B w v l) (hb : Below B w w') : Ints B w' v l := by
  obtain ⟨a, cap, e, hcp, hc⟩ := h
  refine ⟨a, cap, e, hcp, ?_⟩
  rcases hc with h0 | ⟨g, o, e1, h1, h2⟩
  · exact Or.inl h0
  · exact Or.inr ⟨g, o, e1, h1, fun j hj => by rw [World.cell?_of_block (w := w) (hb.block g h1)]; exact h2 j hj⟩
theorem Ints.mono {B C : Nat} {w : World} {v : Value} {l : List Int} (h : Ints B w v l) (hb : B ≤ C) : Ints C w v l := by
  obtain ⟨a, cap, e, hcp, hc⟩ := h
  refine ⟨a, cap, e, hcp, ?_⟩
  rcases hc with h0 | ⟨g, o, e1, h1, h2⟩
  · exact Or.inl h0
  · exact Or.inr ⟨g, o, e1, Nat.lt_of_lt_of_le h1 hb, h2⟩
theorem Ints.len {B : Nat} {w : World} {v : Value} {l : List Int} (h : Ints B w v l) : ∃ a cap, v = .slice a l.length cap := by
  obtain ⟨a, cap, e, _⟩ := h
  exact ⟨a, cap, e⟩
theorem ints_of_row {w : World} {base : Nat} {v : Value} {l : List Int} (h : w.ownsRow base 3 1 v l.length (intV l)) : Ints w.heap.size w v l := by
  rcases h.2 with ⟨rfl, h0⟩ | ⟨g, cap, cur, rfl, _, hg, hc, _⟩
  · exact ⟨none, 0, by rw [h0], by omega, Or.inl h0⟩
  · refine ⟨_, cap, rfl, hc, Or.inr ⟨g, 0, rfl, (Array.getElem?_eq_some_iff.1 hg).1, fun j hj => ?_⟩⟩
    rw [Nat.zero_add, h.cellAt j (by omega), intV_at _ _ hj]
theorem row_slice {w : World} {base : Nat} {e : TypeId} {size : Nat} {v : Value} {n : Nat} {xs : List Value} (h : w.ownsRow base e size v n xs) : ∃ a c, v = .slice a n c := by
  rcases h.2 with ⟨rfl, h0⟩ | ⟨g, cap, cur, rfl, _⟩
  · exact ⟨_, _, by rw [h0]⟩
  · exact ⟨_, _, rfl⟩
theorem own3_base {w : World} {base : Nat} {e : TypeId} {size : Nat} {v : Value} {n : Nat} {xs : List Value} (h : w.ownsRow base e size v n xs) (j : Nat) (hj : v.ownBlock = some j) : base ≤ j := (h.lt j hj).1
theorem full3 : (Try.prog.info? 3).map (fun i => (i.zero, i.size, i.bytes)) = some (some (.int .i64 0), 1, 8) := by kernel_rfl
theorem inf3 : ∃ i, Try.prog.info? 3 = some i ∧ i.zero = some (.int .i64 0) ∧ i.size = 1 ∧ i.bytes = 8 := by
  have := full3
  cases h : Try.prog.info? 3 with
  | none => simp [h] at this
  | some i =>
    simp [h] at this
    exact ⟨i, rfl, this.1, this.2.1, this.2.2⟩
theorem und24 : Try.prog.underlying 24 = some (.slice 3) := by kernel_rfl
theorem und23 : Try.prog.underlying 23 = some (.array 8 3) := by kernel_rfl
theorem und3 : Try.prog.underlying 3 = some (.int .i64) := by kernel_rfl
theorem siz3 : (Try.prog.info? 3).map (·.size) = some 1 := by kernel_rfl
theorem siz23 : (Try.prog.info? 23).map (·.size) = some 8 := by kernel_rfl

/-- slices.Contains, of whatever list. -/
theorem contains_any (B : Nat) (w : World) (v : Value) (l : List Int) (x : Int) (h : Ints B w v l) (hl : l.length ≤ 9223372036854775807) :
    Calls Try.prog 32 #[v, .int .i64 x] w fun e w' => e = .returned (.bool (l.contains x)) ∧ w' = w := by
  obtain ⟨a, cap, rfl, -, h0 | ⟨g, o, rfl, _, hc⟩⟩ := h
  · have e : l = [] := List.eq_nil_of_length_eq_zero h0
    subst e
    exact Try.slices_Contains_int_empty a cap x w
  · have := Try.slices_Contains_int g o l.length cap l x w (Nat.le_refl _) hl hc
    rwa [List.take_length] at this
theorem somebody_any (x : Int) (w : World) : Calls Try.prog 18 #[.int .i64 x] w fun e w' => e = .returned (.bool (decide (0 < x))) ∧ w' = w := by
  go_enter Try.func18, Try.ntmps18
  go_wp2
  go_ret
  refine ⟨?_, rfl⟩
  simp
end Go.Proofs.Ytlliijodilnlgaa
