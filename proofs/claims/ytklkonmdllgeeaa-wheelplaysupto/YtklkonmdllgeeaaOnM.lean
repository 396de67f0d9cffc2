/- What WheelOnce holds in memory. -/
import Derived.Test.YtklkonmdllgeeaaOnP
import Derived.Test.YtklkonmdllgeeaaWhAwake
namespace Go.Proofs.Ytklkonmdllgeeaa
open Go.RowKit

def intsV (l : List Int) : List Value := l.map fun n => Value.int .i64 n
def boolsV (l : List Bool) : List Value := l.map fun n => Value.bool n
theorem intsV_set (l : List Int) (i : Nat) (x : Int) : (intsV l).set i (.int .i64 x) = intsV (l.set i x) := by simp [intsV, List.map_set]
theorem boolsV_set (l : List Bool) (i : Nat) (x : Bool) : (boolsV l).set i (.bool x) = boolsV (l.set i x) := by simp [boolsV, List.map_set]
theorem intsV_at {l : List Int} {i : Nat} (h : i < l.length) : (intsV l)[i]? = some (.int .i64 (l.getD i 0)) := by simp [intsV, h]
theorem boolsV_at {l : List Bool} {i : Nat} (h : i < l.length) : (boolsV l)[i]? = some (.bool (l.getD i false)) := by simp [boolsV, h]
/-- A list of integers that came in. -/
def Ints (B : Nat) (w : World) (v : Value) (l : List Int) : Prop :=
  ∃ a cap, v = .slice a l.length cap ∧ (l.length = 0 ∨ ∃ g o, a = some ⟨g, o, none⟩ ∧ g < B ∧ ∀ i x, l[i]? = some x → w.cell? ⟨g, o + i, none⟩ = some (.int .i64 x))
/-- A list of calls that came in: kinds and times. -/
def Asks (B : Nat) (w : World) (v : Value) (l : List (Int × Int)) : Prop :=
  ∃ a cap, v = .slice a l.length cap ∧ (l.length = 0 ∨ ∃ g o, a = some ⟨g, o, none⟩ ∧ g < B ∧ ∀ i x, l[i]? = some x → w.cell? ⟨g, o + i * 3, none⟩ = some (.int .i64 x.1) ∧ w.cell? ⟨g, o + i * 3 + 1, none⟩ = some (.int .i64 x.2))
theorem Ints.cell {B : Nat} {w : World} {a : Option Addr} {n c : Nat} {l : List Int} (h : Ints B w (.slice a n c) l) {i : Nat} {x : Int} (hi : l[i]? = some x) : ∃ g o, a = some ⟨g, o, none⟩ ∧ ∀ W, Below B w W → W.cell? ⟨g, o + i, none⟩ = some (.int .i64 x) := by
  obtain ⟨a', cap, e, h0 | ⟨g, o, e2, hg, hc⟩⟩ := h
  · have := (List.getElem?_eq_some_iff.1 hi).1; omega
  · obtain ⟨rfl, _, _⟩ := Value.slice.inj e
    exact ⟨g, o, e2, fun W hW => (World.cell?_of_block (w := w) (hW.block g hg)).trans (hc i x hi)⟩
theorem Asks.cell {B : Nat} {w : World} {a : Option Addr} {n c : Nat} {l : List (Int × Int)} (h : Asks B w (.slice a n c) l) {i : Nat} {x : Int × Int} (hi : l[i]? = some x) : ∃ g o, a = some ⟨g, o, none⟩ ∧ ∀ W, Below B w W → W.cell? ⟨g, o + i * 3, none⟩ = some (.int .i64 x.1) ∧ W.cell? ⟨g, o + i * 3 + 1, none⟩ = some (.int .i64 x.2) := by
  obtain ⟨a', cap, e, h0 | ⟨g, o, e2, hg, hc⟩⟩ := h
  · have := (List.getElem?_eq_some_iff.1 hi).1; omega
  · obtain ⟨rfl, _, _⟩ := Value.slice.inj e
    exact ⟨g, o, e2, fun W hW => ⟨(World.cell?_of_block (w := w) (hW.block g hg)).trans (hc i x hi).1, (World.cell?_of_block (w := w) (hW.block g hg)).trans (hc i x hi).2⟩⟩
/-- The law's own: its wheel at B, the names behind it, then the last times, then what is set. -/
structure On (B : Nat) (w : World) (l : Ts) (t : Nat) (las : List Int) (set : List Bool) (W : World) : Prop where
  win : Win B B w l t W
  nms : Holds W (B + 1) (namesV five) 9
  last : Holds W (B + 2) (intsV las) 3
  sets : Holds W (B + 3) (boolsV set) 4
theorem On.next {B : Nat} {w : World} {l m : Ts} {t u : Nat} {las : List Int} {set : List Bool} {W W' : World} (h : On B w l t las set W) (hw : WUpd B B W W') (h2 : Win B B w m u W') : On B w m u las set W' :=
  ⟨h2, h.nms.wupd hw (by omega), h.last.wupd hw (by omega), h.sets.wupd hw (by omega)⟩
theorem On.alloc {B : Nat} {w : World} {l : Ts} {t : Nat} {las : List Int} {set : List Bool} {W : World} (h : On B w l t las set W) (o : Obj) : On B w l t las set (W.alloc o) :=
  ⟨h.win.alloc o, h.nms.alloc o, h.last.alloc o, h.sets.alloc o⟩
theorem On.drew {B : Nat} {w : World} {l : Ts} {t : Nat} {las : List Int} {set : List Bool} {W : World} (h : On B w l t las set W) : On B w l t las set W.drew :=
  ⟨h.win.below ((Below.refl _ _).drew) h.win.low, h.nms.drew, h.last.drew, h.sets.drew⟩
theorem Win.setOther {N b : Nat} {w : World} {l : Ts} {t : Nat} {W : World} (h : Win N b w l t W) (g i : Nat) (v : Value) (hw : w.heap.size ≤ g) (hg : g ≠ b) (hNg : N < g) (cs : List Value) (ty : TypeId) (hH : Holds W g cs ty) : Win N b w l t (W.setCell ⟨g, i, none⟩ v) := by
  have hu := (Upd.refl g W).setCell i v
  have hl := hH.lt
  have hs := h.upd.size
  refine ⟨h.at_.set g i v hg cs ty hH, ⟨hu.os.trans h.upd.os, hu.tape.trans h.upd.tape, hu.output.trans h.upd.output, Nat.le_trans h.upd.size hu.size, fun k hk => (hu.block k (by omega) (by omega)).trans (h.upd.low k hk), fun k cs t fr hb hk => ?_⟩⟩
  have hkl := (Array.getElem?_eq_some_iff.1 hk).1
  exact (hu.block k (by omega) (by omega)).trans (h.upd.cells k cs t fr hb hk)
theorem On.setLast {B : Nat} {w : World} {l : Ts} {t : Nat} {las : List Int} {set : List Bool} {W : World} (h : On B w l t las set W) (hw : w.heap.size = B) (k : Nat) (x : Int) : On B w l t (las.set k x) set (W.setCell ⟨B + 2, k, none⟩ (.int .i64 x)) := by
  refine ⟨h.win.setOther (B + 2) k _ (by omega) (by omega) (by omega) _ _ h.last, h.nms.setOther _ _ _ (by omega), ?_, h.sets.setOther _ _ _ (by omega)⟩
  rw [← intsV_set]
  exact h.last.set k _
theorem On.setSet {B : Nat} {w : World} {l : Ts} {t : Nat} {las : List Int} {set : List Bool} {W : World} (h : On B w l t las set W) (hw : w.heap.size = B) (k : Nat) (x : Bool) : On B w l t las (set.set k x) (W.setCell ⟨B + 3, k, none⟩ (.bool x)) := by
  refine ⟨h.win.setOther (B + 3) k _ (by omega) (by omega) (by omega) _ _ h.sets, h.nms.setOther _ _ _ (by omega), h.last.setOther _ _ _ (by omega), ?_⟩
  rw [← boolsV_set]
  exact h.sets.set k _
theorem On.nm {B : Nat} {w : World} {l : Ts} {t : Nat} {las : List Int} {set : List Bool} {W : World} (h : On B w l t las set W) {m : Nat} (hm : m < 5) : W.cell? ⟨B + 1, m, none⟩ = some (.string (strL (nm m))) := by
  refine h.nms.at m _ ?_
  have : ∀ a : Fin 5, five[a.1]? = some (Go.Proofs.Ytklkonmdllgeeaa.nm a.1) := by decide
  rw [namesV, List.getElem?_map, this ⟨m, hm⟩]; rfl
theorem On.lastAt {B : Nat} {w : World} {l : Ts} {t : Nat} {las : List Int} {set : List Bool} {W : World} (h : On B w l t las set W) {m : Nat} (hm : m < las.length) : W.cell? ⟨B + 2, m, none⟩ = some (.int .i64 (las.getD m 0)) := h.last.at m _ (intsV_at hm)
theorem On.setAt {B : Nat} {w : World} {l : Ts} {t : Nat} {las : List Int} {set : List Bool} {W : World} (h : On B w l t las set W) {m : Nat} (hm : m < set.length) : W.cell? ⟨B + 3, m, none⟩ = some (.bool (set.getD m false)) := h.sets.at m _ (boolsV_at hm)
theorem On.low {B : Nat} {w : World} {l : Ts} {t : Nat} {las : List Int} {set : List Bool} {W : World} (h : On B w l t las set W) : Below B w W := h.win.upd.toBelow
/-- Set of one name, by whatever literal. -/
theorem on_set {B : Nat} {w : World} {l : Ts} {t : Nat} {las : List Int} {set : List Bool} {W : World} (h : On B w l t las set W) (a : Int) (k : Nat) (hk : k < 5) (ht : t < 1000) :
    Calls Try.prog 13 #[.pointer (some ⟨B, 0, none⟩), .int .i64 a, .slice (some ⟨W.heap.size, 0, none⟩) 1 1] (W.alloc (.cells #[.string (strL (nm k))] 9)) fun e w' => e = .returned (.tuple #[]) ∧ Hid (On B w (setT (nm k) a (t + 1) l) (t + 1) las set w') := by
  have hkl : (nm k).length ≤ maxLen := by
    have : ∀ a : Fin 5, (nm a.1).length ≤ 5 := by decide
    have := this ⟨k, hk⟩
    unfold maxLen; simp at this; omega
  have hA := h.alloc (.cells #[.string (strL (nm k))] 9)
  refine (set_any B B l t a _ [nm k] (fun j hj => by simp at hj; subst hj; exact hkl) (by simp; omega) _ hA.win.at_ (strs_new B W [nm k] h.win.at_.lt)).mono fun e w' ⟨e1, e2, e3⟩ => ⟨e1, hA.next e3 ⟨e2, hA.win.upd.trans e3⟩⟩
theorem on_due {B : Nat} {w : World} {l : Ts} {t : Nat} {las : List Int} {set : List Bool} (hsort : SortOk) {W : World} (h : On B w l t las set W) (now : Int) (ht : t < 1000) (n : Nat) (hn : (dueT now l).length = n) :
    Calls Try.prog 10 #[.pointer (some ⟨B, 0, none⟩), .int .i64 now] W fun e w' => ∃ a c, e = .returned (.slice a n c) ∧ Hid (On B w (leftT now l) t las set w' ∧ ∀ i k, ((dueT now l).map (·.1))[i]? = some k → ∃ g, a = some ⟨g, 0, none⟩ ∧ B + 4 ≤ g ∧ w'.cell? ⟨g, i, none⟩ = some (.string (strL k))) := by
  refine (win_due hsort h.win now (by omega) n hn).mono fun e w' ⟨a, c, e1, e2⟩ => ⟨a, c, e1, h.next e2.out.2.2.2 e2.out.2.1, fun i k hi => ?_⟩
  have hr := e2.out.2.2.1
  have hlt := (List.getElem?_eq_some_iff.1 hi).1
  rcases hr.2 with ⟨q, h0⟩ | ⟨g, cap, cur, q, hb, hg, _⟩
  · omega
  · obtain ⟨rfl, _, rfl⟩ := Value.slice.inj q
    obtain ⟨g', o', e', c0⟩ := e2.out.1.cell i k hi
    cases e'
    rw [Nat.zero_add] at c0
    have := h.sets.lt
    exact ⟨g, rfl, by omega, c0⟩
theorem on_len {B : Nat} {w : World} {l : Ts} {t : Nat} {las : List Int} {set : List Bool} {W : World} (h : On B w l t las set W) : Calls Try.prog 17 #[.pointer (some ⟨B, 0, none⟩)] W fun e w' => e = .returned (.int .i64 (l.length : Int)) ∧ w' = W := win_len h.win
end Go.Proofs.Ytklkonmdllgeeaa
