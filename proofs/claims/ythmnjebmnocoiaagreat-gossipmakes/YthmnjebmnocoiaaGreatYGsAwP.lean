/- The law's awake (5). -/
import Derived.Test.YthmnjebmnocoiaaGreatYGsGuard
import Derived.Test.YthmnjebmnocoiaaGreatYGsLit
namespace Go.Proofs.YthmnjebmnocoiaaGreat
open Go.RowKit
attribute [local go_sem ↓] rule28

def Tl (x w : World) (cs : List Value) (r : Rg) : Prop := (∃ u, cs = ringC u r ∧ RingAt w.heap.size w u r) ∧ Gr x w
def BoxAt (w : World) (g : Nat) (cs : List Value) (r : Rg) : Prop := Holds w g cs 28 ∧ ∃ u, cs = ringC u r ∧ RingAt g w u r
theorem Tl.len {x w : World} {cs : List Value} {r : Rg} (h : Tl x w cs r) : cs.length = 17 := by
  obtain ⟨⟨u, rfl, R⟩, _⟩ := h; exact ringC_len R
theorem Tl.one {x w : World} {cs : List Value} {r : Rg} (h : Tl x w cs r) : ∀ u ∈ cs, u.oneCell' = true := by
  obtain ⟨⟨u, rfl, R⟩, _⟩ := h; exact ringC_one R
theorem BoxAt.gr {w w' : World} {g : Nat} {cs : List Value} {r : Rg} (h : BoxAt w g cs r) (hb : Gr w w') : BoxAt w' g cs r := by
  obtain ⟨H, u, e, R⟩ := h
  have := H.lt
  exact ⟨H.below hb H.lt, u, e, R.below (Below.mono hb (by omega))⟩
theorem box_made {W x y z : World} {g : Nat} {cs zs : List Value} {r : Rg} (T : Tl W x cs r) (hg : x.heap.size = g) (h : Anew g x y zs 28) (k : Turned g y z cs 28) : BoxAt z g cs r ∧ Gr W z := by
  obtain ⟨⟨u, rfl, R⟩, b⟩ := T
  subst hg
  have b1 : Below x.heap.size x z := h.below.trans (k.below (Nat.le_refl _))
  exact ⟨⟨k.holds, u, rfl, R.below b1⟩, Gr.trans b b1⟩
theorem hbox {W z : World} {g : Nat} {cs : List Value} {r : Rg} (h : BoxAt z g cs r ∧ Gr W z) : Hid (BoxAt z g cs r) ∧ Hid (Gr W z) := h
theorem fit_a : RFit aR := ⟨by decide, by decide⟩
theorem fit_b : RFit bR := ⟨by decide, by decide⟩
theorem fit_p : RFit pR := ⟨by decide, by decide⟩
theorem fit_c : RFit cR := ⟨by decide, by decide⟩
theorem k_new (W : World) : Calls Tryz.prog 18 #[.int .i64 1] W fun e z => ∃ ds : List Value, e = .returned (.agg ds.toArray) ∧ Hid (Tl W z ds aR) :=
  by
  have := new_any 1 W
  rw [lit_a] at this
  exact this.mono fun _ _ ⟨u, e1, e2, e3⟩ => ⟨_, e1, ⟨u, rfl, e2⟩, e3⟩
theorem k_join (W : World) (g : Nat) (cs : List Value) (h : BoxAt W g cs aR) : Calls Tryz.prog 12 #[.agg cs.toArray, .int .i64 2] W fun e z => ∃ ds : List Value, e = .returned (.agg ds.toArray) ∧ Hid (Tl W z ds bR) := by
  obtain ⟨H, u, rfl, R⟩ := h
  have := join_any u aR fit_a 2 (by unfold I64; decide) W (R.mono (Nat.le_of_lt H.lt))
  rw [lit_b] at this
  exact this.mono fun _ _ ⟨u, e1, e2, _, e3⟩ => ⟨_, e1, ⟨u, rfl, e2⟩, e3⟩
theorem k_plan (r r' : Rg) (hF : RFit r) (n : Int) (hr : planL r n = r') (W : World) (g : Nat) (cs : List Value) (h : BoxAt W g cs r) : Calls Tryz.prog 16 #[.agg cs.toArray, .int .i64 n] W fun e z => ∃ ds : List Value, e = .returned (.agg ds.toArray) ∧ Hid (Tl W z ds r') := by
  obtain ⟨H, u, rfl, R⟩ := h
  have := plan_any u r hF n W (R.mono (Nat.le_of_lt H.lt))
  rw [hr] at this
  exact this.mono fun _ _ ⟨u, e1, e2, e3⟩ => ⟨_, e1, ⟨u, rfl, e2⟩, e3⟩
theorem k_leave (W : World) (g : Nat) (cs : List Value) (h : BoxAt W g cs pR) : Calls Tryz.prog 14 #[.agg cs.toArray, .int .i64 1] W fun e z => ∃ ds : List Value, e = .returned (.agg ds.toArray) ∧ Hid (Tl W z ds cR) := by
  obtain ⟨H, u, rfl, R⟩ := h
  have := leave_any u pR fit_p 1 (by unfold I64; decide) W (R.mono (Nat.le_of_lt H.lt))
  rw [lit_c] at this
  exact this.mono fun _ _ ⟨u, e1, e2, _, e3⟩ => ⟨_, e1, ⟨u, rfl, e2⟩, e3⟩
theorem guard49 (u v : Array Value) (x y : Operand) (w : World) : (eqGuard .eql 43 x y (.agg u) (.agg v)).run Tryz.prog w = .ok () w := run_eqGuard_agg w .eql 43 x y u v (by kernel_rfl)
def owp : List Int := [1, 1, 1, 1, 2, 2, 2, 2]
def owq : List Int := [2, 2, 2, 2, 2, 2, 2, 2]
theorem eql_owp (w : World) : (binOp .eql 43 (.agg (intV owp).toArray) (.agg (intV owp).toArray)).run Tryz.prog w = .ok (.bool true) w := by kernel_rfl
theorem eql_owq (w : World) : (binOp .eql 43 (.agg (intV owq).toArray) (.agg (intV owq).toArray)).run Tryz.prog w = .ok (.bool true) w := by kernel_rfl

end Go.Proofs.YthmnjebmnocoiaaGreat
