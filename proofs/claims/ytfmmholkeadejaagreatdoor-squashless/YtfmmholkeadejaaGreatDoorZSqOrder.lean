/- inOrder over four steps: up to the first error. -/
import Derived.Test.YtfmmholkeadejaaGreatDoorZSqSteps
namespace Go.Proofs.YtfmmholkeadejaaGreatDoor
open Go.RowKit

def sq4E (E0 E1 E2 E3 : Int) : Int := if E0 ≠ 0 then E0 else if E1 ≠ 0 then E1 else if E2 ≠ 0 then E2 else E3
def sq4I (I1 I2 I3 I4 : World → Prop) (E0 E1 E2 : Int) (w : World) : Prop := if E0 ≠ 0 then I1 w else if E1 ≠ 0 then I2 w else if E2 ≠ 0 then I3 w else I4 w
def Sq4 (I1 I2 I3 I4 : World → Prop) (E0 E1 E2 E3 e : Int) (w' : World) : Prop := (E0 ≠ 0 ∧ e = E0 ∧ I1 w') ∨ (E0 = 0 ∧ E1 ≠ 0 ∧ e = E1 ∧ I2 w') ∨ (E0 = 0 ∧ E1 = 0 ∧ E2 ≠ 0 ∧ e = E2 ∧ I3 w') ∨ (E0 = 0 ∧ E1 = 0 ∧ E2 = 0 ∧ e = E3 ∧ I4 w')
theorem sq4_of {I1 I2 I3 I4 : World → Prop} {E0 E1 E2 E3 e : Int} {w' : World} (h : Sq4 I1 I2 I3 I4 E0 E1 E2 E3 e w') : Ending.returned (.int .i64 e) = .returned (.int .i64 (sq4E E0 E1 E2 E3)) ∧ sq4I I1 I2 I3 I4 E0 E1 E2 w' := by
  unfold sq4E sq4I
  rcases h with ⟨a, e1, b⟩ | ⟨a, b, e1, c⟩ | ⟨a, b, c, e1, d⟩ | ⟨a, b, c, e1, d⟩
  · rw [e1]; exact ⟨by simp [a], by simp [a]; exact b⟩
  · rw [e1]; exact ⟨by simp [a, b], by simp [a, b]; exact c⟩
  · rw [e1]; exact ⟨by simp [a, b, c], by simp [a, b, c]; exact d⟩
  · rw [e1]; exact ⟨by simp [a, b, c], by simp [a, b, c]; exact d⟩
set_option maxHeartbeats 1600000 in
set_option maxRecDepth 100000 in
theorem inOrder_renew (I0 I1 I2 I3 I4 : World → Prop) (E0 E1 E2 E3 : Int) (g q bd bc bp bn : Nat) (w : World)
    (hc : ∀ W, (I0 W ∨ I1 W ∨ I2 W ∨ I3 W) → W.cell? ⟨g, 0, none⟩ = some (.func (.func 169) #[] #[.pointer (some ⟨bd, 0, none⟩), .pointer (some ⟨bc, 0, none⟩)]) ∧ W.cell? ⟨g, 1, none⟩ = some (.func (.func 171) #[] #[.pointer (some ⟨bd, 0, none⟩), .pointer (some ⟨bc, 0, none⟩), .pointer (some ⟨bp, 0, none⟩)]) ∧ W.cell? ⟨g, 2, none⟩ = some (.func (.func 172) #[] #[.pointer (some ⟨bd, 0, none⟩), .pointer (some ⟨bc, 0, none⟩)]) ∧ W.cell? ⟨g, 3, none⟩ = some (.func (.func 174) #[] #[.pointer (some ⟨bd, 0, none⟩), .pointer (some ⟨bc, 0, none⟩), .pointer (some ⟨bn, 0, none⟩)]))
    (h0 : ∀ W, I0 W → Calls Tryz.prog 169 #[.pointer (some ⟨bd, 0, none⟩), .pointer (some ⟨bc, 0, none⟩)] W fun e w' => e = .returned (.int .i64 E0) ∧ I1 w')
    (h1 : ∀ W, I1 W → Calls Tryz.prog 171 #[.pointer (some ⟨bd, 0, none⟩), .pointer (some ⟨bc, 0, none⟩), .pointer (some ⟨bp, 0, none⟩)] W fun e w' => e = .returned (.int .i64 E1) ∧ I2 w')
    (h2 : ∀ W, I2 W → Calls Tryz.prog 172 #[.pointer (some ⟨bd, 0, none⟩), .pointer (some ⟨bc, 0, none⟩)] W fun e w' => e = .returned (.int .i64 E2) ∧ I3 w')
    (h3 : ∀ W, I3 W → Calls Tryz.prog 174 #[.pointer (some ⟨bd, 0, none⟩), .pointer (some ⟨bc, 0, none⟩), .pointer (some ⟨bn, 0, none⟩)] W fun e w' => e = .returned (.int .i64 E3) ∧ I4 w')
    (hw : I0 w) : Calls Tryz.prog 85 #[.slice (some ⟨g, 0, none⟩) 4 q] w fun e w' => e = .returned (.int .i64 (sq4E E0 E1 E2 E3)) ∧ sq4I I1 I2 I3 I4 E0 E1 E2 w' := by
  have hc : Hid (∀ W, (I0 W ∨ I1 W ∨ I2 W ∨ I3 W) → W.cell? ⟨g, 0, none⟩ = some (.func (.func 169) #[] #[.pointer (some ⟨bd, 0, none⟩), .pointer (some ⟨bc, 0, none⟩)]) ∧ W.cell? ⟨g, 1, none⟩ = some (.func (.func 171) #[] #[.pointer (some ⟨bd, 0, none⟩), .pointer (some ⟨bc, 0, none⟩), .pointer (some ⟨bp, 0, none⟩)]) ∧ W.cell? ⟨g, 2, none⟩ = some (.func (.func 172) #[] #[.pointer (some ⟨bd, 0, none⟩), .pointer (some ⟨bc, 0, none⟩)]) ∧ W.cell? ⟨g, 3, none⟩ = some (.func (.func 174) #[] #[.pointer (some ⟨bd, 0, none⟩), .pointer (some ⟨bc, 0, none⟩), .pointer (some ⟨bn, 0, none⟩)])) := hc
  have h0 : Hid (∀ W, Hid (I0 W) → Calls Tryz.prog 169 #[.pointer (some ⟨bd, 0, none⟩), .pointer (some ⟨bc, 0, none⟩)] W fun e w' => e = .returned (.int .i64 E0) ∧ Hid (I1 w')) := h0
  have h1 : Hid (∀ W, Hid (I1 W) → Calls Tryz.prog 171 #[.pointer (some ⟨bd, 0, none⟩), .pointer (some ⟨bc, 0, none⟩), .pointer (some ⟨bp, 0, none⟩)] W fun e w' => e = .returned (.int .i64 E1) ∧ Hid (I2 w')) := h1
  have h2 : Hid (∀ W, Hid (I2 W) → Calls Tryz.prog 172 #[.pointer (some ⟨bd, 0, none⟩), .pointer (some ⟨bc, 0, none⟩)] W fun e w' => e = .returned (.int .i64 E2) ∧ Hid (I3 w')) := h2
  have h3 : Hid (∀ W, Hid (I3 W) → Calls Tryz.prog 174 #[.pointer (some ⟨bd, 0, none⟩), .pointer (some ⟨bc, 0, none⟩), .pointer (some ⟨bn, 0, none⟩)] W fun e w' => e = .returned (.int .i64 E3) ∧ Hid (I4 w')) := h3
  have hw : Hid (I0 w) := hw
  have hQ : Hid (∀ e w', Sq4 I1 I2 I3 I4 E0 E1 E2 E3 e w' → (Ending.returned (.int .i64 e) = .returned (.int .i64 (sq4E E0 E1 E2 E3)) ∧ sq4I I1 I2 I3 I4 E0 E1 E2 w')) := fun e w' h => sq4_of h
  generalize sq4E E0 E1 E2 E3 = EE at *
  generalize sq4I I1 I2 I3 I4 E0 E1 E2 = II at *
  go_enter Tryz.func85, Tryz.ntmps85
  go_wp2_with fail
  go_loopw [8] (fun p wr => (p = .int .i64 0 ∧ Hid (I0 wr)) ∨ (p = .int .i64 1 ∧ Hid (E0 = 0) ∧ Hid (I1 wr)) ∨ (p = .int .i64 2 ∧ Hid (E0 = 0 ∧ E1 = 0) ∧ Hid (I2 wr)) ∨ (p = .int .i64 3 ∧ Hid (E0 = 0 ∧ E1 = 0 ∧ E2 = 0) ∧ Hid (I3 wr)) ∨ (p = .int .i64 4 ∧ Hid (E0 = 0 ∧ E1 = 0 ∧ E2 = 0 ∧ E3 = 0) ∧ Hid (I4 wr))) (fun p _ => 4 - (intOf p).toNat)
  case atStart => exact .inl ⟨rfl, hw⟩
  case round =>
    clear hw
    rcases hrel with ⟨rfl, hI⟩ | ⟨rfl, hz, hI⟩ | ⟨rfl, hz, hI⟩ | ⟨rfl, hz, hI⟩ | ⟨rfl, hz, hI⟩
    · obtain ⟨c0, c1, c2, c3⟩ := hc.out wr (.inl hI.out)
      by_cases he : E0 = 0
      · subst he
        go_wp2_with (go_at_call 169; refine (h0.out _ hI).mono ?_; rintro e w2 ⟨rfl, hJ⟩)
        exact ⟨.inr (.inl ⟨rfl, True.intro, hJ⟩), by simp⟩
      · have hb : (E0 == 0) = false := beq_eq_false_iff_ne.2 he
        have he : Hid (E0 ≠ 0) := he
        go_wp2_with (go_at_call 169; refine (h0.out _ hI).mono ?_; rintro e w2 ⟨rfl, hJ⟩)
        go_ret
        exact hQ.out _ _ (.inl ⟨he.out, rfl, hJ.out⟩)
    · obtain ⟨c0, c1, c2, c3⟩ := hc.out wr (.inr (.inl hI.out))
      by_cases he : E1 = 0
      · subst he
        go_wp2_with (go_at_call 171; refine (h1.out _ hI).mono ?_; rintro e w2 ⟨rfl, hJ⟩)
        exact ⟨.inr (.inr (.inl ⟨rfl, ⟨hz.out, True.intro⟩, hJ⟩)), by simp⟩
      · have hb : (E1 == 0) = false := beq_eq_false_iff_ne.2 he
        have he : Hid (E1 ≠ 0) := he
        go_wp2_with (go_at_call 171; refine (h1.out _ hI).mono ?_; rintro e w2 ⟨rfl, hJ⟩)
        go_ret
        exact hQ.out _ _ (.inr (.inl ⟨hz.out, he.out, rfl, hJ.out⟩))
    · obtain ⟨c0, c1, c2, c3⟩ := hc.out wr (.inr (.inr (.inl hI.out)))
      by_cases he : E2 = 0
      · subst he
        go_wp2_with (go_at_call 172; refine (h2.out _ hI).mono ?_; rintro e w2 ⟨rfl, hJ⟩)
        exact ⟨.inr (.inr (.inr (.inl ⟨rfl, ⟨hz.out.1, hz.out.2, True.intro⟩, hJ⟩))), by simp⟩
      · have hb : (E2 == 0) = false := beq_eq_false_iff_ne.2 he
        have he : Hid (E2 ≠ 0) := he
        go_wp2_with (go_at_call 172; refine (h2.out _ hI).mono ?_; rintro e w2 ⟨rfl, hJ⟩)
        go_ret
        exact hQ.out _ _ (.inr (.inr (.inl ⟨hz.out.1, hz.out.2, he.out, rfl, hJ.out⟩)))
    · obtain ⟨c0, c1, c2, c3⟩ := hc.out wr (.inr (.inr (.inr hI.out)))
      by_cases he : E3 = 0
      · subst he
        go_wp2_with (go_at_call 174; refine (h3.out _ hI).mono ?_; rintro e w2 ⟨rfl, hJ⟩)
        exact ⟨.inr (.inr (.inr (.inr ⟨rfl, ⟨hz.out.1, hz.out.2.1, hz.out.2.2, True.intro⟩, hJ⟩))), by simp⟩
      · have hb : (E3 == 0) = false := beq_eq_false_iff_ne.2 he
        have he : Hid (E3 ≠ 0) := he
        go_wp2_with (go_at_call 174; refine (h3.out _ hI).mono ?_; rintro e w2 ⟨rfl, hJ⟩)
        go_ret
        exact hQ.out _ _ (.inr (.inr (.inr ⟨hz.out.1, hz.out.2.1, hz.out.2.2, rfl, hJ.out⟩)))
    · go_wp2
      go_ret
      exact hQ.out _ _ (.inr (.inr (.inr ⟨hz.out.1, hz.out.2.1, hz.out.2.2.1, hz.out.2.2.2.symm, hI.out⟩)))
set_option maxHeartbeats 1600000 in
set_option maxRecDepth 100000 in
theorem inOrder_steps (I0 I1 I2 I3 I4 : World → Prop) (E0 E1 E2 E3 : Int) (g q c bc bo bn : Nat) (w : World)
    (hc : ∀ W, (I0 W ∨ I1 W ∨ I2 W ∨ I3 W) → W.cell? ⟨g, 0, none⟩ = some (.func (.func 20) #[.pointer (some ⟨c, 0, none⟩)] #[]) ∧ W.cell? ⟨g, 1, none⟩ = some (.func (.func 129) #[] #[.pointer (some ⟨bc, 0, none⟩), .pointer (some ⟨bo, 0, none⟩), .pointer (some ⟨bn, 0, none⟩)]) ∧ W.cell? ⟨g, 2, none⟩ = some (.func (.func 132) #[] #[.pointer (some ⟨bc, 0, none⟩), .pointer (some ⟨bo, 0, none⟩)]) ∧ W.cell? ⟨g, 3, none⟩ = some (.func (.func 21) #[.pointer (some ⟨c, 0, none⟩)] #[]))
    (h0 : ∀ W, I0 W → Calls Tryz.prog 20 #[.pointer (some ⟨c, 0, none⟩)] W fun e w' => e = .returned (.int .i64 E0) ∧ I1 w')
    (h1 : ∀ W, I1 W → Calls Tryz.prog 129 #[.pointer (some ⟨bc, 0, none⟩), .pointer (some ⟨bo, 0, none⟩), .pointer (some ⟨bn, 0, none⟩)] W fun e w' => e = .returned (.int .i64 E1) ∧ I2 w')
    (h2 : ∀ W, I2 W → Calls Tryz.prog 132 #[.pointer (some ⟨bc, 0, none⟩), .pointer (some ⟨bo, 0, none⟩)] W fun e w' => e = .returned (.int .i64 E2) ∧ I3 w')
    (h3 : ∀ W, I3 W → Calls Tryz.prog 21 #[.pointer (some ⟨c, 0, none⟩)] W fun e w' => e = .returned (.int .i64 E3) ∧ I4 w')
    (hw : I0 w) : Calls Tryz.prog 85 #[.slice (some ⟨g, 0, none⟩) 4 q] w fun e w' => e = .returned (.int .i64 (sq4E E0 E1 E2 E3)) ∧ sq4I I1 I2 I3 I4 E0 E1 E2 w' := by
  have hc : Hid (∀ W, (I0 W ∨ I1 W ∨ I2 W ∨ I3 W) → W.cell? ⟨g, 0, none⟩ = some (.func (.func 20) #[.pointer (some ⟨c, 0, none⟩)] #[]) ∧ W.cell? ⟨g, 1, none⟩ = some (.func (.func 129) #[] #[.pointer (some ⟨bc, 0, none⟩), .pointer (some ⟨bo, 0, none⟩), .pointer (some ⟨bn, 0, none⟩)]) ∧ W.cell? ⟨g, 2, none⟩ = some (.func (.func 132) #[] #[.pointer (some ⟨bc, 0, none⟩), .pointer (some ⟨bo, 0, none⟩)]) ∧ W.cell? ⟨g, 3, none⟩ = some (.func (.func 21) #[.pointer (some ⟨c, 0, none⟩)] #[])) := hc
  have h0 : Hid (∀ W, Hid (I0 W) → Calls Tryz.prog 20 #[.pointer (some ⟨c, 0, none⟩)] W fun e w' => e = .returned (.int .i64 E0) ∧ Hid (I1 w')) := h0
  have h1 : Hid (∀ W, Hid (I1 W) → Calls Tryz.prog 129 #[.pointer (some ⟨bc, 0, none⟩), .pointer (some ⟨bo, 0, none⟩), .pointer (some ⟨bn, 0, none⟩)] W fun e w' => e = .returned (.int .i64 E1) ∧ Hid (I2 w')) := h1
  have h2 : Hid (∀ W, Hid (I2 W) → Calls Tryz.prog 132 #[.pointer (some ⟨bc, 0, none⟩), .pointer (some ⟨bo, 0, none⟩)] W fun e w' => e = .returned (.int .i64 E2) ∧ Hid (I3 w')) := h2
  have h3 : Hid (∀ W, Hid (I3 W) → Calls Tryz.prog 21 #[.pointer (some ⟨c, 0, none⟩)] W fun e w' => e = .returned (.int .i64 E3) ∧ Hid (I4 w')) := h3
  have hw : Hid (I0 w) := hw
  have hQ : Hid (∀ e w', Sq4 I1 I2 I3 I4 E0 E1 E2 E3 e w' → (Ending.returned (.int .i64 e) = .returned (.int .i64 (sq4E E0 E1 E2 E3)) ∧ sq4I I1 I2 I3 I4 E0 E1 E2 w')) := fun e w' h => sq4_of h
  generalize sq4E E0 E1 E2 E3 = EE at *
  generalize sq4I I1 I2 I3 I4 E0 E1 E2 = II at *
  go_enter Tryz.func85, Tryz.ntmps85
  go_wp2_with fail
  go_loopw [8] (fun p wr => (p = .int .i64 0 ∧ Hid (I0 wr)) ∨ (p = .int .i64 1 ∧ Hid (E0 = 0) ∧ Hid (I1 wr)) ∨ (p = .int .i64 2 ∧ Hid (E0 = 0 ∧ E1 = 0) ∧ Hid (I2 wr)) ∨ (p = .int .i64 3 ∧ Hid (E0 = 0 ∧ E1 = 0 ∧ E2 = 0) ∧ Hid (I3 wr)) ∨ (p = .int .i64 4 ∧ Hid (E0 = 0 ∧ E1 = 0 ∧ E2 = 0 ∧ E3 = 0) ∧ Hid (I4 wr))) (fun p _ => 4 - (intOf p).toNat)
  case atStart => exact .inl ⟨rfl, hw⟩
  case round =>
    clear hw
    rcases hrel with ⟨rfl, hI⟩ | ⟨rfl, hz, hI⟩ | ⟨rfl, hz, hI⟩ | ⟨rfl, hz, hI⟩ | ⟨rfl, hz, hI⟩
    · obtain ⟨c0, c1, c2, c3⟩ := hc.out wr (.inl hI.out)
      by_cases he : E0 = 0
      · subst he
        go_wp2_with (go_at_call 20; refine (h0.out _ hI).mono ?_; rintro e w2 ⟨rfl, hJ⟩)
        exact ⟨.inr (.inl ⟨rfl, True.intro, hJ⟩), by simp⟩
      · have hb : (E0 == 0) = false := beq_eq_false_iff_ne.2 he
        have he : Hid (E0 ≠ 0) := he
        go_wp2_with (go_at_call 20; refine (h0.out _ hI).mono ?_; rintro e w2 ⟨rfl, hJ⟩)
        go_ret
        exact hQ.out _ _ (.inl ⟨he.out, rfl, hJ.out⟩)
    · obtain ⟨c0, c1, c2, c3⟩ := hc.out wr (.inr (.inl hI.out))
      by_cases he : E1 = 0
      · subst he
        go_wp2_with (go_at_call 129; refine (h1.out _ hI).mono ?_; rintro e w2 ⟨rfl, hJ⟩)
        exact ⟨.inr (.inr (.inl ⟨rfl, ⟨hz.out, True.intro⟩, hJ⟩)), by simp⟩
      · have hb : (E1 == 0) = false := beq_eq_false_iff_ne.2 he
        have he : Hid (E1 ≠ 0) := he
        go_wp2_with (go_at_call 129; refine (h1.out _ hI).mono ?_; rintro e w2 ⟨rfl, hJ⟩)
        go_ret
        exact hQ.out _ _ (.inr (.inl ⟨hz.out, he.out, rfl, hJ.out⟩))
    · obtain ⟨c0, c1, c2, c3⟩ := hc.out wr (.inr (.inr (.inl hI.out)))
      by_cases he : E2 = 0
      · subst he
        go_wp2_with (go_at_call 132; refine (h2.out _ hI).mono ?_; rintro e w2 ⟨rfl, hJ⟩)
        exact ⟨.inr (.inr (.inr (.inl ⟨rfl, ⟨hz.out.1, hz.out.2, True.intro⟩, hJ⟩))), by simp⟩
      · have hb : (E2 == 0) = false := beq_eq_false_iff_ne.2 he
        have he : Hid (E2 ≠ 0) := he
        go_wp2_with (go_at_call 132; refine (h2.out _ hI).mono ?_; rintro e w2 ⟨rfl, hJ⟩)
        go_ret
        exact hQ.out _ _ (.inr (.inr (.inl ⟨hz.out.1, hz.out.2, he.out, rfl, hJ.out⟩)))
    · obtain ⟨c0, c1, c2, c3⟩ := hc.out wr (.inr (.inr (.inr hI.out)))
      by_cases he : E3 = 0
      · subst he
        go_wp2_with (go_at_call 21; refine (h3.out _ hI).mono ?_; rintro e w2 ⟨rfl, hJ⟩)
        exact ⟨.inr (.inr (.inr (.inr ⟨rfl, ⟨hz.out.1, hz.out.2.1, hz.out.2.2, True.intro⟩, hJ⟩))), by simp⟩
      · have hb : (E3 == 0) = false := beq_eq_false_iff_ne.2 he
        have he : Hid (E3 ≠ 0) := he
        go_wp2_with (go_at_call 21; refine (h3.out _ hI).mono ?_; rintro e w2 ⟨rfl, hJ⟩)
        go_ret
        exact hQ.out _ _ (.inr (.inr (.inr ⟨hz.out.1, hz.out.2.1, hz.out.2.2, rfl, hJ.out⟩)))
    · go_wp2
      go_ret
      exact hQ.out _ _ (.inr (.inr (.inr ⟨hz.out.1, hz.out.2.1, hz.out.2.2.1, hz.out.2.2.2.symm, hI.out⟩)))
end Go.Proofs.YtfmmholkeadejaaGreatDoor
