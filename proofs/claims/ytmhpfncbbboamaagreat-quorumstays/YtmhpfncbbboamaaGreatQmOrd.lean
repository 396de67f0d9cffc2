/- The orders of a store's parts (52, 64, 69) are made; inOrder (65, 68) of nothing. -/
import Derived.Test.YtmhpfncbbboamaaGreatQmNone
namespace Go.Proofs.YtmhpfncbbboamaaGreat
open Go.RowKit

theorem mk74 (k : Nat) (w : World) : Calls Tryz.prog 74 #[.func (.func k) #[] #[]] w fun e w' => ∃ q, e = .returned (.func (.func 108) #[] #[q]) ∧ Gr w w' := by
  go_enter Tryz.func74, Tryz.ntmps74
  go_wp2
  go_ret
  exact ⟨_, rfl, al1⟩
theorem mk93 (k : Nat) (w : World) : Calls Tryz.prog 93 #[.func (.func k) #[] #[]] w fun e w' => ∃ q, e = .returned (.func (.func 115) #[] #[q]) ∧ Gr w w' := by
  go_enter Tryz.func93, Tryz.ntmps93
  go_wp2
  go_ret
  exact ⟨_, rfl, al1⟩
theorem mk95 (k : Nat) (w : World) : Calls Tryz.prog 95 #[.func (.func k) #[] #[]] w fun e w' => ∃ q, e = .returned (.func (.func 117) #[] #[q]) ∧ Gr w w' := by
  go_enter Tryz.func95, Tryz.ntmps95
  go_wp2
  go_ret
  exact ⟨_, rfl, al1⟩
theorem mk103 (k : Nat) (w : World) : Calls Tryz.prog 103 #[.func (.func k) #[] #[]] w fun e w' => ∃ q, e = .returned (.func (.func 122) #[] #[q]) ∧ Gr w w' := by
  go_enter Tryz.func103, Tryz.ntmps103
  go_wp2
  go_ret
  exact ⟨_, rfl, al1⟩
theorem mk105 (k : Nat) (w : World) : Calls Tryz.prog 105 #[.func (.func k) #[] #[]] w fun e w' => ∃ q, e = .returned (.func (.func 124) #[] #[q]) ∧ Gr w w' := by
  go_enter Tryz.func105, Tryz.ntmps105
  go_wp2
  go_ret
  exact ⟨_, rfl, al1⟩
theorem mk73 (a : Option Addr) (n m : Nat) (w : World) : Calls Tryz.prog 73 #[.slice a n m] w fun e w' => ∃ q, e = .returned (.func (.func 107) #[] #[q]) ∧ Gr w w' := by
  go_enter Tryz.func73, Tryz.ntmps73
  go_wp2
  go_ret
  exact ⟨_, rfl, al1⟩
theorem mk102 (a : Option Addr) (n m : Nat) (w : World) : Calls Tryz.prog 102 #[.slice a n m] w fun e w' => ∃ q, e = .returned (.func (.func 121) #[] #[q]) ∧ Gr w w' := by
  go_enter Tryz.func102, Tryz.ntmps102
  go_wp2
  go_ret
  exact ⟨_, rfl, al1⟩
theorem byDot_any (w : World) : Calls Tryz.prog 52 #[] w fun e w' => ∃ q, e = .returned (.func (.func 107) #[] #[q]) ∧ Gr w w' := by
  have hg : Hid (Gr w w) := Gr.refl w
  have h74 : Hid (∀ k W, Gr w W → Calls Tryz.prog 74 #[.func (.func k) #[] #[]] W fun e w' => ∃ q, e = .returned (.func (.func 108) #[] #[q]) ∧ Hid (Gr w w')) := fun k W g => (mk74 k W).mono fun _ _ ⟨q, e1, e2⟩ => ⟨q, e1, g.trans e2⟩
  have h73 : Hid (∀ a n m W, Gr w W → Calls Tryz.prog 73 #[.slice a n m] W fun e w' => ∃ q, e = .returned (.func (.func 107) #[] #[q]) ∧ Hid (Gr w w')) := fun a n m W g => (mk73 a n m W).mono fun _ _ ⟨q, e1, e2⟩ => ⟨q, e1, g.trans e2⟩
  go_enter Tryz.func52, Tryz.ntmps52
  go_wp2_with (first | (go_at_call 73; refine (h73.out _ _ _ _ (hg.out.trans al1)).mono ?_; rintro e w9 ⟨q9, rfl, hg⟩) | (go_at_call 74; refine (h74.out _ _ hg.out).mono ?_; rintro e w1 ⟨q1, rfl, hg⟩))
  go_ret
  exact ⟨q9, rfl, hg.out⟩
theorem bySize_any (w : World) : Calls Tryz.prog 64 #[] w fun e w' => ∃ q, e = .returned (.func (.func 107) #[] #[q]) ∧ Gr w w' := by
  have hg : Hid (Gr w w) := Gr.refl w
  have h74 : Hid (∀ k W, Gr w W → Calls Tryz.prog 74 #[.func (.func k) #[] #[]] W fun e w' => ∃ q, e = .returned (.func (.func 108) #[] #[q]) ∧ Hid (Gr w w')) := fun k W g => (mk74 k W).mono fun _ _ ⟨q, e1, e2⟩ => ⟨q, e1, g.trans e2⟩
  have h93 : Hid (∀ k W, Gr w W → Calls Tryz.prog 93 #[.func (.func k) #[] #[]] W fun e w' => ∃ q, e = .returned (.func (.func 115) #[] #[q]) ∧ Hid (Gr w w')) := fun k W g => (mk93 k W).mono fun _ _ ⟨q, e1, e2⟩ => ⟨q, e1, g.trans e2⟩
  have h95 : Hid (∀ k W, Gr w W → Calls Tryz.prog 95 #[.func (.func k) #[] #[]] W fun e w' => ∃ q, e = .returned (.func (.func 117) #[] #[q]) ∧ Hid (Gr w w')) := fun k W g => (mk95 k W).mono fun _ _ ⟨q, e1, e2⟩ => ⟨q, e1, g.trans e2⟩
  have h73 : Hid (∀ a n m W, Gr w W → Calls Tryz.prog 73 #[.slice a n m] W fun e w' => ∃ q, e = .returned (.func (.func 107) #[] #[q]) ∧ Hid (Gr w w')) := fun a n m W g => (mk73 a n m W).mono fun _ _ ⟨q, e1, e2⟩ => ⟨q, e1, g.trans e2⟩
  go_enter Tryz.func64, Tryz.ntmps64
  go_wp2_with (first | (go_at_call 73; refine (h73.out _ _ _ _ (hg.out.trans al1)).mono ?_; rintro e w9 ⟨q9, rfl, hg⟩) | (go_at_call 74; refine (h74.out _ _ hg.out).mono ?_; rintro e w1 ⟨q1, rfl, hg⟩) | (go_at_call 93; refine (h93.out _ _ hg.out).mono ?_; rintro e w1 ⟨q1, rfl, hg⟩) | (go_at_call 95; refine (h95.out _ _ hg.out).mono ?_; rintro e w1 ⟨q1, rfl, hg⟩))
  go_ret
  exact ⟨q9, rfl, hg.out⟩
theorem byName_any (w : World) : Calls Tryz.prog 69 #[] w fun e w' => ∃ q, e = .returned (.func (.func 121) #[] #[q]) ∧ Gr w w' := by
  have hg : Hid (Gr w w) := Gr.refl w
  have h103 : Hid (∀ k W, Gr w W → Calls Tryz.prog 103 #[.func (.func k) #[] #[]] W fun e w' => ∃ q, e = .returned (.func (.func 122) #[] #[q]) ∧ Hid (Gr w w')) := fun k W g => (mk103 k W).mono fun _ _ ⟨q, e1, e2⟩ => ⟨q, e1, g.trans e2⟩
  have h105 : Hid (∀ k W, Gr w W → Calls Tryz.prog 105 #[.func (.func k) #[] #[]] W fun e w' => ∃ q, e = .returned (.func (.func 124) #[] #[q]) ∧ Hid (Gr w w')) := fun k W g => (mk105 k W).mono fun _ _ ⟨q, e1, e2⟩ => ⟨q, e1, g.trans e2⟩
  have h102 : Hid (∀ a n m W, Gr w W → Calls Tryz.prog 102 #[.slice a n m] W fun e w' => ∃ q, e = .returned (.func (.func 121) #[] #[q]) ∧ Hid (Gr w w')) := fun a n m W g => (mk102 a n m W).mono fun _ _ ⟨q, e1, e2⟩ => ⟨q, e1, g.trans e2⟩
  go_enter Tryz.func69, Tryz.ntmps69
  go_wp2_with (first | (go_at_call 102; refine (h102.out _ _ _ _ (hg.out.trans al1)).mono ?_; rintro e w9 ⟨q9, rfl, hg⟩) | (go_at_call 103; refine (h103.out _ _ hg.out).mono ?_; rintro e w1 ⟨q1, rfl, hg⟩) | (go_at_call 105; refine (h105.out _ _ hg.out).mono ?_; rintro e w1 ⟨q1, rfl, hg⟩))
  go_ret
  exact ⟨q9, rfl, hg.out⟩
set_option maxRecDepth 100000 in
theorem inOrder65_none (f g : Value) (w : World) : Calls Tryz.prog 65 #[.slice none 0 0, f, g] w fun e w' => e = .returned (.tuple #[]) ∧ w' = w := by
  have hc : Hid (∀ W, Calls Tryz.prog 98 #[.slice none 0 0] W fun e w' => e = .returned (.slice none 0 0) ∧ w' = W) := clone98_none
  have hs : Hid (∀ W, Calls Tryz.prog 99 #[.slice none 0 0, f] W fun e w' => e = .returned (.tuple #[]) ∧ w' = W) := fun W => sort99_none f W
  go_enter Tryz.func65, Tryz.ntmps65
  go_wp2_with (first | (go_at_call 98; refine (hc.out _).mono ?_; rintro e w1 ⟨rfl, rfl⟩) | (go_at_call 99; refine (hs.out _).mono ?_; rintro e w1 ⟨rfl, rfl⟩))
  refine wp_loop_once ?_
  go_wp2
  refine bodyPost_end (results_none (by kernel_rfl) _ _ _) rfl ?_
  exact ⟨rfl, rfl⟩
set_option maxRecDepth 100000 in
theorem inOrder68_none (f g : Value) (w : World) : Calls Tryz.prog 68 #[.slice none 0 0, f, g] w fun e w' => e = .returned (.tuple #[]) ∧ w' = w := by
  have hc : Hid (∀ W, Calls Tryz.prog 100 #[.slice none 0 0] W fun e w' => e = .returned (.slice none 0 0) ∧ w' = W) := clone100_none
  have hs : Hid (∀ W, Calls Tryz.prog 101 #[.slice none 0 0, f] W fun e w' => e = .returned (.tuple #[]) ∧ w' = W) := fun W => sort101_none f W
  go_enter Tryz.func68, Tryz.ntmps68
  go_wp2_with (first | (go_at_call 100; refine (hc.out _).mono ?_; rintro e w1 ⟨rfl, rfl⟩) | (go_at_call 101; refine (hs.out _).mono ?_; rintro e w1 ⟨rfl, rfl⟩))
  refine wp_loop_once ?_
  go_wp2
  refine bodyPost_end (results_none (by kernel_rfl) _ _ _) rfl ?_
  exact ⟨rfl, rfl⟩
end Go.Proofs.YtmhpfncbbboamaaGreat
