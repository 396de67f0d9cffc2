/- The statements' awake answers true. -/
import Derived.Test.YthaknjbcmflegaaLits
namespace Go.Proofs.Ythaknjbcmflegaa
open Go.RowKit Go.Maps Go.WideMaps

set_option maxHeartbeats 3200000 in
set_option maxRecDepth 100000 in
theorem awake_any (w : World) : Calls Try.prog 4 #[] w fun e w' => e = .returned (.bool true) ∧ Below w.heap.size w w' := by
  obtain ⟨N, hN⟩ : ∃ N, w.heap.size = N := ⟨_, rfl⟩
  have HN : Hid (w.heap.size = N) := hN
  rw [hN]
  have k1 : Hid (Calls Try.prog 5 #[.int .i64 10] w fun e w' => e = .returned (.pointer (some ⟨N, 0, none⟩)) ∧ DiskAt w' N N ak0 ∧ DUpd N w w') := by
    have := new_any N 10 w (by omega)
    rw [awk0, hN] at this
    exact this
  have k2 : Hid (∀ W, DiskAt W N N ak0 → Calls Try.prog 19 #[.pointer (some ⟨N, 0, none⟩), .string ⟨#[97]⟩, .slice (some ⟨W.heap.size, 0, none⟩) 2 2] (W.alloc (.cells #[.string ⟨#[104, 101]⟩, .string ⟨#[108, 108, 111]⟩] 9)) fun e w' => e = .returned (.int .i64 0) ∧ DiskAt w' N N ak1 ∧ DUpd N W w') := fun W hW => by
    have := app2 N N ak0 ⟨#[97]⟩ ⟨#[104, 101]⟩ ⟨#[108, 108, 111]⟩ rfl (by decide) (by decide) (by decide) (by decide) (by decide) W hW
    rw [show stepE ak0 = 0 from rfl] at this
    rw [← awk1]; exact this
  have k3 : Hid (∀ W, DiskAt W N N ak1 → Calls Try.prog 19 #[.pointer (some ⟨N, 0, none⟩), .string ⟨#[98]⟩, .slice (some ⟨W.heap.size, 0, none⟩) 1 1] (W.alloc (.cells #[.string ⟨#[49, 50, 51, 52, 53, 54]⟩] 9)) fun e w' => e = .returned (.int .i64 22) ∧ DiskAt w' N N ak1 ∧ DUpd N W w') := fun W hW =>
    appF N N ak1 ⟨#[98]⟩ ⟨#[49, 50, 51, 52, 53, 54]⟩ rfl (by decide) (by decide) (by decide) (by decide) W hW
  have k4 : Hid (∀ W, DiskAt W N N ak1 → Calls Try.prog 20 #[.pointer (some ⟨N, 0, none⟩), .slice (some ⟨W.heap.size, 0, none⟩) 1 1] (W.alloc (.cells #[.string ⟨#[97]⟩] 9)) fun e w' => e = .returned (.int .i64 0) ∧ DiskAt w' N N ak2 ∧ DUpd N W w') := fun W hW => by
    have := sync1 N N ak1 nmA (by decide) W hW
    rw [awk2.1, awk2.2] at this
    exact this
  have k5 : Hid (∀ W, DiskAt W N N ak2 → Calls Try.prog 19 #[.pointer (some ⟨N, 0, none⟩), .string ⟨#[97]⟩, .slice (some ⟨W.heap.size, 0, none⟩) 1 1] (W.alloc (.cells #[.string ⟨#[120, 121, 122]⟩] 9)) fun e w' => e = .returned (.int .i64 0) ∧ DiskAt w' N N ak3 ∧ DUpd N W w') := fun W hW => by
    have := app1 N N ak2 ⟨#[97]⟩ ⟨#[120, 121, 122]⟩ rfl (by decide) (by decide) (by decide) (by decide) W hW
    rw [show stepE ak2 = 0 from rfl] at this
    rw [← awk3]; exact this
  have k6 : Hid (∀ W, DiskAt W N N ak3 → Calls Try.prog 12 #[.pointer (some ⟨N, 0, none⟩), .slice (some ⟨W.heap.size, 0, none⟩) 1 1] (W.alloc (.cells #[.int .i64 2] 3)) fun e w' => e = .returned (.tuple #[]) ∧ DiskAt w' N N ak4 ∧ DUpd N W w') := fun W hW => by
    have := crashOne N N ak3 2 (by decide) W hW
    rw [awk4] at this
    exact this
  have k7 : Hid (∀ W, DiskAt W N N ak4 → Calls Try.prog 17 #[.pointer (some ⟨N, 0, none⟩), .string ⟨#[97]⟩] W fun e w' => e = .returned (.tuple #[.string ⟨#[104, 101, 108, 108, 111, 120, 121]⟩, .int .i64 0]) ∧ DiskAt w' N N ak4 ∧ DUpd N W w') := fun W hW => by
    have := read_some N N ak4 nmA (by decide) W hW
    rw [awk5.1, awk5.2] at this
    exact this.mono fun e w' ⟨h1, h2⟩ => ⟨h1, hW.below h2, DUpd.ofBelow h2⟩
  have k8 : Hid (∀ W, DiskAt W N N ak4 → Calls Try.prog 21 #[.pointer (some ⟨N, 0, none⟩), .string ⟨#[97]⟩, .string ⟨#[98]⟩] W fun e w' => e = .returned (.int .i64 0) ∧ DiskAt w' N N ak5 ∧ DUpd N W w') := fun W hW => by
    have := rename_some N N ak4 nmA nmB (by decide) (by decide) W hW
    rw [awk6.1, awk6.2] at this
    exact this
  have k9 : Hid (∀ W, DiskAt W N N ak5 → Calls Try.prog 14 #[.pointer (some ⟨N, 0, none⟩), .string ⟨#[]⟩] W fun e w' => ∃ a c, e = .returned (.slice a 1 c) ∧ DiskAt w' N N ak5 ∧ DUpd N W w') := fun W hW => by
    have := list_some N N ak5 rfl ⟨#[]⟩ W hW
    rw [awk7] at this
    exact this.mono fun e w' ⟨a, c, h1, _, h2⟩ => ⟨a, c, h1, hW.below h2, DUpd.ofBelow h2⟩
  have k10 : Hid (∀ W, DiskAt W N N ak5 → Calls Try.prog 22 #[.pointer (some ⟨N, 0, none⟩), .slice (some ⟨W.heap.size, 0, none⟩) 1 1] (W.alloc (.cells #[.string ⟨#[98]⟩] 9)) fun e w' => e = .returned (.int .i64 0) ∧ DiskAt w' N N ak6 ∧ DUpd N W w') := fun W hW => by
    have := remove1 N N ak5 nmB (by decide) W hW
    rw [awk8.1, awk8.2] at this
    exact this
  have k11 : Hid (∀ W, DiskAt W N N ak6 → Calls Try.prog 9 #[.pointer (some ⟨N, 0, none⟩)] W fun e w' => e = .returned (.int .i64 0) ∧ DiskAt w' N N ak6 ∧ DUpd N W w') := fun W hW =>
    (used_some N N ak6 W hW).mono fun e w' ⟨h1, h2⟩ => ⟨h1, hW.below h2, DUpd.ofBelow h2⟩
  have k12 : Hid (∀ W, DiskAt W N N ak6 → Calls Try.prog 8 #[.pointer (some ⟨N, 0, none⟩)] W fun e w' => e = .returned (.bool true) ∧ w' = W) := fun W hW => on_some N N ak6 W hW
  clear hN
  go_enter Try.func4, Try.ntmps4
  go_wp2_with (first
    | (go_at_call 5; refine k1.out.mono ?_; rintro e w1 ⟨rfl, d1, up1⟩)
    | (go_at_call 19; refine (k5.out _ d4).mono ?_; rintro e w5 ⟨rfl, d5, up5⟩)
    | (go_at_call 19; refine (k3.out _ d2).mono ?_; rintro e w3 ⟨rfl, d3, up3⟩)
    | (go_at_call 19; refine (k2.out _ d1).mono ?_; rintro e w2 ⟨rfl, d2, up2⟩)
    | (go_at_call 20; refine (k4.out _ d3).mono ?_; rintro e w4 ⟨rfl, d4, up4⟩)
    | (go_at_call 12; refine (k6.out _ d5).mono ?_; rintro e w6 ⟨rfl, d6, up6⟩)
    | (go_at_call 17; refine (k7.out _ d6).mono ?_; rintro e w7 ⟨rfl, d7, up7⟩)
    | (go_at_call 21; refine (k8.out _ d7).mono ?_; rintro e w8 ⟨rfl, d8, up8⟩)
    | (go_at_call 14; refine (k9.out _ d8).mono ?_; rintro e w9 ⟨a9, c9, rfl, d9, up9⟩)
    | (go_at_call 22; refine (k10.out _ d9).mono ?_; rintro e w10 ⟨rfl, d10, up10⟩)
    | (go_at_call 9; refine (k11.out _ d10).mono ?_; rintro e w11 ⟨rfl, d11, up11⟩)
    | (go_at_call 8; refine (k12.out _ d11).mono ?_; rintro e w12 ⟨rfl, rfl⟩))
  go_ret
  exact ⟨rfl, ((((((((((up1.trans up2).trans up3).trans up4).trans up5).trans up6).trans up7).trans up8).trans up9).trans up10).trans up11).below (by have := HN.out; omega)⟩
end Go.Proofs.Ythaknjbcmflegaa
