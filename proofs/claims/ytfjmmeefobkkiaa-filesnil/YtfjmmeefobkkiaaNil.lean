/- The function of the statement FilesNil, called with whatever text and number, answers true. -/
import Derived.Test.YtfjmmeefobkkiaaAwake
namespace Go.Proofs.Ytfjmmeefobkkiaa
open Go.RowKit Go.Maps Go.WideMaps

def zk0 : Dk := ⟨[], 0, false, false, 0⟩
def zk1 : Dk := ⟨[], 0, true, false, 0⟩
theorem zwk0 : namedE zk0 [⟨#[97]⟩] = 23 := by rfl
theorem zwk1 : crashS zk0 [] = zk1 := by rfl
set_option maxHeartbeats 1600000 in
set_option maxRecDepth 100000 in
theorem filesNil_walk (s : ByteArray) (n : Int) (w : World) : Calls Try.prog 6 #[.string s, .int .i64 n] w fun e w' => e = .returned (.bool true) ∧ Below w.heap.size w w' := by
  obtain ⟨N, hN⟩ : ∃ N, w.heap.size = N := ⟨_, rfl⟩
  have HN : Hid (w.heap.size = N) := hN
  rw [hN]
  have d0 : Hid (DiskAt (w.alloc (.cells #[.map none, .int .i64 0, .int .i64 0, .bool false, .bool false, .int .i64 0] 42)) N N zk0) := by
    have := disk_new w N (by omega) false
    rw [hN] at this
    exact this
  have u0 : Hid (DUpd N w (w.alloc (.cells #[.map none, .int .i64 0, .int .i64 0, .bool false, .bool false, .int .i64 0] 42))) := (DUpd.refl N w).alloc _
  have kc : Hid (∀ a W, DiskAt W N N zk0 → Calls Try.prog 13 #[.pointer none, .slice a 1 1] (W.alloc (.cells #[.int .i64 n] 3)) fun e w' => e = .returned (.tuple #[]) ∧ DiskAt w' N N zk0 ∧ DUpd N W w') := fun a W hW =>
    (crash_nil a 1 1 _).mono fun e w' ⟨h1, h2⟩ => ⟨h1, by rw [h2]; exact hW.alloc _, by rw [h2]; exact (DUpd.refl N W).alloc _⟩
  have kr : Hid (∀ W, DiskAt W N N zk0 → Calls Try.prog 14 #[.pointer none, .string s] W fun e w' => e = .returned (.tuple #[.string ⟨#[]⟩, .int .i64 23]) ∧ DiskAt w' N N zk0 ∧ DUpd N W w') := fun W hW =>
    (read_nil s W).mono fun e w' ⟨h1, h2⟩ => ⟨h1, hW.below h2, DUpd.ofBelow h2⟩
  have k1 : Hid (∀ W, DiskAt W N N zk0 → Calls Try.prog 11 #[.pointer (some ⟨N, 0, none⟩), .string ⟨#[97]⟩, .slice (some ⟨W.heap.size, 0, none⟩) 1 1] (W.alloc (.cells #[.string ⟨#[]⟩] 9)) fun e w' => e = .returned (.int .i64 23) ∧ DiskAt w' N N zk0 ∧ DUpd N W w') := fun W hW => by
    have := appB N N zk0 ⟨#[97]⟩ ⟨#[]⟩ (by decide) (by rw [zwk0]; decide) W hW
    rw [zwk0] at this
    exact this
  have k2 : Hid (∀ W, DiskAt W N N zk0 → Calls Try.prog 13 #[.pointer (some ⟨N, 0, none⟩), .slice none 0 0] W fun e w' => e = .returned (.tuple #[]) ∧ DiskAt w' N N zk1 ∧ DUpd N W w') := fun W hW => by
    have := crashNone N N zk0 W hW
    rw [zwk1] at this
    exact this
  have k3 : Hid (∀ W, DiskAt W N N zk1 → Calls Try.prog 11 #[.pointer (some ⟨N, 0, none⟩), .string ⟨#[97]⟩, .slice (some ⟨W.heap.size, 0, none⟩) 1 1] (W.alloc (.cells #[.string ⟨#[]⟩] 9)) fun e w' => e = .returned (.int .i64 0) ∧ DUpd N W w') := fun W hW => by
    have := app1 N N zk1 ⟨#[97]⟩ ⟨#[]⟩ rfl (by decide) (by decide) (by decide) (by decide) W hW
    rw [show stepE zk1 = 0 from rfl] at this
    exact this.mono fun e w' ⟨h1, _, h3⟩ => ⟨h1, h3⟩
  clear HN
  go_enter Try.func6, Try.ntmps6
  go_wp2_with (first
    | (go_at_call 22; refine (limit_nil n _).mono ?_; rintro e w1 ⟨rfl, rfl⟩)
    | (go_at_call 15; refine (arm_nil n _).mono ?_; rintro e w2 ⟨rfl, rfl⟩)
    | (go_at_call 13; refine (k2.out _ d5).mono ?_; rintro e w6 ⟨rfl, d6, up6⟩)
    | (go_at_call 13; refine (kc.out _ _ d0.out).mono ?_; rintro e w3 ⟨rfl, d3, up3⟩)
    | (go_at_call 14; refine (kr.out _ d3).mono ?_; rintro e w4 ⟨rfl, d4, up4⟩)
    | (go_at_call 11; have q8 := b8; refine (append_nil _ _ _ _ _).mono ?_; rintro e w9 ⟨rfl, b9⟩; have up9 : DUpd N w8 w9 := DUpd.ofBelow b9)
    | (go_at_call 11; refine (k3.out _ d6).mono ?_; rintro e w7 ⟨rfl, up7⟩)
    | (go_at_call 11; refine (k1.out _ d4).mono ?_; rintro e w5 ⟨rfl, d5, up5⟩)
    | (go_at_call 9; refine (awake_any _).mono ?_; rintro e w8 ⟨rfl, b8⟩; have up8 : DUpd N w7 w8 := DUpd.ofBelow b8)
    | (go_at_call 12; refine (sync_nil _ _ _ _).mono ?_; rintro e w10 ⟨rfl, b10⟩)
    | (go_at_call 18; refine (rename_nil _ _ _).mono ?_; rintro e w11 ⟨rfl, b11⟩)
    | (go_at_call 17; refine (remove_nil _ _ _ _).mono ?_; rintro e w12 ⟨rfl, b12⟩)
    | (go_at_call 20; refine (used_nil _).mono ?_; rintro e w13 ⟨rfl, rfl⟩)
    | (go_at_call 23; refine (steps_nil _).mono ?_; rintro e w14 ⟨rfl, rfl⟩)
    | (go_at_call 16; refine (list_nil _ _).mono ?_; rintro e w15 ⟨rfl, b15⟩)
    | (go_at_call 19; refine (on_nil _).mono ?_; rintro e w16 ⟨rfl, rfl⟩))
  go_ret
  have a10 : DUpd N w9 w10 := ((DUpd.refl N w9).alloc _).trans (DUpd.ofBelow b10)
  have a11 : DUpd N w10 w11 := DUpd.ofBelow b11
  have a12 : DUpd N w11 w14 := ((DUpd.refl N w11).alloc _).trans (DUpd.ofBelow b12)
  have a15 : DUpd N w14 w16 := DUpd.ofBelow b15
  exact ⟨rfl, (((((((((((u0.out.trans up3).trans up4).trans up5).trans up6).trans up7).trans up8).trans up9).trans a10).trans a11).trans a12).trans a15).below (by omega)⟩
end Go.Proofs.Ytfjmmeefobkkiaa
