/- Next where the lease is used up. -/
import Derived.Test.YtfmmholkeadejaaGreatDoorZSqExt
namespace Go.Proofs.YtfmmholkeadejaaGreatDoor
open Go.RowKit

set_option maxHeartbeats 1600000 in
set_option maxRecDepth 100000 in
theorem next_more (N : Lo) (d c : Nat) (S : Dk) (nm : ByteArray) (hcn : nameOk (comB (cntB nm)) = true) (hsz : nm.size ≤ 20) (last t g : Nat) (Et : Int) (ht : t < 18446744073709551616) (hL : LsIs S (cntB nm) t Et) (hg : max last t = g) (hgl : g + 100 < 18446744073709551616) (hlen : S.fs.length < 256) (w : World) (h : DiskAt w N d S) (hG : ∀ i, N.G i → i < w.heap.size) (hc : Holds w c (ctV d nm last last false) 72) :
    Calls Tryz.prog 42 #[.pointer (some ⟨c, 0, none⟩)] w fun e w' => e = .returned (.tuple #[.int .u64 (if rnE S (cntB nm) [lsB (g + 100)] = 0 then ((g + 1 : Nat) : Int) else 0), .int .i64 (rnE S (cntB nm) [lsB (g + 100)])]) ∧ DiskAt w' N d (rnS S (cntB nm) [lsB (g + 100)]) ∧ Holds w' c (if rnE S (cntB nm) [lsB (g + 100)] = 0 then ctV d nm (g + 100) (g + 1) false else ctV d nm last last (rnE S (cntB nm) [lsB (g + 100)] != 22)) 72 ∧ CUpd N (fun i => i = c) w w' := by
  have h94 : Hid (Calls Tryz.prog 94 #[.pointer (some ⟨c, 0, none⟩)] w.drew fun e w' => e = .returned (.int .i64 (rnE S (cntB nm) [lsB (g + 100)])) ∧ DiskAt w' N d (rnS S (cntB nm) [lsB (g + 100)]) ∧ Holds w' c (if rnE S (cntB nm) [lsB (g + 100)] = 0 then ctV d nm (g + 100) g false else ctV d nm last last (rnE S (cntB nm) [lsB (g + 100)] != 22)) 72 ∧ CUpd N (fun i => i = c) w.drew w') := extend_any N d c S nm hcn hsz last last t g Et ht hL hg hgl hlen w.drew h.drew hG hc
  have c0 := hc.at 0 _ rfl
  have c1 := hc.at 1 _ rfl
  have c3 := hc.at 3 _ rfl
  have c4 := hc.at 4 _ rfl
  have d0 : w.drew.cell? ⟨c, 0, none⟩ = some (.int .u64 (last : Int)) := c0
  have d3 : w.drew.cell? ⟨c, 3, none⟩ = some (.int .u64 (last : Int)) := c3
  have hw : IntKind.u64.wrap ((g : Int) + 1) = (g : Int) + 1 := by simp [IntKind.wrap, IntKind.bits, IntKind.signed]; omega
  have hu : Hid (∀ w', CUpd N (fun i => i = c) w.drew w' → CUpd N (fun i => i = c) w w') := fun w' q => (CUpd.ofBelow (Below.refl _ w).drew).trans q
  clear h hL hg
  generalize lsB (g + 100) = lb at *
  generalize rnE S (cntB nm) [lb] = E at *
  generalize rnS S (cntB nm) [lb] = S2 at *
  by_cases hE : E = 0
  · subst hE
    simp only [if_true] at h94 ⊢
    go_enter Tryz.func42, Tryz.ntmps42
    go_wp2
    go_region
    all_goals
      go_wp2_with (go_at_call 94; refine h94.out.mono ?_; rintro e w4 ⟨rfl, d4, H4, u4⟩; have p3 := H4.at 3 _ rfl; have f3 := H4.frozen 3; have E6 : Hid (Holds (w4.setCell ⟨c, 3, none⟩ (.int .u64 ((g : Int) + 1))) c (ctV d nm (g + 100) (g + 1) false) 72) := H4.set 3 (.int .u64 ((g : Int) + 1)); have q3 := E6.out.at 3 _ rfl; have F6 : Hid (DiskAt (w4.setCell ⟨c, 3, none⟩ (.int .u64 ((g : Int) + 1))) N d S2) := d4.setC H4 (by decide) (by decide) (by decide) 3 _; have G6 : Hid (CUpd N (fun i => i = c) w (w4.setCell ⟨c, 3, none⟩ (.int .u64 ((g : Int) + 1)))) := (hu.out _ u4).set c 3 _ rfl; clear d4 H4 u4)
      go_ret2
      exact ⟨rfl, F6.out, E6.out, G6.out⟩
  · have hb : (E == 0) = false := beq_eq_false_iff_ne.2 hE
    simp only [hE, if_false] at h94 ⊢
    go_enter Tryz.func42, Tryz.ntmps42
    go_wp2
    go_region
    all_goals
      go_wp2_with (go_at_call 94; refine h94.out.mono ?_; rintro e w4 ⟨rfl, d4, H4, u4⟩; have E6 : Hid (Holds w4 c (ctV d nm last last (E != 22)) 72) := H4; have F6 : Hid (DiskAt w4 N d S2) := d4; have G6 : Hid (CUpd N (fun i => i = c) w w4) := hu.out _ u4; clear d4 H4 u4)
      go_ret2
      exact ⟨rfl, F6.out, E6.out, G6.out⟩
end Go.Proofs.YtfmmholkeadejaaGreatDoor
