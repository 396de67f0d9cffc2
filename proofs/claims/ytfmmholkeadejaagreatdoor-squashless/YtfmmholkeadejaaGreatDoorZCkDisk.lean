/- What a cask calls of its disk: a segment is synced, and appended to. -/
import Derived.Test.YtfmmholkeadejaaGreatDoorZC0
import Derived.Test.YtfmmholkeadejaaGreatDoorZLits
namespace Go.Proofs.YtfmmholkeadejaaGreatDoor
open Go.RowKit

theorem Tab.dupd {N : Lo} {w w' : World} (h : Tab N w) (hu : DUpd N w w') (hN : N ≤ w.heap.size) : Tab N w' := h.on (hu.below hN)
/-- An Append of one text: its error, and the disk behind it. -/
def layE (S : Dk) (r : ByteArray) : Int := if S.on = true then (if fitB S [r] = true then stepE S else 22) else 23
def layT (S : Dk) (k r : ByteArray) : Dk := if S.on = true then (if fitB S [r] = true then stepS (layS S k.data.toList [r]) else S) else S
theorem append_any (N : Lo) (d : Nat) (S : Dk) (s r : ByteArray) (hok : nameOk s = true) (hr : r.size ≤ 140737488355328) (a : Option Addr) (c : Nat) (w : World) (h : DiskAt w N d S) (ha : StrsAt w N a [r]) (hlen : S.fs.length < 256) (hG : ∀ i, N.G i → i < w.heap.size) :
    Calls Tryz.prog 35 #[.pointer (some ⟨d, 0, none⟩), .string s, .slice a 1 c] w fun e w' => e = .returned (.int .i64 (layE S r)) ∧ DiskAt w' N d (layT S s r) ∧ DUpd N w w' := by
  by_cases hon : S.on = true
  · rw [layE, layT, if_pos hon, if_pos hon]
    cases hF : fitB S [r] with
    | true =>
      rw [if_pos rfl, if_pos rfl]
      exact append_ok N d S s hon hok [r] (by simpa using hr) (by simp) a c w h ha hF hlen hG
    | false =>
      rw [if_neg (by decide), if_neg (by decide)]
      exact (append_full N d S s hon hok [r] (by simpa using hr) (by simp) a c w h ha hF hlen).mono fun _ _ ⟨e1, e2⟩ => ⟨e1, h.below e2, DUpd.ofBelow e2⟩
  · rw [layE, layT, if_neg hon, if_neg hon]
    have hz := nameOk_le hok
    have hE : namedE S [s] = 23 := by rw [namedE, if_neg hon]
    have := append_bad N d S s (by omega) a 1 c w h (by rw [hE]; decide)
    rw [hE] at this
    exact this.mono fun _ _ ⟨e1, e2⟩ => ⟨e1, h.below e2, DUpd.ofBelow e2⟩
/-- A segment is synced: its error, and the disk behind it. -/
def setS (S : Dk) (k : ByteArray) : Dk := eachS (fun S' => syncS S' k.data.toList) S k
set_option maxHeartbeats 1600000 in
set_option maxRecDepth 100000 in
theorem settles_any (N : Lo) (d : Nat) (S : Dk) (nm : ByteArray) (hnm : capOk nm = true) (n : Nat) (h1 : 1 ≤ n) (h2 : n ≤ 999999) (w : World) (h : DiskAt w N d S) (hN : N ≤ w.heap.size) (hT : Tab N w) :
    Calls Tryz.prog 263 #[.agg #[.pointer (some ⟨d, 0, none⟩), .string nm], .int .i64 (n : Int)] w fun e w' => e = .returned (.int .i64 (eachE S (fileB nm n))) ∧ DiskAt w' N d (setS S (fileB nm n)) ∧ DUpd N w w' := by
  obtain ⟨m, hm⟩ : ∃ m, w.heap.size = m := ⟨_, rfl⟩
  have hb0 : Below m w (w.alloc (.cells #[.pointer (some ⟨d, 0, none⟩), .string nm] 106)) := (Below.refl _ _).alloc (by omega) _
  have hz0 : (w.alloc (.cells #[.pointer (some ⟨d, 0, none⟩), .string nm] 106)).heap.size = m + 1 := by simp [hm]
  have hbx : Hid (Holds (w.alloc (.cells #[.pointer (some ⟨d, 0, none⟩), .string nm] 106)) m [.pointer (some ⟨d, 0, none⟩), .string nm] 106) := hm ▸ holds_new w [.pointer (some ⟨d, 0, none⟩), .string nm] 106
  have hfi : Hid (Calls Tryz.prog 36 #[.string nm, .int .i64 (n : Int)] (w.alloc (.cells #[.pointer (some ⟨d, 0, none⟩), .string nm] 106)).drew fun e w' => e = .returned (.string (fileB nm n)) ∧ Below (m + 1) (w.alloc (.cells #[.pointer (some ⟨d, 0, none⟩), .string nm] 106)) w') := by
    have := file_ok N nm hnm n h1 h2 (w.alloc (.cells #[.pointer (some ⟨d, 0, none⟩), .string nm] 106)).drew (by simp; omega) (hT.on ((hb0.mono (by omega)).drew))
    refine this.mono fun _ _ ⟨e1, e2⟩ => ⟨e1, ?_⟩
    have hz1 : (w.alloc (.cells #[.pointer (some ⟨d, 0, none⟩), .string nm] 106)).drew.heap.size = m + 1 := hz0
    rw [hz1] at e2
    exact (Below.refl _ (w.alloc (.cells #[.pointer (some ⟨d, 0, none⟩), .string nm] 106))).drew.trans e2
  have hsy : Hid (∀ W, Below (m + 1) (w.alloc (.cells #[.pointer (some ⟨d, 0, none⟩), .string nm] 106)) W → Calls Tryz.prog 173 #[.pointer (some ⟨d, 0, none⟩), .slice (some ⟨W.heap.size, 0, none⟩) 1 1] (W.alloc (.cells #[.string (fileB nm n)] 9)) fun e w' => e = .returned (.int .i64 (eachE S (fileB nm n))) ∧ DiskAt w' N d (setS S (fileB nm n)) ∧ DUpd N w w') := fun W hW => by
    have hd : DiskAt W N d S := (h.alloc _).below (by rw [hz0]; exact hW)
    have hu : DUpd N w W := ((DUpd.refl N w).alloc _).trans (DUpd.ofBelow (by rw [hz0]; exact hW))
    have := fileB_size hnm n
    exact (sync1 N d S (fileB nm n) (by omega) W hd).mono fun _ _ ⟨e1, e2, e3⟩ => ⟨e1, e2, hu.trans e3⟩
  have c0 : (w.alloc (.cells #[.pointer (some ⟨d, 0, none⟩), .string nm] 106)).cell? ⟨m, 0, none⟩ = some (.pointer (some ⟨d, 0, none⟩)) := hbx.out.at 0 _ rfl
  have c1 : (w.alloc (.cells #[.pointer (some ⟨d, 0, none⟩), .string nm] 106)).cell? ⟨m, 1, none⟩ = some (.string nm) := hbx.out.at 1 _ rfl
  generalize eachE S (fileB nm n) = E at *
  generalize setS S (fileB nm n) = S2 at *
  generalize fileB nm n = F at *
  clear h hT hN hnm
  go_enter Tryz.func263, Tryz.ntmps263
  go_wp2_with fail
  go_region_with (first
    | (go_at_call 173; refine (hsy.out _ b1).mono ?_; rintro e w2 ⟨rfl, d2, u2⟩)
    | (go_at_call 36; refine hfi.out.mono ?_; rintro e w1 ⟨rfl, b1⟩; have q := hbx.out.below b1 (by omega); have q0 := q.at 0 _ rfl; have q1 := q.at 1 _ rfl; have q2 := (q.alloc (.cells #[.string F] 9)).at 0 _ rfl))
  all_goals
    go_wp2
    go_ret
    exact ⟨rfl, d2, u2⟩
set_option maxHeartbeats 1600000 in
set_option maxRecDepth 100000 in
theorem lays_any (N : Lo) (d : Nat) (S : Dk) (nm : ByteArray) (hnm : capOk nm = true) (n : Nat) (h1 : 1 ≤ n) (h2 : n ≤ 999999) (r : ByteArray) (hr : r.size ≤ 140737488355328) (w : World) (h : DiskAt w N d S) (hN : N ≤ w.heap.size) (hT : Tab N w) (hlen : S.fs.length < 256) (hG : ∀ i, N.G i → i < w.heap.size) :
    Calls Tryz.prog 260 #[.agg #[.pointer (some ⟨d, 0, none⟩), .string nm], .int .i64 (n : Int), .string r] w fun e w' => e = .returned (.int .i64 (layE S r)) ∧ DiskAt w' N d (layT S (fileB nm n) r) ∧ DUpd N w w' := by
  obtain ⟨m, hm⟩ : ∃ m, w.heap.size = m := ⟨_, rfl⟩
  have hb0 : Below m w (w.alloc (.cells #[.pointer (some ⟨d, 0, none⟩), .string nm] 106)) := (Below.refl _ _).alloc (by omega) _
  have hz0 : (w.alloc (.cells #[.pointer (some ⟨d, 0, none⟩), .string nm] 106)).heap.size = m + 1 := by simp [hm]
  have hbx : Hid (Holds (w.alloc (.cells #[.pointer (some ⟨d, 0, none⟩), .string nm] 106)) m [.pointer (some ⟨d, 0, none⟩), .string nm] 106) := hm ▸ holds_new w [.pointer (some ⟨d, 0, none⟩), .string nm] 106
  have hfi : Hid (∀ W, Below (m + 1) (w.alloc (.cells #[.pointer (some ⟨d, 0, none⟩), .string nm] 106)) W → Calls Tryz.prog 36 #[.string nm, .int .i64 (n : Int)] W fun e w' => e = .returned (.string (fileB nm n)) ∧ Below W.heap.size W w' ∧ Below (m + 1) (w.alloc (.cells #[.pointer (some ⟨d, 0, none⟩), .string nm] 106)) w') := fun W hW => by
    have hs := hW.size
    rw [hz0] at hs
    exact (file_ok N nm hnm n h1 h2 W (by omega) (hT.on ((hb0.mono (by omega)).trans (hW.mono (by omega))))).mono fun _ _ ⟨e1, e2⟩ => ⟨e1, e2, hW.trans (e2.mono (by omega))⟩
  have hap : Hid (∀ W g, Below (m + 1) (w.alloc (.cells #[.pointer (some ⟨d, 0, none⟩), .string nm] 106)) W → Holds W g [.string r] 9 → Calls Tryz.prog 35 #[.pointer (some ⟨d, 0, none⟩), .string (fileB nm n), .slice (some ⟨g, 0, none⟩) 1 1] W fun e w' => e = .returned (.int .i64 (layE S r)) ∧ DiskAt w' N d (layT S (fileB nm n) r) ∧ DUpd N w w') := fun W g hW hg => by
    have hs := hW.size
    rw [hz0] at hs
    have hd : DiskAt W N d S := (h.alloc _).below (by rw [hz0]; exact hW)
    have hu : DUpd N w W := ((DUpd.refl N w).alloc _).trans (DUpd.ofBelow (by rw [hz0]; exact hW))
    exact (append_any N d S (fileB nm n) r (fileB_ok hnm n) hr _ 1 W hd (.inr ⟨g, 0, rfl, hg.lt, .inr (hg.foreign (by decide) (by decide) (by decide)), fun i x hx => by
      cases i with
      | zero => simp at hx; subst hx; exact hg.at 0 _ rfl
      | succ i => simp at hx⟩) hlen (fun i gi => by have := hG i gi; omega)).mono fun _ _ ⟨e1, e2, e3⟩ => ⟨e1, e2, hu.trans e3⟩
  have c0 : (w.alloc (.cells #[.pointer (some ⟨d, 0, none⟩), .string nm] 106)).cell? ⟨m, 0, none⟩ = some (.pointer (some ⟨d, 0, none⟩)) := hbx.out.at 0 _ rfl
  have c1 : (w.alloc (.cells #[.pointer (some ⟨d, 0, none⟩), .string nm] 106)).cell? ⟨m, 1, none⟩ = some (.string nm) := hbx.out.at 1 _ rfl
  generalize layE S r = E at *
  generalize layT S (fileB nm n) r = S2 at *
  generalize fileB nm n = F at *
  clear h hT hN hnm hG hlen
  go_enter Tryz.func260, Tryz.ntmps260
  go_wp2_with fail
  have B0 : Hid (Below (m + 1) (w.alloc (.cells #[.pointer (some ⟨d, 0, none⟩), .string nm] 106)) (w.alloc (.cells #[.pointer (some ⟨d, 0, none⟩), .string nm] 106)).drew) := (Below.refl _ _).drew
  have B1 : Hid (Below (m + 1) (w.alloc (.cells #[.pointer (some ⟨d, 0, none⟩), .string nm] 106)) ((w.alloc (.cells #[.pointer (some ⟨d, 0, none⟩), .string nm] 106)).drew.alloc (.cells #[.string r] 9))) := (Below.refl _ _).drew.alloc (Nat.le_of_eq hz0.symm) _
  have R1 : Hid (Holds ((w.alloc (.cells #[.pointer (some ⟨d, 0, none⟩), .string nm] 106)).drew.alloc (.cells #[.string r] 9)) (m + 1) [.string r] 9) := by
    have := holds_new (w.alloc (.cells #[.pointer (some ⟨d, 0, none⟩), .string nm] 106)).drew [.string r] 9
    have hz1 : (w.alloc (.cells #[.pointer (some ⟨d, 0, none⟩), .string nm] 106)).drew.heap.size = m + 1 := hz0
    rw [hz1] at this
    exact this
  have hbx1 := hbx.out.drew.alloc (.cells #[.string r] 9)
  have k0 := hbx1.at 0 _ rfl
  have k1 := hbx1.at 1 _ rfl
  go_region_with (first
    | (go_at_call 35; refine (hap.out _ _ b1 g1).mono ?_; rintro e w2 ⟨rfl, d2, u2⟩)
    | (go_at_call 35; refine (hap.out _ _ (b1.alloc (by have := b1.size; omega) _) (holds_new w1 [.string r] 9)).mono ?_; rintro e w2 ⟨rfl, d2, u2⟩)
    | (go_at_call 36; refine (hfi.out _ B1.out).mono ?_; rintro e w1 ⟨rfl, a1, b1⟩; have q := hbx.out.below b1 (by omega); have q0 := q.at 0 _ rfl; have q1 := q.at 1 _ rfl; have g1 := R1.out.below a1 R1.out.lt)
    | (go_at_call 36; refine (hfi.out _ B0.out).mono ?_; rintro e w1 ⟨rfl, a1, b1⟩; have q := hbx.out.below b1 (by omega); have q0 := q.at 0 _ rfl; have q1 := q.at 1 _ rfl; have q2 := (q.alloc (.cells #[.string r] 9)).at 0 _ rfl))
  all_goals
    go_wp2
    go_ret
    exact ⟨rfl, d2, u2⟩
end Go.Proofs.YtfmmholkeadejaaGreatDoor
