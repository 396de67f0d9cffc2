/- A disk's fields: Limit, Arm, step, New. -/
import Derived.Test.YtfmmholkeadejaaGreatDoorZSmall
namespace Go.Proofs.YtfmmholkeadejaaGreatDoor
open Go.RowKit Go.Maps Go.WideMaps

def roomN (r : Int) : Nat := (min (max r 0) 16777216).toNat
theorem roomN_le (r : Int) : roomN r ≤ 16777216 := by unfold roomN; omega
theorem roomN_int (r : Int) : (roomN r : Int) = min (max r 0) 16777216 := by unfold roomN; omega
theorem limit_nil (r : Int) (w : World) : Calls Tryz.prog 38 #[.pointer none, .int .i64 r] w fun e w' => e = .returned (.tuple #[]) ∧ w' = w := by
  go_enter Tryz.func38, Tryz.ntmps38
  go_wp2
  exact bodyPost_ret (v := .tuple #[]) (by simp [results, Tryz.results38, go_sem]) rfl ⟨rfl, rfl⟩
theorem arm_nil (r : Int) (w : World) : Calls Tryz.prog 30 #[.pointer none, .int .i64 r] w fun e w' => e = .returned (.tuple #[]) ∧ w' = w := by
  go_enter Tryz.func30, Tryz.ntmps30
  go_wp2
  exact bodyPost_ret (v := .tuple #[]) (by simp [results, Tryz.results30, go_sem]) rfl ⟨rfl, rfl⟩
theorem crash_nil (a : Option Addr) (n c : Nat) (w : World) : Calls Tryz.prog 31 #[.pointer none, .slice a n c] w fun e w' => e = .returned (.tuple #[]) ∧ w' = w := by
  go_enter Tryz.func31, Tryz.ntmps31
  go_wp2
  exact bodyPost_ret (v := .tuple #[]) (by simp [results, Tryz.results31, go_sem]) rfl ⟨rfl, rfl⟩
theorem used_nil (w : World) : Calls Tryz.prog 50 #[.pointer none] w fun e w' => e = .returned (.int .i64 0) ∧ w' = w := by
  go_enter Tryz.func50, Tryz.ntmps50
  go_wp2
  go_ret
  exact ⟨rfl, rfl⟩
theorem limit_some (N : Lo) (d : Nat) (S : Dk) (r : Int) (w : World) (h : DiskAt w N d S) : Calls Tryz.prog 38 #[.pointer (some ⟨d, 0, none⟩), .int .i64 r] w fun e w' => e = .returned (.tuple #[]) ∧ DiskAt w' N d { S with room := roomN r } ∧ DUpd N w w' := by
  obtain ⟨mv, st, A, V, hH, hN, hM, hF, hS⟩ := h
  have c1 := hH.at 1 _ rfl
  have f1 := hH.frozen 1
  have K : Hid (∀ x : Int, (roomN r : Int) = x → DiskAt (w.setCell ⟨d, 1, none⟩ (.int .i64 x)) N d { S with room := roomN r } ∧ DUpd N w (w.setCell ⟨d, 1, none⟩ (.int .i64 x))) := fun x hx => by
    subst hx
    exact (disk_set (T := { S with room := roomN r }) (su := st) hH hN hM hF (hS.of rfl (roomN_le r) hS.ahead) rfl 1 (.int .i64 (roomN r : Int)) rfl).2
  clear hM hF hS
  go_enter Tryz.func38, Tryz.ntmps38
  go_wp2
  all_goals exact bodyPost_end (results_none (by kernel_rfl) _ _ _) rfl ⟨rfl, (K.out _ (by rw [roomN_int]; omega)).1, (K.out _ (by rw [roomN_int]; omega)).2⟩
theorem arm_some (N : Lo) (d : Nat) (S : Dk) (r : Int) (hr : -9223372036854775808 ≤ r ∧ r < 9223372036854775808) (w : World) (h : DiskAt w N d S) : Calls Tryz.prog 30 #[.pointer (some ⟨d, 0, none⟩), .int .i64 r] w fun e w' => e = .returned (.tuple #[]) ∧ DiskAt w' N d { S with armed := decide (0 ≤ r), ahead := r } ∧ DUpd N w w' := by
  obtain ⟨mv, st, A, V, hH, hN, hM, hF, hS⟩ := h
  have c4 := hH.at 4 _ rfl
  have c5 := hH.at 5 _ rfl
  have f4 := hH.frozen 4
  have f5 := hH.frozen 5
  obtain ⟨⟨p1, p2, p3⟩, _, q1⟩ := disk_set (T := { S with armed := decide (0 ≤ r) }) (su := st) hH hN hM hF (hS.of rfl hS.room hS.ahead) rfl 4 (.bool (decide (0 ≤ r))) rfl
  obtain ⟨_, k1, k2⟩ := disk_set (T := { S with armed := decide (0 ≤ r), ahead := r }) (su := st) p1 hN p2 p3 (hS.of rfl hS.room hr) rfl 5 (.int .i64 r) rfl
  have K1 : Hid (DiskAt ((w.setCell ⟨d, 4, none⟩ (.bool (decide (0 ≤ r)))).setCell ⟨d, 5, none⟩ (.int .i64 r)) N d { S with armed := decide (0 ≤ r), ahead := r }) := k1
  have K2 : Hid (DUpd N w ((w.setCell ⟨d, 4, none⟩ (.bool (decide (0 ≤ r)))).setCell ⟨d, 5, none⟩ (.int .i64 r))) := q1.trans k2
  clear k1 k2 q1 p1 p2 p3 hM hF hS
  go_enter Tryz.func30, Tryz.ntmps30
  go_wp2
  exact bodyPost_end (results_none (by kernel_rfl) _ _ _) rfl ⟨rfl, K1.out, K2.out⟩

/-- A step. -/
def stepE (S : Dk) : Int := if S.armed = true then (if 0 < S.ahead then 0 else 23) else 0
def tickS (S : Dk) : Dk := ⟨S.fs, S.room, S.on, S.armed, S.ahead, wrap64 (S.steps + 1)⟩
def stepS (S : Dk) : Dk := if S.armed = true then (if 0 < S.ahead then (⟨S.fs, S.room, S.on, S.armed, S.ahead - 1, wrap64 (S.steps + 1)⟩ : Dk) else (⟨S.fs, S.room, false, false, S.ahead, wrap64 (S.steps + 1)⟩ : Dk)) else tickS S
theorem stepS_fs (S : Dk) : (stepS S).fs = S.fs := by
  unfold stepS
  split
  · split <;> rfl
  · rfl
set_option maxHeartbeats 800000 in
theorem step_some (N : Lo) (d : Nat) (S : Dk) (w : World) (h : DiskAt w N d S) : Calls Tryz.prog 81 #[.pointer (some ⟨d, 0, none⟩)] w fun e w' => e = .returned (.int .i64 (stepE S)) ∧ DiskAt w' N d (stepS S) ∧ DUpd N w w' := by
  obtain ⟨mv, st, A, V, hH, hN, hM, hF, hS⟩ := h
  obtain rfl : st = S.steps := hS.tie
  have c2 := hH.at 2 _ rfl
  have c3 := hH.at 3 _ rfl
  have c4 := hH.at 4 _ rfl
  have c5 := hH.at 5 _ rfl
  have f2 := hH.frozen 2
  have f3 := hH.frozen 3
  have f4 := hH.frozen 4
  have f5 := hH.frozen 5
  obtain ⟨⟨p1, p2, p3⟩, d1, q1⟩ := disk_set (T := tickS S) (su := wrap64 (S.steps + 1)) hH hN hM hF ⟨⟨hS.rise, hS.len, hS.used, hS.room, hS.keys, hS.ahead⟩, rfl⟩ rfl 2 (.int .i64 (wrap64 (S.steps + 1))) rfl
  have D1 : Hid (DiskAt (w.setCell ⟨d, 2, none⟩ (.int .i64 (wrap64 (S.steps + 1)))) N d (tickS S)) := d1
  have Q1 : Hid (DUpd N w (w.setCell ⟨d, 2, none⟩ (.int .i64 (wrap64 (S.steps + 1))))) := q1
  have P1 : Hid (Holds (w.setCell ⟨d, 2, none⟩ (.int .i64 (wrap64 (S.steps + 1)))) d (diskV mv (wrap64 (S.steps + 1)) (tickS S)) 122) := p1
  have P2 : Hid (MapAt (w.setCell ⟨d, 2, none⟩ (.int .i64 (wrap64 (S.steps + 1)))) N mv A) := p2
  have P3 : Hid (FilesAt (w.setCell ⟨d, 2, none⟩ (.int .i64 (wrap64 (S.steps + 1)))) N (tickS S).fs A V) := p3
  have ha := hS.ahead
  have HS : Hid ((tickS S).FineAt (wrap64 (S.steps + 1))) := ⟨⟨hS.rise, hS.len, hS.used, hS.room, hS.keys, hS.ahead⟩, rfl⟩
  clear d1 q1 p1 p2 p3 hM hF hS
  cases har : S.armed with
  | false =>
    rw [stepE, stepS, if_neg (by rw [har]; decide), if_neg (by rw [har]; decide)]
    go_enter Tryz.func81, Tryz.ntmps81
    go_wp2
    go_ret
    exact ⟨rfl, D1.out, Q1.out⟩
  | true =>
    rw [stepE, stepS, if_pos har, if_pos har]
    by_cases hp : 0 < S.ahead
    · rw [if_pos hp, if_pos hp]
      obtain ⟨_, k1, k2⟩ := disk_set (T := (⟨S.fs, S.room, S.on, S.armed, S.ahead - 1, wrap64 (S.steps + 1)⟩ : Dk)) (su := wrap64 (S.steps + 1)) P1.out hN P2.out P3.out (HS.out.of rfl HS.out.room ⟨by show _ ≤ S.ahead - 1; omega, by show S.ahead - 1 < _; omega⟩) rfl 5 (.int .i64 (S.ahead - 1)) rfl
      have K1 : Hid (DiskAt ((w.setCell ⟨d, 2, none⟩ (.int .i64 (wrap64 (S.steps + 1)))).setCell ⟨d, 5, none⟩ (.int .i64 (S.ahead - 1))) N d (⟨S.fs, S.room, S.on, S.armed, S.ahead - 1, wrap64 (S.steps + 1)⟩ : Dk)) := k1
      have K2 : Hid (DUpd N w ((w.setCell ⟨d, 2, none⟩ (.int .i64 (wrap64 (S.steps + 1)))).setCell ⟨d, 5, none⟩ (.int .i64 (S.ahead - 1)))) := Q1.out.trans k2
      clear k1 k2
      rw [har] at K1
      have hw1 : wrap64 (S.ahead - 1) = S.ahead - 1 := by unfold wrap64; omega
      go_enter Tryz.func81, Tryz.ntmps81
      go_wp2
      go_ret
      exact ⟨rfl, K1.out, K2.out⟩
    · rw [if_neg hp, if_neg hp]
      obtain ⟨⟨p1, p2, p3⟩, _, q1⟩ := disk_set (T := (⟨S.fs, S.room, false, S.armed, S.ahead, wrap64 (S.steps + 1)⟩ : Dk)) (su := wrap64 (S.steps + 1)) P1.out hN P2.out P3.out (HS.out.of rfl HS.out.room HS.out.ahead) rfl 3 (.bool false) rfl
      obtain ⟨_, k1, k2⟩ := disk_set (T := (⟨S.fs, S.room, false, false, S.ahead, wrap64 (S.steps + 1)⟩ : Dk)) (su := wrap64 (S.steps + 1)) p1 hN p2 p3 (HS.out.of rfl HS.out.room HS.out.ahead) rfl 4 (.bool false) rfl
      have K1 : Hid (DiskAt (((w.setCell ⟨d, 2, none⟩ (.int .i64 (wrap64 (S.steps + 1)))).setCell ⟨d, 3, none⟩ (.bool false)).setCell ⟨d, 4, none⟩ (.bool false)) N d (⟨S.fs, S.room, false, false, S.ahead, wrap64 (S.steps + 1)⟩ : Dk)) := k1
      have K2 : Hid (DUpd N w (((w.setCell ⟨d, 2, none⟩ (.int .i64 (wrap64 (S.steps + 1)))).setCell ⟨d, 3, none⟩ (.bool false)).setCell ⟨d, 4, none⟩ (.bool false))) := (Q1.out.trans q1).trans k2
      clear k1 k2 q1 p1 p2 p3
      go_enter Tryz.func81, Tryz.ntmps81
      go_wp2
      go_ret
      exact ⟨rfl, K1.out, K2.out⟩

/-- A new disk. -/
def newS (r : Int) : Dk := ⟨[], roomN r, true, false, 0, 0⟩
theorem fine_empty (r : Nat) (hr : r ≤ 16777216) (on armed : Bool) : Dk.Fine ⟨[], r, on, armed, 0, 0⟩ :=
  ⟨List.Pairwise.nil, by simp, by simp [used], hr, by simp, (by decide : -9223372036854775808 ≤ (0 : Int) ∧ (0 : Int) < 9223372036854775808)⟩
theorem disk_new (w : World) (N : Lo) (hN : N ≤ w.heap.size) (on : Bool) : DiskAt (w.alloc (.cells #[.map none, .int .i64 0, .int .i64 0, .bool on, .bool false, .int .i64 0] 122)) N w.heap.size ⟨[], 0, on, false, 0, 0⟩ :=
  ⟨.map none, 0, fun _ => none, fun _ => .slice none 0 0, holds_new w [.map none, .int .i64 0, .int .i64 0, .bool on, .bool false, .int .i64 0] 122, hN, .inl ⟨rfl, fun _ => rfl⟩,
    ⟨fun k f h => by simp [get] at h, fun _ _ => rfl, fun _ _ _ h _ => (by cases h), fun _ _ _ h _ _ _ => (by cases h)⟩, ⟨fine_empty 0 (by omega) on false, rfl⟩⟩
theorem new_any (N : Lo) (r : Int) (w : World) (hN : N ≤ w.heap.size) : Calls Tryz.prog 29 #[.int .i64 r] w fun e w' => e = .returned (.pointer (some ⟨w.heap.size, 0, none⟩)) ∧ DiskAt w' N w.heap.size (newS r) ∧ DUpd N w w' := by
  have h0 : Hid (DiskAt (w.alloc (.cells #[.map none, .int .i64 0, .int .i64 0, .bool true, .bool false, .int .i64 0] 122)) N w.heap.size ⟨[], 0, true, false, 0, 0⟩) := disk_new w N hN true
  have hu : Hid (DUpd N w (w.alloc (.cells #[.map none, .int .i64 0, .int .i64 0, .bool true, .bool false, .int .i64 0] 122))) := (DUpd.refl N w).alloc _
  go_enter Tryz.func29, Tryz.ntmps29
  go_wp2_with (go_at_call 38; refine (limit_some N _ _ r _ h0.out).mono ?_; rintro e w2 ⟨rfl, h2, u2⟩)
  go_ret
  exact ⟨rfl, h2, hu.out.trans u2⟩
end Go.Proofs.YtfmmholkeadejaaGreatDoor
